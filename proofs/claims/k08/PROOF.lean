import PyProof.Rows.All
import Wide.All
import OpenK.AllK
import Wide.FinOn
import PySem.Challenge.RW_runclaims_k08_what_values_and_tests_ask
import HandS.Base
import HandS.Call
import HandS.List
import HandS.Comp
import HandS.Iter
import HandS.Text
import HandS.Words
import HandS.TupAny
import HandS.IsInst
import HandS.Flow
import HandS.Deep
import HandS.Zip
import HandS.Walk
import HandS.Exc
import HandS.ExcOwn
import HandS.WordsExc
import KE.GoesEnum
import HandS.Defaults
import HandS.Dict
import HandS.Star
import HandS.Style
import HandS.ForExc
import KE.KExcIs
import HandS.RevRange
import HandS.Set
import HandS.SetTxt0
import HandS.TupSets
import HandS.Strs
import KE.SortData
import KE.OsSortAny
import KE.DataEq
set_option Elab.async false
set_option linter.all false
set_option maxRecDepth 100000
set_option maxHeartbeats 4000000
namespace DL
open PySem PySem.Spec PyProof.Rows L2

/-! ## plain data at values -/
mutual
inductive Dd (K : PySem.W.Frag) (G : Hp) : V → PyData → Prop
  | non : Dd K G .non .none
  | bl (b : Bool) : Dd K G (.bl b) (.bool b)
  | int (i : Int) : Dd K G (.int i) (.int i)
  | str (x : Str) : Dd K G (.str x) (.str x)
  | lst {a : Addr} {xs : List V} {ds : List PyData} : G a = some (.lst xs) → DdAll K G xs ds → Dd K G (.ref a) (.list ds)
  | tup {a : Addr} {xs : List V} {ds : List PyData} : SqT K G a xs → DdAll K G xs ds → Dd K G (.ref a) (.tuple ds)
inductive DdAll (K : PySem.W.Frag) (G : Hp) : List V → List PyData → Prop
  | nil : DdAll K G [] []
  | cons {v : V} {vs : List V} {d : PyData} {ds : List PyData} : Dd K G v d → DdAll K G vs ds → DdAll K G (v :: vs) (d :: ds)
end

section
variable {K : PySem.W.Frag} {G G' H H' : Hp}
theorem rd_same {a : Addr} {u : HO} (e : Same G G') (h : Rd G a u) : Rd G' a u := by
  rcases h with h | ⟨o, h⟩
  · exact Or.inl (e a _ h)
  · exact Or.inr ⟨o, e a _ h⟩
theorem sqL_same {a : Addr} {xs : List V} (e : Same G G') (h : SqL K G a xs) : SqL K G' a xs := by
  rcases h with h | h
  · exact Or.inl (rd_same e h)
  · exact Or.inr h
theorem sqT_same {a : Addr} {xs : List V} (e : Same G G') (h : SqT K G a xs) : SqT K G' a xs := by
  rcases h with h | h
  · exact Or.inl (rd_same e h)
  · exact Or.inr h
mutual
theorem Dd.mono (e : Same G G') : ∀ {v : V} {d : PyData}, Dd K G v d → Dd K G' v d
  | _, _, .non => .non
  | _, _, .bl b => .bl b
  | _, _, .int i => .int i
  | _, _, .str x => .str x
  | _, _, .lst h a => .lst (e _ _ h) (DdAll.mono e a)
  | _, _, .tup h a => .tup (sqT_same e h) (DdAll.mono e a)
theorem DdAll.mono (e : Same G G') : ∀ {vs : List V} {ds : List PyData}, DdAll K G vs ds → DdAll K G' vs ds
  | _, _, .nil => .nil
  | _, _, .cons h a => .cons (Dd.mono e h) (DdAll.mono e a)
end
mutual
theorem Dd.dp : ∀ {v : V} {d : PyData}, Dd K G v d → Dp K G v d
  | _, _, .non => .non
  | _, _, .bl b => .bl b
  | _, _, .int i => .int i
  | _, _, .str x => .str x
  | _, _, .lst h a => .lst (SqL.of h) (DdAll.dp a)
  | _, _, .tup h a => .tup h (DdAll.dp a)
theorem DdAll.dp : ∀ {vs : List V} {ds : List PyData}, DdAll K G vs ds → DpAll K G vs ds
  | _, _, .nil => .nil
  | _, _, .cons h a => .cons (Dd.dp h) (DdAll.dp a)
end
theorem DdAll.length : ∀ {vs : List V} {ds : List PyData}, DdAll K G vs ds → vs.length = ds.length
  | _, _, .nil => rfl
  | _, _, .cons _ a => congrArg Nat.succ (DdAll.length a)
theorem DdAll.get : ∀ {vs : List V} {ds : List PyData} {i : Nat} {d : PyData}, DdAll K G vs ds → ds[i]? = some d → ∃ v, vs[i]? = some v ∧ Dd K G v d
  | _, _, i, d, .nil, h => by simp at h
  | _, _, 0, d, .cons (v := v) h a, e => by
    simp at e; subst e; exact ⟨v, by simp, h⟩
  | _, _, i + 1, d, .cons h a, e => by
    obtain ⟨v, h1, h2⟩ := DdAll.get (i := i) a (by simpa using e)
    exact ⟨v, by simpa using h1, h2⟩
theorem DdAll.getv : ∀ {vs : List V} {ds : List PyData} {i : Nat} {v : V}, DdAll K G vs ds → vs[i]? = some v → ∃ d, ds[i]? = some d ∧ Dd K G v d
  | _, _, i, d, .nil, h => by simp at h
  | _, _, 0, _, .cons (d := d) h a, e => by
    simp at e; subst e; exact ⟨d, by simp, h⟩
  | _, _, i + 1, d, .cons h a, e => by
    obtain ⟨v, h1, h2⟩ := DdAll.getv (i := i) a (by simpa using e)
    exact ⟨v, by simpa using h1, h2⟩
theorem DdAll.app : ∀ {vs us : List V} {ds es : List PyData}, DdAll K G vs ds → DdAll K G us es → DdAll K G (vs ++ us) (ds ++ es)
  | _, _, _, _, .nil, b => b
  | _, _, _, _, .cons h a, b => .cons h (DdAll.app a b)
theorem DdAll.set : ∀ {vs : List V} {ds : List PyData} {v : V} {d : PyData} (i : Nat), DdAll K G vs ds → Dd K G v d → DdAll K G (vs.set i v) (ds.set i d)
  | _, _, _, _, i, .nil, _ => by cases i <;> exact .nil
  | _, _, _, _, 0, .cons h a, b => .cons b a
  | _, _, _, _, i + 1, .cons h a, b => .cons h (DdAll.set i a b)
theorem DdAll.take : ∀ {vs : List V} {ds : List PyData} (n : Nat), DdAll K G vs ds → DdAll K G (vs.take n) (ds.take n)
  | _, _, 0, _ => by simpa using DdAll.nil
  | _, _, n + 1, .nil => by simpa using DdAll.nil
  | _, _, n + 1, .cons h a => .cons h (DdAll.take n a)
theorem DdAll.drop : ∀ {vs : List V} {ds : List PyData} (n : Nat), DdAll K G vs ds → DdAll K G (vs.drop n) (ds.drop n)
  | _, _, 0, a => a
  | _, _, n + 1, .nil => by simpa using DdAll.nil
  | _, _, n + 1, .cons h a => DdAll.drop n a
end

/-! ## the frame: what stands in the slots -/
inductive Sl where
  | un
  | dat (d : PyData)
  | own (ds : List PyData)
  | par (ds : List PyData)
  | scr (ds : List PyData)
abbrev Gam := List Sl
/-- the base: H, G at some time ahead; P may be changed since; N: new for this def -/
structure Bs where
  H : Hp
  G : Hp
  P : Addr → Prop
  N : Addr → Prop
  A : Nat → Addr
/-- slot i holds a list that is one's own, with these items -/
def Own (Γ : Gam) (i : Nat) (ds : List PyData) : Prop := Γ[i]? = some (Sl.own ds) ∨ Γ[i]? = some (Sl.par ds)
structure En (K : PySem.W.Frag) (B : Bs) (σ : L2.St) (H G : Hp) (Γ : Gam) : Prop where
  len : σ.length = Γ.length
  gh : Same G H
  g0 : Same B.G G
  h0 : ∀ q o, B.H q = some o → ¬ B.P q → H q = some o
  bh : ∀ q, B.H q ≠ none → H q ≠ none
  f0 : ∀ q, B.H q ≠ none → B.G q = none → G q = none
  nn : ∀ q, H q = none → B.N q
  dat : ∀ (i : Nat) d, Γ[i]? = some (Sl.dat d) → ∃ v, σ[i]? = some (some v) ∧ Dd K G v d
  mine : ∀ (i : Nat) ds, Own Γ i ds → ∃ p vs, σ[i]? = some (some (V.ref p)) ∧ G p = none ∧ H p = some (.lst vs) ∧ DdAll K G vs ds ∧ (B.P p ∨ B.H p = none)
  new : ∀ (i : Nat) ds, Γ[i]? = some (Sl.own ds) → ∃ p, σ[i]? = some (some (V.ref p)) ∧ B.N p
  par : ∀ (i : Nat) ds, Γ[i]? = some (Sl.par ds) → σ[i]? = some (some (V.ref (B.A i)))
  scr : ∀ (i : Nat) ds, Γ[i]? = some (Sl.scr ds) → ∃ p vs, σ[i]? = some (some (V.ref p)) ∧ SqL K G p vs ∧ DdAll K G vs ds
  inj : ∀ (i j : Nat) p ds es, Own Γ i ds → Own Γ j es → σ[i]? = some (some (V.ref p)) → σ[j]? = some (some (V.ref p)) → i = j
/-- of one kind, slot by slot -/
def KS1 : Sl → Sl → Prop
  | .un, .un => True
  | .dat d, .dat e => d = e
  | .own _, .own _ => True
  | .par _, .par _ => True
  | .scr d, .scr e => d = e
  | _, _ => False
structure KS (Γ Γ' : Gam) : Prop where
  len : Γ.length = Γ'.length
  at' : ∀ (i : Nat) a b, Γ[i]? = some a → Γ'[i]? = some b → KS1 a b
theorem KS1.refl : ∀ a : Sl, KS1 a a
  | .un => trivial
  | .dat _ => rfl
  | .own _ => trivial
  | .par _ => trivial
  | .scr _ => rfl
theorem KS1.trans : ∀ {a b c : Sl}, KS1 a b → KS1 b c → KS1 a c
  | .un, .un, .un, _, _ => trivial
  | .dat _, .dat _, .dat _, h, h' => Eq.trans h h'
  | .own _, .own _, .own _, _, _ => trivial
  | .par _, .par _, .par _, _, _ => trivial
  | .scr _, .scr _, .scr _, h, h' => Eq.trans h h'
theorem KS.refl (Γ : Gam) : KS Γ Γ := ⟨rfl, fun i a b h h' => by rw [h] at h'; cases h'; exact KS1.refl a⟩
theorem KS.trans {a b c : Gam} (h : KS a b) (h' : KS b c) : KS a c := ⟨h.len.trans h'.len, fun i x z hx hz => by
  have li : i < b.length := by
    have := (List.getElem?_eq_some_iff.mp hx).1
    rw [← h.len]; exact this
  have hy : b[i]? = some b[i] := List.getElem?_eq_getElem li
  exact (h.at' i x _ hx hy).trans (h'.at' i _ z hy hz)⟩
theorem KS.ownB {Γ Γ' : Gam} (h : KS Γ Γ') {i : Nat} {ds : List PyData} (o : Γ'[i]? = some (Sl.own ds)) : ∃ es, Γ[i]? = some (Sl.own es) := by
  have li : i < Γ.length := by
    have := (List.getElem?_eq_some_iff.mp o).1
    rw [h.len]; exact this
  have hy : Γ[i]? = some Γ[i] := List.getElem?_eq_getElem li
  have k := h.at' i _ _ hy o
  cases e : Γ[i] with
  | own es => exact ⟨es, by rw [hy, e]⟩
  | un => rw [e] at k; exact k.elim
  | dat _ => rw [e] at k; exact k.elim
  | par _ => rw [e] at k; exact k.elim
  | scr _ => rw [e] at k; exact k.elim
theorem KS.parB {Γ Γ' : Gam} (h : KS Γ Γ') {i : Nat} {ds : List PyData} (o : Γ'[i]? = some (Sl.par ds)) : ∃ es, Γ[i]? = some (Sl.par es) := by
  have li : i < Γ.length := by
    have := (List.getElem?_eq_some_iff.mp o).1
    rw [h.len]; exact this
  have hy : Γ[i]? = some Γ[i] := List.getElem?_eq_getElem li
  have k := h.at' i _ _ hy o
  cases e : Γ[i] with
  | par es => exact ⟨es, by rw [hy, e]⟩
  | un => rw [e] at k; exact k.elim
  | dat _ => rw [e] at k; exact k.elim
  | own _ => rw [e] at k; exact k.elim
  | scr _ => rw [e] at k; exact k.elim
theorem KS.mineB {Γ Γ' : Gam} (h : KS Γ Γ') {i : Nat} {ds : List PyData} (o : Own Γ' i ds) : ∃ es, Own Γ i es := by
  rcases o with o | o
  · obtain ⟨es, e⟩ := h.ownB o; exact ⟨es, .inl e⟩
  · obtain ⟨es, e⟩ := h.parB o; exact ⟨es, .inr e⟩

section
variable {K : PySem.W.Frag} {B : Bs} {σ : L2.St} {H G H' G' : Hp} {Γ Γ' : Gam}
/-- the base moved up to now -/
def rebase (B : Bs) (σ : L2.St) (H G : Hp) (Γ : Gam) : Bs := ⟨H, G, fun p => ∃ (i : Nat) (ds : List PyData), Own Γ i ds ∧ σ[i]? = some (some (V.ref p)), B.N, B.A⟩
theorem En.rebase (e : En K B σ H G Γ) : En K (rebase B σ H G Γ) σ H G Γ where
  len := e.len
  gh := e.gh
  g0 := Same.refl G
  h0 := fun q o h _ => h
  bh := fun q h => h
  f0 := fun q _ h => h
  nn := e.nn
  dat := e.dat
  mine := fun i ds o => by
    obtain ⟨p, vs, h1, h2, h3, h4, _⟩ := e.mine i ds o
    exact ⟨p, vs, h1, h2, h3, h4, .inl ⟨i, ds, o, h1⟩⟩
  new := e.new
  par := e.par
  scr := e.scr
  inj := e.inj
/-- and back -/
theorem En.unbase (e : En K B σ H G Γ) (e' : En K (DL.rebase B σ H G Γ) σ H' G' Γ') (k : KS Γ Γ') : En K B σ H' G' Γ' where
  len := e'.len
  gh := e'.gh
  g0 := e.g0.trans e'.g0
  h0 := fun q o h hp => by
    refine e'.h0 q o (e.h0 q o h hp) ?_
    rintro ⟨i, ds, ow, hs⟩
    obtain ⟨p, vs, h1, h2, h3, h4, h5⟩ := e.mine i ds ow
    rw [hs] at h1
    cases h1
    rcases h5 with h5 | h5
    · exact hp h5
    · rw [h] at h5; cases h5
  bh := fun q h => e'.bh q (e.bh q h)
  f0 := fun q h h' => e'.f0 q (e.bh q h) (e.f0 q h h')
  nn := e'.nn
  dat := e'.dat
  mine := fun i ds o => by
    obtain ⟨es, o0⟩ := k.mineB o
    obtain ⟨p, vs, h1, h2, h3, h4, h5⟩ := e'.mine i ds o
    obtain ⟨p', vs', g1, g2, g3, g4, g5⟩ := e.mine i es o0
    rw [h1] at g1
    cases g1
    exact ⟨p, vs, h1, h2, h3, h4, g5⟩
  new := e'.new
  par := e'.par
  scr := e'.scr
  inj := e'.inj
/-- what stands apart from all that is one's own stays -/
theorem En.stays (e : En K B σ H G Γ) (e' : En K (DL.rebase B σ H G Γ) σ H' G' Γ') {q : Addr} {o : HO} (h : H q = some o) (hn : ∀ (i : Nat) ds, Own Γ i ds → σ[i]? ≠ some (some (V.ref q))) : H' q = some o :=
  e'.h0 q o h fun ⟨i, ds, ow, hs⟩ => hn i ds ow hs
theorem En.scrG (e : En K B σ H G Γ) (s : Same G G') : ∀ (i : Nat) ds, Γ[i]? = some (Sl.scr ds) → ∃ p vs, σ[i]? = some (some (V.ref p)) ∧ SqL K G' p vs ∧ DdAll K G' vs ds := fun i ds h => by
  obtain ⟨p, vs, h1, h2, h3⟩ := e.scr i ds h
  exact ⟨p, vs, h1, sqL_same s h2, h3.mono s⟩
/-- a new thing is laid, frozen -/
theorem En.laid {p : Addr} {o : HO} (e : En K B σ H G Γ) (hp : H p = none) : En K B σ (upd H p o) (upd G p o) Γ := by
  have gp : G p = none := by
    cases q : G p with
    | none => rfl
    | some u => rw [e.gh p u q] at hp; cases hp
  have sH : Same H (upd H p o) := fun b x h => by rw [upd_ne (ne_of_none h hp)]; exact h
  have sG : Same G (upd G p o) := fun b x h => by rw [upd_ne (ne_of_none h gp)]; exact h
  refine ⟨e.len, fun b x h => ?_, e.g0.trans sG, fun q x h h' => sH _ _ (e.h0 q x h h'), fun q h z => ?_, fun q h h' => ?_, fun q h => e.nn q ?_, fun i d h => ?_, fun i ds ow => ?_, e.new, e.par, e.scrG sG, e.inj⟩
  · by_cases hb : b = p
    · subst hb; rw [upd_same] at h ⊢; exact h
    · rw [upd_ne hb] at h ⊢; exact e.gh b x h
  · have := e.bh q h
    cases q1 : H q with
    | none => exact this q1
    | some u => rw [sH q u q1] at z; cases z
  · have hq : q ≠ p := fun z => by
      have := e.bh q h
      rw [z] at this
      exact this hp
    rw [upd_ne hq]
    exact e.f0 q h h'
  · cases q1 : H q with
    | none => rfl
    | some u => rw [sH q u q1] at h; cases h
  · obtain ⟨v, h1, h2⟩ := e.dat i d h
    exact ⟨v, h1, h2.mono sG⟩
  · obtain ⟨q, vs, h1, h2, h3, h4, h5⟩ := e.mine i ds ow
    refine ⟨q, vs, h1, ?_, sH _ _ h3, h4.mono sG, h5⟩
    rw [upd_ne (ne_of_none h3 hp)]
    exact h2
/-- .. not frozen -/
theorem En.laidN {p : Addr} {o : HO} (e : En K B σ H G Γ) (hp : H p = none) : En K B σ (upd H p o) G Γ := by
  have sH : Same H (upd H p o) := fun b x h => by rw [upd_ne (ne_of_none h hp)]; exact h
  refine ⟨e.len, e.gh.trans sH, e.g0, fun q x h h' => sH _ _ (e.h0 q x h h'), fun q h z => ?_, e.f0, fun q h => e.nn q ?_, e.dat, fun i ds ow => ?_, e.new, e.par, e.scr, e.inj⟩
  · have := e.bh q h
    cases q1 : H q with
    | none => exact this q1
    | some u => rw [sH q u q1] at z; cases z
  · cases q1 : H q with
    | none => rfl
    | some u => rw [sH q u q1] at h; cases h
  · obtain ⟨q, vs, h1, h2, h3, h4, h5⟩ := e.mine i ds ow
    exact ⟨q, vs, h1, h2, sH _ _ h3, h4, h5⟩
/-- a list that is nobody's is frozen -/
theorem En.freeze {p : Addr} {o : HO} (e : En K B σ H G Γ) (hp : H p = some o) (gp : G p = none) (bp : B.H p = none) (hn : ∀ (i : Nat) ds, Own Γ i ds → σ[i]? ≠ some (some (V.ref p))) : En K B σ H (upd G p o) Γ := by
  have sG : Same G (upd G p o) := fun b x h => by rw [upd_ne (ne_of_none h gp)]; exact h
  refine ⟨e.len, fun b x h => ?_, e.g0.trans sG, e.h0, e.bh, fun q h h' => ?_, e.nn, fun i d h => ?_, fun i ds ow => ?_, e.new, e.par, e.scrG sG, e.inj⟩
  · by_cases hb : b = p
    · subst hb; rw [upd_same] at h; cases h; exact hp
    · rw [upd_ne hb] at h; exact e.gh b x h
  · have hq : q ≠ p := fun z => by rw [z] at h; exact h bp
    rw [upd_ne hq]
    exact e.f0 q h h'
  · obtain ⟨v, h1, h2⟩ := e.dat i d h
    exact ⟨v, h1, h2.mono sG⟩
  · obtain ⟨q, vs, h1, h2, h3, h4, h5⟩ := e.mine i ds ow
    refine ⟨q, vs, h1, ?_, h3, h4.mono sG, h5⟩
    have hq : q ≠ p := fun z => hn i ds ow (by rw [h1, z])
    rw [upd_ne hq]
    exact h2
end
end DL

namespace DL
open PySem PySem.Spec PyProof.Rows L2

/-! ## readings over data -/
abbrev WE := Gam → (PyData → Gam → Prop) → Prop
abbrev WT := Gam → (Bool → Gam → Prop) → Prop
abbrev WA := Gam → (List PyData → Gam → Prop) → Prop
def RE (K : PySem.W.Frag) (t : TE) (W : WE) : Prop :=
  ∀ (B : Bs) (Γ : Gam) (σ : L2.St) (H G : Hp) (Q : PyData → Gam → Prop) (Q' : VK), En K B σ H G Γ → W Γ Q →
    (∀ v H' G' d Γ', En K B σ H' G' Γ' → Same G G' → KS Γ Γ' → Dd K G' v d → Q d Γ' → Q' v H') → t σ H Q'
/-- a new list, nobody's yet -/
def RN (K : PySem.W.Frag) (t : TE) (W : WA) : Prop :=
  ∀ (B : Bs) (Γ : Gam) (σ : L2.St) (H G : Hp) (Q : List PyData → Gam → Prop) (Q' : VK), En K B σ H G Γ → W Γ Q →
    (∀ p vs H' G' ds Γ', En K B σ H' G' Γ' → Same G G' → KS Γ Γ' → G' p = none → H' p = some (.lst vs) → DdAll K G' vs ds → B.H p = none → B.N p → (∀ (i : Nat) es, Own Γ' i es → σ[i]? ≠ some (some (V.ref p))) → Q ds Γ' → Q' (.ref p) H') → t σ H Q'
def RT (K : PySem.W.Frag) (t : TT) (W : WT) : Prop :=
  ∀ (B : Bs) (Γ : Gam) (σ : L2.St) (H G : Hp) (Q : Bool → Gam → Prop) (Q' : Bool → Hp → Prop), En K B σ H G Γ → W Γ Q →
    (∀ b H' G' Γ', En K B σ H' G' Γ' → Same G G' → KS Γ Γ' → Q b Γ' → Q' b H') → t σ H Q'
def RA (K : PySem.W.Frag) (t : TA) (W : WA) : Prop :=
  ∀ (B : Bs) (Γ : Gam) (σ : L2.St) (H G : Hp) (Q : List PyData → Gam → Prop) (Q' : List V → Hp → Prop), En K B σ H G Γ → W Γ Q →
    (∀ vs H' G' ds Γ', En K B σ H' G' Γ' → Same G G' → KS Γ Γ' → DdAll K G' vs ds → Q ds Γ' → Q' vs H') → t σ H Q'
structure DE (X : Cx) (e : Expr) (W : WE) : Prop where
  ex : ∃ t, PE X e t ∧ RE X.K t W
structure DN (X : Cx) (e : Expr) (W : WA) : Prop where
  ex : ∃ t, PE X e t ∧ RN X.K t W
structure DT (X : Cx) (e : Expr) (W : WT) : Prop where
  ex : ∃ t, PT X e t ∧ RT X.K t W
structure DA (X : Cx) (es : List Expr) (W : WA) : Prop where
  ex : ∃ t, PA X es t ∧ RA X.K t W
/-- a two-place operation by values -/
abbrev F2 := PyData → PyData → (PyData → Prop) → Prop
def RV2 (K : PySem.W.Frag) (r : R2) (f : F2) : Prop :=
  ∀ (B : Bs) (Γ : Gam) (σ : L2.St) (H G : Hp) (x y : V) (dx dy : PyData) (Q : PyData → Prop) (Q' : VK), En K B σ H G Γ → Dd K G x dx → Dd K G y dy → f dx dy Q →
    (∀ v H' G' d, En K B σ H' G' Γ → Same G G' → Dd K G' v d → Q d → Q' v H') → r x y H Q'
abbrev FA := List PyData → (PyData → Prop) → Prop
def RVA (K : PySem.W.Frag) (r : List V → Hp → VK → Prop) (f : FA) : Prop :=
  ∀ (B : Bs) (Γ : Gam) (σ : L2.St) (H G : Hp) (xs : List V) (ds : List PyData) (Q : PyData → Prop) (Q' : VK), En K B σ H G Γ → DdAll K G xs ds → f ds Q →
    (∀ v H' G' d, En K B σ H' G' Γ → Same G G' → Dd K G' v d → Q d → Q' v H') → r xs H Q'

section
variable {X : Cx} {K : PySem.W.Frag} {a b c e : Expr} {es : List Expr} {Wa Wb Wc : WE} {pos : Pos}
/-! ### names, constants -/
@[simp] def wVar (i : Nat) : WE := fun Γ Q => match Γ[i]? with
  | some (.dat d) => Q d Γ
  | _ => False
theorem de_var (i : Nat) {x : Str} {p : Pos} (h : PE X (.Name x p) (tVar i)) : DE X (.Name x p) (wVar i) := ⟨_, h, by
  intro B Γ σ H G Q Q' E w k
  unfold wVar at w
  cases q : Γ[i]? with
  | none => rw [q] at w; exact w.elim
  | some s =>
    rw [q] at w
    cases s with
    | dat d =>
      obtain ⟨v, h1, h2⟩ := E.dat i d q
      exact ⟨v, h1, k v H G d Γ E (Same.refl _) (KS.refl _) h2 w⟩
    | un => exact w.elim
    | own _ => exact w.elim
    | par _ => exact w.elim
    | scr _ => exact w.elim⟩
@[simp] def wC (d : PyData) : WE := fun Γ Q => Q d Γ
theorem re_c {v : V} {d : PyData} (h : ∀ G, Dd K G v d) : RE K (tC v) (wC d) := by
  intro B Γ σ H G Q Q' E w k
  exact k v H G d Γ E (Same.refl _) (KS.refl _) (h G) w
theorem de_int {i : Int} {j p} : DE X (.Constant (.int i) j p) (wC (.int i)) := ⟨_, pe_int, re_c fun _ => .int i⟩
theorem de_bl {v : Bool} {j p} : DE X (.Constant (.bool v) j p) (wC (.bool v)) := ⟨_, pe_bl, re_c fun _ => .bl v⟩
theorem de_non {j p} : DE X (.Constant .none j p) (wC .none) := ⟨_, pe_non, re_c fun _ => .non⟩
theorem de_str {x : Str} {j p} : DE X (.Constant (.str x) j p) (wC (.str x)) := ⟨_, pe_str, re_c fun _ => .str x⟩
/-- a module's text -/
theorem de_gstr {x z : Str} {t : Tok} {p : Pos} (hg : Gl X x) (hm : X.mg x = some (.str z t)) (hd : (x == ("__debug__" : Str)) = false := by decide) : DE X (.Name x p) (wC (.str z)) :=
  ⟨_, pe_glob (v := .str z) hg hm ⟨_, rfl⟩ hd, re_c fun _ => .str z⟩
theorem de_gint {x : Str} {z : Int} {t : Tok} {p : Pos} (hg : Gl X x) (hm : X.mg x = some (.int z t)) (hd : (x == ("__debug__" : Str)) = false := by decide) : DE X (.Name x p) (wC (.int z)) :=
  ⟨_, pe_glob (v := .int z) hg hm ⟨_, rfl⟩ hd, re_c fun _ => .int z⟩

/-! ### operators by values -/
@[simp] def wOp (f : F2) (Wa Wb : WE) : WE := fun Γ Q => Wa Γ fun x Γ1 => Wb Γ1 fun y Γ2 => f x y fun z => Q z Γ2
theorem re_op {r : R2} {f : F2} {ta tb : TE} (hr : RV2 K r f) (ha : RE K ta Wa) (hb : RE K tb Wb) : RE K (tOp r ta tb) (wOp f Wa Wb) := by
  intro B Γ σ H G Q Q' E w k
  refine ha B Γ σ H G _ _ E w fun x H1 G1 dx Γ1 E1 s1 k1 d1 w1 => ?_
  refine hb B Γ1 σ H1 G1 _ _ E1 w1 fun y H2 G2 dy Γ2 E2 s2 k2 d2 w2 => ?_
  refine hr B Γ2 σ H2 G2 x y dx dy _ _ E2 (d1.mono s2) d2 w2 fun v H3 G3 d E3 s3 d3 q => ?_
  exact k v H3 G3 d Γ2 E3 ((s1.trans s2).trans s3) (k1.trans k2) d3 q
theorem de_bin {op : Operator} {r : R2} {f : F2} (ho : OpR X (binaryOp op) r) (hr : RV2 X.K r f) (ha : DE X a Wa) (hb : DE X b Wb) : DE X (.BinOp a op b pos) (wOp f Wa Wb) := by
  obtain ⟨ta, pa, ra⟩ := ha.ex
  obtain ⟨tb, pb, rb⟩ := hb.ex
  exact ⟨_, pe_op ho pa pb, re_op hr ra rb⟩
theorem de_cmp {op : CmpOp} {r : R2} {f : F2} (ho : OpR X (compareOp op) r) (hr : RV2 X.K r f) (ha : DE X a Wa) (hb : DE X b Wb) (hm : behindInMarks op b = false) : DE X (.Compare a [op] [b] pos) (wOp f Wa Wb) := by
  obtain ⟨ta, pa, ra⟩ := ha.ex
  obtain ⟨tb, pb, rb⟩ := hb.ex
  exact ⟨_, pe_cmpR ho pa pb hm, re_op hr ra rb⟩
/-- a value as a test (a bool) -/
@[simp] def wB (W : WE) : WT := fun Γ Q => W Γ fun d Γ1 => match d with
  | .bool b => Q b Γ1
  | _ => False
theorem rt_test {t : TE} {W : WE} (h : RE K t W) : RT K (tTest t) (wB W) := by
  intro B Γ σ H G Q Q' E w k
  refine h B Γ σ H G _ _ E w fun v H1 G1 d Γ1 E1 s1 k1 d1 w1 => ?_
  cases d1 with
  | bl b => exact ⟨b, rfl, k b H1 G1 Γ1 E1 s1 k1 w1⟩
  | _ => exact w1.elim
theorem dt_cmp {op : CmpOp} {r : R2} {f : F2} (ho : OpR X (compareOp op) r) (hr : RV2 X.K r f) (ha : DE X a Wa) (hb : DE X b Wb) (hm : behindInMarks op b = false) : DT X (.Compare a [op] [b] pos) (wB (wOp f Wa Wb)) := by
  obtain ⟨ta, pa, ra⟩ := ha.ex
  obtain ⟨tb, pb, rb⟩ := hb.ex
  exact ⟨_, pt_cmpR ho pa pb hm, rt_test (re_op hr ra rb)⟩
theorem dt_val {W : WE} (h : DE X e W) (he : ∀ whole, isTrue e X.env whole = (do let v ← whole; standAt e.pos; holding [v] (truthy v)) := by intro _; rfl) : DT X e (wB W) := by
  obtain ⟨t, p, r⟩ := h.ex
  exact ⟨_, pt_val p he, rt_test r⟩
/-! ### and, or, not -/
@[simp] def wAnd (A B : WT) : WT := fun Γ Q => A Γ fun b Γ1 => if b = true then B Γ1 Q else Q false Γ1
@[simp] def wOr (A B : WT) : WT := fun Γ Q => A Γ fun b Γ1 => if b = true then Q true Γ1 else B Γ1 Q
@[simp] def wNot (A : WT) : WT := fun Γ Q => A Γ fun b Γ1 => Q (!b) Γ1
structure DW (X : Cx) (e : Expr) (W : WT) : Prop where
  ex : ∃ t, PW X e t ∧ RT X.K t W
variable {WA' WB' : WT} {rest : List Expr}
theorem dw_and1 (h : DT X a WA') : DW X (.BoolOp .And [a] pos) WA' := by
  obtain ⟨t, p, r⟩ := h.ex
  exact ⟨_, pw_and1 p, r⟩
theorem dw_or1 (h : DT X a WA') : DW X (.BoolOp .Or [a] pos) WA' := by
  obtain ⟨t, p, r⟩ := h.ex
  exact ⟨_, pw_or1 p, r⟩
theorem dw_and (h : DT X a WA') (h' : DW X (.BoolOp .And (b :: rest) pos) WB') : DW X (.BoolOp .And (a :: b :: rest) pos) (wAnd WA' WB') := by
  obtain ⟨t, p, r⟩ := h.ex
  obtain ⟨t', p', r'⟩ := h'.ex
  refine ⟨_, pw_and p p', ?_⟩
  intro B Γ σ H G Q Q' E w k
  refine r B Γ σ H G _ _ E w fun b H1 G1 Γ1 E1 s1 k1 w1 => ?_
  cases b with
  | true => exact r' B Γ1 σ H1 G1 _ _ E1 w1 fun b H2 G2 Γ2 E2 s2 k2 w2 => k b H2 G2 Γ2 E2 (s1.trans s2) (k1.trans k2) w2
  | false => exact k false H1 G1 Γ1 E1 s1 k1 w1
theorem dw_or (h : DT X a WA') (h' : DW X (.BoolOp .Or (b :: rest) pos) WB') : DW X (.BoolOp .Or (a :: b :: rest) pos) (wOr WA' WB') := by
  obtain ⟨t, p, r⟩ := h.ex
  obtain ⟨t', p', r'⟩ := h'.ex
  refine ⟨_, pw_or p p', ?_⟩
  intro B Γ σ H G Q Q' E w k
  refine r B Γ σ H G _ _ E w fun b H1 G1 Γ1 E1 s1 k1 w1 => ?_
  cases b with
  | true => exact k true H1 G1 Γ1 E1 s1 k1 w1
  | false => exact r' B Γ1 σ H1 G1 _ _ E1 w1 fun b H2 G2 Γ2 E2 s2 k2 w2 => k b H2 G2 Γ2 E2 (s1.trans s2) (k1.trans k2) w2
theorem DW.dt (h : DW X e WA') : DT X e WA' := by
  obtain ⟨t, p, r⟩ := h.ex
  exact ⟨_, p.pt, r⟩
theorem dt_not (h : DT X a WA') : DT X (.UnaryOp .Not a pos) (wNot WA') := by
  obtain ⟨t, p, r⟩ := h.ex
  refine ⟨_, pt_not p, ?_⟩
  intro B Γ σ H G Q Q' E w k
  exact r B Γ σ H G _ _ E w fun b H1 G1 Γ1 E1 s1 k1 w1 => k (!b) H1 G1 Γ1 E1 s1 k1 w1
/-! .. as values: all but the last a bool -/
@[simp] def wAndV (Wa Wb : WE) : WE := fun Γ Q => Wa Γ fun d Γ1 => match d with
  | .bool b => if b = true then Wb Γ1 Q else Q (.bool false) Γ1
  | _ => False
@[simp] def wOrV (Wa Wb : WE) : WE := fun Γ Q => Wa Γ fun d Γ1 => match d with
  | .bool b => if b = true then Q (.bool true) Γ1 else Wb Γ1 Q
  | _ => False
@[simp] def wNotV (Wa : WE) : WE := fun Γ Q => Wa Γ fun d Γ1 => match d with
  | .bool b => Q (.bool (!b)) Γ1
  | _ => False
theorem de_one {op} (h : DE X a Wa) : DE X (.BoolOp op [a] pos) Wa := by
  obtain ⟨t, p, r⟩ := h.ex
  exact ⟨_, pe_one p, r⟩
theorem de_and (h : DE X a Wa) (h' : DE X (.BoolOp .And (b :: rest) pos) Wb) : DE X (.BoolOp .And (a :: b :: rest) pos) (wAndV Wa Wb) := by
  obtain ⟨t, p, r⟩ := h.ex
  obtain ⟨t', p', r'⟩ := h'.ex
  refine ⟨_, pe_and p p', ?_⟩
  intro B Γ σ H G Q Q' E w k
  refine r B Γ σ H G _ _ E w fun v H1 G1 d Γ1 E1 s1 k1 d1 w1 => ?_
  cases d1 with
  | bl b =>
    refine ⟨b, rfl, ?_⟩
    cases b with
    | true => exact r' B Γ1 σ H1 G1 _ _ E1 w1 fun b H2 G2 d2 Γ2 E2 s2 k2 w2 q2 => k b H2 G2 d2 Γ2 E2 (s1.trans s2) (k1.trans k2) w2 q2
    | false => exact k _ H1 G1 _ Γ1 E1 s1 k1 (.bl false) w1
  | _ => exact w1.elim
theorem de_or (h : DE X a Wa) (h' : DE X (.BoolOp .Or (b :: rest) pos) Wb) : DE X (.BoolOp .Or (a :: b :: rest) pos) (wOrV Wa Wb) := by
  obtain ⟨t, p, r⟩ := h.ex
  obtain ⟨t', p', r'⟩ := h'.ex
  refine ⟨_, pe_or p p', ?_⟩
  intro B Γ σ H G Q Q' E w k
  refine r B Γ σ H G _ _ E w fun v H1 G1 d Γ1 E1 s1 k1 d1 w1 => ?_
  cases d1 with
  | bl b =>
    refine ⟨b, rfl, ?_⟩
    cases b with
    | false => exact r' B Γ1 σ H1 G1 _ _ E1 w1 fun b H2 G2 d2 Γ2 E2 s2 k2 w2 q2 => k b H2 G2 d2 Γ2 E2 (s1.trans s2) (k1.trans k2) w2 q2
    | true => exact k _ H1 G1 _ Γ1 E1 s1 k1 (.bl true) w1
  | _ => exact w1.elim
theorem de_not (h : DE X a Wa) : DE X (.UnaryOp .Not a pos) (wNotV Wa) := by
  obtain ⟨t, p, r⟩ := h.ex
  refine ⟨_, pe_not p, ?_⟩
  intro B Γ σ H G Q Q' E w k
  refine r B Γ σ H G _ _ E w fun v H1 G1 d Γ1 E1 s1 k1 d1 w1 => ?_
  cases d1 with
  | bl b => exact ⟨b, rfl, k _ H1 G1 _ Γ1 E1 s1 k1 (.bl _) w1⟩
  | _ => exact w1.elim
@[simp] def wIf (T : WT) (Wa Wb : WE) : WE := fun Γ Q => T Γ fun b Γ1 => if b = true then Wa Γ1 Q else Wb Γ1 Q
theorem de_if (hc : DT X c WA') (ha : DE X a Wa) (hb : DE X b Wb) : DE X (.IfExp c a b pos) (wIf WA' Wa Wb) := by
  obtain ⟨t, p, r⟩ := hc.ex
  obtain ⟨ta, pa, ra⟩ := ha.ex
  obtain ⟨tb, pb, rb⟩ := hb.ex
  refine ⟨_, pe_ifExp p pa pb, ?_⟩
  intro B Γ σ H G Q Q' E w k
  refine r B Γ σ H G _ _ E w fun b H1 G1 Γ1 E1 s1 k1 w1 => ?_
  cases b with
  | true => exact ra B Γ1 σ H1 G1 _ _ E1 w1 fun b H2 G2 d2 Γ2 E2 s2 k2 w2 q2 => k b H2 G2 d2 Γ2 E2 (s1.trans s2) (k1.trans k2) w2 q2
  | false => exact rb B Γ1 σ H1 G1 _ _ E1 w1 fun b H2 G2 d2 Γ2 E2 s2 k2 w2 q2 => k b H2 G2 d2 Γ2 E2 (s1.trans s2) (k1.trans k2) w2 q2
/-! ### argument lists, displays -/
@[simp] def wNil : WA := fun Γ Q => Q [] Γ
@[simp] def wCons (Wa : WE) (Wr : WA) : WA := fun Γ Q => Wa Γ fun d Γ1 => Wr Γ1 fun ds Γ2 => Q (d :: ds) Γ2
variable {Wr : WA}
theorem da_nil : DA X [] wNil := ⟨_, pa_nil, by
  intro B Γ σ H G Q Q' E w k
  exact k [] H G [] Γ E (Same.refl _) (KS.refl _) .nil w⟩
theorem da_cons (h : DE X e Wa) (h' : DA X es Wr) (hs : starEach (e :: es) X.env = (false, eval e X.env) :: starEach es X.env := by rfl) : DA X (e :: es) (wCons Wa Wr) := by
  obtain ⟨t, p, r⟩ := h.ex
  obtain ⟨t', p', r'⟩ := h'.ex
  refine ⟨_, pa_cons p p' hs, ?_⟩
  intro B Γ σ H G Q Q' E w k
  refine r B Γ σ H G _ _ E w fun v H1 G1 d Γ1 E1 s1 k1 d1 w1 => ?_
  refine r' B Γ1 σ H1 G1 _ _ E1 w1 fun vs H2 G2 ds Γ2 E2 s2 k2 d2 w2 => ?_
  exact k (v :: vs) H2 G2 (d :: ds) Γ2 E2 (s1.trans s2) (k1.trans k2) (.cons (d1.mono s2) d2) w2
theorem fresh_own {B : Bs} {σ : L2.St} {H G : Hp} {Γ : Gam} (E : En K B σ H G Γ) {p : Addr} (hp : H p = none) : ∀ (i : Nat) es, Own Γ i es → σ[i]? ≠ some (some (V.ref p)) := by
  intro i es ow z
  obtain ⟨q, vs, h1, h2, h3, _⟩ := E.mine i es ow
  rw [h1] at z
  cases z
  rw [hp] at h3
  cases h3
theorem En.bnone {B : Bs} {σ : L2.St} {H G : Hp} {Γ : Gam} (E : En K B σ H G Γ) {p : Addr} (hp : H p = none) : B.H p = none := by
  cases q : B.H p with
  | none => rfl
  | some u => exact absurd hp (E.bh p (by rw [q]; exact fun z => by cases z))
theorem En.gnone {B : Bs} {σ : L2.St} {H G : Hp} {Γ : Gam} (E : En K B σ H G Γ) {p : Addr} (hp : H p = none) : G p = none := by
  cases q : G p with
  | none => rfl
  | some u => rw [E.gh p u q] at hp; cases hp
theorem sameNew {G : Hp} {p : Addr} {o : HO} (h : G p = none) : Same G (upd G p o) := fun b x e => by
  rw [upd_ne (ne_of_none e h)]
  exact e
@[simp] def wTup (W : WA) : WE := fun Γ Q => W Γ fun ds Γ1 => ds.length ≤ sizeLine ∧ Q (.tuple ds) Γ1
theorem de_tup {x1} (h : DA X es Wr) : DE X (.Tuple es x1 pos) (wTup Wr) := by
  obtain ⟨t, p, r⟩ := h.ex
  refine ⟨_, pe_tup p, ?_⟩
  intro B Γ σ H G Q Q' E w k
  refine r B Γ σ H G _ _ E w fun vs H1 G1 ds Γ1 E1 s1 k1 d1 w1 => ?_
  refine ⟨by rw [d1.length]; exact w1.1, fun p hp => ?_⟩
  have gp := E1.gnone hp
  exact k _ _ (upd G1 p (.tup vs)) (.tuple ds) Γ1 (E1.laid hp) (s1.trans (sameNew gp)) k1 (.tup (SqT.of upd_same) (d1.mono (sameNew gp))) w1.2
@[simp] def wLst (W : WA) : WA := fun Γ Q => W Γ fun ds Γ1 => ds.length ≤ sizeLine ∧ Q ds Γ1
theorem dn_lst (h : DA X es Wr) : DN X (.List es pos) (wLst Wr) := by
  obtain ⟨t, p, r⟩ := h.ex
  refine ⟨_, pe_lst p, ?_⟩
  intro B Γ σ H G Q Q' E w k
  refine r B Γ σ H G _ _ E w fun vs H1 G1 ds Γ1 E1 s1 k1 d1 w1 => ?_
  refine ⟨by rw [d1.length]; exact w1.1, fun p hp => ?_⟩
  exact k p vs _ G1 ds Γ1 (E1.laidN hp) s1 k1 (E1.gnone hp) upd_same d1 (E1.bnone hp) (E1.nn p hp) (fresh_own E1 hp) w1.2
/-- a new list, as data -/
@[simp] def wL (W : WA) : WE := fun Γ Q => W Γ fun ds Γ1 => Q (.list ds) Γ1
theorem re_of_rn {t : TE} (r : RN K t Wr) : RE K t (wL Wr) := by
  intro B Γ σ H G Q Q' E w k
  refine r B Γ σ H G _ _ E w fun p vs H1 G1 ds Γ1 E1 s1 k1 g1 h1 d1 b1 n1 o1 w1 => ?_
  exact k (.ref p) H1 (upd G1 p (.lst vs)) (.list ds) Γ1 (E1.freeze h1 g1 b1 o1) (s1.trans (sameNew g1)) k1 (.lst upd_same (d1.mono (sameNew g1))) w1
theorem DN.de (h : DN X e Wr) : DE X e (wL Wr) := by
  obtain ⟨t, p, r⟩ := h.ex
  exact ⟨_, p, re_of_rn r⟩
/-! ### built-ins by values -/
@[simp] def wCB (f : FA) (W : WA) : WE := fun Γ Q => W Γ fun ds Γ1 => f ds fun d => Q d Γ1
theorem re_cb {r : List V → Hp → VK → Prop} {f : FA} {ta : TA} (hr : RVA K r f) (h : RA K ta Wr) : RE K (tCB r ta) (wCB f Wr) := by
  intro B Γ σ H G Q Q' E w k
  refine h B Γ σ H G _ _ E w fun vs H1 G1 ds Γ1 E1 s1 k1 d1 w1 => ?_
  exact hr B Γ1 σ H1 G1 vs ds _ _ E1 d1 w1 fun v H2 G2 d E2 s2 d2 q => k v H2 G2 d Γ1 E2 (s1.trans s2) k1 d2 q
end
end DL

namespace DL
open PySem PySem.Spec PyProof.Rows L2
section
variable {X : Cx} {K : PySem.W.Frag} {a b c e : Expr} {es : List Expr} {Wa Wb Wc : WE} {Wr : WA} {pos : Pos}

/-! ## operators -/
def addD : F2
  | .int i, .int j, k => k (.int (i + j))
  | .str s, .str t, k => s.length + t.length ≤ sizeLine ∧ k (.str (s ++ t))
  | .list x, .list y, k => x.length + y.length ≤ sizeLine ∧ k (.list (x ++ y))
  | .tuple x, .tuple y, k => x.length + y.length ≤ sizeLine ∧ k (.tuple (x ++ y))
  | _, _, _ => False
def rAddU (K : PySem.W.Frag) : R2 := fun x y H Q => (rI0 fun i j => V.int (i + j)) x y H Q ∨ (∃ i j, x = V.str i ∧ y = V.str j ∧ i.length + j.length ≤ sizeLine ∧ Q (.str (i ++ j)) H) ∨ rCat x y H Q ∨ rCatA K x y H Q
theorem op_addU : OpR X (binaryOp .Add) (rAddU X.K) := op_add.or (op_add_str.or (op_cat.or op_catA))
theorem DdAll.nil_iff {G : Hp} {vs : List V} {ds : List PyData} (h : DdAll K G vs ds) : vs = [] ↔ ds = [] := by
  have := h.length
  constructor
  · intro z; subst z; exact List.length_eq_zero_iff.mp this.symm
  · intro z; subst z; exact List.length_eq_zero_iff.mp this
theorem rv_add : RV2 K (rAddU K) addD := by
  intro B Γ σ H G x y dx dy Q Q' E h1 h2 w k
  cases h1 with
  | int i =>
    cases h2 with
    | int j => exact .inl ⟨i, j, rfl, rfl, k _ H G _ E (Same.refl _) (.int _) w⟩
    | _ => exact w.elim
  | str s =>
    cases h2 with
    | str t => exact .inr (.inl ⟨s, t, rfl, rfl, w.1, k _ H G _ E (Same.refl _) (.str _) w.2⟩)
    | _ => exact w.elim
  | lst ga da =>
    cases h2 with
    | lst gb db =>
      refine .inr (.inr (.inl ⟨_, _, _, _, rfl, rfl, E.gh _ _ ga, E.gh _ _ gb, by rw [da.length, db.length]; exact w.1, fun p hp => ?_⟩))
      have gp := E.gnone hp
      exact k _ _ _ _ (E.laid hp) (sameNew gp) (.lst upd_same ((da.app db).mono (sameNew gp))) w.2
    | _ => exact w.elim
  | tup ga da =>
    cases h2 with
    | tup gb db =>
      refine .inr (.inr (.inr ⟨_, _, _, _, rfl, rfl, sqT_same E.gh ga, sqT_same E.gh gb, by rw [da.length, db.length]; exact w.1, fun hx => ?_, fun hx hy => ?_, fun hx hy p hp => ?_⟩))
      · have e := da.nil_iff.mp hx
        subst e
        exact k _ H G _ E (Same.refl _) (.tup gb db) (by simpa using w.2)
      · have e := db.nil_iff.mp hy
        subst e
        exact k _ H G _ E (Same.refl _) (.tup ga da) (by simpa using w.2)
      · have gp := E.gnone hp
        exact k _ _ _ _ (E.laid hp) (sameNew gp) (.tup (SqT.of upd_same) ((da.app db).mono (sameNew gp))) w.2
    | _ => exact w.elim
  | _ => cases h2 <;> exact w.elim
theorem de_add (ha : DE X a Wa) (hb : DE X b Wb) : DE X (.BinOp a .Add b pos) (wOp addD Wa Wb) := de_bin op_addU rv_add ha hb
/-! ints -/
def intD (C : Int → Int → Prop) (g : Int → Int → Int) : F2
  | .int i, .int j, k => C i j ∧ k (.int (g i j))
  | _, _, _ => False
theorem rv_int {C : Int → Int → Prop} {g : Int → Int → Int} : RV2 K (rI C fun i j => V.int (g i j)) (intD C g) := by
  intro B Γ σ H G x y dx dy Q Q' E h1 h2 w k
  cases h1 with
  | int i =>
    cases h2 with
    | int j => exact ⟨i, j, rfl, rfl, w.1, k _ H G _ E (Same.refl _) (.int _) w.2⟩
    | _ => exact w.elim
  | _ => cases h2 <;> exact w.elim
def subD : F2 := intD (fun _ _ => True) fun i j => i - j
theorem de_sub (ha : DE X a Wa) (hb : DE X b Wb) : DE X (.BinOp a .Sub b pos) (wOp subD Wa Wb) :=
  de_bin (r := rI (fun _ _ => True) fun i j => V.int (i - j)) (opI fun _ _ _ _ _ _ _ _ q => sub_int q) rv_int ha hb
def modD : F2 := intD (fun _ j => j ≠ 0) fun i j => i.fmod j
theorem de_mod (ha : DE X a Wa) (hb : DE X b Wb) : DE X (.BinOp a .Mod b pos) (wOp modD Wa Wb) := de_bin op_modN rv_int ha hb
def fdivD : F2 := intD CDivN fun i j => i.fdiv j
theorem de_fdiv (ha : DE X a Wa) (hb : DE X b Wb) : DE X (.BinOp a .FloorDiv b pos) (wOp fdivD Wa Wb) := de_bin op_fdivN rv_int ha hb
def powD : F2 := intD CPow fun i j => i ^ j.toNat
theorem de_pow (ha : DE X a Wa) (hb : DE X b Wb) : DE X (.BinOp a .Pow b pos) (wOp powD Wa Wb) := de_bin op_pow rv_int ha hb
def mulD : F2
  | .int i, .int j, k => CMul i j ∧ k (.int (i * j))
  | .list x, .int j, k => -(2 ^ 63) ≤ j ∧ j < 2 ^ 63 ∧ x.length * j.toNat ≤ sizeLine ∧ k (.list (List.replicate j.toNat x).flatten)
  | _, _, _ => False
theorem DdAll.rep {G : Hp} {vs : List V} {ds : List PyData} (h : DdAll K G vs ds) : ∀ n : Nat, DdAll K G (List.replicate n vs).flatten (List.replicate n ds).flatten
  | 0 => by simpa using DdAll.nil
  | n + 1 => by
    rw [List.replicate_succ, List.replicate_succ, List.flatten_cons, List.flatten_cons]
    exact h.app (DdAll.rep h n)
def rMulU : R2 := fun x y H Q => (rI CMul fun i j => V.int (i * j)) x y H Q ∨ rRep x y H Q
theorem rv_mul : RV2 K rMulU mulD := by
  intro B Γ σ H G x y dx dy Q Q' E h1 h2 w k
  cases h1 with
  | int i =>
    cases h2 with
    | int j => exact .inl ⟨i, j, rfl, rfl, w.1, k _ H G _ E (Same.refl _) (.int _) w.2⟩
    | _ => exact w.elim
  | lst ga da =>
    cases h2 with
    | int j =>
      refine .inr ⟨_, j, _, rfl, rfl, E.gh _ _ ga, w.1, w.2.1, by rw [da.length]; exact w.2.2.1, fun p hp => ?_⟩
      have gp := E.gnone hp
      exact k _ _ _ _ (E.laid hp) (sameNew gp) (.lst upd_same ((da.rep _).mono (sameNew gp))) w.2.2.2
    | _ => exact w.elim
  | _ => cases h2 <;> exact w.elim
theorem de_mul (ha : DE X a Wa) (hb : DE X b Wb) : DE X (.BinOp a .Mult b pos) (wOp mulD Wa Wb) := de_bin (op_mul.or op_rep) rv_mul ha hb
/-! comparisons of ints -/
def cmpD (g : Int → Int → Bool) : F2
  | .int i, .int j, k => k (.bool (g i j))
  | _, _, _ => False
theorem rv_cmp {g : Int → Int → Bool} : RV2 K (rI0 fun i j => V.bl (g i j)) (cmpD g) := by
  intro B Γ σ H G x y dx dy Q Q' E h1 h2 w k
  cases h1 with
  | int i =>
    cases h2 with
    | int j => exact ⟨i, j, rfl, rfl, k _ H G _ E (Same.refl _) (.bl _) w⟩
    | _ => exact w.elim
  | _ => cases h2 <;> exact w.elim
def ltD : F2 := cmpD fun i j => decide (i < j)
def leD : F2 := cmpD fun i j => decide (i ≤ j)
def gtD : F2 := cmpD fun i j => decide (j < i)
def geD : F2 := cmpD fun i j => decide (j ≤ i)
theorem de_lt (ha : DE X a Wa) (hb : DE X b Wb) : DE X (.Compare a [.Lt] [b] pos) (wOp ltD Wa Wb) := de_cmp op_lt rv_cmp ha hb (nomark _)
theorem de_le (ha : DE X a Wa) (hb : DE X b Wb) : DE X (.Compare a [.LtE] [b] pos) (wOp leD Wa Wb) := de_cmp op_le rv_cmp ha hb (nomark _)
theorem de_gt (ha : DE X a Wa) (hb : DE X b Wb) : DE X (.Compare a [.Gt] [b] pos) (wOp gtD Wa Wb) := de_cmp op_gt rv_cmp ha hb (nomark _)
theorem de_ge (ha : DE X a Wa) (hb : DE X b Wb) : DE X (.Compare a [.GtE] [b] pos) (wOp geD Wa Wb) := de_cmp op_ge rv_cmp ha hb (nomark _)
theorem dt_lt (ha : DE X a Wa) (hb : DE X b Wb) : DT X (.Compare a [.Lt] [b] pos) (wB (wOp ltD Wa Wb)) := dt_cmp op_lt rv_cmp ha hb (nomark _)
theorem dt_le (ha : DE X a Wa) (hb : DE X b Wb) : DT X (.Compare a [.LtE] [b] pos) (wB (wOp leD Wa Wb)) := dt_cmp op_le rv_cmp ha hb (nomark _)
theorem dt_gt (ha : DE X a Wa) (hb : DE X b Wb) : DT X (.Compare a [.Gt] [b] pos) (wB (wOp gtD Wa Wb)) := dt_cmp op_gt rv_cmp ha hb (nomark _)
theorem dt_ge (ha : DE X a Wa) (hb : DE X b Wb) : DT X (.Compare a [.GtE] [b] pos) (wB (wOp geD Wa Wb)) := dt_cmp op_ge rv_cmp ha hb (nomark _)
/-! == and != of data -/
@[irreducible] def eqD : F2 := fun x y k => SeqAt.shaped x = true ∧ SeqAt.shaped y = true ∧ k (.bool (PyData.eqv x y))
@[irreducible] def neD : F2 := fun x y k => SeqAt.shaped x = true ∧ SeqAt.shaped y = true ∧ k (.bool (!PyData.eqv x y))
theorem rv_eq : RV2 K (rEqD K) eqD := by
  intro B Γ σ H G x y dx dy Q Q' E h1 h2 w k
  unfold eqD at w
  exact ⟨dx, dy, (h1.mono E.gh).dp, (h2.mono E.gh).dp, w.1, w.2.1, k _ H G _ E (Same.refl _) (.bl _) w.2.2⟩
theorem rv_ne : RV2 K (rNeD K) neD := by
  intro B Γ σ H G x y dx dy Q Q' E h1 h2 w k
  unfold neD at w
  exact ⟨dx, dy, (h1.mono E.gh).dp, (h2.mono E.gh).dp, w.1, w.2.1, k _ H G _ E (Same.refl _) (.bl _) w.2.2⟩
theorem de_eq (hu : X.A.units + 64 < cLine) (ha : DE X a Wa) (hb : DE X b Wb) : DE X (.Compare a [.Eq] [b] pos) (wOp eqD Wa Wb) := de_cmp (op_eqD hu) rv_eq ha hb (nomark _)
theorem de_ne (hu : X.A.units + 64 < cLine) (ha : DE X a Wa) (hb : DE X b Wb) : DE X (.Compare a [.NotEq] [b] pos) (wOp neD Wa Wb) := de_cmp (op_neD hu) rv_ne ha hb (nomark _)
theorem dt_eq (hu : X.A.units + 64 < cLine) (ha : DE X a Wa) (hb : DE X b Wb) : DT X (.Compare a [.Eq] [b] pos) (wB (wOp eqD Wa Wb)) := dt_cmp (op_eqD hu) rv_eq ha hb (nomark _)
theorem dt_ne (hu : X.A.units + 64 < cLine) (ha : DE X a Wa) (hb : DE X b Wb) : DT X (.Compare a [.NotEq] [b] pos) (wB (wOp neD Wa Wb)) := dt_cmp (op_neD hu) rv_ne ha hb (nomark _)
/-! is None -/
def isND : F2 := fun x y k => y matches .none ∧ k (.bool (x matches .none))
theorem rv_isN : RV2 K (fun x y H Q => y = .non ∧ Q (.bl (decide (x = .non))) H) isND := by
  intro B Γ σ H G x y dx dy Q Q' E h1 h2 w k
  cases h2 with
  | non =>
    refine ⟨rfl, ?_⟩
    cases h1 <;> exact k _ H G _ E (Same.refl _) (.bl _) w.2
  | _ => exact absurd w.1 (by simp)
def notND : F2 := fun x y k => y matches .none ∧ k (.bool !(x matches .none))
theorem rv_notN : RV2 K (fun x y H Q => y = .non ∧ Q (.bl (!decide (x = .non))) H) notND := by
  intro B Γ σ H G x y dx dy Q Q' E h1 h2 w k
  cases h2 with
  | non =>
    refine ⟨rfl, ?_⟩
    cases h1 <;> exact k _ H G _ E (Same.refl _) (.bl _) w.2
  | _ => exact absurd w.1 (by simp)
theorem de_isN (ha : DE X a Wa) (hb : DE X b Wb) : DE X (.Compare a [.Is] [b] pos) (wOp isND Wa Wb) := de_cmp op_isN rv_isN ha hb (nomark _)
theorem de_notN (ha : DE X a Wa) (hb : DE X b Wb) : DE X (.Compare a [.IsNot] [b] pos) (wOp notND Wa Wb) := de_cmp op_notN rv_notN ha hb (nomark _)
theorem dt_isN (ha : DE X a Wa) (hb : DE X b Wb) : DT X (.Compare a [.Is] [b] pos) (wB (wOp isND Wa Wb)) := dt_cmp op_isN rv_isN ha hb (nomark _)
theorem dt_notN (ha : DE X a Wa) (hb : DE X b Wb) : DT X (.Compare a [.IsNot] [b] pos) (wB (wOp notND Wa Wb)) := dt_cmp op_notN rv_notN ha hb (nomark _)
/-! in -/
def flatD : PyData → Bool
  | .none => true
  | .bool _ => true
  | .int _ => true
  | .str _ => true
  | _ => false
theorem flat_of {G : Hp} {v : V} {d : PyData} (h : Dd K G v d) (f : flatD d = true) : flatV v = true := by
  cases h <;> first | rfl | cases f
theorem eqV_of {G : Hp} {v u : V} {d e : PyData} (h : Dd K G v d) (h' : Dd K G u e) (f : flatD d = true) (f' : flatD e = true) : eqV v u = PyData.eqv d e := by
  cases h <;> cases h' <;> first
    | rfl
    | (cases f; done)
    | (cases f'; done)
    | (simp [eqV, PyData.eqv]; done)
theorem inV_of {G : Hp} {v : V} {d : PyData} (h : Dd K G v d) (f : flatD d = true) : ∀ {us : List V} {es : List PyData}, DdAll K G us es → es.all flatD = true → us.all flatV = true ∧ inV v us = es.any fun z => PyData.eqv z d
  | _, _, .nil, _ => ⟨rfl, rfl⟩
  | _, _, .cons h1 t, g => by
    rw [List.all_cons, Bool.and_eq_true] at g
    obtain ⟨q1, q2⟩ := inV_of h f t g.2
    refine ⟨by rw [List.all_cons, flat_of h1 g.1, q1]; rfl, ?_⟩
    unfold inV at q2 ⊢
    rw [List.any_cons, List.any_cons, q2, eqV_of h1 h g.1 f]
def inStr (a b : Str) : Bool := !(Builtin.Str.occurrences b a 0 b.length 1).isEmpty
@[irreducible] def inD : F2
  | .str a, .str b, k => k (.bool (inStr a b))
  | d, .list es, k => flatD d = true ∧ es.all flatD = true ∧ k (.bool (es.any fun z => PyData.eqv z d))
  | d, .tuple es, k => flatD d = true ∧ es.all flatD = true ∧ k (.bool (es.any fun z => PyData.eqv z d))
  | _, _, _ => False
def notInD : F2
  | .str a, .str b, k => k (.bool (!inStr a b))
  | d, .list es, k => flatD d = true ∧ es.all flatD = true ∧ k (.bool (!es.any fun z => PyData.eqv z d))
  | d, .tuple es, k => flatD d = true ∧ es.all flatD = true ∧ k (.bool (!es.any fun z => PyData.eqv z d))
  | _, _, _ => False
def rInU (K : PySem.W.Frag) : R2 := fun x y H Q => (∃ i j, x = V.str i ∧ y = V.str j ∧ Q (.bl (!(Builtin.Str.occurrences j i 0 j.length 1).isEmpty)) H) ∨ rIn K false x y H Q
def rNotInU (K : PySem.W.Frag) : R2 := fun x y H Q => (∃ i j, x = V.str i ∧ y = V.str j ∧ Q (.bl (!(!(Builtin.Str.occurrences j i 0 j.length 1).isEmpty))) H) ∨ rIn K true x y H Q
theorem rv_in : RV2 K (rInU K) inD := by
  intro B Γ σ H G x y dx dy Q Q' E h1 h2 w k
  unfold inD at w
  cases h2 with
  | str t =>
    cases h1 with
    | str s => exact .inl ⟨s, t, rfl, rfl, k _ H G _ E (Same.refl _) (.bl _) w⟩
    | _ => exact w.elim
  | @lst _ _ ds ga da =>
    have w' : flatD dx = true ∧ List.all ds flatD = true ∧ Q (.bool (ds.any fun z => PyData.eqv z dx)) := by cases dx <;> exact w
    obtain ⟨q1, q2⟩ := inV_of h1 w'.1 da w'.2.1
    refine .inr ⟨_, _, rfl, .inl (SqL.of (E.gh _ _ ga)), flat_of h1 w'.1, q1, k _ H G _ E (Same.refl _) (.bl _) ?_⟩
    rw [q2]
    exact w'.2.2
  | @tup _ _ ds ga da =>
    have w' : flatD dx = true ∧ List.all ds flatD = true ∧ Q (.bool (ds.any fun z => PyData.eqv z dx)) := by cases dx <;> exact w
    obtain ⟨q1, q2⟩ := inV_of h1 w'.1 da w'.2.1
    refine .inr ⟨_, _, rfl, .inr (sqT_same E.gh ga), flat_of h1 w'.1, q1, k _ H G _ E (Same.refl _) (.bl _) ?_⟩
    rw [q2]
    exact w'.2.2
  | _ => cases h1 <;> exact w.elim
theorem rv_notIn : RV2 K (rNotInU K) notInD := by
  intro B Γ σ H G x y dx dy Q Q' E h1 h2 w k
  cases h2 with
  | str t =>
    cases h1 with
    | str s => exact .inl ⟨s, t, rfl, rfl, k _ H G _ E (Same.refl _) (.bl _) w⟩
    | _ => exact w.elim
  | @lst _ _ ds ga da =>
    have w' : flatD dx = true ∧ List.all ds flatD = true ∧ Q (.bool (!ds.any fun z => PyData.eqv z dx)) := by cases dx <;> exact w
    obtain ⟨q1, q2⟩ := inV_of h1 w'.1 da w'.2.1
    refine .inr ⟨_, _, rfl, .inl (SqL.of (E.gh _ _ ga)), flat_of h1 w'.1, q1, k _ H G _ E (Same.refl _) (.bl _) ?_⟩
    rw [if_pos rfl, q2]
    exact w'.2.2
  | @tup _ _ ds ga da =>
    have w' : flatD dx = true ∧ List.all ds flatD = true ∧ Q (.bool (!ds.any fun z => PyData.eqv z dx)) := by cases dx <;> exact w
    obtain ⟨q1, q2⟩ := inV_of h1 w'.1 da w'.2.1
    refine .inr ⟨_, _, rfl, .inr (sqT_same E.gh ga), flat_of h1 w'.1, q1, k _ H G _ E (Same.refl _) (.bl _) ?_⟩
    rw [if_pos rfl, q2]
    exact w'.2.2
  | _ => cases h1 <;> exact w.elim
theorem op_inU : OpR X (compareOp .In) (rInU X.K) := op_in_str.or op_in_seq
theorem op_notInU : OpR X (compareOp .NotIn) (rNotInU X.K) := op_notin_str.or op_notIn_seq
theorem de_in (ha : DE X a Wa) (hb : DE X b Wb) (hm : behindInMarks .In b = false := by rfl) : DE X (.Compare a [.In] [b] pos) (wOp inD Wa Wb) := de_cmp op_inU rv_in ha hb hm
theorem de_notIn (ha : DE X a Wa) (hb : DE X b Wb) (hm : behindInMarks .NotIn b = false := by rfl) : DE X (.Compare a [.NotIn] [b] pos) (wOp notInD Wa Wb) := de_cmp op_notInU rv_notIn ha hb hm
theorem dt_in (ha : DE X a Wa) (hb : DE X b Wb) (hm : behindInMarks .In b = false := by rfl) : DT X (.Compare a [.In] [b] pos) (wB (wOp inD Wa Wb)) := dt_cmp op_inU rv_in ha hb hm
theorem dt_notIn (ha : DE X a Wa) (hb : DE X b Wb) (hm : behindInMarks .NotIn b = false := by rfl) : DT X (.Compare a [.NotIn] [b] pos) (wB (wOp notInD Wa Wb)) := dt_cmp op_notInU rv_notIn ha hb hm
/-! unary minus -/
@[simp] def wNeg (Wa : WE) : WE := fun Γ Q => Wa Γ fun d Γ1 => match d with
  | .int i => Q (.int (-i)) Γ1
  | _ => False
theorem de_neg (ha : DE X a Wa) : DE X (.UnaryOp .USub a pos) (wNeg Wa) := by
  obtain ⟨t, p, r⟩ := ha.ex
  refine ⟨_, pe_un un_neg p, ?_⟩
  intro B Γ σ H G Q Q' E w k
  refine r B Γ σ H G _ _ E w fun v H1 G1 d Γ1 E1 s1 k1 d1 w1 => ?_
  cases d1 with
  | int i => exact ⟨i, rfl, k _ H1 G1 _ Γ1 E1 s1 k1 (.int _) w1⟩
  | _ => exact w1.elim
/-! items and slices -/
def sign (c : Nat) : PyData := .str ⟨#[c]⟩
def optD {α : Type} (o : Option α) (k : α → Prop) : Prop := ∃ a, o = some a ∧ k a
@[simp] theorem optD_some {α : Type} (a : α) (k : α → Prop) : optD (some a) k = k a := propext ⟨fun ⟨b, e, h⟩ => by cases e; exact h, fun h => ⟨a, rfl, h⟩⟩
def ixD : F2
  | .list xs, .int i, k => optD (atI xs i) k
  | .tuple xs, .int i, k => optD (atI xs i) k
  | .str z, .int i, k => z.length ≤ sizeLine ∧ optD (atI z.cps.toList i) fun c => k (sign c)
  | _, _, _ => False
theorem DdAll.atI {G : Hp} {vs : List V} {ds : List PyData} {i : Int} {d : PyData} (h : DdAll K G vs ds) (e : L2.atI ds i = some d) : ∃ v, L2.atI vs i = some v ∧ Dd K G v d := by
  unfold L2.atI at e ⊢
  rw [h.length]
  cases q : ixN ds.length i with
  | none => rw [q] at e; cases e
  | some j =>
    rw [q] at e
    exact h.get e
theorem rv_ix : RV2 K (rIx K) ixD := by
  intro B Γ σ H G x y dx dy Q Q' E h1 h2 w k
  cases h2 with
  | int i =>
    cases h1 with
    | lst ga da =>
      obtain ⟨d, h, q⟩ := w
      obtain ⟨v, h', dv⟩ := da.atI h
      exact .inl ⟨_, _, i, v, rfl, rfl, SqL.of (E.gh _ _ ga), h', k _ H G _ E (Same.refl _) dv q⟩
    | tup ga da =>
      obtain ⟨d, h, q⟩ := w
      obtain ⟨v, h', dv⟩ := da.atI h
      exact .inr (.inl ⟨_, _, i, v, rfl, rfl, sqT_same E.gh ga, h', k _ H G _ E (Same.refl _) dv q⟩)
    | str z =>
      obtain ⟨hz, c, h, q⟩ := w
      exact .inr (.inr ⟨z, i, c, rfl, rfl, hz, h, k _ H G _ E (Same.refl _) (.str _) q⟩)
    | _ => exact w.elim
  | _ => cases h1 <;> exact w.elim
theorem de_ix (ha : DE X a Wa) (hb : DE X b Wb) (hs : PlainIx b := by exact fun _ _ => rfl) : DE X (.Subscript a b pos) (wOp ixD Wa Wb) := by
  obtain ⟨ta, pa, ra⟩ := ha.ex
  obtain ⟨tb, pb, rb⟩ := hb.ex
  exact ⟨_, pe_ix ix_seq pa pb hs, re_op rv_ix ra rb⟩
abbrev WO := Gam → (Option Int → Gam → Prop) → Prop
def RO (K : PySem.W.Frag) (t : TO) (W : WO) : Prop :=
  ∀ (B : Bs) (Γ : Gam) (σ : L2.St) (H G : Hp) (Q : Option Int → Gam → Prop) (Q' : Option Int → Hp → Prop), En K B σ H G Γ → W Γ Q →
    (∀ o H' G' Γ', En K B σ H' G' Γ' → Same G G' → KS Γ Γ' → Q o Γ' → Q' o H') → t σ H Q'
structure DO (X : Cx) (e : Option Expr) (W : WO) : Prop where
  ex : ∃ t, PO X e t ∧ RO X.K t W
@[simp] def wNone : WO := fun Γ Q => Q none Γ
@[simp] def wSome (Wa : WE) : WO := fun Γ Q => Wa Γ fun d Γ1 => match d with
  | .int i => Q (some i) Γ1
  | _ => False
theorem do_none : DO X none wNone := ⟨_, po_none, by
  intro B Γ σ H G Q Q' E w k
  exact k none H G Γ E (Same.refl _) (KS.refl _) w⟩
theorem do_some (h : DE X e Wa) : DO X (some e) (wSome Wa) := by
  obtain ⟨t, p, r⟩ := h.ex
  refine ⟨_, po_some p, ?_⟩
  intro B Γ σ H G Q Q' E w k
  refine r B Γ σ H G _ _ E w fun v H1 G1 d Γ1 E1 s1 k1 d1 w1 => ?_
  cases d1 with
  | int i => exact ⟨i, rfl, k _ H1 G1 Γ1 E1 s1 k1 w1⟩
  | _ => exact w1.elim
def cutD {α : Type} (xs : List α) (lo hi : Option Int) : List α := (xs.drop (HT.sIx xs.length 0 lo)).take (HT.sIx xs.length xs.length hi - HT.sIx xs.length 0 lo)
def slD : PyData → Option Int → Option Int → (PyData → Prop) → Prop
  | .list xs, lo, hi, k => k (.list (cutD xs lo hi))
  | .tuple xs, lo, hi, k => k (.tuple (cutD xs lo hi))
  | .str z, lo, hi, k => z.length ≤ sizeLine ∧ k (.str (cutS z lo hi))
  | _, _, _, _ => False
theorem DdAll.cut {G : Hp} {vs : List V} {ds : List PyData} (lo hi : Option Int) (h : DdAll K G vs ds) : DdAll K G (cutV vs lo hi) (cutD ds lo hi) := by
  unfold cutV cutD
  rw [h.length]
  exact (h.drop _).take _
@[simp] def wSl (Wa : WE) (Wl Wh : WO) : WE := fun Γ Q => Wa Γ fun d Γ1 => Wl Γ1 fun lo Γ2 => Wh Γ2 fun hi Γ3 => slD d lo hi fun z => Q z Γ3
def rSlU (K : PySem.W.Frag) : V → Option Int → Option Int → Hp → VK → Prop := fun x lo hi H Q => rSlL K x lo hi H Q ∨ rSlA K x lo hi H Q ∨ (∃ z, x = V.str z ∧ z.length ≤ sizeLine ∧ Q (.str (cutS z lo hi)) H)
end
end DL

namespace DL
open PySem PySem.Spec PyProof.Rows L2
section
variable {X : Cx} {K : PySem.W.Frag} {a b c e : Expr} {es : List Expr} {Wa Wb Wc : WE} {Wr : WA} {pos : Pos} {WT' : WT}
/-! ## slices -/
variable {Wl Wh : WO} {lo hi : Option Expr} {p2 : Pos}
theorem de_slice (ha : DE X a Wa) (hl : DO X lo Wl) (hh : DO X hi Wh) : DE X (.Subscript a (.Slice lo hi none p2) pos) (wSl Wa Wl Wh) := by
  obtain ⟨ta, pa, ra⟩ := ha.ex
  obtain ⟨tl, pl, rl⟩ := hl.ex
  obtain ⟨th, ph, rh⟩ := hh.ex
  refine ⟨_, pe_slice (sl_list.or (sl_tupA.or sl_str)) pa pl ph, ?_⟩
  intro B Γ σ H G Q Q' E w k
  refine ra B Γ σ H G _ _ E w fun v H1 G1 d Γ1 E1 s1 k1 d1 w1 => ?_
  refine rl B Γ1 σ H1 G1 _ _ E1 w1 fun lo H2 G2 Γ2 E2 s2 k2 w2 => ?_
  refine rh B Γ2 σ H2 G2 _ _ E2 w2 fun hi H3 G3 Γ3 E3 s3 k3 w3 => ?_
  have d3 := d1.mono (s2.trans s3)
  have s13 := s1.trans (s2.trans s3)
  have k13 := k1.trans (k2.trans k3)
  cases d3 with
  | lst ga da =>
    refine .inl ⟨_, _, rfl, SqL.of (E3.gh _ _ ga), fun p hp => ?_⟩
    have gp := E3.gnone hp
    exact k _ _ _ _ Γ3 (E3.laid hp) (s13.trans (sameNew gp)) k13 (.lst upd_same ((da.cut lo hi).mono (sameNew gp))) w3
  | @tup _ xs ds ga da =>
    refine .inr (.inl ⟨_, _, rfl, sqT_same E3.gh ga, fun hw => ?_, fun hw p hp => ?_⟩)
    · have e1 : cutD ds lo hi = ds := by
        unfold cutD
        rw [← da.length, hw.1, hw.2, da.length]
        simp
      refine k _ H3 G3 _ Γ3 E3 s13 k13 (.tup ga da) ?_
      have w3' : Q (.tuple (cutD ds lo hi)) Γ3 := w3
      rw [e1] at w3'
      exact w3'
    · have gp := E3.gnone hp
      exact k _ _ _ _ Γ3 (E3.laid hp) (s13.trans (sameNew gp)) k13 (.tup (SqT.of upd_same) ((da.cut lo hi).mono (sameNew gp))) w3
  | str z => exact .inr (.inr ⟨z, rfl, w3.1, k _ H3 G3 _ Γ3 E3 s13 k13 (.str _) w3.2⟩)
  | _ => exact w3.elim
/-! ## built-ins -/
def lenD : FA
  | [.list xs], k => k (.int xs.length)
  | [.tuple xs], k => k (.int xs.length)
  | [.str z], k => z.length ≤ sizeLine ∧ k (.int z.length)
  | _, _ => False
theorem ddAll1 {G : Hp} {xs : List V} {d : PyData} (h : DdAll K G xs [d]) : ∃ v, xs = [v] ∧ Dd K G v d := by
  cases h with
  | cons h1 t => cases t; exact ⟨_, rfl, h1⟩
theorem rv_len : RVA K (fun xs H Q => (∃ p ys, xs = [V.ref p] ∧ (SqL K H p ys ∨ SqT K H p ys) ∧ Q (.int ys.length) H) ∨ (∃ z, xs = [V.str z] ∧ z.length ≤ sizeLine ∧ Q (.int z.length) H)) lenD := by
  intro B Γ σ H G xs ds Q Q' E h w k
  unfold lenD at w
  split at w
  · obtain ⟨v, rfl, hv⟩ := ddAll1 h
    cases hv with
    | lst ga da =>
      refine .inl ⟨_, _, rfl, .inl (SqL.of (E.gh _ _ ga)), k _ H G _ E (Same.refl _) (.int _) ?_⟩
      rw [da.length]
      exact w
  · obtain ⟨v, rfl, hv⟩ := ddAll1 h
    cases hv with
    | tup ga da =>
      refine .inl ⟨_, _, rfl, .inr (sqT_same E.gh ga), k _ H G _ E (Same.refl _) (.int _) ?_⟩
      rw [da.length]
      exact w
  · obtain ⟨v, rfl, hv⟩ := ddAll1 h
    cases hv with
    | str => exact .inr ⟨_, rfl, w.1, k _ H G _ E (Same.refl _) (.int _) w.2⟩
  · exact w.elim
theorem de_callB {x : Str} {p : Pos} {id : String} {r : List V → Hp → VK → Prop} {f : FA} (hc : CallR X (.builtin id) r) (hr : RVA X.K r f) (hg : Gl X x) (hm : X.mg x = none) (hv : bootBuiltins x = some (.builtin id)) (ha : DA X (e :: es) Wr) (hn : x ≠ "__name__" := by decide) (hdb : (x == ("__debug__" : Str)) = false := by decide)
    (he : starEach (e :: es) X.env = (false, eval e X.env) :: starEach es X.env := by rfl) (hpl : (backTo pos (starEach es X.env)).any (·.1) = false := by rfl) : DE X (.Call (.Name x p) (e :: es) [] pos) (wCB f Wr) := by
  obtain ⟨t, pa, ra⟩ := ha.ex
  exact ⟨_, pe_callB hc hg hm hv pa hn hdb he hpl, re_cb hr ra⟩
theorem de_callTy {x : Str} {p : Pos} {T : String} {r : List V → Hp → VK → Prop} {f : FA} (hc : CallR X (.type T) r) (hr : RVA X.K r f) (hg : Gl X x) (hm : X.mg x = none) (hv : bootBuiltins x = some (.type T)) (ha : DA X (e :: es) Wr) (hn : x ≠ "__name__" := by decide) (hdb : (x == ("__debug__" : Str)) = false := by decide)
    (he : starEach (e :: es) X.env = (false, eval e X.env) :: starEach es X.env := by rfl) (hpl : (backTo pos (starEach es X.env)).any (·.1) = false := by rfl) : DE X (.Call (.Name x p) (e :: es) [] pos) (wCB f Wr) := by
  obtain ⟨t, pa, ra⟩ := ha.ex
  exact ⟨_, pe_callTy hc hg hm hv pa hn hdb he hpl, re_cb hr ra⟩
theorem de_len {p : Pos} (hg : Gl X "len") (hm : X.mg "len" = none) (ha : DE X a Wa) (h1 : starEach [a] X.env = (false, eval a X.env) :: starEach [] X.env := by rfl) (h2 : (backTo pos (starEach [] X.env)).any (·.1) = false := by rfl) : DE X (.Call (.Name "len" p) [a] [] pos) (wCB lenD (wCons Wa wNil)) :=
  de_callB (call_len_seq.or call_len_str) rv_len hg hm PySem.boot_len (da_cons ha da_nil h1) (by decide) (by decide) h1 h2
def absD : FA
  | [.int i], k => k (.int (if i < 0 then -i else i))
  | _, _ => False
theorem rv_abs : RVA K (fun xs H Q => ∃ i, xs = [V.int i] ∧ Q (.int (if i < 0 then -i else i)) H) absD := by
  intro B Γ σ H G xs ds Q Q' E h w k
  unfold absD at w
  split at w
  · obtain ⟨v, rfl, hv⟩ := ddAll1 h
    cases hv with
    | int => exact ⟨_, rfl, k _ H G _ E (Same.refl _) (.int _) w⟩
  · exact w.elim
theorem de_abs {p : Pos} (hg : Gl X "abs") (hm : X.mg "abs" = none) (ha : DE X a Wa) (h1 : starEach [a] X.env = (false, eval a X.env) :: starEach [] X.env := by rfl) (h2 : (backTo pos (starEach [] X.env)).any (·.1) = false := by rfl) : DE X (.Call (.Name "abs" p) [a] [] pos) (wCB absD (wCons Wa wNil)) :=
  de_callB call_abs rv_abs hg hm (by decide +kernel) (da_cons ha da_nil h1) (by decide) (by decide) h1 h2
def intT : FA
  | [.int i], k => k (.int i)
  | [.bool b], k => k (.int (if b then 1 else 0))
  | _, _ => False
theorem rv_intT : RVA K (fun xs H Q => (∃ i, xs = [V.int i] ∧ Q (.int i) H) ∨ ∃ k, xs = [V.bl k] ∧ Q (.int (if k then 1 else 0)) H) intT := by
  intro B Γ σ H G xs ds Q Q' E h w k
  unfold intT at w
  split at w
  · obtain ⟨v, rfl, hv⟩ := ddAll1 h
    cases hv with
    | int => exact .inl ⟨_, rfl, k _ H G _ E (Same.refl _) (.int _) w⟩
  · obtain ⟨v, rfl, hv⟩ := ddAll1 h
    cases hv with
    | bl => exact .inr ⟨_, rfl, k _ H G _ E (Same.refl _) (.int _) w⟩
  · exact w.elim
theorem de_intT {p : Pos} (hg : Gl X "int") (hm : X.mg "int" = none) (ha : DE X a Wa) (h1 : starEach [a] X.env = (false, eval a X.env) :: starEach [] X.env := by rfl) (h2 : (backTo pos (starEach [] X.env)).any (·.1) = false := by rfl) : DE X (.Call (.Name "int" p) [a] [] pos) (wCB intT (wCons Wa wNil)) :=
  de_callTy call_int1 rv_intT hg hm (by decide +kernel) (da_cons ha da_nil h1) (by decide) (by decide) h1 h2
def tupT : FA
  | [.list xs], k => k (.tuple xs)
  | [.tuple xs], k => k (.tuple xs)
  | _, _ => False
theorem rv_tupT : RVA K (fun xs H Q => ∃ p ys, xs = [V.ref p] ∧ ((SqL K H p ys ∧ ∀ l, H l = none → Q (.ref l) (upd H l (.tup ys))) ∨ (SqT K H p ys ∧ Q (.ref p) H))) tupT := by
  intro B Γ σ H G xs ds Q Q' E h w k
  unfold tupT at w
  split at w
  · obtain ⟨v, rfl, hv⟩ := ddAll1 h
    cases hv with
    | lst ga da =>
      refine ⟨_, _, rfl, .inl ⟨SqL.of (E.gh _ _ ga), fun l hl => ?_⟩⟩
      have gp := E.gnone hl
      exact k _ _ _ _ (E.laid hl) (sameNew gp) (.tup (SqT.of upd_same) (da.mono (sameNew gp))) w
  · obtain ⟨v, rfl, hv⟩ := ddAll1 h
    cases hv with
    | tup ga da => exact ⟨_, _, rfl, .inr ⟨sqT_same E.gh ga, k _ H G _ E (Same.refl _) (.tup ga da) w⟩⟩
  · exact w.elim
theorem de_tupT {p : Pos} (hg : Gl X "tuple") (hm : X.mg "tuple" = none) (ha : DE X a Wa) (h1 : starEach [a] X.env = (false, eval a X.env) :: starEach [] X.env := by rfl) (h2 : (backTo pos (starEach [] X.env)).any (·.1) = false := by rfl) : DE X (.Call (.Name "tuple" p) [a] [] pos) (wCB tupT (wCons Wa wNil)) :=
  de_callTy call_tuple_of rv_tupT hg hm (by decide +kernel) (da_cons ha da_nil h1) (by decide) (by decide) h1 h2
/-! isinstance -/
@[simp] def tyD : PyData → String
  | .none => "NoneType"
  | .bool _ => "bool"
  | .int _ => "int"
  | .str _ => "str"
  | .list _ => "list"
  | .tuple _ => "tuple"
  | .dict _ => "dict"
@[simp] def isTy (s T : String) : Bool := s == T || (s == "bool" && T == "int")
def KitOk (T : String) : Prop := ∀ s ∈ ["NoneType", "bool", "int", "str", "list", "tuple"], kitB s T = some (isTy s T)
def noDict : PyData → Bool
  | .dict _ => false
  | _ => true
theorem tyX_of {G H : Hp} (gh : Same G H) {v : V} {d : PyData} (h : Dd K G v d) : TyX K H v (.type (tyD d)) := by
  cases h with
  | non => exact .base .non
  | bl b => exact .base (.bl b)
  | int i => exact .base (.int i)
  | str x => exact .base (.str x)
  | lst ga da => exact .base (.lst (gh _ _ ga))
  | tup ga da =>
    rcases ga with (ga | ⟨o, ga⟩) | ⟨o, its, n, hk, hc, hs, _⟩
    · exact .base (.tup (gh _ _ ga))
    · exact .fTuple (gh _ _ ga)
    · exact .kTuple hk hc
theorem kit1 {G : Hp} {v : V} {d : PyData} {T : String} (h : Dd K G v d) (hT : KitOk T) : PySem.W.kitOne K (.type (tyD d)) (.type T) = some (isTy (tyD d) T) := by
  refine kit_ty (hT _ ?_)
  cases h <;> simp [tyD]
@[simp] def wIsi (T : String) (Wa : WE) : WE := fun Γ Q => Wa Γ fun d Γ1 => Q (.bool (isTy (tyD d) T)) Γ1
theorem boot_isinstance : bootBuiltins "isinstance" = some (.builtin "isinstance") := by decide +kernel
theorem de_isi {p pos : Pos} {tE : Expr} {T : String} (hg : Gl X "isinstance") (hm : X.mg "isinstance" = none) (hT : KitOk T) (ht : PE X tE (tC (.ty T))) (ha : DE X a Wa)
    (h1 : starEach [a, tE] X.env = (false, eval a X.env) :: starEach [tE] X.env := by rfl) (h2 : starEach [tE] X.env = (false, eval tE X.env) :: starEach [] X.env := by rfl) (h3 : (backTo pos (starEach [tE] X.env)).any (·.1) = false := by rfl) :
    DE X (.Call (.Name "isinstance" p) [a, tE] [] pos) (wIsi T Wa) := by
  obtain ⟨t, pa, ra⟩ := ha.ex
  refine ⟨_, pe_callB call_isi hg hm boot_isinstance (pa_cons pa (pa_cons ht pa_nil h2) h1) (by decide) (by decide) h1 h3, ?_⟩
  intro B Γ σ H G Q Q' E w k
  refine ra B Γ σ H G _ _ E w fun v H1 G1 d Γ1 E1 s1 k1 d1 w1 => ?_
  exact ⟨v, .ty T, _, _, _, rfl, .ty T, tyX_of E1.gh d1, kit1 d1 hT, k _ H1 G1 _ Γ1 E1 s1 k1 (.bl _) w1⟩
@[simp] def wIsi2 (T U : String) (Wa : WE) : WE := fun Γ Q => Wa Γ fun d Γ1 => Q (.bool (isTy (tyD d) T || isTy (tyD d) U)) Γ1
theorem kitAny2 {t : Value} {T U : Value} {x y : Bool} (h1 : PySem.W.kitOne K t T = some x) (h2 : PySem.W.kitOne K t U = some y) : PySem.W.kitAny K t [T, U] = some (x || y) := by
  refine kitAny_cons h1 (fun e => ?_) (fun e => by rw [e]; rfl)
  rw [e]
  exact kitAny_cons h2 (fun e2 => by rw [e2]; exact kitAny_nil) (fun e2 => by rw [e2]; rfl)
theorem de_isi2 {p p2 pos : Pos} {tE uE : Expr} {kk : Nat} {T U : String} (hg : Gl X "isinstance") (hm : X.mg "isinstance" = none) (hT : KitOk T) (hU : KitOk U) (ht : PE X tE (tC (.ty T))) (hu : PE X uE (tC (.ty U))) (ha : DE X a Wa)
    (h1 : starEach [a, .Tuple [tE, uE] kk p2] X.env = (false, eval a X.env) :: starEach [.Tuple [tE, uE] kk p2] X.env := by rfl) (h2 : starEach [.Tuple [tE, uE] kk p2] X.env = (false, eval (.Tuple [tE, uE] kk p2) X.env) :: starEach [] X.env := by rfl) (h3 : (backTo pos (starEach [.Tuple [tE, uE] kk p2] X.env)).any (·.1) = false := by rfl)
    (h4 : starEach [tE, uE] X.env = (false, eval tE X.env) :: starEach [uE] X.env := by rfl) (h5 : starEach [uE] X.env = (false, eval uE X.env) :: starEach [] X.env := by rfl) :
    DE X (.Call (.Name "isinstance" p) [a, .Tuple [tE, uE] kk p2] [] pos) (wIsi2 T U Wa) := by
  obtain ⟨t, pa, ra⟩ := ha.ex
  refine ⟨_, pe_callB call_isiT hg hm boot_isinstance (pa_cons pa (pa_cons (pe_tup (pa_cons ht (pa_cons hu pa_nil h5) h4)) pa_nil h2) h1) (by decide) (by decide) h1 h3, ?_⟩
  intro B Γ σ H G Q Q' E w k
  refine ra B Γ σ H G _ _ E w fun v H1 G1 d Γ1 E1 s1 k1 d1 w1 => ?_
  refine ⟨by show 2 ≤ sizeLine; decide, fun q hq => ?_⟩
  have gq := E1.gnone hq
  have E2 := E1.laid (o := .tup [.ty T, .ty U]) hq
  have d2 := d1.mono (sameNew (o := .tup [.ty T, .ty U]) gq)
  exact ⟨v, q, _, _, _, _, rfl, upd_same, .cons (.ty T) (.cons (.ty U) .nil), tyX_of E2.gh d2, kitAny2 (kit1 d2 hT) (kit1 d2 hU), k _ _ _ _ Γ1 E2 (s1.trans (sameNew gq)) k1 (.bl _) w1⟩
theorem kit_list : KitOk "list" := by unfold KitOk; decide +kernel
theorem kit_tuple : KitOk "tuple" := by unfold KitOk; decide +kernel
theorem kit_bool : KitOk "bool" := by unfold KitOk; decide +kernel
theorem kit_str : KitOk "str" := by unfold KitOk; decide +kernel
theorem kit_int : KitOk "int" := by unfold KitOk; decide +kernel
/-- a built-in class's name as a value -/
theorem pe_ty {x : Str} {T : String} {p : Pos} (hg : Gl X x) (hm : X.mg x = none) (hv : bootBuiltins x = some (.type T)) (hn : x ≠ "__name__" := by decide) (hd : (x == ("__debug__" : Str)) = false := by decide) : PE X (.Name x p) (tC (.ty T)) := pe_bltn hg hm hv rfl hn hd
/-! ## lists that are one's own -/
@[simp] def ownAt (Γ : Gam) (j : Nat) : Option (List PyData) := match Γ[j]? with
  | some (.own ds) => some ds
  | some (.par ds) => some ds
  | _ => none
@[simp] def setOwn (Γ : Gam) (j : Nat) (ds : List PyData) : Gam := match Γ[j]? with
  | some (.own _) => Γ.set j (.own ds)
  | some (.par _) => Γ.set j (.par ds)
  | _ => Γ
theorem own_of {Γ : Gam} {j : Nat} {ds : List PyData} (h : ownAt Γ j = some ds) : Own Γ j ds := by
  unfold ownAt at h
  split at h
  · rename_i q; cases h; exact .inl q
  · rename_i q; cases h; exact .inr q
  · cases h
theorem setOwn_len (Γ : Gam) (j : Nat) (ds : List PyData) : (setOwn Γ j ds).length = Γ.length := by
  unfold setOwn
  split <;> simp
theorem setOwn_ne {Γ : Gam} {i j : Nat} {ds : List PyData} (h : i ≠ j) : (setOwn Γ j ds)[i]? = Γ[i]? := by
  unfold setOwn
  split
  · rw [List.getElem?_set_ne (Ne.symm h)]
  · rw [List.getElem?_set_ne (Ne.symm h)]
  · rfl
theorem setOwn_own {Γ : Gam} {j : Nat} {es ds : List PyData} (h : Γ[j]? = some (Sl.own es)) : (setOwn Γ j ds)[j]? = some (Sl.own ds) := by
  unfold setOwn
  rw [h]
  exact List.getElem?_set_self (List.getElem?_eq_some_iff.mp h).1
theorem setOwn_par {Γ : Gam} {j : Nat} {es ds : List PyData} (h : Γ[j]? = some (Sl.par es)) : (setOwn Γ j ds)[j]? = some (Sl.par ds) := by
  unfold setOwn
  rw [h]
  exact List.getElem?_set_self (List.getElem?_eq_some_iff.mp h).1
theorem setOwn_KS {Γ : Gam} {j : Nat} {ds : List PyData} : KS Γ (setOwn Γ j ds) := by
  refine ⟨(setOwn_len _ _ _).symm, fun i a b h h' => ?_⟩
  by_cases e : i = j
  · subst e
    cases a with
    | own es => rw [setOwn_own h] at h'; cases h'; trivial
    | par es => rw [setOwn_par h] at h'; cases h'; trivial
    | un =>
      unfold setOwn at h'
      rw [h] at h'
      simp only at h'
      rw [h] at h'
      cases h'
      trivial
    | dat d =>
      unfold setOwn at h'
      rw [h] at h'
      simp only at h'
      rw [h] at h'
      cases h'
      rfl
    | scr d =>
      unfold setOwn at h'
      rw [h] at h'
      simp only at h'
      rw [h] at h'
      cases h'
      rfl
  · rw [setOwn_ne e, h] at h'
    cases h'
    exact KS1.refl _
theorem setOwn_is {Γ : Gam} {i j : Nat} {ds es fs : List PyData} (o : Own Γ j fs) (h : Own (setOwn Γ j ds) i es) : (i = j ∧ es = ds) ∨ (i ≠ j ∧ Own Γ i es) := by
  by_cases e : i = j
  · subst e
    refine .inl ⟨rfl, ?_⟩
    rcases o with o | o
    · rcases h with h | h
      · rw [setOwn_own o] at h; cases h; rfl
      · rw [setOwn_own o] at h; cases h
    · rcases h with h | h
      · rw [setOwn_par o] at h; cases h
      · rw [setOwn_par o] at h; cases h; rfl
  · refine .inr ⟨e, ?_⟩
    unfold Own at h ⊢
    rwa [setOwn_ne e] at h
/-- the list in slot j is written -/
theorem En.wrote {B : Bs} {σ : L2.St} {H G : Hp} {Γ : Gam} {j : Nat} {ds es : List PyData} {p : Addr} {us : List V} (E : En K B σ H G Γ) (o : Own Γ j ds) (hp : σ[j]? = some (some (V.ref p))) (hu : DdAll K G us es) : En K B σ (upd H p (.lst us)) G (setOwn Γ j es) := by
  obtain ⟨q, vs, h1, h2, h3, h4, h5⟩ := E.mine j ds o
  rw [hp] at h1
  cases h1
  refine ⟨by rw [setOwn_len]; exact E.len, fun b x h => ?_, E.g0, fun b x h hP => ?_, fun b h => ?_, E.f0, fun b h => E.nn b ?_, fun i d h => ?_, fun i fs ow => ?_, fun i fs ow => ?_, fun i fs ow => ?_, fun i fs ow => ?_, fun i k q ds' es' o1 o2 h1' h2' => ?_⟩
  · rw [upd_ne (ne_of_none h h2)]
    exact E.gh b x h
  · have hb : b ≠ p := fun z => by
      subst z
      rcases h5 with h5 | h5
      · exact hP h5
      · rw [h] at h5; cases h5
    rw [upd_ne hb]
    exact E.h0 b x h hP
  · by_cases hb : b = p
    · subst hb; rw [upd_same]; exact fun z => by cases z
    · rw [upd_ne hb]; exact E.bh b h
  · by_cases hb : b = p
    · subst hb; rw [upd_same] at h; cases h
    · rwa [upd_ne hb] at h
  · have hij : i ≠ j := fun z => by
      subst z
      rcases o with o | o
      · rw [setOwn_own o] at h; cases h
      · rw [setOwn_par o] at h; cases h
    rw [setOwn_ne hij] at h
    exact E.dat i d h
  · rcases setOwn_is o ow with ⟨e1, e2⟩ | ⟨e1, e2⟩
    · subst e1 e2
      exact ⟨p, us, hp, h2, upd_same, hu, h5⟩
    · obtain ⟨q, ws, g1, g2, g3, g4, g5⟩ := E.mine i fs e2
      refine ⟨q, ws, g1, g2, ?_, g4, g5⟩
      have hq : q ≠ p := fun z => by
        subst z
        exact e1 (E.inj i j q fs ds e2 o g1 hp)
      rw [upd_ne hq]
      exact g3
  · by_cases hij : i = j
    · subst hij
      rcases o with o | o
      · exact E.new i ds o
      · rw [setOwn_par o] at ow; cases ow
    · rw [setOwn_ne hij] at ow
      exact E.new i fs ow
  · by_cases hij : i = j
    · subst hij
      rcases o with o | o
      · rw [setOwn_own o] at ow; cases ow
      · exact E.par i ds o
    · rw [setOwn_ne hij] at ow
      exact E.par i fs ow
  · have hij : i ≠ j := fun z => by
      subst z
      rcases o with o | o
      · rw [setOwn_own o] at ow; cases ow
      · rw [setOwn_par o] at ow; cases ow
    rw [setOwn_ne hij] at ow
    exact E.scr i fs ow
  · have w1 : ∃ x, Own Γ i x := by
      rcases setOwn_is o o1 with ⟨e1, _⟩ | ⟨_, e2⟩
      · subst e1; exact ⟨ds, o⟩
      · exact ⟨_, e2⟩
    have w2 : ∃ x, Own Γ k x := by
      rcases setOwn_is o o2 with ⟨e1, _⟩ | ⟨_, e2⟩
      · subst e1; exact ⟨ds, o⟩
      · exact ⟨_, e2⟩
    obtain ⟨x, w1⟩ := w1
    obtain ⟨y, w2⟩ := w2
    exact E.inj i k q x y w1 w2 h1' h2'
end
end DL

namespace DL
open PySem PySem.Spec PyProof.Rows L2
section
variable {X : Cx} {K : PySem.W.Frag} {a b c e : Expr} {es : List Expr} {Wa Wb Wc : WE} {Wr : WA} {pos : Pos} {WT' : WT}
/-! ## operands: data, or the list in a slot -/
inductive Opd where
  | dat (d : PyData)
  | var (j : Nat)
@[simp] def Opd.rd (Γ : Gam) : Opd → Option PyData
  | .dat d => some d
  | .var j => (ownAt Γ j).map .list
def OpV (K : PySem.W.Frag) (σ : L2.St) (G : Hp) (v : V) : Opd → Prop
  | .dat d => Dd K G v d
  | .var j => σ[j]? = some (some v)
theorem OpV.mono {σ : L2.St} {G G' : Hp} {v : V} {o : Opd} (e : Same G G') (h : OpV K σ G v o) : OpV K σ G' v o := by
  cases o with
  | dat d => exact Dd.mono e h
  | var j => exact h
abbrev WP := Gam → (Opd → Gam → Prop) → Prop
def RP (K : PySem.W.Frag) (t : TE) (W : WP) : Prop :=
  ∀ (B : Bs) (Γ : Gam) (σ : L2.St) (H G : Hp) (Q : Opd → Gam → Prop) (Q' : VK), En K B σ H G Γ → W Γ Q →
    (∀ v H' G' o Γ', En K B σ H' G' Γ' → Same G G' → KS Γ Γ' → OpV K σ G' v o → Q o Γ' → Q' v H') → t σ H Q'
structure DP (X : Cx) (e : Expr) (W : WP) : Prop where
  ex : ∃ t, PE X e t ∧ RP X.K t W
@[simp] def wD (Wa : WE) : WP := fun Γ Q => Wa Γ fun d Γ1 => Q (.dat d) Γ1
theorem DE.dp (h : DE X e Wa) : DP X e (wD Wa) := by
  obtain ⟨t, p, r⟩ := h.ex
  refine ⟨_, p, ?_⟩
  intro B Γ σ H G Q Q' E w k
  exact r B Γ σ H G _ _ E w fun v H1 G1 d Γ1 E1 s1 k1 d1 w1 => k v H1 G1 (.dat d) Γ1 E1 s1 k1 d1 w1
@[simp] def wO (j : Nat) : WP := fun Γ Q => (ownAt Γ j).isSome = true ∧ Q (.var j) Γ
theorem dp_own (j : Nat) {x : Str} {p : Pos} (h : PE X (.Name x p) (tVar j)) : DP X (.Name x p) (wO j) := by
  refine ⟨_, h, ?_⟩
  intro B Γ σ H G Q Q' E w k
  obtain ⟨w1, w2⟩ := w
  cases q : ownAt Γ j with
  | none => rw [q] at w1; cases w1
  | some ds =>
    obtain ⟨p, vs, h1, h2, h3, h4, h5⟩ := E.mine j ds (own_of q)
    exact ⟨_, h1, k _ H G (.var j) Γ E (Same.refl _) (KS.refl _) h1 w2⟩
@[simp] def wOs (j : Nat) : WP := fun Γ Q => match Γ[j]? with
  | some (.scr _) => Q (.var j) Γ
  | _ => False
theorem dp_scr (j : Nat) {x : Str} {p : Pos} (h : PE X (.Name x p) (tVar j)) : DP X (.Name x p) (wOs j) := by
  refine ⟨_, h, ?_⟩
  intro B Γ σ H G Q Q' E w k
  unfold wOs at w
  split at w
  · rename_i ds q
    obtain ⟨p, vs, h1, h2, h3⟩ := E.scr j ds q
    exact ⟨_, h1, k _ H G (.var j) Γ E (Same.refl _) (KS.refl _) h1 w⟩
  · exact w.elim
/-- read: a value that stands for data now -/
def Bd (K : PySem.W.Frag) (G H : Hp) (v : V) (d : PyData) : Prop := Dd K G v d ∨ ∃ p vs ds, v = .ref p ∧ d = .list ds ∧ H p = some (.lst vs) ∧ DdAll K G vs ds
theorem OpV.bd {B : Bs} {σ : L2.St} {H G : Hp} {Γ : Gam} {v : V} {o : Opd} {d : PyData} (E : En K B σ H G Γ) (h : OpV K σ G v o) (r : o.rd Γ = some d) : Bd K G H v d := by
  cases o with
  | dat e => cases r; exact .inl h
  | var j =>
    have r : (ownAt Γ j).map PyData.list = some d := r
    cases q : ownAt Γ j with
    | none => rw [q] at r; cases r
    | some ds =>
      rw [q] at r
      cases r
      obtain ⟨p, vs, h1, h2, h3, h4, h5⟩ := E.mine j ds (own_of q)
      have z : σ[j]? = some (some v) := h
      rw [h1] at z
      cases z
      exact .inr ⟨p, vs, ds, rfl, rfl, h3, h4⟩
theorem Bd.dd {B : Bs} {σ : L2.St} {H G : Hp} {Γ : Gam} {v : V} {d : PyData} (E : En K B σ H G Γ) (h : Bd K G H v d) : Dd K H v d := by
  rcases h with h | ⟨p, vs, ds, rfl, rfl, h1, h2⟩
  · exact h.mono E.gh
  · exact .lst h1 (h2.mono E.gh)
/-- a list's items -/
theorem Bd.lst {B : Bs} {σ : L2.St} {H G : Hp} {Γ : Gam} {v : V} {ds : List PyData} (E : En K B σ H G Γ) (h : Bd K G H v (.list ds)) : ∃ p vs, v = .ref p ∧ H p = some (.lst vs) ∧ DdAll K G vs ds := by
  rcases h with h | ⟨p, vs, ds', rfl, e, h1, h2⟩
  · cases h with
    | lst ga da => exact ⟨_, _, rfl, E.gh _ _ ga, da⟩
  · cases e; exact ⟨p, vs, rfl, h1, h2⟩
/-! what is done with operands that may be one's own -/
@[simp] def wIxO (Wo : WP) (Wb : WE) : WE := fun Γ Q => Wo Γ fun o Γ1 => Wb Γ1 fun y Γ2 => match o.rd Γ2 with
  | some x => ixD x y fun z => Q z Γ2
  | none => False
theorem de_ixO {Wo : WP} (ha : DP X a Wo) (hb : DE X b Wb) (hs : PlainIx b := by exact fun _ _ => rfl) : DE X (.Subscript a b pos) (wIxO Wo Wb) := by
  obtain ⟨ta, pa, ra⟩ := ha.ex
  obtain ⟨tb, pb, rb⟩ := hb.ex
  refine ⟨_, pe_ix ix_seq pa pb hs, ?_⟩
  intro B Γ σ H G Q Q' E w k
  refine ra B Γ σ H G _ _ E w fun v H1 G1 o Γ1 E1 s1 k1 o1 w1 => ?_
  refine rb B Γ1 σ H1 G1 _ _ E1 w1 fun u H2 G2 y Γ2 E2 s2 k2 d2 w2 => ?_
  cases q : o.rd Γ2 with
  | none => rw [q] at w2; exact w2.elim
  | some x =>
    rw [q] at w2
    have bd := (o1.mono s2).bd E2 q
    rcases bd with bd | ⟨p, vs, ds, rfl, rfl, h1, h2⟩
    · exact rv_ix B Γ2 σ H2 G2 _ _ x y _ _ E2 bd d2 w2 fun z H3 G3 d E3 s3 d3 q3 => k z H3 G3 d Γ2 E3 ((s1.trans s2).trans s3) (k1.trans k2) d3 q3
    · cases d2 with
      | int i =>
        obtain ⟨d, h, q3⟩ := w2
        obtain ⟨z, h', dz⟩ := h2.atI h
        exact .inl ⟨p, vs, i, z, rfl, rfl, SqL.of h1, h', k z H2 G2 d Γ2 E2 (s1.trans s2) (k1.trans k2) dz q3⟩
      | _ => exact w2.elim
@[simp] def wLenO (Wo : WP) : WE := fun Γ Q => Wo Γ fun o Γ1 => match o.rd Γ1 with
  | some x => lenD [x] fun z => Q z Γ1
  | none => False
theorem de_lenO {p : Pos} {Wo : WP} (hg : Gl X "len") (hm : X.mg "len" = none) (ha : DP X a Wo) (h1 : starEach [a] X.env = (false, eval a X.env) :: starEach [] X.env := by rfl) (h2 : (backTo pos (starEach [] X.env)).any (·.1) = false := by rfl) : DE X (.Call (.Name "len" p) [a] [] pos) (wLenO Wo) := by
  obtain ⟨ta, pa, ra⟩ := ha.ex
  refine ⟨_, pe_callB (call_len_seq.or call_len_str) hg hm PySem.boot_len (pa_cons pa pa_nil h1) (by decide) (by decide) h1 h2, ?_⟩
  intro B Γ σ H G Q Q' E w k
  refine ra B Γ σ H G _ _ E w fun v H1 G1 o Γ1 E1 s1 k1 o1 w1 => ?_
  cases q : o.rd Γ1 with
  | none => rw [q] at w1; exact w1.elim
  | some x =>
    rw [q] at w1
    have bd := o1.bd E1 q
    rcases bd with bd | ⟨p, vs, ds, rfl, rfl, h1, h2⟩
    · exact rv_len B Γ1 σ H1 G1 _ _ _ _ E1 (.cons bd .nil) w1 fun z H3 G3 d E3 s3 d3 q3 => k z H3 G3 d Γ1 E3 (s1.trans s3) k1 d3 q3
    · refine .inl ⟨p, vs, rfl, .inl (SqL.of h1), k _ H1 G1 _ Γ1 E1 s1 k1 (.int _) ?_⟩
      rw [h2.length]
      exact w1
@[simp] def wTupO (Wo : WP) : WE := fun Γ Q => Wo Γ fun o Γ1 => match o.rd Γ1 with
  | some x => tupT [x] fun z => Q z Γ1
  | none => False
theorem de_tupO {p : Pos} {Wo : WP} (hg : Gl X "tuple") (hm : X.mg "tuple" = none) (ha : DP X a Wo) (h1 : starEach [a] X.env = (false, eval a X.env) :: starEach [] X.env := by rfl) (h2 : (backTo pos (starEach [] X.env)).any (·.1) = false := by rfl) : DE X (.Call (.Name "tuple" p) [a] [] pos) (wTupO Wo) := by
  obtain ⟨ta, pa, ra⟩ := ha.ex
  refine ⟨_, pe_callTy call_tuple_of hg hm (by decide +kernel) (pa_cons pa pa_nil h1) (by decide) (by decide) h1 h2, ?_⟩
  intro B Γ σ H G Q Q' E w k
  refine ra B Γ σ H G _ _ E w fun v H1 G1 o Γ1 E1 s1 k1 o1 w1 => ?_
  cases q : o.rd Γ1 with
  | none => rw [q] at w1; exact w1.elim
  | some x =>
    rw [q] at w1
    have bd := o1.bd E1 q
    rcases bd with bd | ⟨p, vs, ds, rfl, rfl, h1, h2⟩
    · exact rv_tupT B Γ1 σ H1 G1 _ _ _ _ E1 (.cons bd .nil) w1 fun z H3 G3 d E3 s3 d3 q3 => k z H3 G3 d Γ1 E3 (s1.trans s3) k1 d3 q3
    · refine ⟨p, vs, rfl, .inl ⟨SqL.of h1, fun l hl => ?_⟩⟩
      have gp := E1.gnone hl
      exact k _ _ _ _ Γ1 (E1.laid hl) (s1.trans (sameNew gp)) k1 (.tup (SqT.of upd_same) (h2.mono (sameNew gp))) w1
/-- list(x): a new list -/
@[simp] def wListO (Wo : WP) : WA := fun Γ Q => Wo Γ fun o Γ1 => match o.rd Γ1 with
  | some (.list ds) => Q ds Γ1
  | some (.tuple ds) => Q ds Γ1
  | _ => False
theorem dn_listO {p : Pos} {Wo : WP} (hg : Gl X "list") (hm : X.mg "list" = none) (ha : DP X a Wo) (h1 : starEach [a] X.env = (false, eval a X.env) :: starEach [] X.env := by rfl) (h2 : (backTo pos (starEach [] X.env)).any (·.1) = false := by rfl) : DN X (.Call (.Name "list" p) [a] [] pos) (wListO Wo) := by
  obtain ⟨ta, pa, ra⟩ := ha.ex
  refine ⟨_, pe_callTy call_list_of hg hm (by decide +kernel) (pa_cons pa pa_nil h1) (by decide) (by decide) h1 h2, ?_⟩
  intro B Γ σ H G Q Q' E w k
  refine ra B Γ σ H G _ _ E w fun v H1 G1 o Γ1 E1 s1 k1 o1 w1 => ?_
  cases q : o.rd Γ1 with
  | none => rw [q] at w1; exact w1.elim
  | some x =>
    rw [q] at w1
    have bd := o1.bd E1 q
    cases x with
    | list ds =>
      obtain ⟨p, vs, rfl, h1, h2⟩ := Bd.lst E1 bd
      refine ⟨p, vs, rfl, .inl (SqL.of h1), fun l hl => ?_⟩
      exact k l vs _ G1 ds Γ1 (E1.laidN hl) s1 k1 (E1.gnone hl) upd_same h2 (E1.bnone hl) (E1.nn l hl) (fresh_own E1 hl) w1
    | tuple ds =>
      rcases bd with bd | ⟨p, vs, ds', rfl, e, _⟩
      · cases bd with
        | tup ga da =>
          refine ⟨_, _, rfl, .inr (sqT_same E1.gh ga), fun l hl => ?_⟩
          exact k l _ _ G1 ds Γ1 (E1.laidN hl) s1 k1 (E1.gnone hl) upd_same da (E1.bnone hl) (E1.nn l hl) (fresh_own E1 hl) w1
      · cases e
    | _ => exact w1.elim
/-! ## what a def promises, over data -/
inductive Rs where
  | dat (d : PyData)
  | new (ds : List PyData)
abbrev PSp := List Sl → (Rs → List Sl → Prop) → Prop
structure ArgsV (K : PySem.W.Frag) (G H : Hp) (vs : List V) (as : List Sl) : Prop where
  len : vs.length = as.length
  dat : ∀ (i : Nat) d, as[i]? = some (Sl.dat d) → ∃ v, vs[i]? = some v ∧ Dd K G v d
  par : ∀ (i : Nat) ds, as[i]? = some (Sl.par ds) → ∃ p us, vs[i]? = some (V.ref p) ∧ G p = none ∧ H p = some (.lst us) ∧ DdAll K G us ds
  scr : ∀ (i : Nat) ds, as[i]? = some (Sl.scr ds) → ∃ p us, vs[i]? = some (V.ref p) ∧ SqL K G p us ∧ DdAll K G us ds
  kind : ∀ (i : Nat) s, as[i]? = some s → (∃ d, s = Sl.dat d) ∨ (∃ ds, s = Sl.par ds) ∨ ∃ ds, s = Sl.scr ds
  inj : ∀ (i j : Nat) p ds es, as[i]? = some (Sl.par ds) → as[j]? = some (Sl.par es) → vs[i]? = some (V.ref p) → vs[j]? = some (V.ref p) → i = j
/-- a result -/
def VR (K : PySem.W.Frag) (N : Addr → Prop) (G H : Hp) (v : V) : Rs → Prop
  | .dat d => Dd K G v d
  | .new ds => ∃ p us, v = .ref p ∧ G p = none ∧ H p = some (.lst us) ∧ DdAll K G us ds ∧ N p
structure PostV (K : PySem.W.Frag) (G H : Hp) (vs : List V) (as : List Sl) (G' H' : Hp) (as' : List Sl) (v : V) (r : Rs) : Prop where
  gg : Same G G'
  gh : Same G' H'
  keep : ∀ q o, H q = some o → (∀ (i : Nat) ds, as[i]? = some (Sl.par ds) → vs[i]? ≠ some (V.ref q)) → H' q = some o
  alloc : ∀ q, H q ≠ none → H' q ≠ none
  free : ∀ q, H q ≠ none → G q = none → G' q = none
  ks : KS as as'
  par : ∀ (i : Nat) ds, as'[i]? = some (Sl.par ds) → ∃ p us, vs[i]? = some (V.ref p) ∧ H' p = some (.lst us) ∧ DdAll K G' us ds
  res : VR K (fun p => H p = none) G' H' v r
def spS (K : PySem.W.Frag) (S : PSp) : Sp := fun vs H Q _ => ∃ (G : Hp) (as : List Sl) (R : Rs → List Sl → Prop), Same G H ∧ ArgsV K G H vs as ∧ S as R ∧
  ∀ v G' H' as' r, PostV K G H vs as G' H' as' v r → R r as' → Q v H'
/-! ## statements -/
/-- what is raised: its class, its fields -/
structure Exn where
  C : Addr
  fs : List (Str × PyData)
inductive FldV (K : PySem.W.Frag) (G : Hp) : List (Str × V) → List (Str × PyData) → Prop
  | nil : FldV K G [] []
  | cons {f : Str} {v : V} {d : PyData} {vs : List (Str × V)} {ds : List (Str × PyData)} : Dd K G v d → FldV K G vs ds → FldV K G ((f, v) :: vs) ((f, d) :: ds)
theorem FldV.mono {G G' : Hp} (e : Same G G') : ∀ {vs : List (Str × V)} {ds : List (Str × PyData)}, FldV K G vs ds → FldV K G' vs ds
  | _, _, .nil => .nil
  | _, _, .cons h t => .cons (h.mono e) (FldV.mono e t)
/-- .. as it lies -/
def ExOk (K : PySem.W.Frag) (G : Hp) (d : Option Addr) (x : Exn) : Prop := (d = none ∧ x.fs = []) ∨ ∃ (dd : Addr) (vs : List (Str × V)), d = some dd ∧ G dd = some (.xd vs) ∧ FldV K G vs x.fs
theorem ExOk.mono {G G' : Hp} (e : Same G G') {d : Option Addr} {x : Exn} (h : ExOk K G d x) : ExOk K G' d x := by
  rcases h with h | ⟨dd, vs, h1, h2, h3⟩
  · exact .inl h
  · exact .inr ⟨dd, vs, h1, e _ _ h2, h3.mono e⟩
structure EndsD where
  nx : Gam → Prop
  rt : Rs → Gam → Prop
  bk : Gam → Prop := fun _ => False
  ct : Gam → Prop := fun _ => False
  ex : Exn → Gam → Prop := fun _ _ => False
abbrev WS := EndsD → Gam → Prop
structure Lk (K : PySem.W.Frag) (Wx : WX) (B : Bs) (G : Hp) (D : EndsD) (D' : Ends) : Prop where
  nx : ∀ σ H' G' Γ, En K B σ H' G' Γ → Same G G' → D.nx Γ → D'.nx σ H'
  bk : ∀ σ H' G' Γ, En K B σ H' G' Γ → Same G G' → D.bk Γ → D'.bk σ H'
  ct : ∀ σ H' G' Γ, En K B σ H' G' Γ → Same G G' → D.ct Γ → D'.ct σ H'
  rt : ∀ σ v H' G' Γ r, En K B σ H' G' Γ → Same G G' → VR K B.N G' H' v r → D.rt r Γ → D'.rt v H'
  nb : ∀ q, B.N q → B.H q = none
  ex : ∀ d σ H' G' Γ x, En K B σ H' G' Γ → Same G G' → ExOk K G' d x → D.ex x Γ → Wx (.ref x.C) d σ H'
variable {Wx : WX}
theorem Lk.mono {B : Bs} {G G' : Hp} {D : EndsD} {D' : Ends} (s : Same G G') (h : Lk K Wx B G D D') : Lk K Wx B G' D D' :=
  ⟨fun σ H' G'' Γ E s' q => h.nx σ H' G'' Γ E (s.trans s') q, fun σ H' G'' Γ E s' q => h.bk σ H' G'' Γ E (s.trans s') q, fun σ H' G'' Γ E s' q => h.ct σ H' G'' Γ E (s.trans s') q,
   fun σ v H' G'' Γ r E s' vr q => h.rt σ v H' G'' Γ r E (s.trans s') vr q, h.nb, fun d σ H' G'' Γ x E s' xo q => h.ex d σ H' G'' Γ x E (s.trans s') xo q⟩
def RS (K : PySem.W.Frag) (Wx : WX) (t : TS) (W : WS) : Prop :=
  ∀ (B : Bs) (Γ : Gam) (σ : L2.St) (H G : Hp) (D : EndsD) (D' : Ends), En K B σ H G Γ → W D Γ → Lk K Wx B G D D' → t D' σ H
/-- the least that X takes -/
def Wcan (X : Cx) : WX := fun cls d σ H => ∃ W : WX, Takes X W ∧ W cls d σ H
theorem takes_c {X : Cx} : Takes X (Wcan X) := fun u s' ⟨a, B, sI, pins, σ, H, cls, d, e, I, nb, up, sky, na, os, ag, W, tk, w⟩ => tk u s' ⟨a, B, sI, pins, σ, H, cls, d, e, I, nb, up, sky, na, os, ag, w⟩
structure DS (X : Cx) (st : Stmt) (W : WS) : Prop where
  ex : ∃ t, PS X st t ∧ RS X.K (Wcan X) t W
structure DSs (X : Cx) (st : List Stmt) (W : WS) : Prop where
  ex : ∃ t, PSs X st t ∧ RS X.K (Wcan X) t W
variable {st : Stmt} {rest : List Stmt} {W1 W2 : WS}
@[simp] def wNext : WS := fun D Γ => D.nx Γ
@[simp] def wSeq (W1 W2 : WS) : WS := fun D Γ => W1 { D with nx := W2 D } Γ
theorem rs_next : RS K Wx tNext wNext := fun B Γ σ H G D D' E w l => l.nx σ H G Γ E (Same.refl _) w
theorem dss_nil : DSs X [] wNext := ⟨_, pss_nil, rs_next⟩
theorem dss_cons (h : DS X st W1) (h' : DSs X rest W2) : DSs X (st :: rest) (wSeq W1 W2) := by
  obtain ⟨t, p, r⟩ := h.ex
  obtain ⟨t', p', r'⟩ := h'.ex
  refine ⟨_, pss_cons p p', ?_⟩
  intro B Γ σ H G D D' E w l
  exact r B Γ σ H G { D with nx := W2 D } { D' with nx := t' D' } E w ⟨fun σ1 H1 G1 Γ1 E1 s1 w1 => r' B Γ1 σ1 H1 G1 D D' E1 w1 (l.mono s1), l.bk, l.ct, l.rt, l.nb, l.ex⟩
theorem dss_one (h : DS X st W1) : DSs X [st] W1 := by
  obtain ⟨t, p, r⟩ := h.ex
  exact ⟨_, pss_one p, r⟩
theorem ds_pass : DS X (.Pass pos) wNext := ⟨_, ps_pass, rs_next⟩
@[simp] def wBreak : WS := fun D Γ => D.bk Γ
@[simp] def wCont : WS := fun D Γ => D.ct Γ
theorem ds_break : DS X (.Break pos) wBreak := ⟨_, ps_break, fun B Γ σ H G D D' E w l => l.bk σ H G Γ E (Same.refl _) w⟩
theorem ds_cont : DS X (.Continue pos) wCont := ⟨_, ps_continue, fun B Γ σ H G D D' E w l => l.ct σ H G Γ E (Same.refl _) w⟩
@[simp] def wDrop (Wa : WE) : WS := fun D Γ => Wa Γ fun _ Γ1 => D.nx Γ1
theorem ds_expr (h : DE X e Wa) (hs : swapsWith e none pos.line X.env = pure false := by rfl) : DS X (.Expr e pos) (wDrop Wa) := by
  obtain ⟨t, p, r⟩ := h.ex
  refine ⟨_, ps_expr p hs, ?_⟩
  intro B Γ σ H G D D' E w l
  exact r B Γ σ H G _ _ E w fun v H1 G1 d Γ1 E1 s1 k1 d1 w1 => l.nx σ H1 G1 Γ1 E1 s1 w1
@[simp] def wRet (Wa : WE) : WS := fun D Γ => Wa Γ fun d Γ1 => D.rt (.dat d) Γ1
theorem ds_ret (h : DE X e Wa) : DS X (.Return (some e) pos) (wRet Wa) := by
  obtain ⟨t, p, r⟩ := h.ex
  refine ⟨_, ps_ret p, ?_⟩
  intro B Γ σ H G D D' E w l
  exact r B Γ σ H G _ _ E w fun v H1 G1 d Γ1 E1 s1 k1 d1 w1 => l.rt σ v H1 G1 Γ1 (.dat d) E1 s1 d1 w1
@[simp] def wRetN : WS := fun D Γ => D.rt (.dat .none) Γ
theorem ds_retN : DS X (.Return none pos) wRetN := ⟨_, ps_retN, fun B Γ σ H G D D' E w l => l.rt σ .non H G Γ (.dat .none) E (Same.refl _) (Dd.non) w⟩
/-- return of a new list -/
@[simp] def wRetL (Wr : WA) : WS := fun D Γ => Wr Γ fun ds Γ1 => D.rt (.new ds) Γ1
theorem ds_retL (h : DN X e Wr) : DS X (.Return (some e) pos) (wRetL Wr) := by
  obtain ⟨t, p, r⟩ := h.ex
  refine ⟨_, ps_ret p, ?_⟩
  intro B Γ σ H G D D' E w l
  exact r B Γ σ H G _ _ E w fun p vs H1 G1 ds Γ1 E1 s1 k1 g1 h1 d1 b1 n1 o1 w1 => l.rt σ (.ref p) H1 G1 Γ1 (.new ds) E1 s1 ⟨p, vs, rfl, g1, h1, d1, n1⟩ w1
/-- return of one's own list -/
@[simp] def wRetO (j : Nat) : WS := fun D Γ => match Γ[j]? with
  | some (.own ds) => D.rt (.new ds) Γ
  | _ => False
theorem ds_retO (j : Nat) {x : Str} {p : Pos} (h : PE X (.Name x p) (tVar j)) : DS X (.Return (some (.Name x p)) pos) (wRetO j) := by
  refine ⟨_, ps_ret h, ?_⟩
  intro B Γ σ H G D D' E w l
  unfold wRetO at w
  cases q : Γ[j]? with
  | none => rw [q] at w; exact w.elim
  | some s =>
    rw [q] at w
    cases s with
    | own ds =>
      obtain ⟨p, vs, h1, h2, h3, h4, h5⟩ := E.mine j ds (.inl q)
      obtain ⟨p', h1', n⟩ := E.new j ds q
      rw [h1] at h1'
      cases h1'
      exact ⟨_, h1, l.rt σ _ H G Γ (.new ds) E (Same.refl _) ⟨p, vs, rfl, h2, h3, h4, n⟩ w⟩
    | _ => exact w.elim
@[simp] def wIfS (T : WT) (W1 W2 : WS) : WS := fun D Γ => T Γ fun b Γ1 => if b = true then W1 D Γ1 else W2 D Γ1
theorem ds_if {s1 s2 : List Stmt} (hc : DT X c WT') (h1 : DSs X s1 W1) (h2 : DSs X s2 W2) : DS X (.If c s1 s2 pos) (wIfS WT' W1 W2) := by
  obtain ⟨t, p, r⟩ := hc.ex
  obtain ⟨t1, p1, r1⟩ := h1.ex
  obtain ⟨t2, p2, r2⟩ := h2.ex
  refine ⟨_, ps_if p p1 p2, ?_⟩
  intro B Γ σ H G D D' E w l
  refine r B Γ σ H G _ _ E w fun b H1 G1 Γ1 E1 s1 k1 w1 => ?_
  cases b with
  | true => exact r1 B Γ1 σ H1 G1 D D' E1 w1 (l.mono s1)
  | false => exact r2 B Γ1 σ H1 G1 D D' E1 w1 (l.mono s1)
/-! stores -/
theorem En.setDat {B : Bs} {σ : L2.St} {H G : Hp} {Γ : Gam} {v : V} {d : PyData} (E : En K B σ H G Γ) (i : Nat) (h : Dd K G v d) : En K B (σ.set i (some v)) H G (Γ.set i (.dat d)) := by
  have own_ne : ∀ (k : Nat) ds, Own (Γ.set i (.dat d)) k ds → k ≠ i ∧ Own Γ k ds := fun k ds o => by
    by_cases e : k = i
    · subst e
      exfalso
      rcases o with o | o <;>
        (by_cases hl : k < Γ.length
         · rw [List.getElem?_set_self hl] at o; cases o
         · rw [List.getElem?_eq_none (by simpa using hl)] at o; cases o)
    · refine ⟨e, ?_⟩
      unfold Own at o ⊢
      rwa [List.getElem?_set_ne (Ne.symm e)] at o
  refine ⟨by simp [E.len], E.gh, E.g0, E.h0, E.bh, E.f0, E.nn, fun k e hk => ?_, fun k ds o => ?_, fun k ds o => ?_, fun k ds o => ?_, fun k ds o => ?_, fun k m p ds es o1 o2 h1 h2 => ?_⟩
  · by_cases z : k = i
    · subst z
      have hl : k < Γ.length := by
        have := (List.getElem?_eq_some_iff.mp hk).1
        simpa using this
      rw [List.getElem?_set_self hl] at hk
      cases hk
      exact ⟨v, List.getElem?_set_self (by rw [E.len]; exact hl), h⟩
    · rw [List.getElem?_set_ne (Ne.symm z)] at hk ⊢
      exact E.dat k e hk
  · obtain ⟨z, o⟩ := own_ne k ds o
    rw [List.getElem?_set_ne (Ne.symm z)]
    exact E.mine k ds o
  · obtain ⟨z, _⟩ := own_ne k ds (.inl o)
    rw [List.getElem?_set_ne (Ne.symm z)] at o ⊢
    exact E.new k ds o
  · obtain ⟨z, _⟩ := own_ne k ds (.inr o)
    rw [List.getElem?_set_ne (Ne.symm z)] at o ⊢
    exact E.par k ds o
  · have z : k ≠ i := fun z => by
      subst z
      by_cases hl : k < Γ.length
      · rw [List.getElem?_set_self hl] at o; cases o
      · rw [List.getElem?_eq_none (by simpa using hl)] at o; cases o
    rw [List.getElem?_set_ne (Ne.symm z)] at o ⊢
    exact E.scr k ds o
  · obtain ⟨z1, o1⟩ := own_ne k ds o1
    obtain ⟨z2, o2⟩ := own_ne m es o2
    rw [List.getElem?_set_ne (Ne.symm z1)] at h1
    rw [List.getElem?_set_ne (Ne.symm z2)] at h2
    exact E.inj k m p ds es o1 o2 h1 h2
theorem En.setOwnNew {B : Bs} {σ : L2.St} {H G : Hp} {Γ : Gam} {p : Addr} {vs : List V} {ds : List PyData} (E : En K B σ H G Γ) (i : Nat) (gp : G p = none) (hp : H p = some (.lst vs)) (da : DdAll K G vs ds) (bp : B.H p = none) (np : B.N p)
    (ho : ∀ (i : Nat) es, Own Γ i es → σ[i]? ≠ some (some (V.ref p))) : En K B (σ.set i (some (.ref p))) H G (Γ.set i (.own ds)) := by
  have own_ne : ∀ (k : Nat) es, Own (Γ.set i (.own ds)) k es → (k = i ∧ es = ds ∧ k < Γ.length) ∨ (k ≠ i ∧ Own Γ k es) := fun k es o => by
    by_cases e : k = i
    · subst e
      by_cases hl : k < Γ.length
      · rcases o with o | o
        · rw [List.getElem?_set_self hl] at o; cases o; exact .inl ⟨rfl, rfl, hl⟩
        · rw [List.getElem?_set_self hl] at o; cases o
      · rcases o with o | o <;> (rw [List.getElem?_eq_none (by simpa using hl)] at o; cases o)
    · refine .inr ⟨e, ?_⟩
      unfold Own at o ⊢
      rwa [List.getElem?_set_ne (Ne.symm e)] at o
  refine ⟨by simp [E.len], E.gh, E.g0, E.h0, E.bh, E.f0, E.nn, fun k e hk => ?_, fun k es o => ?_, fun k es o => ?_, fun k es o => ?_, fun k es o => ?_, fun k m q es fs o1 o2 h1 h2 => ?_⟩
  · have z : k ≠ i := fun z => by
      subst z
      by_cases hl : k < Γ.length
      · rw [List.getElem?_set_self hl] at hk; cases hk
      · rw [List.getElem?_eq_none (by simpa using hl)] at hk; cases hk
    rw [List.getElem?_set_ne (Ne.symm z)] at hk ⊢
    exact E.dat k e hk
  · rcases own_ne k es o with ⟨z, e, hl⟩ | ⟨z, o⟩
    · subst z e
      exact ⟨p, vs, List.getElem?_set_self (by rw [E.len]; exact hl), gp, hp, da, .inr bp⟩
    · rw [List.getElem?_set_ne (Ne.symm z)]
      exact E.mine k es o
  · rcases own_ne k es (.inl o) with ⟨z, e, hl⟩ | ⟨z, _⟩
    · subst z e
      exact ⟨p, List.getElem?_set_self (by rw [E.len]; exact hl), np⟩
    · rw [List.getElem?_set_ne (Ne.symm z)] at o ⊢
      exact E.new k es o
  · rcases own_ne k es (.inr o) with ⟨z, e, hl⟩ | ⟨z, _⟩
    · subst z
      rw [List.getElem?_set_self hl] at o; cases o
    · rw [List.getElem?_set_ne (Ne.symm z)] at o ⊢
      exact E.par k es o
  · have z : k ≠ i := fun z => by
      subst z
      by_cases hl : k < Γ.length
      · rw [List.getElem?_set_self hl] at o; cases o
      · rw [List.getElem?_eq_none (by simpa using hl)] at o; cases o
    rw [List.getElem?_set_ne (Ne.symm z)] at o ⊢
    exact E.scr k es o
  · rcases own_ne k es o1 with ⟨z1, e1, l1⟩ | ⟨z1, o4⟩
    · rcases own_ne m fs o2 with ⟨z2, e2, l2⟩ | ⟨z2, o3⟩
      · exact z1.trans z2.symm
      · exfalso
        subst z1
        rw [List.getElem?_set_self (by rw [E.len]; exact l1)] at h1
        cases h1
        rw [List.getElem?_set_ne (Ne.symm z2)] at h2
        exact ho m fs o3 h2
    · rcases own_ne m fs o2 with ⟨z2, e2, l2⟩ | ⟨z2, o3⟩
      · exfalso
        subst z2
        rw [List.getElem?_set_self (by rw [E.len]; exact l2)] at h2
        cases h2
        rw [List.getElem?_set_ne (Ne.symm z1)] at h1
        exact ho k es o4 h1
      · rw [List.getElem?_set_ne (Ne.symm z1)] at h1
        rw [List.getElem?_set_ne (Ne.symm z2)] at h2
        exact E.inj k m q es fs o4 o3 h1 h2
@[simp] def wAsg (i : Nat) (Wa : WE) : WS := fun D Γ => Wa Γ fun d Γ1 => D.nx (Γ1.set i (.dat d))
theorem rs_asg {t : TE} {i : Nat} (r : RE K t Wa) : RS K Wx (tAsg t (gName i)) (wAsg i Wa) := by
  intro B Γ σ H G D D' E w l
  exact r B Γ σ H G _ _ E w fun v H1 G1 d Γ1 E1 s1 k1 d1 w1 => l.nx _ H1 G1 _ (E1.setDat i d1) s1 w1
theorem ds_set {i : Nat} {x : Str} {pos' : Pos} (hN : X.N.Nodup) (hi : X.N[i]? = some x) (hx : Loc X.env.scope x) (h : DE X e Wa) (hs : swapsWith e (some (.Name x pos')) pos.line X.env = pure false := by rfl) (hf : X.fn x = true ∨ X.env.scope.names.lookup x = some .local := by first | exact .inl rfl | exact .inr rfl | assumption) :
    DS X (.Assign [.Name x pos'] e pos) (wAsg i Wa) := by
  obtain ⟨t, p, r⟩ := h.ex
  exact ⟨_, ps_set hN hi hx p hs hf, rs_asg r⟩
@[simp] def wAsgL (i : Nat) (Wr : WA) : WS := fun D Γ => Wr Γ fun ds Γ1 => D.nx (Γ1.set i (.own ds))
theorem rs_asgL {t : TE} {i : Nat} (r : RN K t Wr) : RS K Wx (tAsg t (gName i)) (wAsgL i Wr) := by
  intro B Γ σ H G D D' E w l
  exact r B Γ σ H G _ _ E w fun p vs H1 G1 ds Γ1 E1 s1 k1 g1 h1 d1 b1 n1 o1 w1 => l.nx _ H1 G1 _ (E1.setOwnNew i g1 h1 d1 b1 n1 o1) s1 w1
theorem ds_setL {i : Nat} {x : Str} {pos' : Pos} (hN : X.N.Nodup) (hi : X.N[i]? = some x) (hx : Loc X.env.scope x) (h : DN X e Wr) (hs : swapsWith e (some (.Name x pos')) pos.line X.env = pure false := by rfl) (hf : X.fn x = true ∨ X.env.scope.names.lookup x = some .local := by first | exact .inl rfl | exact .inr rfl | assumption) :
    DS X (.Assign [.Name x pos'] e pos) (wAsgL i Wr) := by
  obtain ⟨t, p, r⟩ := h.ex
  exact ⟨_, ps_set hN hi hx p hs hf, rs_asgL r⟩
/-- x += e, ints -/
@[simp] def wAug (i : Nat) (g : Int → Int → Int) (Wa : WE) : WS := fun D Γ => match Γ[i]? with
  | some (.dat (.int a)) => Wa Γ fun d Γ1 => match d with
    | .int b => D.nx (Γ1.set i (.dat (.int (g a b))))
    | _ => False
  | _ => False
theorem ds_aug {i : Nat} {x : Str} {op : Operator} {g : Int → Int → Int} {pos' : Pos} (hN : X.N.Nodup) (hi : X.N[i]? = some x) (hx : Loc X.env.scope x) (h : DE X e Wa) (ho : PIp X op (ipI g)) (hf : X.fn x = true ∨ X.env.scope.names.lookup x = some .local := by first | exact .inl rfl | exact .inr rfl | assumption) :
    DS X (.AugAssign (.Name x pos') op e pos) (wAug i g Wa) := by
  obtain ⟨t, p, r⟩ := h.ex
  refine ⟨_, ps_aug hN hi hx p ho hf, ?_⟩
  intro B Γ σ H G D D' E w l
  unfold wAug at w
  split at w
  · rename_i a q
    obtain ⟨v, h1, h2⟩ := E.dat i _ q
    cases h2
    refine ⟨_, h1, ?_⟩
    refine r B Γ σ H G _ _ E w fun v H1 G1 d Γ1 E1 s1 k1 d1 w1 => ?_
    cases d1 with
    | int b => exact ⟨a, b, rfl, rfl, l.nx _ H1 G1 _ (E1.setDat i (.int _)) s1 w1⟩
    | _ => exact w1.elim
  · exact w.elim
/-- xs.append(e) -/
@[simp] def wApp (j : Nat) (Wa : WE) : WS := fun D Γ => (ownAt Γ j).isSome = true ∧ Wa Γ fun d Γ1 => match ownAt Γ1 j with
  | some ds => ds.length < sizeLine ∧ D.nx (setOwn Γ1 j (ds ++ [d]))
  | none => False
theorem ds_app (j : Nat) {x : Str} {p apos cpos : Pos} {t0 : TE} (h : PE X (.Name x p) (tVar j)) (he : DE X e Wa)
    (hb : ∀ {t : TE}, PE X e t → PE X (.Call (.Attribute (.Name x p) "append" apos) [e] [] cpos) (tBM X.K "list" rAppend (tVar j) (tCons t tNil))) (hs : swapsWith (.Call (.Attribute (.Name x p) "append" apos) [e] [] cpos) none pos.line X.env = pure false := by rfl) :
    DS X (.Expr (.Call (.Attribute (.Name x p) "append" apos) [e] [] cpos) pos) (wApp j Wa) := by
  obtain ⟨t, pe, r⟩ := he.ex
  refine ⟨_, ps_expr (hb pe) hs, ?_⟩
  intro B Γ σ H G D D' E w l
  obtain ⟨w0, w⟩ := w
  cases q : ownAt Γ j with
  | none => rw [q] at w0; cases w0
  | some ds0 =>
    obtain ⟨p, vs, h1, h2, h3, h4, h5⟩ := E.mine j ds0 (own_of q)
    refine ⟨_, h1, .inl ⟨rfl, vs, SqL.of h3⟩, ?_⟩
    refine r B Γ σ H G _ _ E w fun v H1 G1 d Γ1 E1 s1 k1 d1 w1 => ?_
    cases q1 : ownAt Γ1 j with
    | none => rw [q1] at w1; exact w1.elim
    | some ds =>
      rw [q1] at w1
      obtain ⟨p', vs', g1, g2, g3, g4, g5⟩ := E1.mine j ds (own_of q1)
      rw [h1] at g1
      cases g1
      refine ⟨p, vs', v, rfl, rfl, g3, by rw [g4.length]; exact w1.1, ?_⟩
      exact l.nx σ _ G1 _ (E1.wrote (own_of q1) h1 (g4.app (.cons d1 .nil))) s1 w1.2
/-- xs[i] = e -/
@[simp] def wSetI (j : Nat) (Wi We : WE) : WS := fun D Γ => We Γ fun d Γ1 => (ownAt Γ1 j).isSome = true ∧ Wi Γ1 fun i Γ2 => match i, ownAt Γ2 j with
  | .int i, some ds => optD (ixN ds.length i) fun k => D.nx (setOwn Γ2 j (ds.set k d))
  | _, _ => False
theorem ds_setI (j : Nat) {x : Str} {p tpos : Pos} (h : PE X (.Name x p) (tVar j)) (hi : DE X a Wa) (he : DE X e Wb)
    (ha : ∀ v, assign (.Subscript (.Name x p) a tpos) X.env v = (do
      let ov ← holding [v] (eval (.Name x p) X.env)
      let iv ← holding [v, ov] (eval a X.env)
      standAt tpos
      holding [v, ov, iv] (setItem ov iv v)
      release [v, ov, iv] []) := by intro _; rfl) (hs : swapsWithSole [.Subscript (.Name x p) a tpos] e pos.line X.env = pure false := by rfl) (hw : swappedStores [.Subscript (.Name x p) a tpos] e X.env = pure none := by rfl)
    (h1 : (assignEach [.Subscript (.Name x p) a tpos] X.env).map (·.2) = [assign (.Subscript (.Name x p) a tpos) X.env] := by rfl) :
    DS X (.Assign [.Subscript (.Name x p) a tpos] e pos) (wSetI j Wa Wb) := by
  obtain ⟨ti, pi, ri⟩ := hi.ex
  obtain ⟨te, pe, re⟩ := he.ex
  refine ⟨_, ps_asg pe (pg_sub h pi set_list ha) hs hw h1, ?_⟩
  intro B Γ σ H G D D' E w l
  refine re B Γ σ H G _ _ E w fun v H1 G1 d Γ1 E1 s1 k1 d1 w1 => ?_
  obtain ⟨w0, w1⟩ := w1
  cases q : ownAt Γ1 j with
  | none => rw [q] at w0; cases w0
  | some ds0 =>
    obtain ⟨p, vs, h1, h2, h3, h4, h5⟩ := E1.mine j ds0 (own_of q)
    refine ⟨_, h1, ?_⟩
    refine ri B Γ1 σ H1 G1 _ _ E1 w1 fun u H2 G2 i Γ2 E2 s2 k2 d2 w2 => ?_
    cases d2 with
    | int i =>
      cases q1 : ownAt Γ2 j with
      | none =>
        simp only [q1] at w2
      | some ds =>
        simp only [q1] at w2
        obtain ⟨k, hk, w3⟩ := w2
        obtain ⟨p', vs', g1, g2, g3, g4, g5⟩ := E2.mine j ds (own_of q1)
        rw [h1] at g1
        cases g1
        refine ⟨p, vs', i, k, rfl, rfl, g3, by rw [g4.length]; exact hk, ?_⟩
        exact l.nx σ _ G2 _ (E2.wrote (own_of q1) h1 (g4.set k (d1.mono s2))) (s1.trans s2) w3
    | _ => exact w2.elim
end
end DL

namespace DL
open PySem PySem.Spec PyProof.Rows L2
section
variable {X : Cx} {K : PySem.W.Frag} {a b c e : Expr} {es : List Expr} {Wa Wb Wc : WE} {Wr : WA} {pos : Pos} {WT' : WT}
/-! ## calls -/
inductive OpsV (K : PySem.W.Frag) (σ : L2.St) (G : Hp) : List V → List Opd → Prop
  | nil : OpsV K σ G [] []
  | cons {v : V} {vs : List V} {o : Opd} {os : List Opd} : OpV K σ G v o → OpsV K σ G vs os → OpsV K σ G (v :: vs) (o :: os)
theorem OpsV.mono {σ : L2.St} {G G' : Hp} (s : Same G G') : ∀ {vs : List V} {os : List Opd}, OpsV K σ G vs os → OpsV K σ G' vs os
  | _, _, .nil => .nil
  | _, _, .cons h t => .cons (h.mono s) (OpsV.mono s t)
theorem OpsV.length {σ : L2.St} {G : Hp} : ∀ {vs : List V} {os : List Opd}, OpsV K σ G vs os → vs.length = os.length
  | _, _, .nil => rfl
  | _, _, .cons _ t => congrArg Nat.succ (OpsV.length t)
theorem OpsV.get {σ : L2.St} {G : Hp} : ∀ {vs : List V} {os : List Opd} {i : Nat} {o : Opd}, OpsV K σ G vs os → os[i]? = some o → ∃ v, vs[i]? = some v ∧ OpV K σ G v o
  | _, _, _, _, .nil, h => by simp at h
  | _, _, 0, _, .cons (v := v) h t, e => by
    simp at e; subst e; exact ⟨v, by simp, h⟩
  | _, _, i + 1, _, .cons h t, e => by
    obtain ⟨v, h1, h2⟩ := OpsV.get (i := i) t (by simpa using e)
    exact ⟨v, by simpa using h1, h2⟩
abbrev WPA := Gam → (List Opd → Gam → Prop) → Prop
def RPA (K : PySem.W.Frag) (t : TA) (W : WPA) : Prop :=
  ∀ (B : Bs) (Γ : Gam) (σ : L2.St) (H G : Hp) (Q : List Opd → Gam → Prop) (Q' : List V → Hp → Prop), En K B σ H G Γ → W Γ Q →
    (∀ vs H' G' os Γ', En K B σ H' G' Γ' → Same G G' → KS Γ Γ' → OpsV K σ G' vs os → Q os Γ' → Q' vs H') → t σ H Q'
structure DPA (X : Cx) (es : List Expr) (W : WPA) : Prop where
  ex : ∃ t, PA X es t ∧ RPA X.K t W
@[simp] def wPNil : WPA := fun Γ Q => Q [] Γ
@[simp] def wPCons (Wo : WP) (Wr : WPA) : WPA := fun Γ Q => Wo Γ fun o Γ1 => Wr Γ1 fun os Γ2 => Q (o :: os) Γ2
theorem dpa_nil : DPA X [] wPNil := ⟨_, pa_nil, by
  intro B Γ σ H G Q Q' E w k
  exact k [] H G [] Γ E (Same.refl _) (KS.refl _) .nil w⟩
theorem dpa_cons {Wo : WP} {Wr : WPA} (h : DP X e Wo) (h' : DPA X es Wr) (hs : starEach (e :: es) X.env = (false, eval e X.env) :: starEach es X.env := by rfl) : DPA X (e :: es) (wPCons Wo Wr) := by
  obtain ⟨t, p, r⟩ := h.ex
  obtain ⟨t', p', r'⟩ := h'.ex
  refine ⟨_, pa_cons p p' hs, ?_⟩
  intro B Γ σ H G Q Q' E w k
  refine r B Γ σ H G _ _ E w fun v H1 G1 o Γ1 E1 s1 k1 o1 w1 => ?_
  refine r' B Γ1 σ H1 G1 _ _ E1 w1 fun vs H2 G2 os Γ2 E2 s2 k2 o2 w2 => ?_
  exact k (v :: vs) H2 G2 (o :: os) Γ2 E2 (s1.trans s2) (k1.trans k2) (.cons (o1.mono s2) o2) w2
@[simp] def argsOf (Γ : Gam) : List Opd → Option (List Sl)
  | [] => some []
  | .dat d :: os => match argsOf Γ os with
    | some r => some (.dat d :: r)
    | none => none
  | .var j :: os => match Γ[j]? with
    | some (.own ds) => (match argsOf Γ os with
      | some r => some (.par ds :: r)
      | none => none)
    | some (.par ds) => (match argsOf Γ os with
      | some r => some (.par ds :: r)
      | none => none)
    | some (.scr ds) => (match argsOf Γ os with
      | some r => some (.scr ds :: r)
      | none => none)
    | _ => none
@[simp] def putB (Γ : Gam) : List Opd → List Sl → Gam
  | .var j :: os, .par ds :: as => putB (setOwn Γ j ds) os as
  | _ :: os, _ :: as => putB Γ os as
  | _, _ => Γ
@[simp] def varsOf : List Opd → List Nat
  | [] => []
  | .dat _ :: os => varsOf os
  | .var j :: os => j :: varsOf os
theorem mem_varsOf : ∀ {os : List Opd} {i j : Nat}, os[i]? = some (Opd.var j) → j ∈ varsOf os
  | [], _, _, h => by simp at h
  | .dat _ :: os, 0, _, h => by simp at h
  | .var k :: os, 0, _, h => by
    simp at h; subst h; exact List.mem_cons_self
  | .dat _ :: os, i + 1, _, h => mem_varsOf (os := os) (i := i) (by simpa using h)
  | .var k :: os, i + 1, _, h => List.mem_cons_of_mem _ (mem_varsOf (os := os) (i := i) (by simpa using h))
theorem vars_inj : ∀ {os : List Opd} {i k j : Nat}, (varsOf os).Nodup → os[i]? = some (Opd.var j) → os[k]? = some (Opd.var j) → i = k
  | [], _, _, _, _, h, _ => by simp at h
  | .dat _ :: os, 0, _, _, _, h, _ => by simp at h
  | .dat _ :: os, _ + 1, 0, _, _, _, h => by simp at h
  | .dat _ :: os, i + 1, k + 1, _, n, h, h' => congrArg Nat.succ (vars_inj (os := os) n (by simpa using h) (by simpa using h'))
  | .var _ :: os, 0, 0, _, _, _, _ => rfl
  | .var m :: os, 0, k + 1, _, n, h, h' => by
    simp at h; subst h
    exact absurd (mem_varsOf (os := os) (i := k) (by simpa using h')) (List.nodup_cons.mp n).1
  | .var m :: os, i + 1, 0, _, n, h, h' => by
    simp at h'; subst h'
    exact absurd (mem_varsOf (os := os) (i := i) (by simpa using h)) (List.nodup_cons.mp n).1
  | .var m :: os, i + 1, k + 1, _, n, h, h' => congrArg Nat.succ (vars_inj (os := os) (List.nodup_cons.mp n).2 (by simpa using h) (by simpa using h'))
theorem argsOf_at {Γ : Gam} : ∀ {os : List Opd} {as : List Sl}, argsOf Γ os = some as → os.length = as.length ∧ ∀ (i : Nat) s, as[i]? = some s → (∃ d, s = .dat d ∧ os[i]? = some (Opd.dat d)) ∨ (∃ ds j, s = .par ds ∧ os[i]? = some (Opd.var j) ∧ Own Γ j ds) ∨ ∃ ds j, s = .scr ds ∧ os[i]? = some (Opd.var j) ∧ Γ[j]? = some (Sl.scr ds)
  | [], as, h => by
    cases h
    exact ⟨rfl, fun i s e => by simp at e⟩
  | .dat d :: os, as, h => by
    unfold argsOf at h
    cases q : argsOf Γ os with
    | none => rw [q] at h; cases h
    | some r =>
      rw [q] at h
      cases h
      obtain ⟨l, at'⟩ := argsOf_at q
      refine ⟨congrArg Nat.succ l, fun i s e => ?_⟩
      cases i with
      | zero => simp at e; subst e; exact .inl ⟨d, rfl, by simp⟩
      | succ i => simpa using at' i s (by simpa using e)
  | .var j :: os, as, h => by
    unfold argsOf at h
    have key : ∀ s0 : Sl, ((∃ ds, s0 = .par ds ∧ Own Γ j ds) ∨ ∃ ds, s0 = .scr ds ∧ Γ[j]? = some (Sl.scr ds)) → (match argsOf Γ os with
      | some r => some (s0 :: r)
      | none => none) = some as → (Opd.var j :: os).length = as.length ∧ ∀ (i : Nat) s, as[i]? = some s → (∃ d, s = .dat d ∧ (Opd.var j :: os)[i]? = some (Opd.dat d)) ∨ (∃ ds k, s = .par ds ∧ (Opd.var j :: os)[i]? = some (Opd.var k) ∧ Own Γ k ds) ∨ ∃ ds k, s = .scr ds ∧ (Opd.var j :: os)[i]? = some (Opd.var k) ∧ Γ[k]? = some (Sl.scr ds) := by
      intro s0 hs h
      cases q : argsOf Γ os with
      | none => simp only [q] at h; cases h
      | some r =>
        simp only [q] at h
        cases h
        obtain ⟨l, at'⟩ := argsOf_at q
        refine ⟨congrArg Nat.succ l, fun i s e => ?_⟩
        cases i with
        | zero =>
          simp at e
          subst e
          rcases hs with ⟨ds, e, o⟩ | ⟨ds, e, o⟩
          · exact .inr (.inl ⟨ds, j, e, by simp, o⟩)
          · exact .inr (.inr ⟨ds, j, e, by simp, o⟩)
        | succ i => simpa using at' i s (by simpa using e)
    split at h
    · rename_i ds q1; exact key (.par ds) (.inl ⟨ds, rfl, .inl q1⟩) h
    · rename_i ds q1; exact key (.par ds) (.inl ⟨ds, rfl, .inr q1⟩) h
    · rename_i ds q1; exact key (.scr ds) (.inr ⟨ds, rfl, q1⟩) h
    · cases h
theorem putB_KS : ∀ {os : List Opd} {as : List Sl} {Γ : Gam}, KS Γ (putB Γ os as)
  | .var j :: os, .par ds :: as, Γ => setOwn_KS.trans (putB_KS (os := os) (as := as))
  | .dat _ :: os, _ :: as, Γ => putB_KS (os := os) (as := as)
  | .var j :: os, .un :: as, Γ => putB_KS (os := os) (as := as)
  | .var j :: os, .dat _ :: as, Γ => putB_KS (os := os) (as := as)
  | .var j :: os, .own _ :: as, Γ => putB_KS (os := os) (as := as)
  | .var j :: os, .scr _ :: as, Γ => putB_KS (os := os) (as := as)
  | [], _, Γ => by unfold putB; exact KS.refl _
  | .dat _ :: os, [], Γ => by unfold putB; exact KS.refl _
  | .var _ :: os, [], Γ => by unfold putB; exact KS.refl _
theorem putB_own : ∀ {os : List Opd} {as : List Sl} {Γ : Gam} {i : Nat} {es : List PyData}, Own (putB Γ os as) i es →
    (∃ k : Nat, os[k]? = some (Opd.var i) ∧ as[k]? = some (Sl.par es)) ∨ (Own Γ i es ∧ ∀ (k : Nat) ds, os[k]? = some (Opd.var i) → as[k]? ≠ some (Sl.par ds))
  | [], as, Γ, i, es, h => by
    unfold putB at h
    exact .inr ⟨h, fun k ds e => by simp at e⟩
  | .dat _ :: os, [], Γ, i, es, h => by
    unfold putB at h
    exact .inr ⟨h, fun k ds e e' => by simp at e'⟩
  | .var _ :: os, [], Γ, i, es, h => by
    unfold putB at h
    exact .inr ⟨h, fun k ds e e' => by simp at e'⟩
  | .dat d :: os, s :: as, Γ, i, es, h => by
    rcases putB_own (os := os) (as := as) (Γ := Γ) (by simpa [putB] using h) with ⟨k, h1, h2⟩ | ⟨h1, h2⟩
    · exact .inl ⟨k + 1, by simpa using h1, by simpa using h2⟩
    · refine .inr ⟨h1, fun k ds e => ?_⟩
      cases k with
      | zero => simp at e
      | succ k => simpa using h2 k ds (by simpa using e)
  | .var j :: os, .par ds :: as, Γ, i, es, h => by
    rcases putB_own (os := os) (as := as) (Γ := setOwn Γ j ds) (by simpa [putB] using h) with ⟨k, h1, h2⟩ | ⟨h1, h2⟩
    · exact .inl ⟨k + 1, by simpa using h1, by simpa using h2⟩
    · by_cases e : i = j
      · subst e
        have : es = ds := by
          rcases h1 with h1 | h1
          · obtain ⟨x, hx⟩ := (setOwn_KS (Γ := Γ) (j := i) (ds := ds)).ownB h1
            rw [setOwn_own hx] at h1; cases h1; rfl
          · obtain ⟨x, hx⟩ := (setOwn_KS (Γ := Γ) (j := i) (ds := ds)).parB h1
            rw [setOwn_par hx] at h1; cases h1; rfl
        subst this
        exact .inl ⟨0, by simp, by simp⟩
      · refine .inr ⟨?_, fun k ds' e' => ?_⟩
        · unfold Own at h1 ⊢
          rwa [setOwn_ne e] at h1
        · cases k with
          | zero => simp at e'; exact absurd e'.symm e
          | succ k => simpa using h2 k ds' (by simpa using e')
  | .var j :: os, .un :: as, Γ, i, es, h => by
    rcases putB_own (os := os) (as := as) (Γ := Γ) (by simpa [putB] using h) with ⟨k, h1, h2⟩ | ⟨h1, h2⟩
    · exact .inl ⟨k + 1, by simpa using h1, by simpa using h2⟩
    · refine .inr ⟨h1, fun k ds e => ?_⟩
      cases k with
      | zero => simp
      | succ k => simpa using h2 k ds (by simpa using e)
  | .var j :: os, .dat _ :: as, Γ, i, es, h => by
    rcases putB_own (os := os) (as := as) (Γ := Γ) (by simpa [putB] using h) with ⟨k, h1, h2⟩ | ⟨h1, h2⟩
    · exact .inl ⟨k + 1, by simpa using h1, by simpa using h2⟩
    · refine .inr ⟨h1, fun k ds e => ?_⟩
      cases k with
      | zero => simp
      | succ k => simpa using h2 k ds (by simpa using e)
  | .var j :: os, .own _ :: as, Γ, i, es, h => by
    rcases putB_own (os := os) (as := as) (Γ := Γ) (by simpa [putB] using h) with ⟨k, h1, h2⟩ | ⟨h1, h2⟩
    · exact .inl ⟨k + 1, by simpa using h1, by simpa using h2⟩
    · refine .inr ⟨h1, fun k ds e => ?_⟩
      cases k with
      | zero => simp
      | succ k => simpa using h2 k ds (by simpa using e)
  | .var j :: os, .scr _ :: as, Γ, i, es, h => by
    rcases putB_own (os := os) (as := as) (Γ := Γ) (by simpa [putB] using h) with ⟨k, h1, h2⟩ | ⟨h1, h2⟩
    · exact .inl ⟨k + 1, by simpa using h1, by simpa using h2⟩
    · refine .inr ⟨h1, fun k ds e => ?_⟩
      cases k with
      | zero => simp
      | succ k => simpa using h2 k ds (by simpa using e)
theorem KS.parF {Γ Γ' : Gam} (h : KS Γ Γ') {i : Nat} {ds : List PyData} (o : Γ[i]? = some (Sl.par ds)) : ∃ es, Γ'[i]? = some (Sl.par es) := by
  have li : i < Γ'.length := by
    have := (List.getElem?_eq_some_iff.mp o).1
    rw [← h.len]; exact this
  have hy : Γ'[i]? = some Γ'[i] := List.getElem?_eq_getElem li
  have k := h.at' i _ _ o hy
  cases e : Γ'[i] with
  | par es => exact ⟨es, by rw [hy, e]⟩
  | un => rw [e] at k; exact k.elim
  | dat _ => rw [e] at k; exact k.elim
  | own _ => rw [e] at k; exact k.elim
  | scr _ => rw [e] at k; exact k.elim
theorem KS.scrB {Γ Γ' : Gam} (h : KS Γ Γ') {i : Nat} {d : List PyData} (o : Γ'[i]? = some (Sl.scr d)) : Γ[i]? = some (Sl.scr d) := by
  have li : i < Γ.length := by
    have := (List.getElem?_eq_some_iff.mp o).1
    rw [h.len]; exact this
  have hy : Γ[i]? = some Γ[i] := List.getElem?_eq_getElem li
  have k := h.at' i _ _ hy o
  cases e : Γ[i] with
  | scr d' => rw [e] at k; have k : d' = d := k; rw [hy, e, k]
  | un => rw [e] at k; exact k.elim
  | par _ => rw [e] at k; exact k.elim
  | own _ => rw [e] at k; exact k.elim
  | dat _ => rw [e] at k; exact k.elim
theorem KS.datB {Γ Γ' : Gam} (h : KS Γ Γ') {i : Nat} {d : PyData} (o : Γ'[i]? = some (Sl.dat d)) : Γ[i]? = some (Sl.dat d) := by
  have li : i < Γ.length := by
    have := (List.getElem?_eq_some_iff.mp o).1
    rw [h.len]; exact this
  have hy : Γ[i]? = some Γ[i] := List.getElem?_eq_getElem li
  have k := h.at' i _ _ hy o
  cases e : Γ[i] with
  | dat d' => rw [e] at k; have k : d' = d := k; rw [hy, e, k]
  | un => rw [e] at k; exact k.elim
  | par _ => rw [e] at k; exact k.elim
  | own _ => rw [e] at k; exact k.elim
  | scr _ => rw [e] at k; exact k.elim
/-- the frame behind a call -/
theorem En.called {B : Bs} {σ : L2.St} {H G H' G' : Hp} {Γ : Gam} {os : List Opd} {vs : List V} {as as' : List Sl} {v : V} {r : Rs} (E : En K B σ H G Γ) (ho : OpsV K σ G vs os) (ha : argsOf Γ os = some as) (hn : (varsOf os).Nodup)
    (Po : PostV K G H vs as G' H' as' v r) : En K B σ H' G' (putB Γ os as') := by
  obtain ⟨hl, hat⟩ := argsOf_at ha
  have ks : KS Γ (putB Γ os as') := putB_KS
  -- an argument that is one's own list stands in its slot
  have arg : ∀ (k : Nat) ds p, as[k]? = some (Sl.par ds) → vs[k]? = some (V.ref p) → ∃ j, os[k]? = some (Opd.var j) ∧ Own Γ j ds ∧ σ[j]? = some (some (V.ref p)) := fun k ds p h1 h2 => by
    rcases hat k _ h1 with ⟨d, e, _⟩ | ⟨ds', j, e, h3, h4⟩ | ⟨_, _, e, _⟩
    · cases e
    · cases e
      obtain ⟨u, h5, h6⟩ := ho.get h3
      rw [h2] at h5
      cases h5
      exact ⟨j, h3, h4, h6⟩
    · cases e
  have keep : ∀ q o, H q = some o → (∀ (i : Nat) ds, Own Γ i ds → σ[i]? = some (some (V.ref q)) → ∀ k : Nat, os[k]? ≠ some (Opd.var i)) → H' q = some o := fun q o h h' => by
    refine Po.keep q o h fun k ds h1 h2 => ?_
    obtain ⟨j, h3, h4, h5⟩ := arg k ds q h1 h2
    exact h' j ds h4 h5 k h3
  refine ⟨by rw [← ks.len]; exact E.len, Po.gh, E.g0.trans Po.gg, fun q o h hP => ?_, fun q h => Po.alloc q (E.bh q h), fun q h h' => Po.free q (E.bh q h) (E.f0 q h h'), fun q h => E.nn q ?_, fun i d h => ?_, fun i es ow => ?_, fun i es ow => ?_, fun i es ow => ?_, fun i es ow => E.scrG Po.gg i es (ks.scrB ow), fun i j p ds es o1 o2 h1 h2 => ?_⟩
  · refine keep q o (E.h0 q o h hP) fun i ds ow hs k _ => ?_
    obtain ⟨p, us, g1, g2, g3, g4, g5⟩ := E.mine i ds ow
    rw [hs] at g1
    cases g1
    rcases g5 with g5 | g5
    · exact hP g5
    · rw [h] at g5; cases g5
  · cases q1 : H q with
    | none => rfl
    | some u => exact absurd h (Po.alloc q (by rw [q1]; exact fun z => by cases z))
  · obtain ⟨u, h1, h2⟩ := E.dat i d (ks.datB h)
    exact ⟨u, h1, h2.mono Po.gg⟩
  · obtain ⟨es0, o0⟩ := ks.mineB ow
    obtain ⟨p, us, g1, g2, g3, g4, g5⟩ := E.mine i es0 o0
    have gp : G' p = none := Po.free p (by rw [g3]; exact fun z => by cases z) g2
    rcases putB_own ow with ⟨k, h1, h2⟩ | ⟨h1, h2⟩
    · obtain ⟨p', us', h3, h4, h5⟩ := Po.par k es h2
      obtain ⟨u, h6, h7⟩ := ho.get h1
      have h7 : σ[i]? = some (some u) := h7
      rw [h3] at h6
      cases h6
      rw [g1] at h7
      cases h7
      exact ⟨p, us', g1, gp, h4, h5, g5⟩
    · obtain ⟨p2, us2, f1, f2, f3, f4, f5⟩ := E.mine i es h1
      rw [g1] at f1
      cases f1
      refine ⟨p, us2, g1, gp, keep p _ f3 fun j ds oj hj k hk => ?_, f4.mono Po.gg, g5⟩
      have e := E.inj j i p ds es0 oj o0 hj g1
      subst e
      -- os[k] is this slot; then as'[k] is a list
      have lk : k < as.length := by
        have := (List.getElem?_eq_some_iff.mp hk).1
        omega
      have hk2 : as[k]? = some as[k] := List.getElem?_eq_getElem lk
      rcases hat k _ hk2 with ⟨d, e1, e2⟩ | ⟨ds', j', e1, e2, e3⟩ | ⟨ds', j', e1, e2, e3⟩
      · rw [hk] at e2; cases e2
      · rw [e1] at hk2
        obtain ⟨es', h8⟩ := Po.ks.parF hk2
        exact h2 k es' hk h8
      · rw [hk] at e2
        cases e2
        rcases o0 with o0 | o0 <;> (rw [e3] at o0; cases o0)
  · obtain ⟨es0, o0⟩ := ks.ownB ow
    exact E.new i es0 o0
  · obtain ⟨es0, o0⟩ := ks.parB ow
    exact E.par i es0 o0
  · obtain ⟨x, w1⟩ := ks.mineB o1
    obtain ⟨y, w2⟩ := ks.mineB o2
    exact E.inj i j p x y w1 w2 h1 h2
theorem argsV_of {B : Bs} {σ : L2.St} {H G : Hp} {Γ : Gam} {os : List Opd} {vs : List V} {as : List Sl} (E : En K B σ H G Γ) (ho : OpsV K σ G vs os) (ha : argsOf Γ os = some as) (hn : (varsOf os).Nodup) : ArgsV K G H vs as := by
  obtain ⟨hl, hat⟩ := argsOf_at ha
  have arg : ∀ (k : Nat) ds, as[k]? = some (Sl.par ds) → ∃ j p, os[k]? = some (Opd.var j) ∧ Own Γ j ds ∧ vs[k]? = some (V.ref p) ∧ σ[j]? = some (some (V.ref p)) := fun k ds h1 => by
    rcases hat k _ h1 with ⟨d, e, _⟩ | ⟨ds', j, e, h3, h4⟩ | ⟨_, _, e, _⟩
    · cases e
    · cases e
      obtain ⟨u, h5, h6⟩ := ho.get h3
      obtain ⟨p, us, g1, _⟩ := E.mine j ds h4
      have h6 : σ[j]? = some (some u) := h6
      rw [g1] at h6
      cases h6
      exact ⟨j, p, h3, h4, h5, g1⟩
    · cases e
  refine ⟨by rw [ho.length, hl], fun i d h => ?_, fun i ds h => ?_, fun i ds h => ?_, fun i s h => ?_, fun i j p ds es h1 h2 h3 h4 => ?_⟩
  · rcases hat i _ h with ⟨d', e, h1⟩ | ⟨_, _, e, _⟩ | ⟨_, _, e, _⟩
    · cases e
      obtain ⟨u, h2, h3⟩ := ho.get h1
      exact ⟨u, h2, h3⟩
    · cases e
    · cases e
  · obtain ⟨j, p, h1, h2, h3, h4⟩ := arg i ds h
    obtain ⟨p', us, g1, g2, g3, g4, g5⟩ := E.mine j ds h2
    rw [h4] at g1
    cases g1
    exact ⟨p, us, h3, g2, g3, g4⟩
  · rcases hat i _ h with ⟨_, e, _⟩ | ⟨_, _, e, _⟩ | ⟨ds', j, e, h1, h2⟩
    · cases e
    · cases e
    · cases e
      obtain ⟨p, us, g1, g2, g3⟩ := E.scr j ds h2
      obtain ⟨u, h3, h4⟩ := ho.get h1
      have h4 : σ[j]? = some (some u) := h4
      rw [g1] at h4
      cases h4
      exact ⟨p, us, h3, g2, g3⟩
  · rcases hat i _ h with ⟨d', e, h1⟩ | ⟨ds, _, e, _⟩ | ⟨ds, _, e, _⟩
    · exact .inl ⟨d', e⟩
    · exact .inr (.inl ⟨ds, e⟩)
    · exact .inr (.inr ⟨ds, e⟩)
  · obtain ⟨a, p1, h5, h6, h7, h8⟩ := arg i ds h1
    obtain ⟨b, p2, g5, g6, g7, g8⟩ := arg j es h2
    rw [h3] at h7
    cases h7
    rw [h4] at g7
    cases g7
    have e := E.inj a b p ds es h6 g6 h8 g8
    subst e
    exact vars_inj hn h5 g5
/-! a call whose result is data -/
@[simp] def wCall (S : PSp) (Wr : WPA) : WE := fun Γ Q => Wr Γ fun os Γ1 => match argsOf Γ1 os with
  | some as => (varsOf os).Nodup ∧ S as fun r as' => match r with
    | .dat d => Q d (putB Γ1 os as')
    | .new ds => Q (.list ds) (putB Γ1 os as')
  | none => False
theorem re_call {S : PSp} {E0' : XK} {t : TA} {Wr : WPA} (r : RPA K t Wr) : RE K (tCall (spS K S) [] E0' t) (wCall S Wr) := by
  intro B Γ σ H G Q Q' E w k
  refine r B Γ σ H G _ _ E w fun vs H1 G1 os Γ1 E1 s1 k1 o1 w1 => ?_
  cases q : argsOf Γ1 os with
  | none => rw [q] at w1; exact w1.elim
  | some as =>
    rw [q] at w1
    obtain ⟨hn, hS⟩ := w1
    show spS K S (vs ++ []) H1 Q' E0'
    rw [List.append_nil]
    refine ⟨G1, as, _, E1.gh, argsV_of E1 o1 q hn, hS, fun v G' H' as' r Po hR => ?_⟩
    have E2 := E1.called o1 q hn Po
    have k2 : KS Γ (putB Γ1 os as') := k1.trans putB_KS
    cases r with
    | dat d => exact k v H' G' d _ E2 (s1.trans Po.gg) k2 Po.res hR
    | new ds =>
      obtain ⟨p, us, rfl, h1, h2, h3, h4⟩ := Po.res
      have no : ∀ (i : Nat) es, Own (putB Γ1 os as') i es → σ[i]? ≠ some (some (V.ref p)) := fun i es ow z => by
        obtain ⟨es0, o0⟩ := (putB_KS (os := os) (as := as')).mineB ow
        obtain ⟨p', us', g1, g2, g3, _⟩ := E1.mine i es0 o0
        rw [z] at g1
        cases g1
        rw [h4] at g3
        cases g3
      exact k (.ref p) H' (upd G' p (.lst us)) (.list ds) _ (E2.freeze h2 h1 (E1.bnone h4) no) ((s1.trans Po.gg).trans (sameNew h1)) k2 (.lst upd_same (h3.mono (sameNew h1))) hR
theorem de_call {S : PSp} {k : Nat} {f : Addr} {fd : FuncData} {ps : List Str} {x : Str} {p : Pos} {Wr : WPA} (F : FnOk X.prog X.w X.K X.mg X.base CX0 k f fd ps (spS X.K S)) (hr : Room k X.A) (hg : Gl X x) (hm : X.mg x = some (.ref f)) (hk : PySem.W.keepIn X.K (.ref f) = true) (hb : Binds X.K fd ps [])
    (ha : DPA X (e :: es) Wr) (hdb : (x == ("__debug__" : Str)) = false := by decide) (he : starEach (e :: es) X.env = (false, eval e X.env) :: starEach es X.env := by rfl) (hpl : (backTo pos (starEach es X.env)).any (·.1) = false := by rfl) :
    DE X (.Call (.Name x p) (e :: es) [] pos) (wCall S Wr) := by
  obtain ⟨t, pa, ra⟩ := ha.ex
  exact ⟨_, pe_call (dvs := []) (E := E0) F hr hg hm hk hb .nil pass0 pa hdb he hpl, re_call ra⟩
theorem de_call0 {S : PSp} {k : Nat} {f : Addr} {fd : FuncData} {ps : List Str} {x : Str} {p : Pos} (F : FnOk X.prog X.w X.K X.mg X.base CX0 k f fd ps (spS X.K S)) (hr : Room k X.A) (hg : Gl X x) (hm : X.mg x = some (.ref f)) (hk : PySem.W.keepIn X.K (.ref f) = true) (hb : Binds X.K fd ps [])
    (hdb : (x == ("__debug__" : Str)) = false := by decide) : DE X (.Call (.Name x p) [] [] pos) (wCall S wPNil) := by
  refine ⟨_, pe_call0 (dvs := []) (E := E0) F hr hg hm hk hb .nil pass0 hdb, re_call ?_⟩
  intro B Γ σ H G Q Q' E w k
  exact k [] H G [] Γ E (Same.refl _) (KS.refl _) .nil w
/-! .. a new list -/
@[simp] def wCallL (S : PSp) (Wr : WPA) : WA := fun Γ Q => Wr Γ fun os Γ1 => match argsOf Γ1 os with
  | some as => (varsOf os).Nodup ∧ S as fun r as' => match r with
    | .new ds => Q ds (putB Γ1 os as')
    | .dat _ => False
  | none => False
theorem rn_call {S : PSp} {E0' : XK} {t : TA} {Wr : WPA} (r : RPA K t Wr) : RN K (tCall (spS K S) [] E0' t) (wCallL S Wr) := by
  intro B Γ σ H G Q Q' E w k
  refine r B Γ σ H G _ _ E w fun vs H1 G1 os Γ1 E1 s1 k1 o1 w1 => ?_
  cases q : argsOf Γ1 os with
  | none => rw [q] at w1; exact w1.elim
  | some as =>
    rw [q] at w1
    obtain ⟨hn, hS⟩ := w1
    show spS K S (vs ++ []) H1 Q' E0'
    rw [List.append_nil]
    refine ⟨G1, as, _, E1.gh, argsV_of E1 o1 q hn, hS, fun v G' H' as' r Po hR => ?_⟩
    have E2 := E1.called o1 q hn Po
    have k2 : KS Γ (putB Γ1 os as') := k1.trans putB_KS
    cases r with
    | dat d => exact hR.elim
    | new ds =>
      obtain ⟨p, us, rfl, h1, h2, h3, h4⟩ := Po.res
      have no : ∀ (i : Nat) es, Own (putB Γ1 os as') i es → σ[i]? ≠ some (some (V.ref p)) := fun i es ow z => by
        obtain ⟨es0, o0⟩ := (putB_KS (os := os) (as := as')).mineB ow
        obtain ⟨p', us', g1, g2, g3, _⟩ := E1.mine i es0 o0
        rw [z] at g1
        cases g1
        rw [h4] at g3
        cases g3
      exact k p us H' G' ds _ E2 (s1.trans Po.gg) k2 h1 h2 h3 (E1.bnone h4) (E1.nn p h4) no hR
theorem dn_call {S : PSp} {k : Nat} {f : Addr} {fd : FuncData} {ps : List Str} {x : Str} {p : Pos} {Wr : WPA} (F : FnOk X.prog X.w X.K X.mg X.base CX0 k f fd ps (spS X.K S)) (hr : Room k X.A) (hg : Gl X x) (hm : X.mg x = some (.ref f)) (hk : PySem.W.keepIn X.K (.ref f) = true) (hb : Binds X.K fd ps [])
    (ha : DPA X (e :: es) Wr) (hdb : (x == ("__debug__" : Str)) = false := by decide) (he : starEach (e :: es) X.env = (false, eval e X.env) :: starEach es X.env := by rfl) (hpl : (backTo pos (starEach es X.env)).any (·.1) = false := by rfl) :
    DN X (.Call (.Name x p) (e :: es) [] pos) (wCallL S Wr) := by
  obtain ⟨t, pa, ra⟩ := ha.ex
  exact ⟨_, pe_call (dvs := []) (E := E0) F hr hg hm hk hb .nil pass0 pa hdb he hpl, rn_call ra⟩
end
/-! ## a def keeps its promise -/
def startG (N : List Str) (as : List Sl) : Gam := as ++ List.replicate (N.length - as.length) .un
@[simp] def parO : List Sl → Gam → Option (List Sl)
  | [], _ => some []
  | .par _ :: as, .par ds :: Γ => match parO as Γ with
    | some r => some (.par ds :: r)
    | none => none
  | .dat d :: as, _ :: Γ => match parO as Γ with
    | some r => some (.dat d :: r)
    | none => none
  | .scr d :: as, _ :: Γ => match parO as Γ with
    | some r => some (.scr d :: r)
    | none => none
  | _, _ => none
theorem parO_at : ∀ {as : List Sl} {Γ : Gam} {as' : List Sl}, parO as Γ = some as' → as.length = as'.length ∧ (∀ (i : Nat) a b, as[i]? = some a → as'[i]? = some b → KS1 a b) ∧ ∀ (i : Nat) ds, as'[i]? = some (Sl.par ds) → Γ[i]? = some (Sl.par ds)
  | [], Γ, as', h => by
    unfold parO at h
    cases h
    exact ⟨rfl, fun i a b h => by simp at h, fun i ds h => by simp at h⟩
  | .par x :: as, .par ds :: Γ, as', h => by
    unfold parO at h
    cases q : parO as Γ with
    | none => rw [q] at h; cases h
    | some r =>
      rw [q] at h
      cases h
      obtain ⟨l, h1, h2⟩ := parO_at q
      refine ⟨congrArg Nat.succ l, fun i a b ha hb => ?_, fun i es he => ?_⟩
      · cases i with
        | zero => simp at ha hb; subst ha hb; trivial
        | succ i => exact h1 i a b (by simpa using ha) (by simpa using hb)
      · cases i with
        | zero => simp at he; subst he; simp
        | succ i => simpa using h2 i es (by simpa using he)
  | .dat d :: as, g :: Γ, as', h => by
    unfold parO at h
    cases q : parO as Γ with
    | none => rw [q] at h; cases h
    | some r =>
      rw [q] at h
      cases h
      obtain ⟨l, h1, h2⟩ := parO_at q
      refine ⟨congrArg Nat.succ l, fun i a b ha hb => ?_, fun i es he => ?_⟩
      · cases i with
        | zero => simp at ha hb; subst ha hb; rfl
        | succ i => exact h1 i a b (by simpa using ha) (by simpa using hb)
      · cases i with
        | zero => simp at he
        | succ i => simpa using h2 i es (by simpa using he)
  | .scr d :: as, g :: Γ, as', h => by
    unfold parO at h
    cases q : parO as Γ with
    | none => rw [q] at h; cases h
    | some r =>
      rw [q] at h
      cases h
      obtain ⟨l, h1, h2⟩ := parO_at q
      refine ⟨congrArg Nat.succ l, fun i a b ha hb => ?_, fun i es he => ?_⟩
      · cases i with
        | zero => simp at ha hb; subst ha hb; rfl
        | succ i => exact h1 i a b (by simpa using ha) (by simpa using hb)
      · cases i with
        | zero => simp at he
        | succ i => simpa using h2 i es (by simpa using he)
  | .un :: _, _, _, h => by unfold parO at h; cases h
  | .own _ :: _, _, _, h => by unfold parO at h; cases h
  | .par _ :: _, [], _, h => by unfold parO at h; cases h
  | .dat _ :: _, [], _, h => by unfold parO at h; cases h
  | .scr _ :: _, [], _, h => by unfold parO at h; cases h
  | .par _ :: _, .scr _ :: _, _, h => by unfold parO at h; cases h
  | .par _ :: _, .un :: _, _, h => by unfold parO at h; cases h
  | .par _ :: _, .dat _ :: _, _, h => by unfold parO at h; cases h
  | .par _ :: _, .own _ :: _, _, h => by unfold parO at h; cases h
section
variable {P : Program} {w : World} {K : PySem.W.Frag} {mg : Str → Option Value} {base : Heap}
theorem start_get {N : List Str} {vs : List V} {i : Nat} (h : i < vs.length) : (L2.start N vs)[i]? = (vs[i]?).map some := by
  unfold L2.start
  rw [List.getElem?_append_left (by simpa using h), List.getElem?_map]
theorem startG_get {N : List Str} {as : List Sl} {i : Nat} {s : Sl} (h : (startG N as)[i]? = some s) (hs : s ≠ .un) : as[i]? = some s := by
  unfold startG at h
  by_cases hi : i < as.length
  · rwa [List.getElem?_append_left hi] at h
  · rw [List.getElem?_append_right (by omega)] at h
    have := List.mem_of_getElem? h
    exact absurd (List.eq_of_mem_replicate this) hs
def addrAt : Option V → Addr
  | some (V.ref p) => p
  | _ => 0
def bsOf (H G : Hp) (vs : List V) (as : List Sl) : Bs := ⟨H, G, fun p => ∃ (i : Nat) (ds : List PyData), as[i]? = some (Sl.par ds) ∧ vs[i]? = some (V.ref p), fun q => H q = none, fun i => addrAt (vs[i]?)⟩
theorem en_start {N : List Str} {G H : Hp} {vs : List V} {as : List Sl} (gh : Same G H) (A : ArgsV K G H vs as) :
    En K (bsOf H G vs as) (L2.start N vs) H G (startG N as) := by
  have lt : ∀ {i : Nat} {s : Sl}, as[i]? = some s → i < vs.length := fun h => by
    have := (List.getElem?_eq_some_iff.mp h).1
    rw [A.len]; exact this
  have own_ : ∀ (i : Nat) ds, Own (startG N as) i ds → as[i]? = some (Sl.par ds) := fun i ds o => by
    rcases o with o | o
    · have h := startG_get o (fun z => by cases z)
      rcases A.kind i _ h with ⟨d, e⟩ | ⟨d, e⟩ | ⟨d, e⟩ <;> cases e
    · exact startG_get o (fun z => by cases z)
  refine ⟨?_, gh, Same.refl _, fun q o h _ => h, fun q h => h, fun q _ h => h, fun q h => h, fun i d h => ?_, fun i ds o => ?_, fun i ds o => ?_, fun i ds o => ?_, fun i ds o => ?_, fun i j p ds es o1 o2 h1 h2 => ?_⟩
  · unfold L2.start startG
    simp [A.len]
  · have h1 := startG_get h (fun z => by cases z)
    obtain ⟨v, h2, h3⟩ := A.dat i d h1
    exact ⟨v, by rw [start_get (lt h1), h2]; rfl, h3⟩
  · have h1 := own_ i ds o
    obtain ⟨p, us, h2, h3, h4, h5⟩ := A.par i ds h1
    exact ⟨p, us, by rw [start_get (lt h1), h2]; rfl, h3, h4, h5, .inl ⟨i, ds, h1, h2⟩⟩
  · have h := startG_get o (fun z => by cases z)
    rcases A.kind i _ h with ⟨d, e⟩ | ⟨d, e⟩ | ⟨d, e⟩ <;> cases e
  · have h1 := own_ i ds (.inr o)
    obtain ⟨p, us, h2, h3, h4, h5⟩ := A.par i ds h1
    rw [start_get (lt h1), h2]
    show _ = some (some (V.ref (addrAt (vs[i]?))))
    rw [h2]
    rfl
  · have h := startG_get o (fun z => by cases z)
    obtain ⟨p, us, h2, h3, h4⟩ := A.scr i ds h
    exact ⟨p, us, by rw [start_get (lt h), h2]; rfl, h3, h4⟩
  · have g1 := own_ i ds o1
    have g2 := own_ j es o2
    rw [start_get (lt g1)] at h1
    rw [start_get (lt g2)] at h2
    refine A.inj i j p ds es g1 g2 ?_ ?_
    · cases q : vs[i]? with
      | none => rw [q] at h1; cases h1
      | some v => rw [q] at h1; have h1 : some (some v) = some (some (V.ref p)) := h1; cases h1; rfl
    · cases q : vs[j]? with
      | none => rw [q] at h2; cases h2
      | some v => rw [q] at h2; have h2 : some (some v) = some (some (V.ref p)) := h2; cases h2; rfl
/-- the ends of a def's body -/
@[simp] def endsF (as : List Sl) (R : Rs → List Sl → Prop) : EndsD where
  nx := fun Γ => match parO as Γ with
    | some as' => R (.dat .none) as'
    | none => False
  rt := fun r Γ => match parO as Γ with
    | some as' => R r as'
    | none => False
theorem fn_ok {x qual : Str} {st : Stmt} {f : Addr} {fd : FuncData} {N ps : List Str} {k : Nat} {S : PSp} {W : WS} (F : Fun K x qual st f fd) (Sc : FnScope N ps (defScope st)) (len : ∀ as R, S as R → as.length = ps.length)
    (hbody : ∀ (cdv : Value) (A : Around) (outer : List Env) (s : Shared) (H : Hp) (E : XK), Room k (A.deeper (envOfC qual (defScope st) s.heap.objs.size f cdv)) →
      DSs (cxOf CX0 P w K mg base N qual (defScope st) f cdv A outer s H E).nox (defBody st) W)
    (hW : ∀ as R, S as R → W (endsF as R) (startG N as)) : FnOk P w K mg base CX0 (k + 1) f fd ps (spS K S) := by
  refine F.ok Sc (fun vs H Q E h => ?_) (fun cdv A outer s H vs Q E hr h => ?_)
  · obtain ⟨G, as, R, _, hA, hS, _⟩ := h
    rw [hA.len, len as R hS]
  · obtain ⟨t, p, r⟩ := (hbody cdv A outer s H E hr).ex
    refine ⟨t, p, ?_⟩
    obtain ⟨G, as, R, gh, hA, hS, hQ⟩ := h
    have E0 := en_start (N := N) gh hA
    have fin : ∀ (σ : L2.St) (v : V) (H' G' : Hp) (Γ : Gam) (r : Rs) (as' : List Sl), En K (bsOf H G vs as) σ H' G' Γ → Same G G' → VR K (fun q => H q = none) G' H' v r → parO as Γ = some as' → R r as' → Q v H' := by
      intro σ v H' G' Γ r as' E1 s1 vr hp hR
      obtain ⟨l, h1, h2⟩ := parO_at hp
      refine hQ v G' H' as' r ⟨s1, E1.gh, fun q o h hn => E1.h0 q o h fun ⟨i, ds, e1, e2⟩ => hn i ds e1 e2, fun q h => E1.bh q h, fun q h h' => E1.f0 q h h', ⟨l, h1⟩, fun i ds h => ?_, vr⟩ hR
      have h3 := h2 i ds h
      obtain ⟨p, us, g1, g2, g3, g4, g5⟩ := E1.mine i ds (.inr h3)
      have g6 := E1.par i ds h3
      rw [g1] at g6
      have g7 : p = addrAt (vs[i]?) := V.ref.inj (Option.some.inj (Option.some.inj g6))
      have li : i < as.length := by
        have := (List.getElem?_eq_some_iff.mp h).1
        omega
      have ha : as[i]? = some as[i] := List.getElem?_eq_getElem li
      have kk := h1 i _ _ ha h
      cases e : as[i] with
      | par es =>
        rw [e] at ha
        obtain ⟨p', us', q1, q2, q3, q4⟩ := hA.par i es ha
        rw [q1] at g7
        have g7 : p = p' := g7
        subst g7
        exact ⟨p, us, q1, g3, g4⟩
      | un => rw [e] at kk; exact kk.elim
      | dat _ => rw [e] at kk; exact kk.elim
      | own _ => rw [e] at kk; exact kk.elim
      | scr _ => rw [e] at kk; exact kk.elim
    refine r _ _ _ _ G (endsF as R) _ E0 (hW as R hS) ⟨fun σ H' G' Γ E1 s1 q => ?_, fun σ H' G' Γ E1 s1 q => q.elim, fun σ H' G' Γ E1 s1 q => q.elim, fun σ v H' G' Γ r E1 s1 vr q => ?_, fun _ h => h, fun d σ H' G' Γ x E1 s1 xo q => q.elim⟩
    · unfold endsF at q
      simp only at q
      cases q1 : parO as Γ with
      | none => rw [q1] at q; exact q.elim
      | some as' =>
        rw [q1] at q
        exact fin σ .non H' G' Γ (.dat .none) as' E1 s1 Dd.non q1 q
    · unfold endsF at q
      simp only at q
      cases q1 : parO as Γ with
      | none => rw [q1] at q; exact q.elim
      | some as' =>
        rw [q1] at q
        exact fin σ v H' G' Γ r as' E1 s1 vr q1 q
end
end DL

namespace DL
open PySem PySem.Spec PyProof.Rows L2
/-! ## what is walked -/
def DWalk (K : PySem.W.Frag) (J : It) (G0 : Hp) (ds : List PyData) : Prop :=
  ∀ (B : Bs) (Γ : Gam) (σ : L2.St) (H G : Hp), En K B σ H G Γ → Same G0 G → ∀ i : Nat, (i = ds.length → J.stop i H) ∧
    ∀ d, ds[i]? = some d → J.go i H ∧ ∀ x H', J.yld i H x H' → ∃ G', En K B σ H' G' Γ ∧ Same G G' ∧ Dd K G' x d ∧ Same H H'
abbrev WI := Gam → (List PyData → Gam → Prop) → Prop
def RI (K : PySem.W.Frag) (wi : TI) (W : WI) : Prop :=
  ∀ (B : Bs) (Γ : Gam) (σ : L2.St) (H G : Hp) (Q : List PyData → Gam → Prop) (R : It → Hp → Prop), En K B σ H G Γ → W Γ Q →
    (∀ J H' G' ds Γ', En K B σ H' G' Γ' → Same G G' → KS Γ Γ' → DWalk K J G' ds → Q ds Γ' → R J H') → wi σ H R
structure DI (X : Cx) (tg iter : Expr) (W : WI) : Prop where
  ex : ∃ wi, PI X tg iter wi ∧ RI X.K wi W
/-! targets -/
abbrev WG := PyData → Gam → (Gam → Prop) → Prop
def RG (K : PySem.W.Frag) (ts : List Nat) (g : TG) (W : WG) : Prop :=
  ∀ (B : Bs) (Γ : Gam) (σ : L2.St) (H G : Hp) (v : V) (d : PyData) (Q : Gam → Prop) (Q' : L2.St → Hp → Prop), En K B σ H G Γ → Dd K G v d → W d Γ Q →
    (∀ σ' H' G' Γ', En K B σ' H' G' Γ' → Same G G' → σ'.length = σ.length → (∀ j : Nat, j ∉ ts → σ'[j]? = σ[j]? ∧ Γ'[j]? = Γ[j]?) → Q Γ' → Q' σ' H') → g v σ H Q'
structure DG (X : Cx) (tg : Expr) (ts : List Nat) (W : WG) : Prop where
  ex : ∃ g, PG X tg g ∧ RG X.K ts g W
abbrev WGs := List PyData → Gam → (Gam → Prop) → Prop
def RGs (K : PySem.W.Frag) (ts : List Nat) (g : TGs) (W : WGs) : Prop :=
  ∀ (B : Bs) (Γ : Gam) (σ : L2.St) (H G : Hp) (vs : List V) (ds : List PyData) (Q : Gam → Prop) (Q' : L2.St → Hp → Prop), En K B σ H G Γ → DdAll K G vs ds → W ds Γ Q →
    (∀ σ' H' G' Γ', En K B σ' H' G' Γ' → Same G G' → σ'.length = σ.length → (∀ j : Nat, j ∉ ts → σ'[j]? = σ[j]? ∧ Γ'[j]? = Γ[j]?) → Q Γ' → Q' σ' H') → g vs σ H Q'
structure DGs (X : Cx) (tgs : List Expr) (ts : List Nat) (W : WGs) : Prop where
  ex : ∃ g, PGs X tgs g ∧ RGs X.K ts g W
section
variable {X : Cx} {K : PySem.W.Frag} {a b c e tg : Expr} {es tgs : List Expr} {Wa Wb Wc : WE} {Wr : WA} {pos : Pos} {WT' : WT} {ts us : List Nat}
@[simp] def wgName (i : Nat) : WG := fun d Γ Q => Q (Γ.set i (.dat d))
theorem dg_name {i : Nat} {x : Str} {p : Pos} (hN : X.N.Nodup) (hi : X.N[i]? = some x) (hx : Loc X.env.scope x) (hf : X.fn x = true ∨ X.env.scope.names.lookup x = some .local := by first | exact .inl rfl | exact .inr rfl | assumption) : DG X (.Name x p) [i] (wgName i) := by
  refine ⟨_, pg_name hN hi hx hf, ?_⟩
  intro B Γ σ H G v d Q Q' E h w k
  refine k _ H G _ (E.setDat i h) (Same.refl _) (by simp) (fun j hj => ?_) w
  have hj : j ≠ i := fun z => hj (by simp [z])
  exact ⟨List.getElem?_set_ne (Ne.symm hj), List.getElem?_set_ne (Ne.symm hj)⟩
@[simp] def wgNil : WGs := fun ds Γ Q => match ds with
  | [] => Q Γ
  | _ => False
@[simp] def wgCons (W : WG) (Ws : WGs) : WGs := fun ds Γ Q => match ds with
  | d :: r => W d Γ fun Γ1 => Ws r Γ1 Q
  | [] => False
theorem dgs_nil : DGs X [] [] wgNil := by
  refine ⟨_, pgs_nil, ?_⟩
  intro B Γ σ H G vs ds Q Q' E h w k
  cases h with
  | nil => exact ⟨rfl, k σ H G Γ E (Same.refl _) rfl (fun j _ => ⟨rfl, rfl⟩) w⟩
  | cons _ _ => exact w.elim
theorem dgs_cons {W : WG} {Ws : WGs} (h1 : DG X e ts W) (h2 : DGs X es us Ws) (hs : (assignEach (e :: es) X.env).map (·.2) = assign e X.env :: (assignEach es X.env).map (·.2) := by rfl) : DGs X (e :: es) (ts ++ us) (wgCons W Ws) := by
  obtain ⟨g, p, r⟩ := h1.ex
  obtain ⟨g', p', r'⟩ := h2.ex
  refine ⟨_, pgs_cons p p' hs, ?_⟩
  intro B Γ σ H G vs ds Q Q' E h w k
  cases h with
  | nil => exact w.elim
  | cons hv ht =>
    refine ⟨_, _, rfl, ?_⟩
    refine r B Γ σ H G _ _ _ _ E hv w fun σ1 H1 G1 Γ1 E1 s1 l1 n1 w1 => ?_
    refine r' B Γ1 σ1 H1 G1 _ _ _ _ E1 (ht.mono s1) w1 fun σ2 H2 G2 Γ2 E2 s2 l2 n2 w2 => ?_
    refine k σ2 H2 G2 Γ2 E2 (s1.trans s2) (l2.trans l1) (fun j hj => ?_) w2
    have h1 := n1 j (fun z => hj (List.mem_append_left _ z))
    have h2 := n2 j (fun z => hj (List.mem_append_right _ z))
    exact ⟨h2.1.trans h1.1, h2.2.trans h1.2⟩
@[simp] def wgTup (n : Nat) (Ws : WGs) : WG := fun d Γ Q => match d with
  | .tuple ds => ds.length = n ∧ Ws ds Γ Q
  | _ => False
theorem dg_tup {kk : Nat} {n : Nat} {Ws : WGs} (hc : X.calm = true) (h : DGs X es ts Ws) (hn : (assignEach es X.env).length = n := by rfl) (hst : (assignEach es X.env).findIdx? (·.1) = none := by rfl) : DG X (.Tuple es kk pos) ts (wgTup n Ws) := by
  obtain ⟨g, p, r⟩ := h.ex
  refine ⟨_, pg_tup hc p hn hst, ?_⟩
  intro B Γ σ H G v d Q Q' E h w k
  cases h with
  | tup ga da => exact ⟨_, _, rfl, sqT_same E.gh ga, da.length.trans w.1, r B Γ σ H G _ _ _ _ E da w.2 k⟩
  | _ => exact w.elim
/-- target = e, e data -/
@[simp] def wAsgG (Wg : WG) (Wa : WE) : WS := fun D Γ => Wa Γ fun d Γ1 => Wg d Γ1 D.nx
theorem ds_asg {Wg : WG} (he : DE X e Wa) (hg : DG X tg ts Wg) (hs : swapsWithSole [tg] e pos.line X.env = pure false := by rfl) (hw : swappedStores [tg] e X.env = pure none := by rfl)
    (h1 : (assignEach [tg] X.env).map (·.2) = [assign tg X.env] := by rfl) : DS X (.Assign [tg] e pos) (wAsgG Wg Wa) := by
  obtain ⟨t, p, r⟩ := he.ex
  obtain ⟨g, q, rg⟩ := hg.ex
  refine ⟨_, ps_asg p q hs hw h1, ?_⟩
  intro B Γ σ H G D D' E w l
  refine r B Γ σ H G _ _ E w fun v H1 G1 d Γ1 E1 s1 k1 d1 w1 => ?_
  exact rg B Γ1 σ H1 G1 v d _ _ E1 d1 w1 fun σ2 H2 G2 Γ2 E2 s2 _ _ w2 => l.nx σ2 H2 G2 Γ2 E2 (s1.trans s2) w2
/-! ## for -/
def forW (Wg : WG) (Wb : WS) (D : EndsD) : List PyData → Gam → Prop
  | [], Γ => D.nx Γ
  | d :: ds, Γ => Wg d Γ fun Γ1 => Wb { D with nx := forW Wg Wb D ds, ct := forW Wg Wb D ds, bk := D.nx } Γ1
@[simp] def wFor (Wi : WI) (Wg : WG) (Wb : WS) : WS := fun D Γ => Wi Γ fun ds Γ1 => forW Wg Wb D ds Γ1
theorem ds_for {iter : Expr} {body : List Stmt} {Wi : WI} {Wg : WG} {Wb : WS} (hp : PassesOwn (model X.prog X.w) X.A X.env X.xe) (hc : X.calm = true) (hi : DI X tg iter Wi) (hg : DG X tg ts Wg) (hb : DSs X body Wb)
    (hs : ∀ x, foldedSetIterable iter X.env x = pure x := by intro _; rfl) : DS X (.For tg iter body [] pos) (wFor Wi Wg Wb) := by
  obtain ⟨wi, pi, ri⟩ := hi.ex
  obtain ⟨g, pg, rg⟩ := hg.ex
  obtain ⟨tb, pb, rb⟩ := hb.ex
  refine ⟨_, ps_for hp hc pi pg pb hs, ?_⟩
  intro B Γ σ H G D D' E w l
  refine ri B Γ σ H G _ _ E w fun J H1 G1 ds Γ1 E1 s1 k1 dw w1 => ?_
  refine ⟨fun i m σ H => m = ds.length - i ∧ i ≤ ds.length ∧ ∃ G2 Γ2, En X.K B σ H G2 Γ2 ∧ Same G1 G2 ∧ forW Wg Wb D (ds.drop i) Γ2, ⟨ds.length, by simp, Nat.zero_le _, G1, Γ1, E1, Same.refl _, w1⟩, ?_⟩
  rintro i m σ2 H2 ⟨rfl, hi, G2, Γ2, E2, s2, w2⟩
  obtain ⟨stop, go⟩ := dw B Γ2 σ2 H2 G2 E2 s2 i
  by_cases hlt : i < ds.length
  · have hd : ds[i]? = some ds[i] := List.getElem?_eq_getElem hlt
    obtain ⟨g1, y1⟩ := go _ hd
    rw [List.drop_eq_getElem_cons hlt] at w2
    refine .inr ⟨g1, fun σ' H' => ∃ G3 Γ3, En X.K B σ' H' G3 Γ3 ∧ Same G1 G3 ∧ forW Wg Wb D (ds.drop (i + 1)) Γ3, fun σ' H' h => ⟨ds.length - (i + 1), by omega, rfl, hlt, h⟩, fun x H3 hy => ?_⟩
    obtain ⟨G3, E3, s3, d3, _⟩ := y1 x H3 hy
    refine rg B Γ2 σ2 H3 G3 x _ _ _ E3 d3 w2 fun σ4 H4 G4 Γ4 E4 s4 _ _ w4 => ?_
    have s14 : Same G1 G4 := s2.trans (s3.trans s4)
    refine rb B Γ4 σ4 H4 G4 _ _ E4 w4 ⟨fun σ5 H5 G5 Γ5 E5 s5 q5 => ⟨G5, Γ5, E5, s14.trans s5, q5⟩, fun σ5 H5 G5 Γ5 E5 s5 q5 => l.nx σ5 H5 G5 Γ5 E5 (s1.trans (s14.trans s5)) q5, fun σ5 H5 G5 Γ5 E5 s5 q5 => ⟨G5, Γ5, E5, s14.trans s5, q5⟩,
      fun σ5 v H5 G5 Γ5 r E5 s5 vr q5 => l.rt σ5 v H5 G5 Γ5 r E5 (s1.trans (s14.trans s5)) vr q5, l.nb, fun d σ5 H5 G5 Γ5 x E5 s5 xo q5 => l.ex d σ5 H5 G5 Γ5 x E5 (s1.trans (s14.trans s5)) xo q5⟩
  · have e : i = ds.length := by omega
    subst e
    rw [List.drop_length] at w2
    exact .inl ⟨stop rfl, l.nx σ2 H2 G2 Γ2 E2 (s1.trans s2) w2⟩
/-! ## while -/
def whileW (Wc : WT) (Wb : WS) (D : EndsD) : Nat → Gam → Prop
  | 0, _ => False
  | n + 1, Γ => Wc Γ fun b Γ1 => if b = true then Wb { D with nx := whileW Wc Wb D n, ct := whileW Wc Wb D n, bk := D.nx } Γ1 else D.nx Γ1
@[simp] def wWhile (Wc : WT) (Wb : WS) : WS := fun D Γ => ∃ n, whileW Wc Wb D n Γ
theorem ds_while {body : List Stmt} {Wb : WS} (hp : PassesOwn (model X.prog X.w) X.A X.env X.xe) (hc : DT X c WT') (hb : DSs X body Wb) : DS X (.While c body [] pos) (wWhile WT' Wb) := by
  obtain ⟨tc, pc, rc⟩ := hc.ex
  obtain ⟨tb, pb, rb⟩ := hb.ex
  refine ⟨_, ps_while hp pc pb, ?_⟩
  intro B Γ σ H G D D' E w l
  obtain ⟨n, w⟩ := w
  refine ⟨fun m σ H => ∃ G2 Γ2, En X.K B σ H G2 Γ2 ∧ Same G G2 ∧ whileW WT' Wb D m Γ2, ⟨n, G, Γ, E, Same.refl _, w⟩, ?_⟩
  rintro m σ2 H2 ⟨G2, Γ2, E2, s2, w2⟩
  cases m with
  | zero => exact w2.elim
  | succ m =>
    refine rc B Γ2 σ2 H2 G2 _ _ E2 w2 fun b H3 G3 Γ3 E3 s3 k3 w3 => ?_
    cases b with
    | true =>
      refine ⟨fun σ' H' => ∃ G4 Γ4, En X.K B σ' H' G4 Γ4 ∧ Same G G4 ∧ whileW WT' Wb D m Γ4, fun σ' H' h => ⟨m, Nat.lt_succ_self m, h⟩, ?_⟩
      have s13 := s2.trans s3
      exact rb B Γ3 σ2 H3 G3 _ _ E3 w3 ⟨fun σ5 H5 G5 Γ5 E5 s5 q5 => ⟨G5, Γ5, E5, s13.trans s5, q5⟩, fun σ5 H5 G5 Γ5 E5 s5 q5 => l.nx σ5 H5 G5 Γ5 E5 (s13.trans s5) q5, fun σ5 H5 G5 Γ5 E5 s5 q5 => ⟨G5, Γ5, E5, s13.trans s5, q5⟩,
        fun σ5 v H5 G5 Γ5 r E5 s5 vr q5 => l.rt σ5 v H5 G5 Γ5 r E5 (s13.trans s5) vr q5, l.nb, fun d σ5 H5 G5 Γ5 x E5 s5 xo q5 => l.ex d σ5 H5 G5 Γ5 x E5 (s13.trans s5) xo q5⟩
    | false => exact l.nx σ2 H3 G3 Γ3 E3 (s2.trans s3) w3
/-! ## list, tuple, text walked -/
def iSeq (K : PySem.W.Frag) (tl : TE) : TI := fun σ H R => tl σ H fun x H1 => (∃ a, x = .ref a ∧ (∃ xs, SqL K H1 a xs) ∧ R (Itl K a) H1) ∨ (∃ a, x = .ref a ∧ (∃ xs, SqT K H1 a xs) ∧ R (Itt K a) H1) ∨ (∃ z, x = .str z ∧ R (Its z) H1)
theorem pi_seq {l : Expr} {tl : TE} (hl : PE X l tl) : PI X tg l (iSeq X.K tl) := by
  refine ⟨fun pins s σ H R I h => ?_⟩
  refine thn (hl.run pins s σ H _ I h) fun v s1 ⟨x, H1, I1, r1, q1⟩ => ?_
  have back : ∀ (t : TE), (∀ (σ : L2.St) (Q : VK), t σ H1 Q → Q x H1) → True := fun _ _ => trivial
  have peX : ∀ {wi : TI}, True := trivial
  rcases q1 with ⟨a, e, ⟨xs, hq⟩, q⟩ | ⟨a, e, ⟨xs, hq⟩, q⟩ | ⟨z, e, q⟩
  · subst e
    cases r1
    obtain ⟨its, rv, p, hz⟩ := I1.list hq
    refine wpAny_pyIter_list p.isList ?_
    refine ⟨s1.heap.objs.size, [s1.heap.objs.size], _, _, H1, rfl, I1.kept (t' := s1.toks) fun b o e => Heap.get?_push_of_some _ e, turn_list a _, ⟨_, Heap.get?_push_size _ rfl, rfl, rfl⟩, fun b hb => ?_, q⟩
    have e : b = s1.heap.objs.size := by simpa using hb
    subst e
    exact I1.fpOk (Nat.le_refl _) (I1.hok.fresh (Nat.le_refl _))
  · subst e
    cases r1
    obtain ⟨its, rv, p, hz⟩ := I1.tuple hq
    refine wpAny_pyIter_tuple (show s1.heap.IsTuple a its.toArray from p) ?_
    refine ⟨s1.heap.objs.size, [s1.heap.objs.size], _, _, H1, rfl, I1.kept (t' := s1.toks) fun b o e => Heap.get?_push_of_some _ e, turn_tuple a _, ⟨_, Heap.get?_push_size _ rfl, rfl, rfl⟩, fun b hb => ?_, q⟩
    have e : b = s1.heap.objs.size := by simpa using hb
    subst e
    exact I1.fpOk (Nat.le_refl _) (I1.hok.fresh (Nat.le_refl _))
  · subst e
    obtain ⟨t, rfl⟩ := r1
    cases ha : z.cps.all (· < 128)
    · exact wpAny_pyIter_wide ha (pi_one (tk := s1.toks) I1 _ (turn_str _ z t "str_iterator" (.inr rfl)) ⟨_, Heap.get?_push_size _ rfl, rfl, rfl⟩ q)
    · exact wpAny_pyIter_ascii ha (pi_one (tk := s1.toks) I1 _ (turn_str _ z t "str_ascii_iterator" (.inl rfl)) ⟨_, Heap.get?_push_size _ rfl, rfl, rfl⟩ q)
@[simp] def seqD : PyData → Option (List PyData)
  | .list ds => some ds
  | .tuple ds => some ds
  | .str z => some (z.cps.toList.map sign)
  | _ => none
@[simp] def wSeqI (Wa : WE) : WI := fun Γ Q => Wa Γ fun d Γ1 => match seqD d with
  | some ds => Q ds Γ1
  | none => False
theorem dwalk_list {G0 : Hp} {p : Addr} {vs : List V} {ds : List PyData} (h : G0 p = some (.lst vs)) (da : DdAll K G0 vs ds) : DWalk K (Itl K p) G0 ds := by
  intro B Γ σ H G E s i
  have hq : SqL K H p vs := SqL.of (E.gh _ _ (s _ _ h))
  refine ⟨fun hi => ⟨vs, hq, by rw [da.length]; exact Nat.le_of_eq hi.symm⟩, fun d hd => ?_⟩
  obtain ⟨v, hv, dv⟩ := da.get hd
  refine ⟨⟨vs, v, hq, hv⟩, fun x H' y => ?_⟩
  obtain ⟨e, y⟩ := y
  subst e
  have := y vs hq
  rw [hv] at this
  cases this
  exact ⟨G, E, Same.refl _, dv.mono s, Same.refl _⟩
theorem dwalk_tup {G0 : Hp} {p : Addr} {vs : List V} {ds : List PyData} (h : SqT K G0 p vs) (da : DdAll K G0 vs ds) : DWalk K (Itt K p) G0 ds := by
  intro B Γ σ H G E s i
  have hq : SqT K H p vs := sqT_same E.gh (sqT_same s h)
  refine ⟨fun hi => ⟨vs, hq, by rw [da.length]; exact Nat.le_of_eq hi.symm⟩, fun d hd => ?_⟩
  obtain ⟨v, hv, dv⟩ := da.get hd
  refine ⟨⟨vs, v, hq, hv⟩, fun x H' y => ?_⟩
  obtain ⟨e, y⟩ := y
  subst e
  have := y vs hq
  rw [hv] at this
  cases this
  exact ⟨G, E, Same.refl _, dv.mono s, Same.refl _⟩
theorem dwalk_str {G0 : Hp} {z : Str} : DWalk K (Its z) G0 (z.cps.toList.map sign) := by
  intro B Γ σ H G E s i
  refine ⟨fun hi => ?_, fun d hd => ?_⟩
  · show z.cps.size ≤ i
    rw [hi]
    simp
  · rw [List.getElem?_map] at hd
    cases q : z.cps.toList[i]? with
    | none => rw [q] at hd; cases hd
    | some c =>
      rw [q] at hd
      cases hd
      have hi : i < z.cps.size := by simpa using (List.getElem?_eq_some_iff.mp q).1
      refine ⟨hi, fun x H' y => ?_⟩
      obtain ⟨e, c', hc, ex⟩ := y
      subst e ex
      have : c = c' := by
        have q' : z.cps[i]? = some c := by simpa using q
        rw [hc] at q'
        cases q'
        rfl
      subst this
      exact ⟨G, E, Same.refl _, .str _, Same.refl _⟩
theorem di_seq (h : DE X a Wa) : DI X tg a (wSeqI Wa) := by
  obtain ⟨t, p, r⟩ := h.ex
  refine ⟨_, pi_seq p, ?_⟩
  intro B Γ σ H G Q R E w k
  refine r B Γ σ H G _ _ E w fun v H1 G1 d Γ1 E1 s1 k1 d1 w1 => ?_
  cases d1 with
  | lst ga da => exact .inl ⟨_, rfl, ⟨_, SqL.of (E1.gh _ _ ga)⟩, k _ H1 G1 _ Γ1 E1 s1 k1 (dwalk_list ga da) w1⟩
  | tup ga da => exact .inr (.inl ⟨_, rfl, ⟨_, sqT_same E1.gh ga⟩, k _ H1 G1 _ Γ1 E1 s1 k1 (dwalk_tup ga da) w1⟩)
  | str z => exact .inr (.inr ⟨z, rfl, k _ H1 G1 _ Γ1 E1 s1 k1 dwalk_str w1⟩)
  | _ => exact w1.elim
/-! range -/
def rng (lo : Int) (n : Nat) : List PyData := (List.range n).map fun i => .int (lo + (i : Nat))
theorem dwalk_range {G0 : Hp} {lo : Int} {n : Nat} : DWalk K (Itr lo n) G0 (rng lo n) := by
  intro B Γ σ H G E s i
  have hl : (rng lo n).length = n := by unfold rng; simp
  refine ⟨fun hi => by rw [hl] at hi; exact Nat.le_of_eq hi.symm, fun d hd => ?_⟩
  have hi : i < n := by
    have := (List.getElem?_eq_some_iff.mp hd).1
    rwa [hl] at this
  have hd' : d = .int (lo + (i : Nat)) := by
    unfold rng at hd
    rw [List.getElem?_map, List.getElem?_range hi] at hd
    cases hd
    rfl
  subst hd'
  refine ⟨hi, fun x H' y => ?_⟩
  obtain ⟨e, ex⟩ := y
  subst e ex
  exact ⟨G, E, Same.refl _, .int _, Same.refl _⟩
@[simp] def wRng1 (Wa : WE) : WI := fun Γ Q => Wa Γ fun d Γ1 => match d with
  | .int n => n < 2 ^ 62 ∧ -(2 ^ 62) ≤ n ∧ Q (rng 0 n.toNat) Γ1
  | _ => False
theorem di_range1 {p : Pos} (hg : Gl X "range") (hm : X.mg "range" = none) (ha : DE X a Wa) (hs : starEach [a] X.env = [(false, eval a X.env)] := by rfl) : DI X tg (.Call (.Name "range" p) [a] [] pos) (wRng1 Wa) := by
  obtain ⟨t, pa, r⟩ := ha.ex
  refine ⟨_, pi_range1 hg hm (pa_cons pa pa_nil hs) hs, ?_⟩
  intro B Γ σ H G Q R E w k
  refine r B Γ σ H G _ _ E w fun v H1 G1 d Γ1 E1 s1 k1 d1 w1 => ?_
  cases d1 with
  | int n => exact ⟨n, rfl, w1.2.1, w1.1, k _ H1 G1 _ Γ1 E1 s1 k1 dwalk_range w1.2.2⟩
  | _ => exact w1.elim
@[simp] def wRng2 (Wa Wb : WE) : WI := fun Γ Q => Wa Γ fun d Γ1 => Wb Γ1 fun e Γ2 => match d, e with
  | .int i, .int j => (-(2 ^ 62) ≤ i ∧ i < 2 ^ 62 ∧ -(2 ^ 62) ≤ j ∧ j < 2 ^ 62) ∧ Q (rng i (j - i).toNat) Γ2
  | _, _ => False
theorem di_range2 {p : Pos} (hg : Gl X "range") (hm : X.mg "range" = none) (ha : DE X a Wa) (hb : DE X b Wb) (hs : starEach [a, b] X.env = [(false, eval a X.env), (false, eval b X.env)] := by rfl) (hs2 : starEach [b] X.env = [(false, eval b X.env)] := by rfl) (hs3 : starEach [a, b] X.env = (false, eval a X.env) :: starEach [b] X.env := by rfl) :
    DI X tg (.Call (.Name "range" p) [a, b] [] pos) (wRng2 Wa Wb) := by
  obtain ⟨t, pa, r⟩ := ha.ex
  obtain ⟨t', pb, r'⟩ := hb.ex
  refine ⟨_, pi_range2 hg hm (pa_cons pa (pa_cons pb pa_nil hs2) hs3) hs hs2, ?_⟩
  intro B Γ σ H G Q R E w k
  refine r B Γ σ H G _ _ E w fun v H1 G1 d Γ1 E1 s1 k1 d1 w1 => ?_
  refine r' B Γ1 σ H1 G1 _ _ E1 w1 fun v2 H2 G2 d2 Γ2 E2 s2 k2 d2' w2 => ?_
  cases d1 with
  | int i =>
    cases d2' with
    | int j => exact ⟨i, j, rfl, w2.1, k _ H2 G2 _ Γ2 E2 (s1.trans s2) (k1.trans k2) dwalk_range w2.2⟩
    | _ => exact w2.elim
  | _ => cases d2' <;> exact w2.elim
end
end DL

namespace DL
open PySem PySem.Spec PyProof.Rows L2
/-! ## enumerate of a text -/
def Ites (z : Str) : It := ⟨fun i _ => i < z.cps.size, fun i H v H' => ∃ T c, v = .ref T ∧ H T = none ∧ z.cps[i]? = some c ∧ H' = upd H T (.tup [.int (i : Nat), .str ⟨#[c]⟩]), fun i _ => i = z.cps.size⟩
theorem draws_str {prog : Program} {w : World} {A : Around} (hh : A.handled = none) (it : Addr) (x : Str) (t : Tok) (ty : String) (hty : ty = "str_ascii_iterator" ∨ ty = "str_iterator") :
    Draws prog w A it [it] x.cps.size (fun i v => ∃ c u, x.cps[i]? = some c ∧ v = .str ⟨#[c]⟩ u) (fun i h => h.IsStrIter it ty x t i) := by
  rcases hty with e | e
  · subst e; exact Draws.strAscii hh it x t
  · subst e; exact Draws.strWide hh it x t
theorem turn_enumS {P : Program} {w : World} {K : PySem.W.Frag} {elts : List Expr} {kk : Nat} {tpos : Pos} (e it : Addr) (x : Str) (t : Tok) (ty : String) (hty : ty = "str_ascii_iterator" ∨ ty = "str_iterator") (hne : e ≠ it) :
    Turn P w K (.Tuple elts kk tpos) (Ites x) [e, it] e (fun i h => (∃ old, IsEnum h e it ((0 : Int) + (i : Nat)) old) ∧ h.IsStrIter it ty x t i) where
  mem := by simp
  obj := fun i h st b hb => by
    obtain ⟨⟨old, he⟩, ⟨o, ho, hc, hd⟩⟩ := st
    have e' : b = e ∨ b = it := by simpa using hb
    rcases e' with z | z
    · rw [z]; exact ⟨_, he, fun v q => nomatch q⟩
    · rw [z]; exact ⟨o, ho, fun v q => by rw [hd] at q; cases q⟩
  keep := fun i h h' st k => by
    obtain ⟨⟨old, he⟩, ⟨o, ho, r⟩⟩ := st
    exact ⟨⟨old, k e (by simp) _ he⟩, ⟨o, k it (by simp) o ho, r⟩⟩
  item := by
    intro X hP hw hK hc i pins s σ H E I hf st hg
    subst hP hw hK
    have D := draws_str (prog := X.prog) (w := X.w) (A := X.A.in1) (I.ok.hd hc) it x t ty hty
    have W := WalksT.enumFrom (0 : Int) D e hne (by simpa using hne) (by simp)
    have hel : e < s.heap.objs.size := by obtain ⟨⟨_, he⟩, _⟩ := st; exact Heap.lt_size he
    have hil : it < s.heap.objs.size := by obtain ⟨_, ⟨_, q, _⟩⟩ := st; exact Heap.lt_size q
    have hbl : ∀ b ∈ [e, it], b < s.heap.objs.size := fun b hb => by
      have e' : b = e ∨ b = it := by simpa using hb
      rcases e' with z | z
      · rw [z]; exact hel
      · rw [z]; exact hil
    refine W.item i s _ _ hg st fun T vals h' tk hPt hT htup hMid hk => ?_
    obtain ⟨t0, v0, ⟨c, u, hcx, rfl⟩, rfl⟩ := hPt
    refine ⟨_, rfl, W.go elts kk tpos i T { s with heap := h', toks := tk } _ _ hMid fun h'' hSt hk'' => ?_⟩
    have hTw := W.apart i T h' hMid
    have htup2 : IsTup h'' T #[.int ((0 : Int) + (i : Nat)) t0, .str ⟨#[c]⟩ u] := by
      obtain ⟨o, ho, r⟩ := htup
      exact ⟨o, hk'' T o hTw ho, r⟩
    have ei : (0 : Int) + (i : Nat) = (i : Nat) := Int.zero_add _
    rw [ei] at htup2
    have new : ObjOk X.prog X.w (upd H T (.tup [.int (i : Nat), .str ⟨#[c]⟩])) h'' T (.tup [.int (i : Nat), .str ⟨#[c]⟩]) :=
      ⟨by show 2 ≤ sizeLine; decide, [.int (i : Nat) t0, .str ⟨#[c]⟩ u], .cons ⟨_, rfl⟩ (.cons ⟨_, rfl⟩ .nil), htup2⟩
    have I1 : Inv X pins σ (upd H T (.tup [.int (i : Nat), .str ⟨#[c]⟩])) { s with heap := h'', toks := tk } :=
      I.turnedNew (ch := [e, it]) (fun b ob hb q => hk'' b ob hb (hk b ob hb q)) hf hT new
    refine ⟨.ref T, _, I1, rfl, ⟨T, c, rfl, I.hok.fresh hT, hcx, rfl⟩, hSt, fun b hb => ?_⟩
    rw [upd_ne (Nat.ne_of_lt (Nat.lt_of_lt_of_le (hbl b hb) hT))]
    exact (hf b hb).1
  done := by
    intro X hP hw hK hc i pins s σ H E I hf st hg
    subst hP hw hK
    have D := draws_str (prog := X.prog) (w := X.w) (A := X.A.in1) (I.ok.hd hc) it x t ty hty
    have W := WalksT.enumFrom (0 : Int) D e hne (by simpa using hne) (by simp)
    have hle : i = x.cps.size := hg
    subst hle
    refine W.done s _ _ st fun h' tk eb => ⟨rfl, I.turnedL (t' := tk) (ch := [e, it]) eb hf⟩
  self := fun A i s Q E st h => let ⟨⟨_, he⟩, _⟩ := st; wpAny_pyIter_enum he h
/-! .. of a tuple -/
def IteT (K : PySem.W.Frag) (a : Addr) : It :=
  ⟨fun i H => ∃ (xs : List V) (x : V), SqT K H a xs ∧ xs[i]? = some x, fun i H v H' => ∃ T x, v = .ref T ∧ H T = none ∧ H' = upd H T (.tup [.int (i : Nat), x]) ∧ ∀ xs, SqT K H a xs → xs[i]? = some x, fun i H => ∃ xs : List V, SqT K H a xs ∧ xs.length = i⟩
theorem turn_enumT {P : Program} {w : World} {K : PySem.W.Frag} {elts : List Expr} {kk : Nat} {tpos : Pos} (a e it : Addr) :
    Turn P w K (.Tuple elts kk tpos) (IteT K a) [e, it] e (fun i h => ((∃ old, IsEnum h e it ((0 : Int) + (i : Nat)) old) ∧ h.IsTupleIter it a i) ∧ e ≠ it ∧ e ≠ a ∧ a ≠ it) where
  mem := by simp
  obj := fun i h st b hb => by
    obtain ⟨⟨⟨old, he⟩, ⟨o, ho, hc, hd⟩⟩, _⟩ := st
    have e' : b = e ∨ b = it := by simpa using hb
    rcases e' with z | z
    · rw [z]; exact ⟨_, he, fun v q => nomatch q⟩
    · rw [z]; exact ⟨o, ho, fun v q => by rw [hd] at q; cases q⟩
  keep := fun i h h' st k => by
    obtain ⟨⟨⟨old, he⟩, ⟨o, ho, r⟩⟩, ap⟩ := st
    exact ⟨⟨⟨old, k e (by simp) _ he⟩, ⟨o, k it (by simp) o ho, r⟩⟩, ap⟩
  item := by
    intro X hP hw hK hc i pins s σ H E I hf st hg
    subst hP hw hK
    obtain ⟨xs, x, hq, hx⟩ := hg
    obtain ⟨its, rv, p, hz⟩ := I.tuple hq
    obtain ⟨⟨hen, hti⟩, hne, hea, hai⟩ := st
    have D := Draws.tuple (prog := X.prog) (w := X.w) (A := X.A.in1) (I.ok.hd hc) it a hai its.toArray
    have W := WalksT.enumFrom (0 : Int) D e hne (by simp [hne, hea]) (by simp)
    have hel : e < s.heap.objs.size := by obtain ⟨_, he⟩ := hen; exact Heap.lt_size he
    have hil : it < s.heap.objs.size := by obtain ⟨_, q, _⟩ := hti; exact Heap.lt_size q
    have hbl : ∀ b ∈ [e, it], b < s.heap.objs.size := fun b hb => by
      have e' : b = e ∨ b = it := by simpa using hb
      rcases e' with z | z
      · rw [z]; exact hel
      · rw [z]; exact hil
    obtain ⟨u, hu, ru⟩ := rv.get hx
    have hlt : i < its.toArray.size := by
      have := (List.getElem?_eq_some_iff.mp hu).1
      simpa using this
    refine W.item i s _ _ hlt ⟨hen, hti, p⟩ fun T vals h' tk hPt hT htup hMid hk => ?_
    obtain ⟨t0, v0, hv0, rfl⟩ := hPt
    have ev : v0 = u := by
      have hv0 : its.toArray[i]? = some v0 := hv0
      rw [List.getElem?_toArray, hu] at hv0
      exact (Option.some.inj hv0).symm
    subst ev
    refine ⟨_, rfl, W.go elts kk tpos i T { s with heap := h', toks := tk } _ _ hMid fun h'' hSt hk'' => ?_⟩
    have hTw := W.apart i T h' hMid
    have htup2 : IsTup h'' T #[.int ((0 : Int) + (i : Nat)) t0, v0] := by
      obtain ⟨o, ho, r⟩ := htup
      exact ⟨o, hk'' T o hTw ho, r⟩
    rw [Int.zero_add] at htup2
    have new : ObjOk X.prog X.w (upd H T (.tup [.int (i : Nat), x])) h'' T (.tup [.int (i : Nat), x]) :=
      ⟨by show 2 ≤ sizeLine; decide, [.int (i : Nat) t0, v0], .cons ⟨_, rfl⟩ (.cons ru .nil), htup2⟩
    have I1 : Inv X pins σ (upd H T (.tup [.int (i : Nat), x])) { s with heap := h'', toks := tk } :=
      I.turnedNew (ch := [e, it]) (fun b ob hb q => hk'' b ob hb (hk b ob hb q)) hf hT new
    refine ⟨.ref T, _, I1, rfl, ⟨T, x, rfl, I.hok.fresh hT, rfl, fun ys hy => by rw [I.tuple_inj hy hq]; exact hx⟩, ⟨⟨hSt.1, hSt.2.1⟩, hne, hea, hai⟩, fun b hb => ?_⟩
    rw [upd_ne (Nat.ne_of_lt (Nat.lt_of_lt_of_le (hbl b hb) hT))]
    exact (hf b hb).1
  done := by
    intro X hP hw hK hc i pins s σ H E I hf st hg
    subst hP hw hK
    obtain ⟨xs, hq, hx⟩ := hg
    obtain ⟨its, rv, p, hz⟩ := I.tuple hq
    obtain ⟨⟨hen, hti⟩, hne, hea, hai⟩ := st
    have D := Draws.tuple (prog := X.prog) (w := X.w) (A := X.A.in1) (I.ok.hd hc) it a hai its.toArray
    have W := WalksT.enumFrom (0 : Int) D e hne (by simp [hne, hea]) (by simp)
    have hle : i = its.toArray.size := by
      have := rv.length
      rw [List.size_toArray]
      omega
    subst hle
    exact W.done s _ _ ⟨hen, hti, p⟩ fun h' tk eb => ⟨rfl, I.turnedL (t' := tk) (ch := [e, it]) eb hf⟩
  self := fun A i s Q E st h => let ⟨⟨⟨_, he⟩, _⟩, _⟩ := st; wpAny_pyIter_enum he h
set_option maxHeartbeats 8000000 in
theorem meets_enum1 {v : Value} {o : Obj} {Hc : Heap → Prop} (B : Begins v o Hc) :
    Meets (Builtin.«enumerate.__new__» ⟨[.type "enumerate", v], []⟩) (fun _ R s => Hc s.heap ∧ R (.ok (.ret (.ref (s.heap.push o).objs.size))) { s with heap := (s.heap.push o).push { cls := .type "enumerate", data := .fields #[.none, .bool false, .ref s.heap.objs.size, rawInt 0, .none, .none] } }) :=
  .of_wp fun prog w A R s h => by
    obtain ⟨hp, g, d, tk, os⟩ := s
    have sub0 := sub_enumerate
    have it0 : ∀ {A' : Around} {E : Value → Shared → Prop} {Q : Value → Shared → Prop}, Q (.ref hp.objs.size) ⟨hp.push o, g, d, tk, os⟩ → wpAny (model prog w) A' (pyIter v) Q E ⟨hp, g, d, tk, os⟩ := fun q => B.iter prog w _ _ ⟨hp, g, d, tk, os⟩ _ h.1 q
    have fin := h.2
    wp_walk using it0
    refine wpAny_stack_any fun st => wpAny_pure ?_
    split
    · rename_i c _ _ _ _ _
      cases (c == Value.type "enumerate") <;> (wp_walk using it0; exact ⟨_, rfl, fin⟩)
    · wp_walk using it0
      exact ⟨_, rfl, fin⟩
theorem call_enum1 {prog : Program} {w : World} {A : Around} {E : Value → Shared → Prop} {s : Shared} {v : Value} {o : Obj} {Hc : Heap → Prop} {Q : Value → Shared → Prop} (B : Begins v o Hc) (h1 : Hc s.heap)
    (h : ∀ h', IsEnum h' (s.heap.objs.size + 1) s.heap.objs.size 0 .none → h'.get? s.heap.objs.size = some o → (∀ b u, s.heap.get? b = some u → h'.get? b = some u) → Q (.ref (s.heap.objs.size + 1)) { s with heap := h' }) :
    wpAny (model prog w) A (call (.type "enumerate") [v]) Q E s := by
  have z : (s.heap.push o).objs.size = s.heap.objs.size + 1 := Heap.size_push ..
  have en : IsEnum ((s.heap.push o).push { cls := .type "enumerate", data := .fields #[.none, .bool false, .ref s.heap.objs.size, rawInt 0, .none, .none] }) (s.heap.objs.size + 1) s.heap.objs.size 0 .none := by
    rw [← z]
    exact Heap.get?_push_size (s.heap.push o) rfl
  refine callType_new F.called_enumerate (by decide) (F.typeCall_enumerate_1 _) (F.newCall_enumerate_1 _) (fun obj => F.args_object_init_2 obj _) F.entry_enumerate_new (meets_enum1 B) ⟨h1, ?_⟩
  rw [z]
  exact ⟨⟨_, en, rfl⟩, h _ en (Heap.get?_push_of_some _ (Heap.get?_push_size _ B.free)) fun b u x => Heap.get?_push_of_some _ (Heap.get?_push_of_some _ x)⟩
section
variable {X : Cx} {K : PySem.W.Frag} {a b c e tg : Expr} {es tgs : List Expr} {Wa Wb Wc : WE} {Wr : WA} {pos : Pos} {WT' : WT} {ts us : List Nat}
def iEnumU (K : PySem.W.Frag) (ta : TA) : TI := fun σ H R => ta σ H fun vs H1 => (∃ a xs, vs = [V.ref a] ∧ SqL K H1 a xs ∧ R (Ite K a) H1) ∨ (∃ z, vs = [V.str z] ∧ R (Ites z) H1) ∨ ∃ a xs, vs = [V.ref a] ∧ SqT K H1 a xs ∧ R (IteT K a) H1
theorem pi_enumU {ta : TA} {p pos tpos : Pos} {elts : List Expr} {kk : Nat} (hg : Gl X "enumerate") (hm : X.mg "enumerate" = none) (ha : PA X [e] ta) (hs : starEach [e] X.env = [(false, eval e X.env)] := by rfl) :
    PI X (.Tuple elts kk tpos) (.Call (.Name "enumerate" p) [e] [] pos) (iEnumU X.K ta) := by
  refine ⟨fun pins s σ H R I h => ?_⟩
  refine Call_ (ld_blt I hg hm boot_enumerate (PyProof.Rows.callWith_type1 (thn (ha.run pos pins s σ H _ I h) fun us s1 ⟨vs, H1, I1, r1, q1⟩ => ?_) hs rfl))
  have fr : ∀ b ∈ [s1.heap.objs.size + 1, s1.heap.objs.size], FpOk X pins H1 b := fun b hb => by
    have e' : b = s1.heap.objs.size + 1 ∨ b = s1.heap.objs.size := by simpa using hb
    have hle : s1.heap.objs.size ≤ b := by
      rcases e' with z | z
      · rw [z]; exact Nat.le_add_right _ _
      · rw [z]; exact Nat.le_refl _
    exact I1.fpOk hle (I1.hok.fresh hle)
  rcases q1 with ⟨a, xs, ex, hq, q⟩ | ⟨z, ex, q⟩ | ⟨a, xs, ex, hq, q⟩
  · subst ex
    cases r1 with
    | cons r rr =>
      cases rr
      cases r
      obtain ⟨its, rv, p', hz⟩ := I1.list hq
      refine call_enumerate_list p'.isList fun h' he hit hsz hk => wpAny_pyIter_enum he ?_
      have I2 : Inv X pins σ H1 { s1 with heap := h' } := I1.kept (t' := s1.toks) hk
      exact ⟨s1.heap.objs.size + 1, [s1.heap.objs.size + 1, s1.heap.objs.size], _, _, H1, rfl, I2, turn_enum a (s1.heap.objs.size + 1) s1.heap.objs.size, ⟨⟨.none, he⟩, hit, Nat.succ_ne_self _⟩, fr, q⟩
  · subst ex
    cases r1 with
    | cons r rr =>
      cases rr
      obtain ⟨t, rfl⟩ := r
      refine call_enumerate_str fun h' he hit hsz hk => wpAny_pyIter_enum he ?_
      have I2 : Inv X pins σ H1 { s1 with heap := h' } := I1.kept (t' := s1.toks) hk
      have hty : strIterType z = "str_ascii_iterator" ∨ strIterType z = "str_iterator" := by
        unfold strIterType
        cases z.cps.all (· < 128)
        · exact .inr rfl
        · exact .inl rfl
      refine ⟨s1.heap.objs.size + 1, [s1.heap.objs.size + 1, s1.heap.objs.size], _, _, H1, rfl, I2, turn_enumS (s1.heap.objs.size + 1) s1.heap.objs.size z t (strIterType z) hty (Nat.succ_ne_self _), ⟨⟨.none, ?_⟩, hit⟩, fr, q⟩
      exact he
  · subst ex
    cases r1 with
    | cons r rr =>
      cases rr
      cases r
      obtain ⟨its, rv, p', hz⟩ := I1.tuple hq
      have hal : a < s1.heap.objs.size := by obtain ⟨o, q, _⟩ := id p'; exact Heap.lt_size q
      refine call_enum1 (begins_tuple a its.toArray) p' fun h' he hit hk => wpAny_pyIter_enum he ?_
      have I2 : Inv X pins σ H1 { s1 with heap := h' } := I1.kept (t' := s1.toks) hk
      refine ⟨s1.heap.objs.size + 1, [s1.heap.objs.size + 1, s1.heap.objs.size], _, _, H1, rfl, I2, turn_enumT a (s1.heap.objs.size + 1) s1.heap.objs.size, ⟨⟨⟨.none, he⟩, ⟨_, hit, rfl, rfl⟩⟩, Nat.succ_ne_self _, Nat.ne_of_gt (Nat.lt_succ_of_lt hal), Nat.ne_of_lt hal⟩, fr, q⟩
def enumFrom : Nat → List PyData → List PyData
  | _, [] => []
  | k, d :: ds => .tuple [.int (k : Nat), d] :: enumFrom (k + 1) ds
theorem enumFrom_len : ∀ (k : Nat) (ds : List PyData), (enumFrom k ds).length = ds.length
  | _, [] => rfl
  | k, _ :: ds => congrArg Nat.succ (enumFrom_len (k + 1) ds)
theorem enumFrom_get : ∀ (k : Nat) (ds : List PyData) (i : Nat), (enumFrom k ds)[i]? = (ds[i]?).map fun d => .tuple [.int ((k + i : Nat) : Int), d]
  | _, [], i => by simp [enumFrom]
  | k, d :: ds, 0 => by simp [enumFrom]
  | k, d :: ds, i + 1 => by
    show (enumFrom (k + 1) ds)[i]? = _
    rw [enumFrom_get (k + 1) ds i]
    have e : k + 1 + i = k + (i + 1) := by omega
    rw [e]
    simp
theorem En.newTup {B : Bs} {σ : L2.St} {H G : Hp} {Γ : Gam} {T : Addr} {vs : List V} {ds : List PyData} (E : En K B σ H G Γ) (hT : H T = none) (da : DdAll K G vs ds) :
    En K B σ (upd H T (.tup vs)) (upd G T (.tup vs)) Γ ∧ Same G (upd G T (.tup vs)) ∧ Dd K (upd G T (.tup vs)) (.ref T) (.tuple ds) ∧ Same H (upd H T (.tup vs)) :=
  ⟨E.laid hT, sameNew (E.gnone hT), .tup (SqT.of upd_same) (da.mono (sameNew (E.gnone hT))), sameNew hT⟩
theorem dwalk_enum {G0 : Hp} {p : Addr} {vs : List V} {ds : List PyData} (h : G0 p = some (.lst vs)) (da : DdAll K G0 vs ds) : DWalk K (Ite K p) G0 (enumFrom 0 ds) := by
  intro B Γ σ H G E s i
  have hq : SqL K H p vs := SqL.of (E.gh _ _ (s _ _ h))
  refine ⟨fun hi => ⟨vs, hq, by rw [hi, enumFrom_len, da.length]; exact Nat.le_refl _⟩, fun d hd => ?_⟩
  rw [enumFrom_get] at hd
  cases q : ds[i]? with
  | none => rw [q] at hd; cases hd
  | some d0 =>
    rw [q] at hd
    have hd : PyData.tuple [.int ((0 + i : Nat) : Int), d0] = d := Option.some.inj hd
    rw [Nat.zero_add] at hd
    subst hd
    obtain ⟨v, hv, dv⟩ := da.get q
    refine ⟨⟨vs, v, hq, hv⟩, fun x H' y => ?_⟩
    obtain ⟨T, x0, ex, hT, eH, y⟩ := y
    have := y vs hq
    rw [hv] at this
    cases this
    subst ex eH
    obtain ⟨a1, a2, a3, a4⟩ := E.newTup hT (.cons (.int (i : Nat)) (.cons (dv.mono s) .nil))
    exact ⟨_, a1, a2, a3, a4⟩
theorem dwalk_enumT {G0 : Hp} {p : Addr} {vs : List V} {ds : List PyData} (h : SqT K G0 p vs) (da : DdAll K G0 vs ds) : DWalk K (IteT K p) G0 (enumFrom 0 ds) := by
  intro B Γ σ H G E s i
  have hq : SqT K H p vs := sqT_same E.gh (sqT_same s h)
  refine ⟨fun hi => ⟨vs, hq, by rw [hi, enumFrom_len, da.length]⟩, fun d hd => ?_⟩
  rw [enumFrom_get] at hd
  cases q : ds[i]? with
  | none => rw [q] at hd; cases hd
  | some d0 =>
    rw [q] at hd
    have hd : PyData.tuple [.int ((0 + i : Nat) : Int), d0] = d := Option.some.inj hd
    rw [Nat.zero_add] at hd
    subst hd
    obtain ⟨v, hv, dv⟩ := da.get q
    refine ⟨⟨vs, v, hq, hv⟩, fun x H' y => ?_⟩
    obtain ⟨T, x0, ex, hT, eH, y⟩ := y
    have := y vs hq
    rw [hv] at this
    cases this
    subst ex eH
    obtain ⟨a1, a2, a3, a4⟩ := E.newTup hT (.cons (.int (i : Nat)) (.cons (dv.mono s) .nil))
    exact ⟨_, a1, a2, a3, a4⟩
theorem dwalk_enumS {G0 : Hp} {z : Str} : DWalk K (Ites z) G0 (enumFrom 0 (z.cps.toList.map sign)) := by
  intro B Γ σ H G E s i
  refine ⟨fun hi => ?_, fun d hd => ?_⟩
  · show i = z.cps.size
    rw [hi, enumFrom_len]
    simp
  · rw [enumFrom_get, List.getElem?_map] at hd
    cases q : z.cps.toList[i]? with
    | none => rw [q] at hd; cases hd
    | some c =>
      rw [q] at hd
      have hd : PyData.tuple [.int ((0 + i : Nat) : Int), sign c] = d := Option.some.inj hd
      rw [Nat.zero_add] at hd
      subst hd
      have hi : i < z.cps.size := by simpa using (List.getElem?_eq_some_iff.mp q).1
      refine ⟨hi, fun x H' y => ?_⟩
      obtain ⟨T, c', ex, hT, hc, eH⟩ := y
      have : c = c' := by
        have q' : z.cps[i]? = some c := by simpa using q
        rw [hc] at q'
        cases q'
        rfl
      subst this ex eH
      obtain ⟨a1, a2, a3, a4⟩ := E.newTup hT (.cons (.int (i : Nat)) (.cons (.str ⟨#[c]⟩) .nil))
      exact ⟨_, a1, a2, a3, a4⟩
@[simp] def wEnum (Wa : WE) : WI := fun Γ Q => Wa Γ fun d Γ1 => match d with
  | .list ds => Q (enumFrom 0 ds) Γ1
  | .tuple ds => Q (enumFrom 0 ds) Γ1
  | .str z => Q (enumFrom 0 (z.cps.toList.map sign)) Γ1
  | _ => False
theorem di_enum {p tpos : Pos} {elts : List Expr} {kk : Nat} (hg : Gl X "enumerate") (hm : X.mg "enumerate" = none) (ha : DE X e Wa) (hs : starEach [e] X.env = [(false, eval e X.env)] := by rfl) : DI X (.Tuple elts kk tpos) (.Call (.Name "enumerate" p) [e] [] pos) (wEnum Wa) := by
  obtain ⟨t, pa, r⟩ := ha.ex
  refine ⟨_, pi_enumU hg hm (pa_cons pa pa_nil hs) hs, ?_⟩
  intro B Γ σ H G Q R E w k
  refine r B Γ σ H G _ _ E w fun v H1 G1 d Γ1 E1 s1 k1 d1 w1 => ?_
  cases d1 with
  | lst ga da => exact .inl ⟨_, _, rfl, SqL.of (E1.gh _ _ ga), k _ H1 G1 _ Γ1 E1 s1 k1 (dwalk_enum ga da) w1⟩
  | tup ga da => exact .inr (.inr ⟨_, _, rfl, sqT_same E1.gh ga, k _ H1 G1 _ Γ1 E1 s1 k1 (dwalk_enumT ga da) w1⟩)
  | str z => exact .inr (.inl ⟨z, rfl, k _ H1 G1 _ Γ1 E1 s1 k1 dwalk_enumS w1⟩)
  | _ => exact w1.elim
/-! ## zip -/
def zipD : List PyData → List PyData → List PyData
  | x :: xs, y :: ys => .tuple [x, y] :: zipD xs ys
  | _, _ => []
theorem zipD_len : ∀ xs ys : List PyData, (zipD xs ys).length = min xs.length ys.length
  | [], _ => by simp [zipD]
  | _ :: _, [] => by simp [zipD]
  | _ :: xs, _ :: ys => by
    show (zipD xs ys).length + 1 = min (xs.length + 1) (ys.length + 1)
    rw [zipD_len xs ys]
    omega
theorem zipD_get : ∀ (xs ys : List PyData) (i : Nat) (d : PyData), (zipD xs ys)[i]? = some d → ∃ x y, xs[i]? = some x ∧ ys[i]? = some y ∧ d = .tuple [x, y]
  | [], _, i, d, h => by simp [zipD] at h
  | _ :: _, [], i, d, h => by simp [zipD] at h
  | x :: xs, y :: ys, 0, d, h => by
    simp [zipD] at h
    exact ⟨x, y, by simp, by simp, h.symm⟩
  | x :: xs, y :: ys, i + 1, d, h => by
    obtain ⟨a, b, h1, h2, h3⟩ := zipD_get xs ys i d (by simpa [zipD] using h)
    exact ⟨a, b, by simpa using h1, by simpa using h2, h3⟩
theorem dwalk_zip {G0 : Hp} {p q : Addr} {vs us : List V} {ds es : List PyData} (h : G0 p = some (.lst vs)) (da : DdAll K G0 vs ds) (h' : G0 q = some (.lst us)) (db : DdAll K G0 us es) : DWalk K (Itz K p q) G0 (zipD ds es) := by
  intro B Γ σ H G E s i
  have h1 : SqL K H p vs := SqL.of (E.gh _ _ (s _ _ h))
  have h2 : SqL K H q us := SqL.of (E.gh _ _ (s _ _ h'))
  refine ⟨fun hi => ⟨vs, us, h1, h2, ?_⟩, fun d hd => ?_⟩
  · have e1 := da.length
    have e2 := db.length
    rw [zipD_len] at hi
    omega
  · obtain ⟨x, y, hx, hy, rfl⟩ := zipD_get ds es i d hd
    obtain ⟨v, hv, dv⟩ := da.get hx
    obtain ⟨u, hu, du⟩ := db.get hy
    refine ⟨⟨vs, us, v, u, h1, h2, hv, hu⟩, fun z H' yy => ?_⟩
    obtain ⟨T, x0, y0, ex, hT, eH, y1, y2⟩ := yy
    have g1 := y1 vs h1
    have g2 := y2 us h2
    rw [hv] at g1
    rw [hu] at g2
    cases g1
    cases g2
    subst ex eH
    obtain ⟨a1, a2, a3, a4⟩ := E.newTup hT (.cons (dv.mono s) (.cons (du.mono s) .nil))
    exact ⟨_, a1, a2, a3, a4⟩
theorem dwalk_zipT {G0 : Hp} {p q : Addr} {vs us : List V} {ds es : List PyData} (h : SqT K G0 p vs) (da : DdAll K G0 vs ds) (h' : SqT K G0 q us) (db : DdAll K G0 us es) : DWalk K (RZ.ItzT K p q) G0 (zipD ds es) := by
  intro B Γ σ H G E s i
  have h1 : SqT K H p vs := sqT_same E.gh (sqT_same s h)
  have h2 : SqT K H q us := sqT_same E.gh (sqT_same s h')
  refine ⟨fun hi => ⟨vs, us, h1, h2, ?_⟩, fun d hd => ?_⟩
  · have e1 := da.length
    have e2 := db.length
    rw [zipD_len] at hi
    omega
  · obtain ⟨x, y, hx, hy, rfl⟩ := zipD_get ds es i d hd
    obtain ⟨v, hv, dv⟩ := da.get hx
    obtain ⟨u, hu, du⟩ := db.get hy
    refine ⟨⟨vs, us, v, u, h1, h2, hv, hu⟩, fun z H' yy => ?_⟩
    obtain ⟨T, x0, y0, ex, hT, eH, y1, y2⟩ := yy
    have g1 := y1 vs h1
    have g2 := y2 us h2
    rw [hv] at g1
    rw [hu] at g2
    cases g1
    cases g2
    subst ex eH
    obtain ⟨a1, a2, a3, a4⟩ := E.newTup hT (.cons (dv.mono s) (.cons (du.mono s) .nil))
    exact ⟨_, a1, a2, a3, a4⟩
@[simp] def wZip (Wa Wb : WE) : WI := fun Γ Q => Wa Γ fun d Γ1 => Wb Γ1 fun e Γ2 => match d, e with
  | .list ds, .list es => Q (zipD ds es) Γ2
  | .tuple ds, .tuple es => Q (zipD ds es) Γ2
  | _, _ => False
theorem di_zip {p tpos : Pos} {elts : List Expr} {kk : Nat} (hg : Gl X "zip") (hm : X.mg "zip" = none) (ha : DE X a Wa) (hb : DE X b Wb) (hs : starEach [a, b] X.env = (false, eval a X.env) :: starEach [b] X.env := by rfl) (hs2 : starEach [b] X.env = (false, eval b X.env) :: starEach [] X.env := by rfl) (hpl : (backTo pos (starEach [b] X.env)).any (·.1) = false := by rfl) :
    DI X (.Tuple elts kk tpos) (.Call (.Name "zip" p) [a, b] [] pos) (wZip Wa Wb) := by
  obtain ⟨t, pa, r⟩ := ha.ex
  obtain ⟨t', pb, r'⟩ := hb.ex
  refine ⟨_, RZ.pi_zipA hg hm (pa_cons pa (pa_cons pb pa_nil hs2) hs) hs hpl, ?_⟩
  intro B Γ σ H G Q R E w k
  refine r B Γ σ H G _ _ E w fun v H1 G1 d Γ1 E1 s1 k1 d1 w1 => ?_
  refine r' B Γ1 σ H1 G1 _ _ E1 w1 fun u H2 G2 e Γ2 E2 s2 k2 d2 w2 => ?_
  have d1' := d1.mono s2
  cases d1' with
  | lst ga da =>
    cases d2 with
    | lst gb db => exact ⟨_, _, _, _, rfl, .inl ⟨SqL.of (E2.gh _ _ ga), SqL.of (E2.gh _ _ gb), k _ H2 G2 _ Γ2 E2 (s1.trans s2) (k1.trans k2) (dwalk_zip ga da gb db) w2⟩⟩
    | _ => exact w2.elim
  | tup ga da =>
    cases d2 with
    | tup gb db => exact ⟨_, _, _, _, rfl, .inr ⟨sqT_same E2.gh ga, sqT_same E2.gh gb, k _ H2 G2 _ Γ2 E2 (s1.trans s2) (k1.trans k2) (dwalk_zipT ga da gb db) w2⟩⟩
    | _ => exact w2.elim
  | _ => cases d2 <;> exact w2.elim
end
end DL

namespace DL
open PySem PySem.Spec PyProof.Rows L2
section
variable {X : Cx} {K : PySem.W.Frag} {a b c e tg elt iter : Expr} {es tgs ifs : List Expr} {Wa Wb Wc We : WE} {Wr : WA} {pos : Pos} {WT' : WT} {ts us : List Nat}
/-! ## list comprehensions -/
@[simp] def wipeG (Γ : Gam) : List Nat → Gam
  | [] => Γ
  | v :: vs => (wipeG Γ vs).set v .un
/-- behind the block: its own slots as they stood ahead, the others as they stand -/
@[simp] def restG (Γ Γ' : Gam) : List Nat → Gam
  | [] => Γ'
  | v :: vs => (restG Γ Γ' vs).set v (Γ.getD v .un)
theorem wipe_get {σ : L2.St} {i : Nat} : ∀ {vs : List Nat}, (i ∉ vs → (wipe σ vs)[i]? = σ[i]?) ∧ (i ∈ vs → (wipe σ vs)[i]? = (σ[i]?).map fun _ => none)
  | [] => ⟨fun _ => rfl, fun h => by simp at h⟩
  | v :: vs => by
    obtain ⟨h1, h2⟩ := wipe_get (σ := σ) (i := i) (vs := vs)
    have hl : (wipe σ vs).length = σ.length := wipe_length σ vs
    show (i ∉ v :: vs → ((wipe σ vs).set v none)[i]? = σ[i]?) ∧ (i ∈ v :: vs → ((wipe σ vs).set v none)[i]? = (σ[i]?).map fun _ => none)
    by_cases e : v = i
    · subst e
      refine ⟨fun h => absurd List.mem_cons_self h, fun _ => ?_⟩
      by_cases hv : v < σ.length
      · rw [List.getElem?_set_self (by rw [hl]; exact hv), List.getElem?_eq_getElem hv]
        rfl
      · rw [List.getElem?_eq_none (by rw [List.length_set, hl]; omega), List.getElem?_eq_none (by omega)]
        rfl
    · rw [List.getElem?_set_ne e]
      refine ⟨fun h => h1 fun z => h (List.mem_cons_of_mem _ z), fun h => h2 ?_⟩
      rcases List.mem_cons.mp h with h | h
      · exact absurd h.symm e
      · exact h
theorem wipeG_get {Γ : Gam} {i : Nat} : ∀ {vs : List Nat}, (wipeG Γ vs).length = Γ.length ∧ (i ∉ vs → (wipeG Γ vs)[i]? = Γ[i]?) ∧ (i ∈ vs → (wipeG Γ vs)[i]? = (Γ[i]?).map fun _ => Sl.un)
  | [] => ⟨rfl, fun _ => rfl, fun h => by simp at h⟩
  | v :: vs => by
    obtain ⟨hl, h1, h2⟩ := wipeG_get (Γ := Γ) (i := i) (vs := vs)
    show ((wipeG Γ vs).set v .un).length = Γ.length ∧ (i ∉ v :: vs → ((wipeG Γ vs).set v .un)[i]? = Γ[i]?) ∧ (i ∈ v :: vs → ((wipeG Γ vs).set v .un)[i]? = (Γ[i]?).map fun _ => Sl.un)
    refine ⟨by rw [List.length_set, hl], ?_⟩
    by_cases e : v = i
    · subst e
      refine ⟨fun h => absurd List.mem_cons_self h, fun _ => ?_⟩
      by_cases hv : v < Γ.length
      · rw [List.getElem?_set_self (by rw [hl]; exact hv), List.getElem?_eq_getElem hv]
        rfl
      · rw [List.getElem?_eq_none (by rw [List.length_set, hl]; omega), List.getElem?_eq_none (by omega)]
        rfl
    · rw [List.getElem?_set_ne e]
      refine ⟨fun h => h1 fun z => h (List.mem_cons_of_mem _ z), fun h => h2 ?_⟩
      rcases List.mem_cons.mp h with h | h
      · exact absurd h.symm e
      · exact h
theorem restG_get {Γ Γ' : Gam} (hlen : Γ.length = Γ'.length) {i : Nat} : ∀ {vs : List Nat}, (restG Γ Γ' vs).length = Γ.length ∧ (i ∉ vs → (restG Γ Γ' vs)[i]? = Γ'[i]?) ∧ (i ∈ vs → (restG Γ Γ' vs)[i]? = Γ[i]?)
  | [] => ⟨hlen.symm, fun _ => rfl, fun h => by simp at h⟩
  | v :: vs => by
    obtain ⟨hl, h1, h2⟩ := restG_get hlen (i := i) (vs := vs)
    show ((restG Γ Γ' vs).set v (Γ.getD v .un)).length = Γ.length ∧ (i ∉ v :: vs → ((restG Γ Γ' vs).set v (Γ.getD v .un))[i]? = Γ'[i]?) ∧ (i ∈ v :: vs → ((restG Γ Γ' vs).set v (Γ.getD v .un))[i]? = Γ[i]?)
    refine ⟨by rw [List.length_set, hl], ?_⟩
    by_cases e : v = i
    · subst e
      refine ⟨fun h => absurd List.mem_cons_self h, fun _ => ?_⟩
      by_cases hv : v < Γ.length
      · rw [List.getElem?_set_self (by rw [hl]; exact hv), List.getElem?_eq_getElem hv]
        simp [List.getD, List.getElem?_eq_getElem hv]
      · rw [List.getElem?_eq_none (by rw [List.length_set, hl]; omega), List.getElem?_eq_none (by omega)]
    · rw [List.getElem?_set_ne e]
      refine ⟨fun h => h1 fun z => h (List.mem_cons_of_mem _ z), fun h => h2 ?_⟩
      rcases List.mem_cons.mp h with h | h
      · exact absurd h.symm e
      · exact h
@[simp] def noOwn (Γ : Gam) (vs : List Nat) : Bool := vs.all fun v => (ownAt Γ v).isNone
theorem noOwn_of {Γ : Gam} {vs : List Nat} (h : noOwn Γ vs = true) {i : Nat} (hi : i ∈ vs) : ∀ ds, ¬ Own Γ i ds := by
  intro ds o
  unfold noOwn at h
  rw [List.all_eq_true] at h
  have h := h i hi
  unfold ownAt at h
  rcases o with o | o <;> (rw [o] at h; cases h)
/-- the frame within a block -/
theorem En.wiped {B : Bs} {σ : L2.St} {H G : Hp} {Γ : Gam} (E : En K B σ H G Γ) (vs : List Nat) : En K B (wipe σ vs) H G (wipeG Γ vs) := by
  have gg : ∀ {i : Nat} {s : Sl}, (wipeG Γ vs)[i]? = some s → s ≠ .un → i ∉ vs ∧ Γ[i]? = some s ∧ (wipe σ vs)[i]? = σ[i]? := fun {i s} h hs => by
    by_cases hi : i ∈ vs
    · exfalso
      rw [(wipeG_get (vs := vs)).2.2 hi] at h
      cases q : Γ[i]? with
      | none => rw [q] at h; cases h
      | some x => rw [q] at h; cases h; exact hs rfl
    · rw [(wipeG_get (vs := vs)).2.1 hi] at h
      exact ⟨hi, h, (wipe_get (vs := vs)).1 hi⟩
  have oo : ∀ {i : Nat} {ds : List PyData}, Own (wipeG Γ vs) i ds → Own Γ i ds ∧ (wipe σ vs)[i]? = σ[i]? := fun {i ds} o => by
    rcases o with o | o
    · obtain ⟨_, h1, h2⟩ := gg o (fun z => by cases z)
      exact ⟨.inl h1, h2⟩
    · obtain ⟨_, h1, h2⟩ := gg o (fun z => by cases z)
      exact ⟨.inr h1, h2⟩
  refine ⟨by rw [wipe_length, (wipeG_get (i := 0)).1]; exact E.len, E.gh, E.g0, E.h0, E.bh, E.f0, E.nn, fun i d h => ?_, fun i ds o => ?_, fun i ds o => ?_, fun i ds o => ?_, fun i ds o => ?_, fun i j p ds es o1 o2 h1 h2 => ?_⟩
  · obtain ⟨_, h1, h2⟩ := gg h (fun z => by cases z)
    rw [h2]
    exact E.dat i d h1
  · obtain ⟨h1, h2⟩ := oo o
    rw [h2]
    exact E.mine i ds h1
  · obtain ⟨_, h1, h2⟩ := gg o (fun z => by cases z)
    rw [h2]
    exact E.new i ds h1
  · obtain ⟨_, h1, h2⟩ := gg o (fun z => by cases z)
    rw [h2]
    exact E.par i ds h1
  · obtain ⟨_, h1, h2⟩ := gg o (fun z => by cases z)
    rw [h2]
    exact E.scr i ds h1
  · obtain ⟨g1, g2⟩ := oo o1
    obtain ⟨g3, g4⟩ := oo o2
    rw [g2] at h1
    rw [g4] at h2
    exact E.inj i j p ds es g1 g3 h1 h2
/-- behind the block -/
theorem En.rest {B B0 : Bs} {σ σ2 : L2.St} {H G H' G' : Hp} {Γ Γ1 Γ3 : Gam} {vs : List Nat} (E : En K B0 σ H G Γ) (E3 : En K B σ2 H' G' Γ3) (s : Same G G') (hno : noOwn Γ vs = true)
    (hσ : ∀ j : Nat, j ∉ vs → σ2[j]? = σ[j]?) (hΓ : ∀ j : Nat, j ∉ vs → Γ1[j]? = Γ[j]?) (hl : Γ1.length = Γ.length) (ks : KS Γ1 Γ3) : En K B σ H' G' (restG Γ Γ3 vs) ∧ KS Γ (restG Γ Γ3 vs) := by
  have hlen : Γ.length = Γ3.length := hl.symm.trans ks.len
  have out : ∀ {i : Nat}, i ∉ vs → (restG Γ Γ3 vs)[i]? = Γ3[i]? := fun hi => (restG_get hlen).2.1 hi
  have inn : ∀ {i : Nat}, i ∈ vs → (restG Γ Γ3 vs)[i]? = Γ[i]? := fun hi => (restG_get hlen).2.2 hi
  have oo : ∀ {i : Nat} {ds : List PyData}, Own (restG Γ Γ3 vs) i ds → i ∉ vs ∧ Own Γ3 i ds ∧ σ2[i]? = σ[i]? := fun {i ds} o => by
    by_cases hi : i ∈ vs
    · exfalso
      unfold Own at o
      rw [inn hi] at o
      exact noOwn_of hno hi ds o
    · unfold Own at o ⊢
      rw [out hi] at o
      exact ⟨hi, o, hσ i hi⟩
  refine ⟨⟨by rw [(restG_get (i := 0) hlen).1]; exact E.len, E3.gh, E3.g0, E3.h0, E3.bh, E3.f0, E3.nn, fun i d h => ?_, fun i ds o => ?_, fun i ds o => ?_, fun i ds o => ?_, fun i ds o => ?_, fun i j p ds es o1 o2 h1 h2 => ?_⟩, ⟨((restG_get (i := 0) hlen).1).symm, fun i x y hx hy => ?_⟩⟩
  · by_cases hi : i ∈ vs
    · rw [inn hi] at h
      obtain ⟨v, h1, h2⟩ := E.dat i d h
      exact ⟨v, h1, h2.mono s⟩
    · rw [out hi] at h
      obtain ⟨v, h1, h2⟩ := E3.dat i d h
      exact ⟨v, by rw [← hσ i hi]; exact h1, h2⟩
  · obtain ⟨_, h1, h2⟩ := oo o
    rw [← h2]
    exact E3.mine i ds h1
  · obtain ⟨hi, _, h2⟩ := oo (.inl o)
    rw [out hi] at o
    rw [← h2]
    exact E3.new i ds o
  · obtain ⟨hi, _, h2⟩ := oo (.inr o)
    rw [out hi] at o
    rw [← h2]
    exact E3.par i ds o
  · by_cases hi : i ∈ vs
    · rw [inn hi] at o
      exact E.scrG s i ds o
    · rw [out hi] at o
      rw [← hσ i hi]
      exact E3.scr i ds o
  · obtain ⟨_, g1, g2⟩ := oo o1
    obtain ⟨_, g3, g4⟩ := oo o2
    rw [← g2] at h1
    rw [← g4] at h2
    exact E3.inj i j p ds es g1 g3 h1 h2
  · by_cases hi : i ∈ vs
    · rw [inn hi, hx] at hy
      cases hy
      exact KS1.refl _
    · rw [out hi] at hy
      rw [← hΓ i hi] at hx
      exact ks.at' i x y hx hy
/-- a thing that is nobody's is written -/
theorem En.tempW {B : Bs} {σ : L2.St} {H G : Hp} {Γ : Gam} {D : Addr} {u o : HO} (E : En K B σ H G Γ) (hD : H D = some u) (gD : G D = none) (bD : B.H D = none) (hn : ∀ (i : Nat) es, Own Γ i es → σ[i]? ≠ some (some (V.ref D))) : En K B σ (upd H D o) G Γ := by
  refine ⟨E.len, fun b x h => ?_, E.g0, fun b x h hP => ?_, fun b h => ?_, E.f0, fun b h => E.nn b ?_, E.dat, fun i ds ow => ?_, E.new, E.par, E.scr, E.inj⟩
  · rw [upd_ne (ne_of_none h gD)]
    exact E.gh b x h
  · rw [upd_ne (ne_of_none h bD)]
    exact E.h0 b x h hP
  · by_cases hb : b = D
    · subst hb; rw [upd_same]; exact fun z => by cases z
    · rw [upd_ne hb]; exact E.bh b h
  · by_cases hb : b = D
    · subst hb; rw [upd_same] at h; cases h
    · rwa [upd_ne hb] at h
  · obtain ⟨q, vs, h1, h2, h3, h4, h5⟩ := E.mine i ds ow
    refine ⟨q, vs, h1, h2, ?_, h4, h5⟩
    have hq : q ≠ D := fun z => hn i ds ow (by rw [h1, z])
    rw [upd_ne hq]
    exact h3
def lcD (Wg : WG) (Wt : WT) (We : WE) (vs : List Nat) (Q : List PyData → Gam → Prop) : List PyData → List PyData → Gam → Prop
  | [], acc, Γ => Q acc Γ
  | d :: ds, acc, Γ => Wg d (wipeG Γ vs) fun Γ1 => Wt Γ1 fun b Γ2 => if b = true then We Γ2 fun x Γ3 => acc.length < sizeLine ∧ lcD Wg Wt We vs Q ds (acc ++ [x]) (restG Γ Γ3 vs) else lcD Wg Wt We vs Q ds acc (restG Γ Γ2 vs)
@[simp] def wLc (Wi : WI) (Wg : WG) (Wt : WT) (We : WE) (vs : List Nat) : WA := fun Γ Q => Wi Γ fun ds Γ1 => noOwn Γ1 vs = true ∧ lcD Wg Wt We vs Q ds [] Γ1
structure DTs (X : Cx) (ifs : List Expr) (W : WT) : Prop where
  ex : ∃ t, PTs X ifs t ∧ RT X.K t W
@[simp] def wYes : WT := fun Γ Q => Q true Γ
theorem dts_nil : DTs X [] wYes := ⟨_, pts_nil, by
  intro B Γ σ H G Q Q' E w k
  exact k true H G Γ E (Same.refl _) (KS.refl _) w⟩
theorem dts_one {W : WT} (h : DT X c W) : DTs X [c] W := by
  obtain ⟨t, p, r⟩ := h.ex
  exact ⟨_, pts_one p, r⟩
theorem rn_lc {wi : TI} {g : TG} {tt : TT} {te : TE} {vs : List Nat} {Wi : WI} {Wg : WG} {Wt : WT} (ri : RI K wi Wi) (rg : RG K ts g Wg) (rt : RT K tt Wt) (re : RE K te We) (hts : ∀ i ∈ ts, i ∈ vs) : RN K (tLc wi g tt te vs) (wLc Wi Wg Wt We vs) := by
  intro B Γ σ H G Q Q' E w k
  refine ri B Γ σ H G _ _ E w fun J H1 G1 ds Γ1 E1 s1 k1 dw w1 => ?_
  obtain ⟨hno, w1⟩ := w1
  intro D hD
  have inv0 : ∃ G2 Γ2 acc us, En K B σ (upd H1 D (.lst [])) G2 Γ2 ∧ Same G1 G2 ∧ KS Γ1 Γ2 ∧ noOwn Γ2 vs = true ∧ (upd H1 D (.lst [])) D = some (.lst us) ∧ G2 D = none ∧ DdAll K G2 us acc ∧ (∀ (i : Nat) es, Own Γ2 i es → σ[i]? ≠ some (some (V.ref D))) ∧ lcD Wg Wt We vs Q (ds.drop 0) acc Γ2 :=
    ⟨G1, Γ1, [], [], E1.laidN hD, Same.refl _, KS.refl _, hno, upd_same, E1.gnone hD, .nil, fresh_own E1 hD, w1⟩
  refine ⟨fun i m H => m = ds.length - i ∧ i ≤ ds.length ∧ ∃ G2 Γ2 acc us, En K B σ H G2 Γ2 ∧ Same G1 G2 ∧ KS Γ1 Γ2 ∧ noOwn Γ2 vs = true ∧ H D = some (.lst us) ∧ G2 D = none ∧ DdAll K G2 us acc ∧ (∀ (i : Nat) es, Own Γ2 i es → σ[i]? ≠ some (some (V.ref D))) ∧ lcD Wg Wt We vs Q (ds.drop i) acc Γ2,
    ⟨ds.length, rfl, Nat.zero_le _, inv0⟩, ?_⟩
  rintro i m H2 ⟨rfl, hi, G2, Γ2, acc, us, E2, s2, k2, hno2, hD2, gD2, da2, no2, w2⟩
  obtain ⟨stop, go⟩ := dw B Γ2 σ H2 G2 E2 s2 i
  by_cases hlt : i < ds.length
  · have hd : ds[i]? = some ds[i] := List.getElem?_eq_getElem hlt
    obtain ⟨g1, y1⟩ := go _ hd
    rw [List.drop_eq_getElem_cons hlt] at w2
    refine .inr ⟨g1, fun H' => ∃ G2 Γ2 acc us, En K B σ H' G2 Γ2 ∧ Same G1 G2 ∧ KS Γ1 Γ2 ∧ noOwn Γ2 vs = true ∧ H' D = some (.lst us) ∧ G2 D = none ∧ DdAll K G2 us acc ∧ (∀ (i : Nat) es, Own Γ2 i es → σ[i]? ≠ some (some (V.ref D))) ∧ lcD Wg Wt We vs Q (ds.drop (i + 1)) acc Γ2,
      fun H' h => ⟨ds.length - (i + 1), by omega, rfl, hlt, h⟩, fun x H3 hy => ?_⟩
    -- the block's own frame, over the heap as it stands here
    obtain ⟨G3, E3', s3, d3, sH3⟩ := (dw (rebase B σ H2 G2 Γ2) Γ2 σ H2 G2 E2.rebase s2 i).2 _ hd |>.2 x H3 hy
    have Ew := E3'.wiped vs
    refine rg _ _ _ _ _ _ _ _ _ Ew d3 w2 fun σ4 H4 G4 Γ4 E4 s4 l4 n4 w4 => ?_
    have hw1 : ∀ j : Nat, j ∉ vs → σ4[j]? = σ[j]? := fun j hj => ((n4 j fun z => hj (hts j z)).1).trans ((wipe_get (vs := vs)).1 hj)
    have hw2 : ∀ j : Nat, j ∉ vs → Γ4[j]? = Γ2[j]? := fun j hj => ((n4 j fun z => hj (hts j z)).2).trans ((wipeG_get (vs := vs)).2.1 hj)
    have hw3 : Γ4.length = Γ2.length := by
      rw [← E4.len, l4, wipe_length]
      exact E2.len
    refine ⟨?_, ?_⟩
    · refine List.ext_getElem? fun j => ?_
      have hls : σ4.length = σ.length := by rw [l4, wipe_length]
      by_cases hj : j ∈ vs
      · rw [(wipe_get (vs := vs)).2 hj, (wipe_get (vs := vs)).2 hj]
        by_cases hjl : j < σ.length
        · rw [List.getElem?_eq_getElem (show j < σ4.length by omega), List.getElem?_eq_getElem hjl]
          rfl
        · rw [List.getElem?_eq_none (show σ4.length ≤ j by omega), List.getElem?_eq_none (by omega)]
      · rw [(wipe_get (vs := vs)).1 hj, (wipe_get (vs := vs)).1 hj, hw1 j hj]
    · refine rt _ _ _ _ _ _ _ E4 w4 fun b H5 G5 Γ5 E5 s5 k5 w5 => ?_
      have back : ∀ {H6 G6 : Hp} {Γ6 : Gam}, En K (rebase B σ H2 G2 Γ2) σ4 H6 G6 Γ6 → Same G4 G6 → KS Γ4 Γ6 → En K B σ H6 G6 (restG Γ2 Γ6 vs) ∧ KS Γ2 (restG Γ2 Γ6 vs) ∧ H6 D = some (.lst us) ∧ G6 D = none ∧ noOwn (restG Γ2 Γ6 vs) vs = true ∧ (∀ (i : Nat) es, Own (restG Γ2 Γ6 vs) i es → σ[i]? ≠ some (some (V.ref D))) := fun {H6 G6 Γ6} E6 s6 k6 => by
        have s26 : Same G2 G6 := s3.trans (s4.trans s6)
        obtain ⟨R1, R2⟩ := En.rest E2.rebase E6 s26 hno2 hw1 hw2 hw3 k6
        have h6 : H6 D = some (.lst us) := E6.h0 D _ hD2 fun ⟨i, es, ow, hs⟩ => no2 i es ow hs
        have g6 : G6 D = none := E6.f0 D (by show H2 D ≠ none; rw [hD2]; exact fun z => by cases z) gD2
        refine ⟨E2.unbase R1 R2, R2, h6, g6, ?_, fun i es ow z => ?_⟩
        · unfold noOwn at hno2 ⊢
          rw [List.all_eq_true] at hno2 ⊢
          intro v hv
          have h := hno2 v hv
          have e : (restG Γ2 Γ6 vs)[v]? = Γ2[v]? := (restG_get (hw3.symm.trans k6.len)).2.2 hv
          unfold ownAt at h ⊢
          rw [e]
          exact h
        · obtain ⟨es0, o0⟩ := R2.mineB ow
          exact no2 i es0 o0 z
      cases b with
      | true =>
        refine re _ _ _ _ _ _ _ E5 w5 fun y H6 G6 dx Γ6 E6 s6 k6 d6 w6 => ?_
        obtain ⟨R1, R2, h6, g6, n6, o6⟩ := back E6 (s5.trans s6) (k5.trans k6)
        refine ⟨us, h6, by rw [da2.length]; exact w6.1, G6, restG Γ2 Γ6 vs, acc ++ [dx], us ++ [y], R1.tempW h6 g6 (E1.bnone hD) o6, s2.trans (s3.trans (s4.trans (s5.trans s6))), k2.trans R2, n6, upd_same, g6, (da2.mono (s3.trans (s4.trans (s5.trans s6)))).app (.cons d6 .nil), o6, w6.2⟩
      | false =>
        obtain ⟨R1, R2, h6, g6, n6, o6⟩ := back E5 s5 k5
        exact ⟨G5, restG Γ2 Γ5 vs, acc, us, R1, s2.trans (s3.trans (s4.trans s5)), k2.trans R2, n6, h6, g6, da2.mono (s3.trans (s4.trans s5)), o6, w5⟩
  · have e : i = ds.length := by omega
    subst e
    rw [List.drop_length] at w2
    exact .inl ⟨stop rfl, k D us H2 G2 acc Γ2 E2 (s1.trans s2) (k1.trans k2) gD2 hD2 da2 (E1.bnone hD) (E1.nn D hD) no2 w2⟩
/-! ### the weakest readings -/
def tE (K : PySem.W.Frag) (W : WE) : TE := fun σ H Q' => ∃ (B : Bs) (Γ : Gam) (G : Hp) (Q : PyData → Gam → Prop), En K B σ H G Γ ∧ W Γ Q ∧ (∀ v H' G' d Γ', En K B σ H' G' Γ' → Same G G' → KS Γ Γ' → Dd K G' v d → Q d Γ' → Q' v H')
theorem re_tE {W : WE} : RE K (tE K W) W := fun B Γ σ H G Q Q' E w k => ⟨B, Γ, G, Q, E, w, k⟩
theorem DE.can {W : WE} (h : DE X e W) : PE X e (tE X.K W) := by
  obtain ⟨t, p, r⟩ := h.ex
  refine ⟨fun pins s σ H Q I hq => ?_⟩
  obtain ⟨B, Γ, G, Q0, E, w, k⟩ := hq
  exact p.run pins s σ H Q I (r B Γ σ H G Q0 Q E w k)
def tT' (K : PySem.W.Frag) (W : WT) : TT := fun σ H Q' => ∃ (B : Bs) (Γ : Gam) (G : Hp) (Q : Bool → Gam → Prop), En K B σ H G Γ ∧ W Γ Q ∧ (∀ b H' G' Γ', En K B σ H' G' Γ' → Same G G' → KS Γ Γ' → Q b Γ' → Q' b H')
theorem rt_tT {W : WT} : RT K (tT' K W) W := fun B Γ σ H G Q Q' E w k => ⟨B, Γ, G, Q, E, w, k⟩
theorem DTs.can {W : WT} (h : DTs X ifs W) : PTs X ifs (tT' X.K W) := by
  obtain ⟨t, p, r⟩ := h.ex
  refine ⟨fun pins s σ H Q I hq => ?_⟩
  obtain ⟨B, Γ, G, Q0, E, w, k⟩ := hq
  exact p.run pins s σ H Q I (r B Γ σ H G Q0 Q E w k)
def tG (K : PySem.W.Frag) (ts : List Nat) (W : WG) : TG := fun v σ H Q' => ∃ (B : Bs) (Γ : Gam) (G : Hp) (d : PyData) (Q : Gam → Prop), En K B σ H G Γ ∧ Dd K G v d ∧ W d Γ Q ∧
  (∀ σ' H' G' Γ', En K B σ' H' G' Γ' → Same G G' → σ'.length = σ.length → (∀ j : Nat, j ∉ ts → σ'[j]? = σ[j]? ∧ Γ'[j]? = Γ[j]?) → Q Γ' → Q' σ' H')
theorem rg_tG {W : WG} : RG K ts (tG K ts W) W := fun B Γ σ H G v d Q Q' E h w k => ⟨B, Γ, G, d, Q, E, h, w, k⟩
theorem DG.can {W : WG} (h : DG X tg ts W) : PG X tg (tG X.K ts W) := by
  obtain ⟨t, p, r⟩ := h.ex
  refine ⟨fun pins s σ H v u Q I rv hq => ?_⟩
  obtain ⟨B, Γ, G, d, Q0, E, hd, w, k⟩ := hq
  exact p.run pins s σ H v u Q I rv (r B Γ σ H G v d Q0 Q E hd w k)
theorem dn_lc {scope : Scope} {own : List (Str × Nat)} {Wi : WI} {Wg : WG} {Wt : WT} (hc : X.calm = true) (hN : X.N.Nodup) (hi : DI X tg iter Wi) (ok : BlkOk X.N X.env.scope scope own)
    (hg : ∀ (s : Shared) (H : Hp) (C : Addr) (cl : List (Str × Addr)) (fp : List Addr), DG (X.blk s H scope (compEnvC scope cl C X.env) fp) tg ts Wg)
    (ht : ∀ (s : Shared) (H : Hp) (C : Addr) (cl : List (Str × Addr)) (fp : List Addr), DTs (X.blk s H scope (compEnvC scope cl C X.env) fp) ifs Wt)
    (he : ∀ (s : Shared) (H : Hp) (C : Addr) (cl : List (Str × Addr)) (fp : List Addr), DE (X.blk s H scope (compEnvC scope cl C X.env) fp) elt We)
    (hts : ∀ i ∈ ts, i ∈ own.map (·.2)) (hs : ∀ x, foldedSetIterable iter X.env x = pure x := by intro _; rfl) :
    DN X (.ListComp elt [⟨tg, iter, ifs, 0⟩] scope pos) (wLc Wi Wg Wt We (own.map (·.2))) := by
  obtain ⟨wi, pi, ri⟩ := hi.ex
  exact ⟨_, pe_lc hc hN pi ok (fun s H C cl fp => (hg s H C cl fp).can) (fun s H C cl fp => (ht s H C cl fp).can) (fun s H C cl fp => (he s H C cl fp).can) hs, rn_lc ri rg_tG rt_tT re_tE hts⟩
/-- name = [..] -/
theorem ds_setLcL {i : Nat} {y : Str} {py spos : Pos} {scope : Scope} {own : List (Str × Nat)} {Wi : WI} {Wg : WG} {Wt : WT} (hc : X.calm = true) (hN : X.N.Nodup) (hy : X.N[i]? = some y) (hyl : X.env.scope.names.lookup y = some .local)
    (hsw : swapsWith (.ListComp elt [⟨tg, iter, ifs, 0⟩] scope pos) (some (.Name y py)) spos.line X.env = pure true) (hi : DI X tg iter Wi) (ok : BlkOk X.N X.env.scope scope own)
    (hg : ∀ (s : Shared) (H : Hp) (C : Addr) (cl : List (Str × Addr)) (fp : List Addr), DG (X.blk s H scope (compEnvC scope cl C X.env) fp) tg ts Wg)
    (ht : ∀ (s : Shared) (H : Hp) (C : Addr) (cl : List (Str × Addr)) (fp : List Addr), DTs (X.blk s H scope (compEnvC scope cl C X.env) fp) ifs Wt)
    (he : ∀ (s : Shared) (H : Hp) (C : Addr) (cl : List (Str × Addr)) (fp : List Addr), DE (X.blk s H scope (compEnvC scope cl C X.env) fp) elt We)
    (hts : ∀ i ∈ ts, i ∈ own.map (·.2)) (hs : ∀ x, foldedSetIterable iter X.env x = pure x := by intro _; rfl) :
    DS X (.Assign [.Name y py] (.ListComp elt [⟨tg, iter, ifs, 0⟩] scope pos) spos) (wAsgL i (wLc Wi Wg Wt We (own.map (·.2)))) := by
  obtain ⟨wi, pi, ri⟩ := hi.ex
  exact ⟨_, ps_setLc hc hN hy hyl hsw pi ok (fun s H C cl fp => (hg s H C cl fp).can) (fun s H C cl fp => (ht s H C cl fp).can) (fun s H C cl fp => (he s H C cl fp).can) hs, rs_asgL (rn_lc ri rg_tG rt_tT re_tE hts)⟩
theorem ds_setLc {i : Nat} {y : Str} {py spos : Pos} {scope : Scope} {own : List (Str × Nat)} {Wi : WI} {Wg : WG} {Wt : WT} (hc : X.calm = true) (hN : X.N.Nodup) (hy : X.N[i]? = some y) (hyl : X.env.scope.names.lookup y = some .local)
    (hsw : swapsWith (.ListComp elt [⟨tg, iter, ifs, 0⟩] scope pos) (some (.Name y py)) spos.line X.env = pure true) (hi : DI X tg iter Wi) (ok : BlkOk X.N X.env.scope scope own)
    (hg : ∀ (s : Shared) (H : Hp) (C : Addr) (cl : List (Str × Addr)) (fp : List Addr), DG (X.blk s H scope (compEnvC scope cl C X.env) fp) tg ts Wg)
    (ht : ∀ (s : Shared) (H : Hp) (C : Addr) (cl : List (Str × Addr)) (fp : List Addr), DTs (X.blk s H scope (compEnvC scope cl C X.env) fp) ifs Wt)
    (he : ∀ (s : Shared) (H : Hp) (C : Addr) (cl : List (Str × Addr)) (fp : List Addr), DE (X.blk s H scope (compEnvC scope cl C X.env) fp) elt We)
    (hts : ∀ i ∈ ts, i ∈ own.map (·.2)) (hs : ∀ x, foldedSetIterable iter X.env x = pure x := by intro _; rfl) :
    DS X (.Assign [.Name y py] (.ListComp elt [⟨tg, iter, ifs, 0⟩] scope pos) spos) (wAsg i (wL (wLc Wi Wg Wt We (own.map (·.2))))) := by
  obtain ⟨wi, pi, ri⟩ := hi.ex
  exact ⟨_, ps_setLc hc hN hy hyl hsw pi ok (fun s H C cl fp => (hg s H C cl fp).can) (fun s H C cl fp => (ht s H C cl fp).can) (fun s H C cl fp => (he s H C cl fp).can) hs, rs_asg (re_of_rn (rn_lc ri rg_tG rt_tT re_tE hts))⟩
/-! ## a, b = e1, e2 -/
/-- of both sides, whether the list is one's own -/
def RL (K : PySem.W.Frag) (t : TA) (W : Gam → (Gam → Prop) → Prop) (i j : Nat) : Prop :=
  ∀ (B : Bs) (Γ : Gam) (σ : L2.St) (H G : Hp) (Q : Gam → Prop) (Q' : L2.St → Hp → Prop), En K B σ H G Γ → W Γ Q →
    (∀ σ' H' G' Γ', En K B σ' H' G' Γ' → Same G G' → Q Γ' → Q' σ' H') → t σ H fun vs H1 => ∃ v w, vs = [v, w] ∧ Q' ((σ.set i (some v)).set j (some w)) H1
@[simp] def wPar (i j : Nat) (Wa Wb : WE) : WS := fun D Γ => Wa Γ fun x Γ1 => Wb Γ1 fun y Γ2 => D.nx ((Γ2.set i (.dat x)).set j (.dat y))
theorem ds_par {i j : Nat} {x y : Str} {px py pt : Pos} {kt k2 pt2} (hc : X.calm = true) (hN : X.N.Nodup) (hi : X.N[i]? = some x) (hj : X.N[j]? = some y) (hij : i ≠ j)
    (hx : X.env.scope.names.lookup x = some .local) (hy : X.env.scope.names.lookup y = some .local) (ha : DE X a Wa) (hb : DE X b Wb)
    (hw : swappedStores [.Tuple [.Name x px, .Name y py] kt pt] (.Tuple [a, b] k2 pt2) X.env = pure (some [x, y]))
    (hs : swapsWithSole [.Tuple [.Name x px, .Name y py] kt pt] (.Tuple [a, b] k2 pt2) pos.line X.env = pure false := by rfl) (h1 : starEach [a, b] X.env = (false, eval a X.env) :: starEach [b] X.env := by rfl) (h2 : starEach [b] X.env = (false, eval b X.env) :: starEach [] X.env := by rfl) :
    DS X (.Assign [.Tuple [.Name x px, .Name y py] kt pt] (.Tuple [a, b] k2 pt2) pos) (wPar i j Wa Wb) := by
  obtain ⟨t, p, r⟩ := ha.ex
  obtain ⟨t', p', r'⟩ := hb.ex
  refine ⟨_, ps_par hc hN hi hj hij hx hy (pa_cons p (pa_cons p' pa_nil h2) h1) hw hs, ?_⟩
  intro B Γ σ H G D D' E w l
  refine r B Γ σ H G _ _ E w fun v H1 G1 d Γ1 E1 s1 k1 d1 w1 => ?_
  refine r' B Γ1 σ H1 G1 _ _ E1 w1 fun u H2 G2 e Γ2 E2 s2 k2 d2 w2 => ?_
  exact ⟨v, u, rfl, l.nx _ H2 G2 _ ((E2.setDat i (d1.mono s2)).setDat j d2) (s1.trans s2) w2⟩
/-- the first a new list of one's own, the second data -/
@[simp] def wParL (i j : Nat) (Wr : WA) (Wb : WE) : WS := fun D Γ => Wr Γ fun x Γ1 => Wb Γ1 fun y Γ2 => Γ1 = Γ2 ∧ D.nx ((Γ2.set j (.dat y)).set i (.own x))
theorem ds_parL {i j : Nat} {x y : Str} {px py pt : Pos} {kt k2 pt2} {v0 : V} {d0 : PyData} (hc : X.calm = true) (hN : X.N.Nodup) (hi : X.N[i]? = some x) (hj : X.N[j]? = some y) (hij : i ≠ j)
    (hx : X.env.scope.names.lookup x = some .local) (hy : X.env.scope.names.lookup y = some .local) (ha : DN X a Wr) (hb : PE X b (tC v0)) (hd : ∀ G, Dd X.K G v0 d0)
    (hw : swappedStores [.Tuple [.Name x px, .Name y py] kt pt] (.Tuple [a, b] k2 pt2) X.env = pure (some [x, y]))
    (hs : swapsWithSole [.Tuple [.Name x px, .Name y py] kt pt] (.Tuple [a, b] k2 pt2) pos.line X.env = pure false := by rfl) (h1 : starEach [a, b] X.env = (false, eval a X.env) :: starEach [b] X.env := by rfl) (h2 : starEach [b] X.env = (false, eval b X.env) :: starEach [] X.env := by rfl) :
    DS X (.Assign [.Tuple [.Name x px, .Name y py] kt pt] (.Tuple [a, b] k2 pt2) pos) (wParL i j Wr (wC d0)) := by
  obtain ⟨t, p, r⟩ := ha.ex
  refine ⟨_, ps_par hc hN hi hj hij hx hy (pa_cons p (pa_cons hb pa_nil h2) h1) hw hs, ?_⟩
  intro B Γ σ H G D D' E w l
  refine r B Γ σ H G _ _ E w fun p vs H1 G1 ds Γ1 E1 s1 k1 g1 h1 d1 b1 n1 o1 w1 => ?_
  refine ⟨.ref p, v0, rfl, ?_⟩
  have E2 := E1.setDat (v := v0) (d := d0) j (hd G1)
  have o2 : ∀ (k : Nat) es, Own (Γ1.set j (.dat d0)) k es → (σ.set j (some v0))[k]? ≠ some (some (V.ref p)) := fun k es o z => by
    by_cases e : k = j
    · subst e
      rcases o with o | o <;>
        (by_cases hl : k < Γ1.length
         · rw [List.getElem?_set_self hl] at o; cases o
         · rw [List.getElem?_eq_none (by simpa using hl)] at o; cases o)
    · unfold Own at o
      rw [List.getElem?_set_ne (Ne.symm e)] at o z
      exact o1 k es o z
  have E3 := E2.setOwnNew i g1 h1 d1 b1 n1 o2
  rw [List.set_comm _ _ (Ne.symm hij)] at E3
  exact l.nx _ H1 G1 _ E3 s1 w1.2
/-! ## join, all -/
def strsD : List PyData → Option (List Str)
  | [] => some []
  | .str s :: ds => match strsD ds with
    | some r => some (s :: r)
    | none => none
  | _ => none
theorem strs_of {G : Hp} : ∀ {ds : List PyData} {vs : List V} {ss : List Str}, DdAll K G vs ds → strsD ds = some ss → vs = ss.map V.str
  | [], _, _, .nil, h => by cases h; rfl
  | .str s :: ds, _, _, .cons (.str _) t, h => by
    unfold strsD at h
    cases q : strsD ds with
    | none => rw [q] at h; cases h
    | some r =>
      rw [q] at h
      cases h
      rw [List.map_cons, strs_of t q]
  | .none :: _, _, _, _, h => by cases h
  | .bool _ :: _, _, _, _, h => by cases h
  | .int _ :: _, _, _, _, h => by cases h
  | .list _ :: _, _, _, _, h => by cases h
  | .tuple _ :: _, _, _, _, h => by cases h
  | .dict _ :: _, _, _, _, h => by cases h
def boolsD : List PyData → Option (List Bool)
  | [] => some []
  | .bool b :: ds => match boolsD ds with
    | some r => some (b :: r)
    | none => none
  | _ => none
theorem bools_of {G : Hp} : ∀ {ds : List PyData} {vs : List V} {bs : List Bool}, DdAll K G vs ds → boolsD ds = some bs → vs = bs.map V.bl
  | [], _, _, .nil, h => by cases h; rfl
  | .bool s :: ds, _, _, .cons (.bl _) t, h => by
    unfold boolsD at h
    cases q : boolsD ds with
    | none => rw [q] at h; cases h
    | some r =>
      rw [q] at h
      cases h
      rw [List.map_cons, bools_of t q]
  | .none :: _, _, _, _, h => by cases h
  | .str _ :: _, _, _, _, h => by cases h
  | .int _ :: _, _, _, _, h => by cases h
  | .list _ :: _, _, _, _, h => by cases h
  | .tuple _ :: _, _, _, _, h => by cases h
  | .dict _ :: _, _, _, _, h => by cases h
def allB : FA
  | [.list ds], k => match boolsD ds with
    | some bs => k (.bool (bs.all id))
    | none => False
  | _, _ => False
def anyB : FA
  | [.list ds], k => match boolsD ds with
    | some bs => k (.bool (bs.any id))
    | none => False
  | _, _ => False
end
end DL

namespace DL
open PySem PySem.Spec PyProof.Rows L2
section
variable {X : Cx} {K : PySem.W.Frag} {a b c e tg elt iter : Expr} {es tgs ifs : List Expr} {Wa Wb Wc We : WE} {Wr : WA} {pos : Pos} {WT' : WT} {ts us : List Nat}
theorem boot_all : bootBuiltins "all" = some (.builtin "all") := by decide +kernel
theorem boot_any : bootBuiltins "any" = some (.builtin "any") := by decide +kernel
theorem rv_all : RVA K (rAll K) allB := by
  intro B Γ σ H G xs ds Q Q' E h w k
  unfold allB at w
  split at w
  · obtain ⟨v, rfl, hv⟩ := ddAll1 h
    split at w
    · rename_i bs q
      cases hv with
      | lst ga da =>
        have e := bools_of da q
        subst e
        exact ⟨_, bs, rfl, SqL.of (E.gh _ _ ga), k _ H G _ E (Same.refl _) (.bl _) w⟩
    · exact w.elim
  · exact w.elim
theorem rv_any : RVA K (rAny K) anyB := by
  intro B Γ σ H G xs ds Q Q' E h w k
  unfold anyB at w
  split at w
  · obtain ⟨v, rfl, hv⟩ := ddAll1 h
    split at w
    · rename_i bs q
      cases hv with
      | lst ga da =>
        have e := bools_of da q
        subst e
        exact ⟨_, bs, rfl, SqL.of (E.gh _ _ ga), k _ H G _ E (Same.refl _) (.bl _) w⟩
    · exact w.elim
  · exact w.elim
theorem de_all {p : Pos} (hc : X.calm = true) (hg : Gl X "all") (hm : X.mg "all" = none) (ha : DE X a Wa) (h1 : starEach [a] X.env = (false, eval a X.env) :: starEach [] X.env := by rfl) (h2 : (backTo pos (starEach [] X.env)).any (·.1) = false := by rfl) : DE X (.Call (.Name "all" p) [a] [] pos) (wCB allB (wCons Wa wNil)) :=
  de_callB (cr_all hc) rv_all hg hm boot_all (da_cons ha da_nil h1) (by decide) (by decide) h1 h2
theorem de_any {p : Pos} (hc : X.calm = true) (hg : Gl X "any") (hm : X.mg "any" = none) (ha : DE X a Wa) (h1 : starEach [a] X.env = (false, eval a X.env) :: starEach [] X.env := by rfl) (h2 : (backTo pos (starEach [] X.env)).any (·.1) = false := by rfl) : DE X (.Call (.Name "any" p) [a] [] pos) (wCB anyB (wCons Wa wNil)) :=
  de_callB (cr_any hc) rv_any hg hm boot_any (da_cons ha da_nil h1) (by decide) (by decide) h1 h2
/-- sep.join(list of texts) -/
def joinS (s : Str) (ds : List PyData) (k : PyData → Prop) : Prop := match strsD ds with
  | some ss => (ss.map (·.length)).sum + ss.length * s.length ≤ 16777216 ∧ k (.str (Txt.join s ss))
  | none => False
def joinD (s : Str) : PyData → (PyData → Prop) → Prop
  | .list ds, k => joinS s ds k
  | .tuple ds, k => joinS s ds k
  | _, _ => False
@[simp] def wM1 (f : Str → PyData → (PyData → Prop) → Prop) (Wa Wb : WE) : WE := fun Γ Q => Wa Γ fun d Γ1 => match d with
  | .str s => Wb Γ1 fun e Γ2 => f s e fun z => Q z Γ2
  | _ => False
theorem de_join {apos : Pos} (ha : DE X a Wa) (hb : DE X b Wb) (hs : starEach [b] X.env = [(false, eval b X.env)] := by rfl) (hbase : attributeBase a "join" X.env (eval a X.env) = eval a X.env := by rfl) (hline : (apos.endLine == pos.line) = true := by rfl) :
    DE X (.Call (.Attribute a "join" apos) [b] [] pos) (wM1 joinD Wa Wb) := by
  obtain ⟨t, p, r⟩ := ha.ex
  obtain ⟨t', p', r'⟩ := hb.ex
  refine ⟨_, pe_join p p' hs hbase hline, ?_⟩
  intro B Γ σ H G Q Q' E w k
  refine r B Γ σ H G _ _ E w fun v H1 G1 d Γ1 E1 s1 k1 d1 w1 => ?_
  cases d1 with
  | str s =>
    refine ⟨⟨s, rfl⟩, ?_⟩
    refine r' B Γ1 σ H1 G1 _ _ E1 w1 fun u H2 G2 e Γ2 E2 s2 k2 d2 w2 => ?_
    cases d2 with
    | @lst _ _ ds ga da =>
      have w2 : joinS s ds (fun z => Q z Γ2) := w2
      unfold joinS at w2
      cases q : strsD ds with
      | none => rw [q] at w2; exact w2.elim
      | some ss =>
        rw [q] at w2
        have e := strs_of da q
        subst e
        exact ⟨s, _, ss, rfl, rfl, .inl (SqL.of (E2.gh _ _ ga)), w2.1, k _ H2 G2 _ Γ2 E2 (s1.trans s2) (k1.trans k2) (.str _) w2.2⟩
    | @tup _ _ ds ga da =>
      have w2 : joinS s ds (fun z => Q z Γ2) := w2
      unfold joinS at w2
      cases q : strsD ds with
      | none => rw [q] at w2; exact w2.elim
      | some ss =>
        rw [q] at w2
        have e := strs_of da q
        subst e
        exact ⟨s, _, ss, rfl, rfl, .inr (sqT_same E2.gh ga), w2.1, k _ H2 G2 _ Γ2 E2 (s1.trans s2) (k1.trans k2) (.str _) w2.2⟩
    | _ => exact w2.elim
  | _ => exact w1.elim
/-! ## callees by name -/
structure Cal (P : Program) (w : World) (K : PySem.W.Frag) (mg : Str → Option Value) (base : Heap) (x : Str) (ps : List Str) (k : Nat) (S : PSp) : Prop where
  ex : ∃ (f : Addr) (fd : FuncData), mg x = some (.ref f) ∧ PySem.W.keepIn K (.ref f) = true ∧ Binds K fd ps [] ∧ FnOk P w K mg base CX0 k f fd ps (spS K S)
theorem Cal.mono {P : Program} {w : World} {K : PySem.W.Frag} {mg : Str → Option Value} {base : Heap} {x : Str} {ps : List Str} {j k : Nat} {S : PSp} (C : Cal P w K mg base x ps j S) (h : j ≤ k) : Cal P w K mg base x ps k S := by
  obtain ⟨f, fd, h1, h2, h3, h4⟩ := C.ex
  exact ⟨f, fd, h1, h2, h3, h4.mono h⟩
theorem de_callC {S : PSp} {k : Nat} {ps : List Str} {x : Str} {p : Pos} {Wr : WPA} (C : Cal X.prog X.w X.K X.mg X.base x ps k S) (hr : Room k X.A) (hg : Gl X x)
    (ha : DPA X (e :: es) Wr) (hdb : (x == ("__debug__" : Str)) = false := by decide) (he : starEach (e :: es) X.env = (false, eval e X.env) :: starEach es X.env := by rfl) (hpl : (backTo pos (starEach es X.env)).any (·.1) = false := by rfl) :
    DE X (.Call (.Name x p) (e :: es) [] pos) (wCall S Wr) := by
  obtain ⟨f, fd, h1, h2, h3, h4⟩ := C.ex
  exact de_call h4 hr hg h1 h2 h3 ha hdb he hpl
theorem dn_callC {S : PSp} {k : Nat} {ps : List Str} {x : Str} {p : Pos} {Wr : WPA} (C : Cal X.prog X.w X.K X.mg X.base x ps k S) (hr : Room k X.A) (hg : Gl X x)
    (ha : DPA X (e :: es) Wr) (hdb : (x == ("__debug__" : Str)) = false := by decide) (he : starEach (e :: es) X.env = (false, eval e X.env) :: starEach es X.env := by rfl) (hpl : (backTo pos (starEach es X.env)).any (·.1) = false := by rfl) :
    DN X (.Call (.Name x p) (e :: es) [] pos) (wCallL S Wr) := by
  obtain ⟨f, fd, h1, h2, h3, h4⟩ := C.ex
  exact dn_call h4 hr hg h1 h2 h3 ha hdb he hpl
theorem de_callC0 {S : PSp} {k : Nat} {ps : List Str} {x : Str} {p : Pos} (C : Cal X.prog X.w X.K X.mg X.base x ps k S) (hr : Room k X.A) (hg : Gl X x) (hdb : (x == ("__debug__" : Str)) = false := by decide) : DE X (.Call (.Name x p) [] [] pos) (wCall S wPNil) := by
  obtain ⟨f, fd, h1, h2, h3, h4⟩ := C.ex
  exact de_call0 h4 hr hg h1 h2 h3 hdb
theorem de_gstr' {x z : Str} {p : Pos} (hg : Gl X x) (hm : ∃ t, X.mg x = some (.str z t)) (hd : (x == ("__debug__" : Str)) = false := by decide) : DE X (.Name x p) (wC (.str z)) := by
  obtain ⟨t, h⟩ := hm
  exact de_gstr hg h hd
/-! ## own lists changed by methods -/
theorem pe_append {x : Str} {p apos cpos : Pos} {t0 : TE} {t : TE} (h : PE X (.Name x p) t0) (he : PE X e t) (hs : starEach (e :: []) X.env = (false, eval e X.env) :: starEach [] X.env := by rfl) (hpl : (backTo cpos (starEach [] X.env)).any (·.1) = false := by rfl)
    (hb : attributeBase (.Name x p) "append" X.env (eval (.Name x p) X.env) = eval (.Name x p) X.env := by rfl) : True := trivial
/-- x = y, a def's text by its promise -/
theorem fn_cal {P : Program} {w : World} {K : PySem.W.Frag} {mg : Str → Option Value} {base : Heap} {x qual : Str} {st : Stmt} {f : Addr} {fd : FuncData} {ps : List Str} {k : Nat} {S : PSp} (hm : mg x = some (.ref f)) (F : Fun K x qual st f fd) (hb : Binds K fd ps []) (G : FnOk P w K mg base CX0 k f fd ps (spS K S)) : Cal P w K mg base x ps k S := ⟨f, fd, hm, F.kp, hb, G⟩
/-- or, by truth -/
def truD : PyData → Option Bool
  | .none => some false
  | .bool b => some b
  | .int i => some (i != 0)
  | .str z => if z.length ≤ sizeLine then some ((z.length : Int) != 0) else none
  | .list ds => some (!ds.isEmpty)
  | .tuple ds => some (!ds.isEmpty)
  | .dict _ => none
theorem isEmpty_dd {G : Hp} {vs : List V} {ds : List PyData} (h : DdAll K G vs ds) : vs.isEmpty = ds.isEmpty := by
  cases h <;> rfl
theorem truV_of {G H : Hp} (gh : Same G H) {v : V} {d : PyData} {b : Bool} (h : Dd K G v d) (t : truD d = some b) : TruV K v H b := by
  cases h with
  | non => cases t; exact rfl
  | bl b' => cases t; exact rfl
  | int i => cases t; exact rfl
  | str z =>
    have t : (if z.length ≤ sizeLine then some ((z.length : Int) != 0) else none) = some b := t
    by_cases hz : z.length ≤ sizeLine
    · rw [if_pos hz] at t
      cases t
      exact ⟨hz, rfl⟩
    · rw [if_neg hz] at t
      cases t
  | lst ga da => cases t; exact .inl ⟨_, SqL.of (gh _ _ ga), by rw [isEmpty_dd da]⟩
  | tup ga da => cases t; exact .inr (.inl ⟨_, sqT_same gh ga, by rw [isEmpty_dd da]⟩)
end
end DL

namespace DL
open PySem PySem.Spec PyProof.Rows L2
section
variable {X : Cx} {K : PySem.W.Frag} {a b c e tg elt iter : Expr} {es tgs ifs : List Expr} {Wa Wb Wc We : WE} {Wr Wr' : WA} {pos : Pos} {WT' : WT} {ts us : List Nat}
/-! ## the script -/
@[simp] def wSlS (j : Nat) (Wl Wh : WO) : WE := fun Γ Q => match Γ[j]? with
  | some (.scr ds) => Wl Γ fun lo Γ1 => Wh Γ1 fun hi Γ2 => Q (.list (cutD ds lo hi)) Γ2
  | _ => False
theorem de_sliceS {Wl Wh : WO} {lo hi : Option Expr} {p2 p : Pos} {x : Str} (j : Nat) (h : PE X (.Name x p) (tVar j)) (hl : DO X lo Wl) (hh : DO X hi Wh) : DE X (.Subscript (.Name x p) (.Slice lo hi none p2) pos) (wSlS j Wl Wh) := by
  obtain ⟨tl, pl, rl⟩ := hl.ex
  obtain ⟨th, ph, rh⟩ := hh.ex
  refine ⟨_, pe_slice sl_list h pl ph, ?_⟩
  intro B Γ σ H G Q Q' E w k
  unfold wSlS at w
  split at w
  · rename_i ds q
    obtain ⟨p, vs, h1, h2, h3⟩ := E.scr j ds q
    refine ⟨_, h1, ?_⟩
    refine rl B Γ σ H G _ _ E w fun lo H2 G2 Γ2 E2 s2 k2 w2 => ?_
    refine rh B Γ2 σ H2 G2 _ _ E2 w2 fun hi H3 G3 Γ3 E3 s3 k3 w3 => ?_
    refine ⟨p, vs, rfl, sqL_same E3.gh (sqL_same (s2.trans s3) h2), fun q hq => ?_⟩
    have gq := E3.gnone hq
    exact k _ _ _ _ Γ3 (E3.laid hq) ((s2.trans s3).trans (sameNew gq)) (k2.trans k3) (.lst upd_same (((h3.mono (s2.trans s3)).cut lo hi).mono (sameNew gq))) w3
  · exact w.elim
/-- a new list or another -/
@[simp] def wOrL (Wr Wr' : WA) : WA := fun Γ Q => Wr Γ fun ds Γ1 => if ds.isEmpty = true then Wr' Γ1 Q else Q ds Γ1
theorem dn_or (ha : DN X a Wr) (hb : DN X b Wr') : DN X (.BoolOp .Or [a, b] pos) (wOrL Wr Wr') := by
  obtain ⟨t, p, r⟩ := ha.ex
  obtain ⟨t', p', r'⟩ := hb.ex
  refine ⟨_, pe_orT p (pe_one p'), ?_⟩
  intro B Γ σ H G Q Q' E w k
  refine r B Γ σ H G _ _ E w fun p vs H1 G1 ds Γ1 E1 s1 k1 g1 h1 d1 b1 n1 o1 w1 => ?_
  refine ⟨!ds.isEmpty, .inl ⟨vs, SqL.of h1, by rw [isEmpty_dd d1]⟩, ?_⟩
  cases q : ds.isEmpty with
  | true =>
    rw [q] at w1
    exact r' B Γ1 σ H1 G1 _ _ E1 w1 fun p vs H2 G2 ds Γ2 E2 s2 k2 g2 h2 d2 b2 n2 o2 w2 => k p vs H2 G2 ds Γ2 E2 (s1.trans s2) (k1.trans k2) g2 h2 d2 b2 n2 o2 w2
  | false =>
    rw [q] at w1
    exact k p vs H1 G1 ds Γ1 E1 s1 k1 g1 h1 d1 b1 n1 o1 w1
/-! ## the ends of a law -/
theorem ddAll_ints {G : Hp} : ∀ ns : List Int, DdAll K G (ns.map V.int) (ns.map PyData.int)
  | [] => .nil
  | n :: ns => .cons (.int n) (ddAll_ints ns)
end
section
variable {P : Program} {w : World} {K : PySem.W.Frag} {mg : Str → Option Value} {base : Heap}
/-- the law: called with the script it hands back True -/
def spLaw (K : PySem.W.Frag) : Sp := fun vs H Q _ => ∃ (a : Addr) (ns : List Int), vs = [.ref a] ∧ SqL K H a (ns.map V.int) ∧ ns.length ≤ 63 ∧ ∀ H', Q (.bl true) H'
def sLaw : PSp := fun as R => ∃ ns : List Int, ns.length ≤ 63 ∧ as = [.scr (ns.map PyData.int)] ∧ ∀ as', R (.dat (.bool true)) as'
/-- a heap of which one thing is known -/
theorem fn_law {k : Nat} {f : Addr} {fd : FuncData} (F : FnOk P w K mg base CX0 k f fd ["script"] (spS K sLaw)) : FnOk P w K mg base CX0 k f fd ["script"] (spLaw K) := by
  refine F.imp fun vs H Q E h => ?_
  obtain ⟨a, ns, rfl, hS, hl, q⟩ := h
  -- what is frozen: the script alone
  refine ⟨H, [.scr (ns.map PyData.int)], fun r _ => r = .dat (.bool true), Same.refl H, ⟨rfl, fun i d h => ?_, fun i d h => ?_, fun i d h => ?_, fun i s h => ?_, fun i j p ds es h1 => ?_⟩, ⟨ns, hl, rfl, fun _ => rfl⟩, fun v G' H' as' r Po hr => ?_⟩
  · cases i with
    | zero => cases h
    | succ i => simp at h
  · cases i with
    | zero => cases h
    | succ i => simp at h
  · cases i with
    | zero => cases h; exact ⟨a, _, rfl, hS, ddAll_ints ns⟩
    | succ i => simp at h
  · cases i with
    | zero => cases h; exact .inr (.inr ⟨_, rfl⟩)
    | succ i => simp at h
  · cases i with
    | zero => cases h1
    | succ i => simp at h1
  · subst hr
    have := Po.res
    cases this
    exact q H'
end
end DL

namespace DL
open PySem PySem.Spec PyProof.Rows L2
/-! ## calls with keywords -/
@[simp] def pick {α : Type} : List Nat → List α → List α
  | [], _ => []
  | i :: is, l => match l[i]? with
    | some a => a :: pick is l
    | none => pick is l
theorem pick_vals : ∀ (is : List Nat) {vs : List V} {us : List Value}, Vals vs us → Vals (pick is vs) (pick is us)
  | [], _, _, _ => .nil
  | i :: is, vs, us, r => by
    unfold pick
    cases q : vs[i]? with
    | none =>
      rw [r.none_of q]
      exact pick_vals is r
    | some v =>
      obtain ⟨u, h1, h2⟩ := r.get q
      rw [h1]
      exact .cons h2 (pick_vals is r)
section
variable {X : Cx} {K : PySem.W.Frag} {a b c e tg elt iter : Expr} {es tgs ifs : List Expr} {Wa Wb Wc We : WE} {Wr Wr' : WA} {pos : Pos} {WT' : WT} {ts us : List Nat}
theorem pick_ops {σ : L2.St} {G : Hp} : ∀ (is : List Nat) {vs : List V} {os : List Opd}, OpsV K σ G vs os → OpsV K σ G (pick is vs) (pick is os)
  | [], _, _, _ => .nil
  | i :: is, vs, os, r => by
    unfold pick
    cases q : os[i]? with
    | none =>
      have : vs[i]? = none := by
        rw [List.getElem?_eq_none_iff] at q ⊢
        rw [r.length]
        exact q
      rw [this]
      exact pick_ops is r
    | some o =>
      obtain ⟨v, h1, h2⟩ := r.get q
      rw [h1]
      exact .cons h2 (pick_ops is r)
theorem OpsV.app {σ : L2.St} {G : Hp} : ∀ {vs us : List V} {os ps : List Opd}, OpsV K σ G vs os → OpsV K σ G us ps → OpsV K σ G (vs ++ us) (os ++ ps)
  | _, _, _, _, .nil, b => b
  | _, _, _, _, .cons h t, b => .cons h (OpsV.app t b)
structure DPK (X : Cx) (kws : List Keyword) (W : WPA) : Prop where
  ex : ∃ t, PK X kws t ∧ RPA X.K t W
theorem dpk_nil : DPK X [] wPNil := ⟨_, pk_nil, by
  intro B Γ σ H G Q Q' E w k
  exact k [] H G [] Γ E (Same.refl _) (KS.refl _) .nil w⟩
theorem dpk_cons {nm : Option Str} {kpos : Pos} {kws : List Keyword} {Wo : WP} {Wr : WPA} (h : DP X e Wo) (h' : DPK X kws Wr) : DPK X (⟨nm, e, kpos⟩ :: kws) (wPCons Wo Wr) := by
  obtain ⟨t, p, r⟩ := h.ex
  obtain ⟨t', p', r'⟩ := h'.ex
  refine ⟨_, pk_cons p p', ?_⟩
  intro B Γ σ H G Q Q' E w k
  refine r B Γ σ H G _ _ E w fun v H1 G1 o Γ1 E1 s1 k1 o1 w1 => ?_
  refine r' B Γ1 σ H1 G1 _ _ E1 w1 fun vs H2 G2 os Γ2 E2 s2 k2 o2 w2 => ?_
  exact k (v :: vs) H2 G2 (o :: os) Γ2 E2 (s1.trans s2) (k1.trans k2) (.cons (o1.mono s2) o2) w2
/-- a callee by name, called with n positional values and keywords ks; is: where the parameters, in their order, stand among them -/
structure CalK (P : Program) (w : World) (K : PySem.W.Frag) (mg : Str → Option Value) (base : Heap) (x : Str) (ps : List Str) (k : Nat) (S : PSp) (n : Nat) (ks : List Str) (is : List Nat) : Prop where
  ex : ∃ (f : Addr) (fd : FuncData), mg x = some (.ref f) ∧ PySem.W.keepIn K (.ref f) = true ∧ KBn K fd ps n ks (fun us ws => pick is (us ++ ws)) (fun us ws => pick is (us ++ ws)) ∧ FnOk P w K mg base CX0 k f fd ps (spS K S)
@[simp] def wCallK (S : PSp) (Wr Wk : WPA) (n m : Nat) (is : List Nat) : WE := fun Γ Q => Wr Γ fun os Γ1 => Wk Γ1 fun os2 Γ2 => os.length = n ∧ os2.length = m ∧ match argsOf Γ2 (pick is (os ++ os2)) with
  | some as => (varsOf (pick is (os ++ os2))).Nodup ∧ S as fun r as' => match r with
    | .dat d => Q d (putB Γ2 (pick is (os ++ os2)) as')
    | .new ds => Q (.list ds) (putB Γ2 (pick is (os ++ os2)) as')
  | none => False
theorem re_callK {S : PSp} {E0' : XK} {t tk : TA} {Wr Wk : WPA} {n m : Nat} {is : List Nat} (r : RPA K t Wr) (rk : RPA K tk Wk) : RE K (tCallN n m (spS K S) (fun us ws => pick is (us ++ ws)) E0' t tk) (wCallK S Wr Wk n m is) := by
  intro B Γ σ H G Q Q' E w k
  refine r B Γ σ H G _ _ E w fun vs H0 G0 os Γ0 E0 s0 k0 o0 w0 => ?_
  refine rk B Γ0 σ H0 G0 _ _ E0 w0 fun us H1 G1 os2 Γ1 E1 s1 k1 o1 w1 => ?_
  obtain ⟨l1, l2, w1⟩ := w1
  have oo := pick_ops is ((o0.mono s1).app o1)
  refine ⟨o0.length.trans l1, o1.length.trans l2, ?_⟩
  cases q : argsOf Γ1 (pick is (os ++ os2)) with
  | none => rw [q] at w1; exact w1.elim
  | some as =>
    rw [q] at w1
    obtain ⟨hn, hS⟩ := w1
    refine ⟨G1, as, _, E1.gh, argsV_of E1 oo q hn, hS, fun v G' H' as' r Po hR => ?_⟩
    have E2 := E1.called oo q hn Po
    have k2 : KS Γ (putB Γ1 (pick is (os ++ os2)) as') := (k0.trans k1).trans putB_KS
    cases r with
    | dat d => exact k v H' G' d _ E2 ((s0.trans s1).trans Po.gg) k2 Po.res hR
    | new ds =>
      obtain ⟨p, us, rfl, h1, h2, h3, h4⟩ := Po.res
      have no : ∀ (i : Nat) es, Own (putB Γ1 (pick is (os ++ os2)) as') i es → σ[i]? ≠ some (some (V.ref p)) := fun i es ow z => by
        obtain ⟨es0, o0⟩ := (putB_KS (os := pick is (os ++ os2)) (as := as')).mineB ow
        obtain ⟨p', us', g1, g2, g3, _⟩ := E1.mine i es0 o0
        rw [z] at g1
        cases g1
        rw [h4] at g3
        cases g3
      exact k (.ref p) H' (upd G' p (.lst us)) (.list ds) _ (E2.freeze h2 h1 (E1.bnone h4) no) (((s0.trans s1).trans Po.gg).trans (sameNew h1)) k2 (.lst upd_same (h3.mono (sameNew h1))) hR
theorem pe_callN0 {CX : CXT} {k : Nat} {f : Addr} {fd : FuncData} {ps ks : List Str} {sp : Sp} {E' : XK} {x : Str} {p : Pos} {kws : List Keyword} {tk : TA} {g : List Value → List Value → List Value} {gV : List V → List V → List V}
    (F : FnOk X.prog X.w X.K X.mg X.base CX k f fd ps sp) (hr : Room k X.A) (hg : Gl X x) (hm : X.mg x = some (.ref f)) (hk : PySem.W.keepIn X.K (.ref f) = true) (hb : KBn X.K fd ps 0 ks g gV) (hx : Passes CX X E')
    (hkw : PK X kws tk) (hall : (backToKw pos (keywordEach kws X.env)).all (·.1.isSome) = true := by rfl) (hks : (backToKw pos (keywordEach kws X.env)).filterMap (·.1) = ks := by rfl)
    (hdb : (x == ("__debug__" : Str)) = false := by decide) (hpl : ((backTo pos (starEach [] X.env)).any (·.1) || (backToKw pos (keywordEach kws X.env)).any (·.1.isNone)) = false := by rfl) :
    PE X (.Call (.Name x p) [] kws pos) (tCallN 0 ks.length sp gV E' tNil tk) := by
  refine ⟨fun pins s σ H Q I h => wpAny_Call_Name_kw (ld_glob I hg hm ?_ hdb)⟩
  refine PySem.W.callWith_KW0 (h₀ := X.base) I.ok.mod.kin hk hall (thn (hkw.run pos pins s σ H _ I h) fun ws s2 hh => ?_) hpl
  obtain ⟨zs, H2, I2, rz, l1, l2, q2⟩ := hh
  refine ⟨I2.kIn, ?_⟩
  rw [hks]
  exact run_fnN (us := []) (vs := []) F hr hb hx I2 .nil rz l1 l2 q2
theorem de_callK0 {S : PSp} {k : Nat} {ps ks : List Str} {is : List Nat} {x : Str} {p : Pos} {kws : List Keyword} {Wk : WPA} (C : CalK X.prog X.w X.K X.mg X.base x ps k S 0 ks is) (hr : Room k X.A) (hg : Gl X x) (hk : DPK X kws Wk)
    (hall : (backToKw pos (keywordEach kws X.env)).all (·.1.isSome) = true := by rfl) (hks : (backToKw pos (keywordEach kws X.env)).filterMap (·.1) = ks := by rfl)
    (hdb : (x == ("__debug__" : Str)) = false := by decide) (hpl : ((backTo pos (starEach [] X.env)).any (·.1) || (backToKw pos (keywordEach kws X.env)).any (·.1.isNone)) = false := by rfl) :
    DE X (.Call (.Name x p) [] kws pos) (wCallK S wPNil Wk 0 ks.length is) := by
  obtain ⟨f, fd, h1, h2, h3, h4⟩ := C.ex
  obtain ⟨t, pk, rk⟩ := hk.ex
  refine ⟨_, pe_callN0 (E' := L2.E0) h4 hr hg h1 h2 h3 pass0 pk hall hks hdb hpl, re_callK ?_ rk⟩
  intro B Γ σ H G Q Q' E w k
  exact k [] H G [] Γ E (Same.refl _) (KS.refl _) .nil w
theorem de_callKC {S : PSp} {k n : Nat} {ps ks : List Str} {is : List Nat} {x : Str} {p : Pos} {kws : List Keyword} {Wr Wk : WPA} (C : CalK X.prog X.w X.K X.mg X.base x ps k S n ks is) (hr : Room k X.A) (hg : Gl X x) (ha : DPA X (e :: es) Wr) (hk : DPK X kws Wk)
    (hall : (backToKw pos (keywordEach kws X.env)).all (·.1.isSome) = true := by rfl) (hks : (backToKw pos (keywordEach kws X.env)).filterMap (·.1) = ks := by rfl)
    (hdb : (x == ("__debug__" : Str)) = false := by decide) (he : starEach (e :: es) X.env = (false, eval e X.env) :: starEach es X.env := by rfl)
    (hpl : ((backTo pos (starEach (e :: es) X.env)).any (·.1) || (backToKw pos (keywordEach kws X.env)).any (·.1.isNone)) = false := by rfl) :
    DE X (.Call (.Name x p) (e :: es) kws pos) (wCallK S Wr Wk n ks.length is) := by
  obtain ⟨f, fd, h1, h2, h3, h4⟩ := C.ex
  obtain ⟨t, pk, rk⟩ := hk.ex
  obtain ⟨ta, pa, ra⟩ := ha.ex
  exact ⟨_, pe_callN (E := L2.E0) h4 hr hg h1 h2 h3 pass0 pa pk hall hks hdb he hpl, re_callK ra rk⟩
/-- the keywords' binding, by the def's text -/
theorem kbn_of {K : PySem.W.Frag} {x qual : Str} {st : Stmt} {f : Addr} {fd : FuncData} {ps ks : List Str} {n : Nat} {is : List Nat} (F : Fun K x qual st f fd)
    (h : ∀ (kV doc pm : Value) (an : Option Addr) (cdv ct : Value) (us ws : List Value), us.length = n → ws.length = ks.length → bindArgs (PySem.W.fnOf x qual (defArgs st) (defBody st) (defScope st) .none kV doc pm an cdv ct) ⟨us, ks.zip ws⟩ = pure (ps.zip (pick is (us ++ ws)))) :
    KBn K fd ps n ks (fun us ws => pick is (us ++ ws)) (fun us ws => pick is (us ++ ws)) := by
  obtain ⟨oc, od, kV, doc, pm, an, cdv, ct, osl, rfl, lk, hcd⟩ := F.ex
  exact ⟨fun s us ws _ h1 h2 => .of_eq (h kV doc pm an cdv ct us ws h1 h2), fun r r' => pick_vals is (r.append r')⟩
end
end DL

namespace DL
open PySem PySem.Spec PyProof.Rows L2
/-! ## the rows by which a reading is run -/
section
variable {k : PyData → Prop} {i j : Int} {b c : Bool} {s t : Str} {xs ys ds : List PyData} {x y d : PyData}
@[simp] theorem addD_int : addD (.int i) (.int j) k = k (.int (i + j)) := rfl
@[simp] theorem addD_str : addD (.str s) (.str t) k = (s.length + t.length ≤ sizeLine ∧ k (.str (s ++ t))) := rfl
@[simp] theorem addD_list : addD (.list xs) (.list ys) k = (xs.length + ys.length ≤ sizeLine ∧ k (.list (xs ++ ys))) := rfl
@[simp] theorem addD_tup : addD (.tuple xs) (.tuple ys) k = (xs.length + ys.length ≤ sizeLine ∧ k (.tuple (xs ++ ys))) := rfl
@[simp] theorem subD_int : subD (.int i) (.int j) k = k (.int (i - j)) := propext ⟨fun h => h.2, fun h => ⟨trivial, h⟩⟩
@[simp] theorem modD_int : modD (.int i) (.int j) k = (j ≠ 0 ∧ k (.int (i.fmod j))) := rfl
@[simp] theorem fdivD_int : fdivD (.int i) (.int j) k = (CDivN i j ∧ k (.int (i.fdiv j))) := rfl
@[simp] theorem powD_int : powD (.int i) (.int j) k = (CPow i j ∧ k (.int (i ^ j.toNat))) := rfl
@[simp] theorem mulD_int : mulD (.int i) (.int j) k = (CMul i j ∧ k (.int (i * j))) := rfl
@[simp] theorem mulD_list : mulD (.list xs) (.int j) k = (-(2 ^ 63) ≤ j ∧ j < 2 ^ 63 ∧ xs.length * j.toNat ≤ sizeLine ∧ k (.list (List.replicate j.toNat xs).flatten)) := rfl
@[simp] theorem ltD_int : ltD (.int i) (.int j) k = k (.bool (decide (i < j))) := rfl
@[simp] theorem leD_int : leD (.int i) (.int j) k = k (.bool (decide (i ≤ j))) := rfl
@[simp] theorem gtD_int : gtD (.int i) (.int j) k = k (.bool (decide (j < i))) := rfl
@[simp] theorem geD_int : geD (.int i) (.int j) k = k (.bool (decide (j ≤ i))) := rfl
/-! == of what stands at the top -/
@[simp] theorem eqD_str : eqD (.str s) (.str t) k = (PyData.strOk s = true ∧ PyData.strOk t = true ∧ k (.bool (s == t))) := by
  unfold eqD
  simp [SeqAt.shaped, PyData.canLay0, PyData.depth, PyData.eqv]
@[simp] theorem neD_str : neD (.str s) (.str t) k = (PyData.strOk s = true ∧ PyData.strOk t = true ∧ k (.bool (!(s == t)))) := by
  unfold neD
  simp [SeqAt.shaped, PyData.canLay0, PyData.depth, PyData.eqv]
@[simp] theorem eqD_int : eqD (.int i) (.int j) k = k (.bool (i == j)) := by
  unfold eqD
  simp [SeqAt.shaped, PyData.canLay0, PyData.depth, PyData.eqv]
@[simp] theorem neD_int : neD (.int i) (.int j) k = k (.bool (!(i == j))) := by
  unfold neD
  simp [SeqAt.shaped, PyData.canLay0, PyData.depth, PyData.eqv]
@[simp] theorem eqD_bool : eqD (.bool b) (.bool c) k = k (.bool (b == c)) := by
  unfold eqD
  simp [SeqAt.shaped, PyData.canLay0, PyData.depth, PyData.eqv]
@[simp] theorem neD_bool : neD (.bool b) (.bool c) k = k (.bool (!(b == c))) := by
  unfold neD
  simp [SeqAt.shaped, PyData.canLay0, PyData.depth, PyData.eqv]
@[simp] theorem eqv_str : PyData.eqv (.str s) (.str t) = (s == t) := by unfold PyData.eqv; rfl
@[simp] theorem eqv_int : PyData.eqv (.int i) (.int j) = (i == j) := by unfold PyData.eqv; rfl
@[simp] theorem eqv_bool : PyData.eqv (.bool b) (.bool c) = (b == c) := by unfold PyData.eqv; rfl
@[simp] theorem isND_non : isND x .none k = k (.bool (x matches .none)) := propext ⟨fun h => h.2, fun h => ⟨rfl, h⟩⟩
@[simp] theorem notND_non : notND x .none k = k (.bool !(x matches .none)) := propext ⟨fun h => h.2, fun h => ⟨rfl, h⟩⟩
theorem inStr_sign {c : Nat} {z : Str} : inStr ⟨#[c]⟩ z = decide (c ∈ z.cps.toList) := by
  unfold inStr
  exact (PySem.StrLaws.found_one z c)
@[simp] theorem inD_str : inD (.str s) (.str t) k = k (.bool (inStr s t)) := by unfold inD; rfl
@[simp] theorem notInD_str : notInD (.str s) (.str t) k = k (.bool (!inStr s t)) := rfl
theorem inD_list : inD d (.list xs) k = (flatD d = true ∧ xs.all flatD = true ∧ k (.bool (xs.any fun z => PyData.eqv z d))) := by
  unfold inD
  cases d <;> rfl
theorem inD_tup : inD d (.tuple xs) k = (flatD d = true ∧ xs.all flatD = true ∧ k (.bool (xs.any fun z => PyData.eqv z d))) := by
  unfold inD
  cases d <;> rfl
theorem notInD_list : notInD d (.list xs) k = (flatD d = true ∧ xs.all flatD = true ∧ k (.bool (!xs.any fun z => PyData.eqv z d))) := by
  cases d <;> rfl
theorem notInD_tup : notInD d (.tuple xs) k = (flatD d = true ∧ xs.all flatD = true ∧ k (.bool (!xs.any fun z => PyData.eqv z d))) := by
  cases d <;> rfl
@[simp] theorem ixD_list : ixD (.list xs) (.int i) k = optD (atI xs i) k := rfl
@[simp] theorem ixD_tup : ixD (.tuple xs) (.int i) k = optD (atI xs i) k := rfl
@[simp] theorem ixD_str : ixD (.str s) (.int i) k = (s.length ≤ sizeLine ∧ optD (atI s.cps.toList i) fun c => k (sign c)) := rfl
@[simp] theorem slD_list {lo hi : Option Int} : slD (.list xs) lo hi k = k (.list (cutD xs lo hi)) := rfl
@[simp] theorem slD_tup {lo hi : Option Int} : slD (.tuple xs) lo hi k = k (.tuple (cutD xs lo hi)) := rfl
@[simp] theorem slD_str {lo hi : Option Int} : slD (.str s) lo hi k = (s.length ≤ sizeLine ∧ k (.str (cutS s lo hi))) := rfl
@[simp] theorem lenD_list : lenD [.list xs] k = k (.int xs.length) := rfl
@[simp] theorem lenD_tup : lenD [.tuple xs] k = k (.int xs.length) := rfl
@[simp] theorem lenD_str : lenD [.str s] k = (s.length ≤ sizeLine ∧ k (.int s.length)) := rfl
@[simp] theorem absD_int : absD [.int i] k = k (.int (if i < 0 then -i else i)) := rfl
@[simp] theorem intT_int : intT [.int i] k = k (.int i) := rfl
@[simp] theorem intT_bool : intT [.bool b] k = k (.int (if b then 1 else 0)) := rfl
@[simp] theorem tupT_list : tupT [.list xs] k = k (.tuple xs) := rfl
@[simp] theorem tupT_tup : tupT [.tuple xs] k = k (.tuple xs) := rfl
@[simp] theorem joinD_list : joinD s (.list xs) k = joinS s xs k := rfl
@[simp] theorem joinD_tup : joinD s (.tuple xs) k = joinS s xs k := rfl
@[simp] theorem atI_0 {α : Type} {a : α} {l : List α} : atI (a :: l) 0 = some a := by
  simp [atI, ixN]
@[simp] theorem atI_1 {α : Type} {a b : α} {l : List α} : atI (a :: b :: l) 1 = some b := by
  have h : (1 : Int) < ((a :: b :: l).length : Int) := by simp only [List.length_cons]; omega
  simp only [atI, ixN, h]
  simp
@[simp] theorem atI_2 {α : Type} {a b c : α} {l : List α} : atI (a :: b :: c :: l) 2 = some c := by
  have h : (2 : Int) < ((a :: b :: c :: l).length : Int) := by simp only [List.length_cons]; omega
  simp only [atI, ixN, h]
  simp
end
end DL

namespace DL
open PySem PySem.Spec PyProof.Rows L2
section
variable {X : Cx} {K : PySem.W.Frag} {a b c e tg elt iter : Expr} {es tgs ifs : List Expr} {Wa Wb Wc We : WE} {Wr Wr' : WA} {pos : Pos} {WT' : WT} {ts us : List Nat}
/-! ## a call with one new list, which the callee may write -/
theorem En.called1 {B : Bs} {σ : L2.St} {H G H' G' : Hp} {Γ : Gam} {p : Addr} {us : List V} {ds : List PyData} {as' : List Sl} {v : V} {r : Rs} (E : En K B σ H G Γ) (gp : G p = none) (hp : H p = some (.lst us)) (bp : B.H p = none)
    (no : ∀ (i : Nat) es, Own Γ i es → σ[i]? ≠ some (some (V.ref p))) (Po : PostV K G H [V.ref p] [Sl.par ds] G' H' as' v r) : En K B σ H' G' Γ := by
  have keep : ∀ q o, H q = some o → q ≠ p → H' q = some o := fun q o h n => by
    refine Po.keep q o h fun i ds' h1 h2 => ?_
    cases i with
    | zero => simp at h2; exact n h2.symm
    | succ i => simp at h2
  refine ⟨E.len, Po.gh, E.g0.trans Po.gg, fun q o h hP => keep q o (E.h0 q o h hP) (fun z => by subst z; rw [bp] at h; cases h), fun q h => Po.alloc q (E.bh q h), fun q h h' => Po.free q (E.bh q h) (E.f0 q h h'), fun q h => E.nn q ?_, fun i d h => ?_, fun i es ow => ?_, fun i es ow => E.new i es ow, fun i es ow => E.par i es ow, fun i es ow => E.scrG Po.gg i es ow, fun i j q ds es o1 o2 h1 h2 => E.inj i j q ds es o1 o2 h1 h2⟩
  · cases q1 : H q with
    | none => rfl
    | some u => exact absurd h (Po.alloc q (by rw [q1]; exact fun z => by cases z))
  · obtain ⟨u, h1, h2⟩ := E.dat i d h
    exact ⟨u, h1, h2.mono Po.gg⟩
  · obtain ⟨q, us', g1, g2, g3, g4, g5⟩ := E.mine i es ow
    have n : q ≠ p := fun z => by subst z; exact no i es ow g1
    exact ⟨q, us', g1, Po.free q (by rw [g3]; exact fun z => by cases z) g2, keep q _ g3 n, g4.mono Po.gg, g5⟩
@[simp] def wCallN (S : PSp) (Wa : WA) : WE := fun Γ Q => Wa Γ fun ds Γ1 => S [.par ds] fun r as' => match r with
  | .dat d => Q d Γ1
  | .new es => Q (.list es) Γ1
theorem de_callN {S : PSp} {k : Nat} {ps : List Str} {x : Str} {p : Pos} (C : Cal X.prog X.w X.K X.mg X.base x ps k S) (hr : Room k X.A) (hg : Gl X x)
    (ha : DN X a Wr) (hdb : (x == ("__debug__" : Str)) = false := by decide) (he : starEach (a :: []) X.env = (false, eval a X.env) :: starEach [] X.env := by rfl) (hpl : (backTo pos (starEach [] X.env)).any (·.1) = false := by rfl) :
    DE X (.Call (.Name x p) (a :: []) [] pos) (wCallN S Wr) := by
  obtain ⟨f, fd, h1, h2, h3, h4⟩ := C.ex
  obtain ⟨t, pa, ra⟩ := ha.ex
  refine ⟨_, pe_call (dvs := []) (E := L2.E0) h4 hr hg h1 h2 h3 .nil pass0 (pa_cons pa pa_nil he) hdb he hpl, ?_⟩
  intro B Γ σ H G Q Q' E w k
  refine ra B Γ σ H G _ _ E w fun p us H1 G1 ds Γ1 E1 s1 k1 gp hp da bp np no w1 => ?_
  refine ⟨G1, [.par ds], _, E1.gh, ⟨rfl, fun i d h => ?_, fun i ds' h => ?_, fun i ds' h => ?_, fun i s h => ?_, fun i j q ds' es h1 h2 h3 h4 => ?_⟩, w1, fun v G' H' as' r Po hR => ?_⟩
  · cases i with
    | zero => cases h
    | succ i => simp at h
  · cases i with
    | zero => cases h; exact ⟨p, us, rfl, gp, hp, da⟩
    | succ i => simp at h
  · cases i with
    | zero => cases h
    | succ i => simp at h
  · cases i with
    | zero => cases h; exact .inr (.inl ⟨_, rfl⟩)
    | succ i => simp at h
  · cases i with
    | zero =>
      cases j with
      | zero => rfl
      | succ j => simp at h2
    | succ i => simp at h1
  · have E2 := E1.called1 gp hp bp no Po
    cases r with
    | dat d => exact k v H' G' d _ E2 (s1.trans Po.gg) k1 Po.res hR
    | new ds =>
      obtain ⟨q, us, rfl, h1, h2, h3, h4⟩ := Po.res
      have no : ∀ (i : Nat) es, Own Γ1 i es → σ[i]? ≠ some (some (V.ref q)) := fun i es ow z => by
        obtain ⟨p', us', g1, g2, g3, _⟩ := E1.mine i es ow
        rw [z] at g1
        cases g1
        rw [h4] at g3
        cases g3
      exact k (.ref q) H' (upd G' q (.lst us)) (.list ds) _ (E2.freeze h2 h1 (E1.bnone h4) no) ((s1.trans Po.gg).trans (sameNew h1)) k1 (.lst upd_same (h3.mono (sameNew h1))) hR
end
end DL

namespace DL
open PySem PySem.Spec PyProof.Rows L2
/-! ## tuples for lists, at any depth: the loop with a stack -/
mutual
def froz : PyData → PyData
  | .list xs => .tuple (frozAll xs)
  | .tuple xs => .tuple (frozAll xs)
  | .none => .none
  | .bool b => .bool b
  | .int i => .int i
  | .str s => .str s
  | .dict kvs => .dict kvs
def frozAll : List PyData → List PyData
  | [] => []
  | d :: ds => froz d :: frozAll ds
end
mutual
def wgt : PyData → Nat
  | .list xs => 2 + wgtAll xs
  | .tuple xs => 2 + wgtAll xs
  | .none => 1
  | .bool _ => 1
  | .int _ => 1
  | .str _ => 1
  | .dict _ => 1
def wgtAll : List PyData → Nat
  | [] => 0
  | d :: ds => wgt d + wgtAll ds
end
def isSeq : PyData → Bool
  | .list _ => true
  | .tuple _ => true
  | _ => false
def items : PyData → List PyData
  | .list xs => xs
  | .tuple xs => xs
  | _ => []
theorem frozAll_map : ∀ xs : List PyData, frozAll xs = xs.map froz
  | [] => rfl
  | x :: xs => by
    unfold frozAll
    rw [frozAll_map xs]
    rfl
theorem froz_seq {d : PyData} (h : isSeq d = true) : froz d = .tuple (frozAll (items d)) := by
  cases d <;> simp [isSeq] at h <;> simp [froz, items]
theorem froz_not {d : PyData} (h : isSeq d = false) : froz d = d := by
  cases d <;> simp [isSeq] at h <;> simp [froz]
theorem wgt_seq {d : PyData} (h : isSeq d = true) : wgt d = 2 + wgtAll (items d) := by
  cases d <;> simp [isSeq] at h <;> simp [wgt, items]
theorem wgt_pos (d : PyData) : 1 ≤ wgt d := by
  cases d <;> (unfold wgt; omega)
theorem wgtAll_len : ∀ xs : List PyData, xs.length ≤ wgtAll xs
  | [] => Nat.le_refl _
  | x :: xs => by
    unfold wgtAll
    have := wgtAll_len xs
    have := wgt_pos x
    simp only [List.length_cons]
    omega
theorem wgtAll_drop {x : PyData} : ∀ (xs : List PyData) (k : Nat), xs[k]? = some x → wgtAll (xs.drop k) = wgt x + wgtAll (xs.drop (k + 1))
  | [], k, h => by simp at h
  | y :: ys, 0, h => by
    simp at h
    subst h
    simp [wgtAll]
  | y :: ys, k + 1, h => by
    have := wgtAll_drop ys k (by simpa using h)
    simpa using this
theorem wgtAll_mem {x : PyData} : ∀ (xs : List PyData) (k : Nat), xs[k]? = some x → wgt x ≤ wgtAll xs
  | [], k, h => by simp at h
  | y :: ys, 0, h => by
    simp at h
    subst h
    unfold wgtAll
    omega
  | y :: ys, k + 1, h => by
    have := wgtAll_mem ys k (by simpa using h)
    unfold wgtAll
    omega
theorem isTy2 (d : PyData) : (isTy (tyD d) "list" || isTy (tyD d) "tuple") = isSeq d := by
  have h1 : isTy "list" "list" = true := by decide
  have h2 : isTy "tuple" "list" = false := by decide
  have h3 : isTy "tuple" "tuple" = true := by decide
  have h4 : isTy "NoneType" "list" = false ∧ isTy "NoneType" "tuple" = false := by decide
  have h5 : isTy "bool" "list" = false ∧ isTy "bool" "tuple" = false := by decide
  have h6 : isTy "int" "list" = false ∧ isTy "int" "tuple" = false := by decide
  have h7 : isTy "str" "list" = false ∧ isTy "str" "tuple" = false := by decide
  have h8 : isTy "dict" "list" = false ∧ isTy "dict" "tuple" = false := by decide
  cases d <;> simp [tyD, isSeq, h1, h2, h3, h4, h5, h6, h7, h8]
/-! data whose tuples lie in the heap, and no lists among them -/
mutual
inductive Hd (G : Hp) : V → PyData → Prop
  | non : Hd G .non .none
  | bl (b : Bool) : Hd G (.bl b) (.bool b)
  | int (i : Int) : Hd G (.int i) (.int i)
  | str (x : Str) : Hd G (.str x) (.str x)
  | tup {a : Addr} {xs : List V} {ds : List PyData} : G a = some (.tup xs) → HdAll G xs ds → Hd G (.ref a) (.tuple ds)
inductive HdAll (G : Hp) : List V → List PyData → Prop
  | nil : HdAll G [] []
  | cons {v : V} {vs : List V} {d : PyData} {ds : List PyData} : Hd G v d → HdAll G vs ds → HdAll G (v :: vs) (d :: ds)
end
mutual
theorem Hd.mono {G G' : Hp} (s : Same G G') : ∀ {v : V} {d : PyData}, Hd G v d → Hd G' v d
  | _, _, .non => .non
  | _, _, .bl b => .bl b
  | _, _, .int i => .int i
  | _, _, .str x => .str x
  | _, _, .tup h t => .tup (s _ _ h) (HdAll.mono s t)
theorem HdAll.mono {G G' : Hp} (s : Same G G') : ∀ {vs : List V} {ds : List PyData}, HdAll G vs ds → HdAll G' vs ds
  | _, _, .nil => .nil
  | _, _, .cons h t => .cons (h.mono s) (HdAll.mono s t)
end
mutual
theorem Hd.dd {K : PySem.W.Frag} {G : Hp} : ∀ {v : V} {d : PyData}, Hd G v d → Dd K G v d
  | _, _, .non => .non
  | _, _, .bl b => .bl b
  | _, _, .int i => .int i
  | _, _, .str x => .str x
  | _, _, .tup h t => .tup (.inl (.inl h)) (HdAll.dd t)
theorem HdAll.dd {K : PySem.W.Frag} {G : Hp} : ∀ {vs : List V} {ds : List PyData}, HdAll G vs ds → DdAll K G vs ds
  | _, _, .nil => .nil
  | _, _, .cons h t => .cons h.dd (HdAll.dd t)
end
theorem HdAll.length {G : Hp} : ∀ {vs : List V} {ds : List PyData}, HdAll G vs ds → vs.length = ds.length
  | _, _, .nil => rfl
  | _, _, .cons _ t => congrArg Nat.succ (HdAll.length t)
theorem HdAll.app {G : Hp} : ∀ {vs us : List V} {ds es : List PyData}, HdAll G vs ds → HdAll G us es → HdAll G (vs ++ us) (ds ++ es)
  | _, _, _, _, .nil, b => b
  | _, _, _, _, .cons h t, b => .cons h (HdAll.app t b)
theorem HdAll.get {G : Hp} : ∀ {vs : List V} {ds : List PyData} {i : Nat} {d : PyData}, HdAll G vs ds → ds[i]? = some d → ∃ v, vs[i]? = some v ∧ Hd G v d
  | _, _, _, _, .nil, h => by simp at h
  | _, _, 0, _, .cons (v := v) h t, e => by
    simp at e; subst e; exact ⟨v, by simp, h⟩
  | _, _, i + 1, _, .cons h t, e => by
    obtain ⟨v, h1, h2⟩ := HdAll.get (i := i) t (by simpa using e)
    exact ⟨v, by simpa using h1, h2⟩
theorem Hd.of_flat {K : PySem.W.Frag} {G : Hp} {v : V} {d : PyData} (h : Dd K G v d) (s : isSeq d = false) : Hd G v d := by
  cases h with
  | non => exact .non
  | bl b => exact .bl b
  | int i => exact .int i
  | str x => exact .str x
  | lst _ _ => cases s
  | tup _ _ => cases s
abbrev tLenQ (K : PySem.W.Frag) (j : Nat) : TE := tCB (fun xs H Q => ∃ p ys, xs = [V.ref p] ∧ (SqL K H p ys ∨ SqT K H p ys) ∧ Q (.int ys.length) H) (tCons (tVar j) tNil)
abbrev tIsLT (K : PySem.W.Frag) (j : Nat) : TE := tCB (rIsiT K) (tCons (tVar j) (tCons (tTup (tCons (tC (.ty "list")) (tCons (tC (.ty "tuple")) tNil))) tNil))
abbrev tTupQ (K : PySem.W.Frag) (j : Nat) : TE := tCB (fun xs H Q => ∃ p ys, xs = [V.ref p] ∧ ((SqL K H p ys ∧ ∀ l, H l = none → Q (.ref l) (upd H l (.tup ys))) ∨ (SqT K H p ys ∧ Q (.ref p) H))) (tCons (tVar j) tNil)
abbrev tTop (K : PySem.W.Frag) : TE := tOp (rIx K) (tVar 1) (tUn (rU fun i => V.int (-i)) (tC (V.int 1)))
def Tbody (K : PySem.W.Frag) : TS :=
  tSeq (tAsg (tTop K) (gTup K 2 (gCons (gName 2) (gCons (gName 3) gNil))))
    (tIfS (tTest (tOp (rI0 fun i j => V.bl (decide (i < j))) (tLenQ K 3) (tLenQ K 2)))
      (tSeq (tAsg (tOp (rIx K) (tVar 2) (tLenQ K 3)) (gName 4))
        (tIfS (tB (tIsLT K 4))
          (tDrop (tBM K "list" rAppend (tVar 1) (tCons (tTup (tCons (tVar 4) (tCons (tLst tNil) tNil))) tNil)))
          (tDrop (tBM K "list" rAppend (tVar 3) (tCons (tVar 4) tNil)))))
      (tSeq (tDrop (tBM0 K "list" rPop (tVar 1)))
        (tSeq (tIfS (tNot fun σ H Q => tVar 1 σ H fun x H' => ∃ k, TruV K x H' k ∧ Q k H') (tRet (tTupQ K 3)) tNext)
          (tDrop (tBM K "list" rAppend (tOp (rIx K) (tTop K) (tC (V.int 1))) (tCons (tTupQ K 3) tNil))))))
def Tfz (K : PySem.W.Frag) : TS :=
  tSeq (tIfS (tNot (tB (tIsLT K 0))) (tRet (tVar 0)) tNext)
    (tSeq (tAsg (tLst (tCons (tTup (tCons (tVar 0) (tCons (tLst tNil) tNil))) tNil)) (gName 1))
      (tWhile (tB (tC (V.bl true))) (Tbody K)))
/-- one open list: the pair's place, the built list's place, what is walked, what is built, how far -/
structure Fr where
  t : Addr
  b : Addr
  v : V
  src : PyData
  us : List V
  k : Nat
structure FrOk (K : PySem.W.Frag) (G H H0 : Hp) (f : Fr) : Prop where
  ht : H f.t = some (.tup [f.v, .ref f.b])
  hb : H f.b = some (.lst f.us)
  gb : G f.b = none
  zb : H0 f.b = none
  sq : isSeq f.src = true
  dv : Dd K G f.v f.src
  du : HdAll G f.us ((frozAll (items f.src)).take f.k)
  hk : f.k ≤ (items f.src).length
def Chain (d : PyData) : List Fr → Prop
  | [] => False
  | [f] => f.src = d
  | f :: g :: r => (items g.src)[g.k]? = some f.src ∧ Chain d (g :: r)
structure InvZ (K : PySem.W.Frag) (G0 H0 : Hp) (d : PyData) (s : Addr) (fs : List Fr) (G H : Hp) : Prop where
  gh : Same G H
  g0 : Same G0 G
  keep : ∀ q o, H0 q = some o → H q = some o
  free : ∀ q, H0 q ≠ none → G0 q = none → G q = none
  hs : H s = some (.lst (fs.map fun f => V.ref f.t).reverse)
  gs : G s = none
  zs : H0 s = none
  fr : ∀ f ∈ fs, FrOk K G H H0 f
  nd : (s :: fs.map (·.b)).Nodup
  ch : Chain d fs
variable {K : PySem.W.Frag} {G0 H0 G H : Hp} {d : PyData} {s : Addr} {fs r : List Fr} {f g : Fr}
theorem FrOk.upd {q : Addr} {o : HO} (h : FrOk K G H H0 f) (n1 : q ≠ f.t) (n2 : q ≠ f.b) : FrOk K G (upd H q o) H0 f :=
  ⟨by rw [upd_ne n1.symm]; exact h.ht, by rw [upd_ne n2.symm]; exact h.hb, h.gb, h.zb, h.sq, h.dv, h.du, h.hk⟩
theorem FrOk.grow {G' : Hp} (h : FrOk K G H H0 f) (s : Same G G') (n : G' f.b = none) : FrOk K G' H H0 f :=
  ⟨h.ht, h.hb, n, h.zb, h.sq, h.dv.mono s, h.du.mono s, h.hk⟩
theorem InvZ.alloc {q : Addr} {o : HO} (I : InvZ K G0 H0 d s fs G H) (hq : H q = none) : InvZ K G0 H0 d s fs G (upd H q o) := by
  have ne : ∀ {b : Addr} {o : HO}, H b = some o → b ≠ q := fun h => ne_of_none h hq
  refine ⟨fun b o h => ?_, I.g0, fun b o h => ?_, I.free, ?_, I.gs, I.zs, fun f hf => ?_, I.nd, I.ch⟩
  · rw [upd_ne (ne (I.gh b o h))]; exact I.gh b o h
  · rw [upd_ne (ne (I.keep b o h))]; exact I.keep b o h
  · rw [upd_ne (ne I.hs)]; exact I.hs
  · have F := I.fr f hf
    exact F.upd (ne F.ht).symm (ne F.hb).symm
theorem InvZ.gnone {q : Addr} (I : InvZ K G0 H0 d s fs G H) (hq : H q = none) : G q = none := by
  cases e : G q with
  | none => rfl
  | some o => rw [I.gh q o e] at hq; cases hq
theorem InvZ.laid {q : Addr} {o : HO} (I : InvZ K G0 H0 d s fs G H) (hq : H q = none) : InvZ K G0 H0 d s fs (upd G q o) (upd H q o) := by
  have J := I.alloc (o := o) hq
  have ne : ∀ {b : Addr} {o : HO}, H b = some o → b ≠ q := fun h => ne_of_none h hq
  have sg : Same G (L2.upd G q o) := sameNew (I.gnone hq)
  refine ⟨fun b o' h => ?_, fun b o h => sg b o (I.g0 b o h), J.keep, fun b h1 h2 => ?_, J.hs, ?_, I.zs, fun f hf => ?_, I.nd, I.ch⟩
  · by_cases e : b = q
    · subst e; rw [upd_same] at h ⊢; exact h
    · rw [upd_ne e] at h ⊢; exact I.gh b o' h
  · have : b ≠ q := by
      cases e : H0 b with
      | none => exact absurd e h1
      | some o => exact ne (I.keep b o e)
    rw [upd_ne this]
    exact I.free b h1 h2
  · rw [upd_ne (ne I.hs)]; exact I.gs
  · have F := J.fr f hf
    refine F.grow sg ?_
    have F0 := I.fr f hf
    show L2.upd G q o f.b = none
    rw [upd_ne (ne F0.hb)]
    exact F0.gb
theorem atI_rev (f : Fr) (r : List Fr) : atI ((f :: r).map fun f => V.ref f.t).reverse (-1) = some (V.ref f.t) := by
  rw [List.map_cons, List.reverse_cons]
  exact atI_last _ _
theorem chain_wgt : ∀ (r : List Fr) (f : Fr), (∀ x ∈ f :: r, isSeq x.src = true) → Chain d (f :: r) → 2 * r.length + wgt f.src ≤ wgt d
  | [], f, _, h => by
    have h : f.src = d := h
    rw [h]
    simp
  | g :: r, f, hs, h => by
    obtain ⟨h1, h2⟩ := h
    have ih := chain_wgt r g (fun x hx => hs x (List.mem_cons_of_mem _ hx)) h2
    have := wgtAll_mem _ _ h1
    have := wgt_seq (hs g (by simp))
    simp only [List.length_cons]
    omega
/-- the built list of the top grows by one -/
theorem InvZ.put {u : V} (I : InvZ K G0 H0 d s (f :: r) G H) {x : PyData} (hx : (items f.src)[f.k]? = some x) (du : Hd G u (froz x)) :
    InvZ K G0 H0 d s ({ f with us := f.us ++ [u], k := f.k + 1 } :: r) G (upd H f.b (.lst (f.us ++ [u]))) := by
  have F := I.fr f (by simp)
  have nd := I.nd
  rw [List.map_cons, List.nodup_cons, List.nodup_cons] at nd
  obtain ⟨n1, n2, n3⟩ := nd
  have sb : s ≠ f.b := fun e => n1 (by rw [e]; simp)
  have tb : ∀ {q : Addr} {xs : List V}, H q = some (.tup xs) → q ≠ f.b := fun h e => by
    rw [e, F.hb] at h
    cases h
  have lt : f.k < (items f.src).length := (List.getElem?_eq_some_iff.mp hx).1
  refine ⟨fun b o h => ?_, I.g0, fun b o h => ?_, I.free, ?_, I.gs, I.zs, fun g hg => ?_, ?_, ?_⟩
  · have : b ≠ f.b := ne_of_none h F.gb
    rw [upd_ne this]
    exact I.gh b o h
  · have : b ≠ f.b := ne_of_none h F.zb
    rw [upd_ne this]
    exact I.keep b o h
  · rw [upd_ne sb]
    exact I.hs
  · rcases List.mem_cons.mp hg with e | hg
    · subst e
      refine ⟨by show upd H f.b _ f.t = _; rw [upd_ne (tb F.ht)]; exact F.ht, upd_same, F.gb, F.zb, F.sq, F.dv, ?_, lt⟩
      show HdAll G (f.us ++ [u]) ((frozAll (items f.src)).take (f.k + 1))
      have e : (frozAll (items f.src))[f.k]? = some (froz x) := by
        rw [frozAll_map, List.getElem?_map, hx]
        rfl
      rw [List.take_add_one, e]
      exact F.du.app (.cons du .nil)
    · have Fg := I.fr g (List.mem_cons_of_mem _ hg)
      refine Fg.upd (tb Fg.ht).symm (fun e => n2 ?_)
      rw [e]
      exact List.mem_map_of_mem hg
  · rw [List.map_cons, List.nodup_cons, List.nodup_cons]
    exact ⟨n1, n2, n3⟩
  · cases r with
    | nil => exact I.ch
    | cons g r => exact I.ch
/-- an open list more -/
theorem InvZ.push {t' b' : Addr} {u : V} (I : InvZ K G0 H0 d s (f :: r) G H) {x : PyData} (hx : (items f.src)[f.k]? = some x) (sx : isSeq x = true) (du : Dd K G u x) (hb : H b' = none) (ht : H t' = none) (tb : t' ≠ b') :
    InvZ K G0 H0 d s (⟨t', b', u, x, [], 0⟩ :: f :: r) G (upd (upd (upd H b' (.lst [])) t' (.tup [u, .ref b'])) s (.lst (((f :: r).map fun f => V.ref f.t).reverse ++ [V.ref t']))) := by
  have hb2 : (upd H b' (.lst [])) t' = none := by rw [upd_ne tb]; exact ht
  have J := (I.alloc (o := .lst []) hb).alloc (o := .tup [u, .ref b']) hb2
  have ne : ∀ {b q : Addr} {o : HO}, H b = some o → H q = none → b ≠ q := fun h hq => ne_of_none h hq
  have sb : s ≠ b' := ne I.hs hb
  have st : s ≠ t' := ne I.hs ht
  have zb : H0 b' = none := by
    cases e : H0 b' with
    | none => rfl
    | some o => rw [I.keep _ _ e] at hb; cases hb
  have gb : G b' = none := I.gnone hb
  have lsb : ∀ g ∈ f :: r, g.b ≠ s := fun g hg e => by
    have nd := I.nd
    rw [List.nodup_cons] at nd
    exact nd.1 (by rw [← e]; exact List.mem_map_of_mem hg)
  have stt : ∀ {q : Addr} {xs : List V}, H q = some (.tup xs) → s ≠ q := fun h e => by
    rw [← e, I.hs] at h
    cases h
  refine ⟨fun b o h => ?_, I.g0, fun b o h => ?_, I.free, ?_, I.gs, I.zs, fun g hg => ?_, ?_, ⟨hx, I.ch⟩⟩
  · have : b ≠ s := ne_of_none h I.gs
    rw [upd_ne this]
    exact J.gh b o h
  · have : b ≠ s := ne_of_none h I.zs
    rw [upd_ne this]
    exact J.keep b o h
  · rw [upd_same, List.map_cons (f := fun f : Fr => V.ref f.t) (a := (⟨t', b', u, x, [], 0⟩ : Fr)), List.reverse_cons]
  · rcases List.mem_cons.mp hg with e | hg
    · subst e
      refine ⟨?_, ?_, gb, zb, sx, du, .nil, Nat.zero_le _⟩
      · show upd _ s _ t' = _
        rw [upd_ne st.symm, upd_same]
      · show upd _ s _ b' = _
        rw [upd_ne sb.symm, upd_ne tb.symm, upd_same]
    · have Fg := J.fr g hg
      exact Fg.upd (stt (I.fr g hg).ht) (lsb g hg).symm
  · rw [List.map_cons, List.nodup_cons, List.nodup_cons]
    have nd := I.nd
    rw [List.nodup_cons] at nd
    refine ⟨fun z => ?_, fun z => ?_, nd.2⟩
    · rcases List.mem_cons.mp z with e | z
      · exact sb e
      · exact nd.1 z
    · obtain ⟨g, hg, e⟩ := List.mem_map.mp z
      exact ne (I.fr g hg).hb hb e
/-- the top is taken off -/
theorem InvZ.pop (I : InvZ K G0 H0 d s (f :: g :: r) G H) : InvZ K G0 H0 d s (g :: r) G (upd H s (.lst ((g :: r).map fun f => V.ref f.t).reverse)) := by
  have lsb : ∀ x ∈ f :: g :: r, x.b ≠ s := fun x hx e => by
    have nd := I.nd
    rw [List.nodup_cons] at nd
    exact nd.1 (by rw [← e]; exact List.mem_map_of_mem hx)
  have stt : ∀ {q : Addr} {xs : List V}, H q = some (.tup xs) → s ≠ q := fun h e => by
    rw [← e, I.hs] at h
    cases h
  refine ⟨fun b o h => ?_, I.g0, fun b o h => ?_, I.free, upd_same, I.gs, I.zs, fun x hx => ?_, ?_, I.ch.2⟩
  · have : b ≠ s := ne_of_none h I.gs
    rw [upd_ne this]
    exact I.gh b o h
  · have : b ≠ s := ne_of_none h I.zs
    rw [upd_ne this]
    exact I.keep b o h
  · have Fx := I.fr x (List.mem_cons_of_mem _ hx)
    exact Fx.upd (stt Fx.ht) (lsb x (List.mem_cons_of_mem _ hx)).symm
  · have nd := I.nd
    rw [List.map_cons, List.nodup_cons, List.nodup_cons] at nd
    rw [List.nodup_cons]
    exact ⟨fun z => nd.1 (List.mem_cons_of_mem _ z), nd.2.2⟩
/-! what is read -/
theorem isLT_ev {j : Nat} {σ : L2.St} {v : V} {Q : VK} (gh : Same G H) (hv : σ[j]? = some (some v)) (dv : Dd K G v d) (k : ∀ q o, H q = none → Q (.bl (isSeq d)) (upd H q o)) : tIsLT K j σ H Q := by
  refine ⟨v, hv, show 2 ≤ sizeLine by decide, fun q hq => ?_⟩
  have gq : G q = none := by
    cases e : G q with
    | none => rfl
    | some o => rw [gh q o e] at hq; cases hq
  have g2 : Same (upd G q (.tup [.ty "list", .ty "tuple"])) (upd H q (.tup [.ty "list", .ty "tuple"])) := fun b o h => by
    by_cases e : b = q
    · subst e; rw [upd_same] at h ⊢; exact h
    · rw [upd_ne e] at h ⊢; exact gh b o h
  have d2 := dv.mono (sameNew (o := .tup [.ty "list", .ty "tuple"]) gq)
  refine ⟨v, q, _, _, _, _, rfl, upd_same, .cons (.ty "list") (.cons (.ty "tuple") .nil), tyX_of g2 d2, kitAny2 (kit1 d2 kit_list) (kit1 d2 kit_tuple), ?_⟩
  rw [isTy2]
  exact k q _ hq
theorem seq_of {v : V} {x : PyData} (gh : Same G H) (dv : Dd K G v x) (sx : isSeq x = true) : ∃ p ys, v = .ref p ∧ (SqL K H p ys ∨ SqT K H p ys) ∧ DdAll K G ys (items x) := by
  cases dv with
  | lst ga da => exact ⟨_, _, rfl, .inl (SqL.of (gh _ _ ga)), da⟩
  | tup ga da => exact ⟨_, _, rfl, .inr (sqT_same gh ga), da⟩
  | _ => cases sx
theorem rIx_at {p : Addr} {ys : List V} {i : Int} {z : V} {Q : VK} (h : SqL K H p ys ∨ SqT K H p ys) (e : atI ys i = some z) (k : Q z H) : rIx K (.ref p) (.int i) H Q := by
  rcases h with h | h
  · exact .inl ⟨p, ys, i, z, rfl, rfl, h, e, k⟩
  · exact .inr (.inl ⟨p, ys, i, z, rfl, rfl, h, e, k⟩)
def muR : List Fr → Nat
  | [] => 0
  | g :: r => 1 + wgtAll ((items g.src).drop (g.k + 1)) + muR r
def mu : List Fr → Nat
  | [] => 0
  | f :: r => 1 + wgtAll ((items f.src).drop f.k) + muR r
theorem InvZ.init {v : V} {b t : Addr} {H1 : Hp} (gh0 : Same G0 H0) (k1 : Same H0 H1) (dv : Dd K G0 v d) (sd : isSeq d = true) (hb : H1 b = none) (ht : upd H1 b (.lst []) t = none) (hs : upd (upd H1 b (.lst [])) t (.tup [v, .ref b]) s = none) :
    InvZ K G0 H0 d s [⟨t, b, v, d, [], 0⟩] G0 (upd (upd (upd H1 b (.lst [])) t (.tup [v, .ref b])) s (.lst [V.ref t])) := by
  have tb : t ≠ b := fun e => by subst e; rw [upd_same] at ht; cases ht
  have st : s ≠ t := fun e => by subst e; rw [upd_same] at hs; cases hs
  have sb : s ≠ b := fun e => by subst e; rw [upd_ne st, upd_same] at hs; cases hs
  have ht1 : H1 t = none := by rwa [upd_ne tb] at ht
  have hs1 : H1 s = none := by rwa [upd_ne st, upd_ne sb] at hs
  have non : ∀ {q : Addr}, H1 q = none → H0 q = none := fun h => by
    cases e : H0 _ with
    | none => rfl
    | some o => rw [k1 _ _ e] at h; cases h
  have gnon : ∀ {q : Addr}, H0 q = none → G0 q = none := fun h => by
    cases e : G0 _ with
    | none => rfl
    | some o => rw [gh0 _ _ e] at h; cases h
  have kp : ∀ q o, H0 q = some o → upd (upd (upd H1 b (.lst [])) t (.tup [v, .ref b])) s (.lst [V.ref t]) q = some o := fun q o h => by
    have h1 := k1 q o h
    rw [upd_ne (ne_of_none h1 hs1), upd_ne (ne_of_none h1 ht1), upd_ne (ne_of_none h1 hb)]
    exact h1
  refine ⟨fun q o h => kp q o (gh0 q o h), Same.refl _, kp, fun q _ h => h, upd_same, gnon (non hs1), non hs1, fun f hf => ?_, ?_, rfl⟩
  · simp only [List.mem_singleton] at hf
    subst hf
    refine ⟨?_, ?_, gnon (non hb), non hb, sd, dv, .nil, Nat.zero_le _⟩
    · show upd _ s _ t = _
      rw [upd_ne st.symm, upd_same]
    · show upd _ s _ b = _
      rw [upd_ne sb.symm, upd_ne tb.symm, upd_same]
  · simp [sb]
theorem fz_core {v : V} {D : Ends} (gh0 : Same G0 H0) (dv : Dd K G0 v d) (hd : wgt d ≤ sizeLine)
    (q : ∀ v' G' H', Same G0 G' → Same G' H' → (∀ q o, H0 q = some o → H' q = some o) → (∀ q, H0 q ≠ none → G0 q = none → G' q = none) → Hd G' v' (froz d) → D.rt v' H') :
    Tfz K D [some v, none, none, none, none] H0 := by
  have s1 : 1 ≤ sizeLine := by decide
  have s2 : 2 ≤ sizeLine := by decide
  have up0 : ∀ (c : Addr) (o : HO), H0 c = none → Same H0 (upd H0 c o) := fun c o hc b o' h => by
    rw [upd_ne (ne_of_none h hc)]
    exact h
  refine isLT_ev (j := 0) gh0 rfl dv (fun c o hc => ⟨_, rfl, ?_⟩)
  cases sd : isSeq d with
  | false =>
    refine (if_pos (c := (!false) = true) rfl).mpr ?_
    refine ⟨v, rfl, q v G0 _ (Same.refl _) (fun b o h => up0 c _ hc b o (gh0 b o h)) (up0 c _ hc) (fun _ _ h => h) ?_⟩
    rw [froz_not sd]
    exact Hd.of_flat dv sd
  | true =>
    refine (if_neg (c := (!true) = true) (by decide)).mpr ?_
    refine ⟨v, rfl, Nat.zero_le _, fun b hb => ⟨s2, fun t ht => ⟨s1, fun s hs => ?_⟩⟩⟩
    have I0 := InvZ.init gh0 (up0 c o hc) dv sd hb ht hs
    refine ⟨fun m σ H => ∃ G f r x2 x3 x4, σ = [some v, some (.ref s), x2, x3, x4] ∧ InvZ K G0 H0 d s (f :: r) G H ∧ mu (f :: r) = m, ⟨_, G0, _, [], none, none, none, rfl, I0, rfl⟩, fun m σ H hW => ?_⟩
    obtain ⟨G, f, r, x2, x3, x4, rfl, I, rfl⟩ := hW
    refine ⟨true, rfl, ?_⟩
    refine (if_pos (c := true = true) rfl).mpr ⟨fun σ' H' => ∃ m', m' < mu (f :: r) ∧ ∃ G f r x2 x3 x4, σ' = [some v, some (.ref s), x2, x3, x4] ∧ InvZ K G0 H0 d s (f :: r) G H' ∧ mu (f :: r) = m', fun _ _ h => h, ?_⟩
    have F := I.fr f (by simp)
    have sq : ∀ x ∈ f :: r, isSeq x.src = true := fun x hx => (I.fr x hx).sq
    have cw := chain_wgt r f sq I.ch
    have ws := wgt_seq F.sq
    have wl := wgtAll_len (items f.src)
    obtain ⟨p, ys, ev, hy, da⟩ := seq_of I.gh F.dv F.sq
    have lu : f.us.length = f.k := by
      rw [F.du.length, List.length_take, frozAll_map, List.length_map]
      have := F.hk
      omega
    -- the top
    refine ⟨.ref s, rfl, 1, rfl, rIx_at (.inl (SqL.of I.hs)) (atI_rev f r) ?_⟩
    refine ⟨f.t, [f.v, .ref f.b], rfl, .inl (.inl F.ht), rfl, f.v, [.ref f.b], rfl, .ref f.b, [], rfl, rfl, ?_⟩
    refine ⟨.ref f.b, rfl, f.b, f.us, rfl, .inl (SqL.of F.hb), f.v, rfl, p, ys, by rw [ev], hy, _, _, rfl, rfl, _, rfl, ?_⟩
    by_cases hlt : ((f.us.length : Int) < (ys.length : Int))
    · refine (if_pos (c := decide ((f.us.length : Int) < (ys.length : Int)) = true) (decide_eq_true hlt)).mpr ?_
      have hk : f.k < (items f.src).length := by
        rw [← da.length, ← lu]
        omega
      obtain ⟨x, hx⟩ : ∃ x, (items f.src)[f.k]? = some x := ⟨_, List.getElem?_eq_getElem hk⟩
      obtain ⟨z, hz, dz⟩ := da.atI (atI_nat hx)
      have wd := wgtAll_drop _ _ hx
      refine ⟨f.v, rfl, .ref f.b, rfl, f.b, f.us, rfl, .inl (SqL.of F.hb), ?_⟩
      rw [ev, lu]
      refine rIx_at hy hz ?_
      refine isLT_ev (j := 4) I.gh rfl dz (fun c2 o2 hc2 => ⟨_, rfl, ?_⟩)
      have J := I.alloc (o := o2) hc2
      have FJ := J.fr f (by simp)
      cases sx : isSeq x with
      | true =>
        refine (if_pos (c := true = true) rfl).mpr ?_
        refine ⟨.ref s, rfl, .inl ⟨rfl, _, SqL.of J.hs⟩, z, rfl, Nat.zero_le _, fun b' hb' => ⟨s2, fun t' ht' => ?_⟩⟩
        have tb : t' ≠ b' := fun e => by subst e; rw [upd_same] at ht'; cases ht'
        have ht2 : upd H c2 o2 t' = none := by rwa [upd_ne tb] at ht'
        have J2 := ((J.alloc (o := .lst []) hb').alloc (o := .tup [z, .ref b']) ht').hs
        refine ⟨s, _, .ref t', rfl, rfl, J2, ?_, ?_⟩
        · rw [List.length_reverse, List.length_map, List.length_cons]
          omega
        · refine ⟨_, ?_, G, _, f :: r, _, _, _, rfl, J.push hx sx dz hb' ht2 tb, rfl⟩
          have wx := wgt_seq sx
          show 1 + wgtAll ((items x).drop 0) + (1 + wgtAll ((items f.src).drop (f.k + 1)) + muR r) < 1 + wgtAll ((items f.src).drop f.k) + muR r
          rw [List.drop_zero]
          omega
      | false =>
        refine (if_neg (c := false = true) (by decide)).mpr ?_
        refine ⟨.ref f.b, rfl, .inl ⟨rfl, _, SqL.of FJ.hb⟩, z, rfl, f.b, f.us, z, rfl, rfl, FJ.hb, ?_, ?_⟩
        · omega
        · refine ⟨_, ?_, G, _, r, _, _, _, rfl, J.put hx (by rw [froz_not sx]; exact Hd.of_flat dz sx), rfl⟩
          have wx := wgt_pos x
          show 1 + wgtAll ((items f.src).drop (f.k + 1)) + muR r < 1 + wgtAll ((items f.src).drop f.k) + muR r
          omega
    · refine (if_neg (c := decide ((f.us.length : Int) < (ys.length : Int)) = true) (by rw [decide_eq_true_iff]; exact hlt)).mpr ?_
      have hk : f.k = (items f.src).length := by
        have := F.hk
        rw [← da.length, ← lu] at this ⊢
        omega
      have du : HdAll G f.us (frozAll (items f.src)) := by
        have := F.du
        rwa [hk, List.take_of_length_le (by rw [frozAll_map, List.length_map]; exact Nat.le_refl _)] at this
      have er : ((f :: r).map fun f => V.ref f.t).reverse = (r.map fun f => V.ref f.t).reverse ++ [V.ref f.t] := by
        rw [List.map_cons, List.reverse_cons]
      have ed : (((f :: r).map fun f => V.ref f.t).reverse).dropLast = (r.map fun f => V.ref f.t).reverse := by
        rw [er, List.dropLast_concat]
      refine ⟨.ref s, rfl, .inl ⟨rfl, _, SqL.of I.hs⟩, s, _, .ref f.t, rfl, rfl, I.hs, ?_, ?_⟩
      · rw [er, List.length_append]
        simp
      rw [ed]
      refine ⟨.ref s, rfl, _, .inl ⟨_, SqL.of upd_same, rfl⟩, ?_⟩
      have sb : f.b ≠ s := fun e => by
        have nd := I.nd
        rw [List.nodup_cons] at nd
        exact nd.1 (by rw [← e]; simp)
      cases r with
      | nil =>
        refine (if_pos (c := (!(!List.isEmpty ((List.map (fun f : Fr => V.ref f.t) []).reverse))) = true) rfl).mpr ?_
        have hb2 : upd H s (.lst []) f.b = some (.lst f.us) := by rw [upd_ne sb]; exact F.hb
        refine ⟨.ref f.b, rfl, f.b, f.us, rfl, .inl ⟨SqL.of hb2, fun l hl => ?_⟩⟩
        have sl : l ≠ s := fun e => by subst e; rw [upd_same] at hl; cases hl
        have hl1 : H l = none := by rwa [upd_ne sl] at hl
        have gl : G l = none := I.gnone hl1
        have sg : Same G (upd G l (.tup f.us)) := sameNew gl
        refine q (.ref l) (upd G l (.tup f.us)) _ (fun b o h => sg b o (I.g0 b o h)) (fun b o h => ?_) (fun b o h => ?_) (fun b h1 h2 => ?_) ?_
        · by_cases e : b = l
          · subst e; rw [upd_same] at h ⊢; exact h
          · rw [upd_ne e] at h ⊢
            rw [upd_ne (ne_of_none h I.gs)]
            exact I.gh b o h
        · have := I.keep b o h
          rw [upd_ne (ne_of_none this hl1), upd_ne (ne_of_none h I.zs)]
          exact this
        · have : b ≠ l := by
            cases e : H0 b with
            | none => exact absurd e h1
            | some o => exact ne_of_none (I.keep b o e) hl1
          rw [upd_ne this]
          exact I.free b h1 h2
        · have e : f.src = d := I.ch
          rw [← e, froz_seq F.sq]
          exact .tup upd_same (du.mono sg)
      | cons g r =>
        have hne : ((g :: r).map fun f : Fr => V.ref f.t).reverse.isEmpty = false := by
          rw [List.isEmpty_reverse]
          rfl
        rw [hne]
        refine (if_neg (c := (!(!false)) = true) (by decide)).mpr ?_
        have J := I.pop
        have Fg := J.fr g (by simp)
        have hb2 : upd H s (.lst ((g :: r).map fun f => V.ref f.t).reverse) f.b = some (.lst f.us) := by rw [upd_ne sb]; exact F.hb
        have e1 : atI [g.v, V.ref g.b] 1 = some (V.ref g.b) := atI_1
        refine ⟨.ref s, rfl, 1, rfl, rIx_at (.inl (SqL.of J.hs)) (atI_rev g r) (rIx_at (.inr (.inl (.inl Fg.ht))) e1 ⟨.inl ⟨rfl, _, SqL.of Fg.hb⟩, ?_⟩)⟩
        refine ⟨.ref f.b, rfl, f.b, f.us, rfl, .inl ⟨SqL.of hb2, fun l hl => ?_⟩⟩
        have L := J.laid (o := .tup f.us) hl
        have Lg := L.fr g (by simp)
        have gl := J.gnone hl
        have hx := I.ch.1
        have wd := wgtAll_drop _ _ hx
        have dl : Hd (upd G l (.tup f.us)) (.ref l) (froz f.src) := by
          rw [froz_seq F.sq]
          exact .tup upd_same (du.mono (sameNew gl))
        have lug : g.us.length = g.k := by
          rw [Fg.du.length, List.length_take, frozAll_map, List.length_map]
          have := Fg.hk
          omega
        have cg := chain_wgt r g (fun x hx => sq x (List.mem_cons_of_mem _ hx)) J.ch
        have wg := wgt_seq Fg.sq
        have wlg := wgtAll_len (items g.src)
        have hkg := (List.getElem?_eq_some_iff.mp hx).1
        refine ⟨g.b, g.us, .ref l, rfl, rfl, Lg.hb, by omega, ?_⟩
        refine ⟨_, ?_, _, _, r, _, _, _, rfl, L.put hx dl, rfl⟩
        show 1 + wgtAll ((items g.src).drop (g.k + 1)) + muR r < 1 + wgtAll ((items f.src).drop f.k) + (1 + wgtAll ((items g.src).drop (g.k + 1)) + muR r)
        omega
def S_frozen : PSp := fun as R => ∃ d, as = [.dat d] ∧ wgt d ≤ sizeLine ∧ R (.dat (froz d)) as
abbrev N_frz : List Str := ["given", "stack", "source", "built", "item"]
theorem fn_frozen {P : Program} {w : World} {mg : Str → Option Value} {base : Heap} {x qual : Str} {st : Stmt} {f : Addr} {fd : FuncData} {k : Nat} (F : Fun K x qual st f fd) (Sc : FnScope N_frz ["given"] (defScope st))
    (hbody : ∀ (cdv : Value) (A : Around) (outer : List Env) (s : Shared) (H : Hp) (E : XK), Room k (A.deeper (envOfC qual (defScope st) s.heap.objs.size f cdv)) →
      PSs (cxOf CX0 P w K mg base N_frz qual (defScope st) f cdv A outer s H E).nox (defBody st) (Tfz K)) : FnOk P w K mg base CX0 (k + 1) f fd ["given"] (spS K S_frozen) := by
  refine F.ok Sc (fun vs H Q E h => ?_) (fun cdv A outer s H vs Q E hr h => ⟨_, hbody cdv A outer s H E hr, ?_⟩)
  · obtain ⟨G, as, R, _, hA, ⟨d, rfl, _⟩, _⟩ := h
    rw [hA.len]
    rfl
  · obtain ⟨G, as, R, gh, hA, ⟨d, rfl, hw, hR⟩, post⟩ := h
    obtain ⟨v, hv, dv⟩ := hA.dat 0 d rfl
    have hl := hA.len
    obtain ⟨u, rfl⟩ : ∃ u, vs = [u] := by
      cases vs with
      | nil => simp at hl
      | cons u us =>
        cases us with
        | nil => exact ⟨u, rfl⟩
        | cons _ _ => simp at hl
    simp at hv
    subst hv
    refine fz_core gh dv hw (fun v' G' H' g1 g2 g3 g4 g5 => ?_)
    refine post v' G' H' _ (.dat (froz d)) ⟨g1, g2, fun q o h _ => g3 q o h, fun q h => ?_, g4, KS.refl _, fun i ds h => ?_, g5.dd⟩ hR
    · cases e : H q with
      | none => exact absurd e h
      | some o => rw [g3 q o e]; exact fun z => by cases z
    · cases i with
      | zero => cases h
      | succ i => simp at h
/-- the same, told of where the new tuples lie -/
def spFH (K : PySem.W.Frag) : Sp := fun vs H Q _ => ∃ (G : Hp) (v : V) (d : PyData), vs = [v] ∧ Same G H ∧ Dd K G v d ∧ wgt d ≤ sizeLine ∧
  ∀ v' G' H', Same G G' → Same G' H' → (∀ q o, H q = some o → H' q = some o) → (∀ q, H q ≠ none → G q = none → G' q = none) → Hd G' v' (froz d) → Q v' H'
theorem fn_frozenH {P : Program} {w : World} {mg : Str → Option Value} {base : Heap} {x qual : Str} {st : Stmt} {f : Addr} {fd : FuncData} {k : Nat} (F : Fun K x qual st f fd) (Sc : FnScope N_frz ["given"] (defScope st))
    (hbody : ∀ (cdv : Value) (A : Around) (outer : List Env) (s : Shared) (H : Hp) (E : XK), Room k (A.deeper (envOfC qual (defScope st) s.heap.objs.size f cdv)) →
      PSs (cxOf CX0 P w K mg base N_frz qual (defScope st) f cdv A outer s H E).nox (defBody st) (Tfz K)) : FnOk P w K mg base CX0 (k + 1) f fd ["given"] (spFH K) := by
  refine F.ok Sc (fun vs H Q E h => ?_) (fun cdv A outer s H vs Q E hr h => ⟨_, hbody cdv A outer s H E hr, ?_⟩)
  · obtain ⟨G, v, d, rfl, _⟩ := h
    rfl
  · obtain ⟨G, v, d, rfl, gh, dv, hw, post⟩ := h
    exact fz_core gh dv hw post
end DL

namespace DL
open PySem PySem.Spec PyProof.Rows L2
/-! ## rows of a formula: the loop with a stack and a dict of rows -/
inductive Fm where
  | tt
  | word (w : Str)
  | un (h : Str) (a : Fm)
  | bin (h : Str) (a b : Fm)
deriving DecidableEq
namespace Fm
def kids : Fm → List Fm
  | tt => []
  | word _ => []
  | un _ a => [a]
  | bin _ a b => [a, b]
def head : Fm → Str
  | tt => "true"
  | word _ => "word"
  | un h _ => h
  | bin h _ _ => h
def toD : Fm → PyData
  | tt => .tuple [.str "true"]
  | word w => .tuple [.str "word", .str w]
  | un h a => .tuple [.str h, a.toD]
  | bin h a b => .tuple [.str h, a.toD, b.toD]
def ok : Fm → Prop
  | tt => True
  | word _ => True
  | un h a => h ≠ "true" ∧ h ≠ "word" ∧ a.ok
  | bin h a b => h ≠ "true" ∧ h ≠ "word" ∧ a.ok ∧ b.ok
def wt : Fm → Nat
  | tt => 2
  | word _ => 2
  | un _ a => 2 + a.wt
  | bin _ a b => 2 + a.wt + b.wt
end Fm
def wts : List Fm → Nat
  | [] => 0
  | f :: fs => f.wt + wts fs
theorem wt_kids (f : Fm) : f.wt = 2 + wts f.kids := by
  cases f <;> simp [Fm.wt, Fm.kids, wts]
  omega
abbrev Row := List L2.Key
def keyD : L2.Key → PyData
  | .inl i => .int i
  | .inr s => .str s
def rowD (r : Row) : PyData := .tuple (r.map keyD)
def mkR : Fm → List Int → Row
  | .tt, _ => [.inr "true"]
  | .word w, _ => [.inr "word", .inr w]
  | .un h _, bs => .inr h :: bs.map .inl
  | .bin h _ _, bs => .inr h :: bs.map .inl
def findR (r : Row) (rows : List Row) : Option Nat := rows.findIdx? fun x => decide (x = r)
def addR (r : Row) (rows : List Row) : List Row × Nat := match findR r rows with
  | some i => (rows, i)
  | none => (rows ++ [r], rows.length)
def rowsOf : Fm → List Row → List Row × Nat
  | .tt, rows => addR (mkR .tt []) rows
  | .word w, rows => addR (mkR (.word w) []) rows
  | .un h a, rows => addR (mkR (.un h a) [((rowsOf a rows).2 : Int)]) (rowsOf a rows).1
  | .bin h a b, rows => addR (mkR (.bin h a b) [((rowsOf a rows).2 : Int), ((rowsOf b (rowsOf a rows).1).2 : Int)]) (rowsOf b (rowsOf a rows).1).1
def goKids : List Fm → List Int → List Row → List Int × List Row
  | [], bs, rows => (bs, rows)
  | c :: cs, bs, rows => goKids cs (bs ++ [((rowsOf c rows).2 : Int)]) (rowsOf c rows).1
theorem rowsOf_eq (f : Fm) (rows : List Row) : rowsOf f rows = addR (mkR f (goKids f.kids [] rows).1) (goKids f.kids [] rows).2 := by
  cases f <;> rfl
theorem findR_snoc {r j : Row} {rows : List Row} (h : findR r rows = none) : findR j (rows ++ [r]) = if j = r then some rows.length else findR j rows := by
  unfold findR at h ⊢
  rw [List.findIdx?_append]
  by_cases e : j = r
  · subst e
    rw [h]
    simp
  · rw [if_neg e]
    have : List.findIdx? (fun x => decide (x = j)) [r] = none := by
      have e' : ¬ r = j := fun z => e z.symm
      simp [e']
    rw [this]
    cases List.findIdx? (fun x => decide (x = j)) rows <;> rfl
structure FrR where
  t : Addr
  b : Addr
  v : V
  f : Fm
  bs : List Int
def retR : List FrR → Int → List Row → List Row
  | [], _, rows => rows
  | y :: r, i, rows => retR r ((addR (mkR y.f (goKids (y.f.kids.drop (y.bs.length + 1)) (y.bs ++ [i]) rows).1) (goKids (y.f.kids.drop (y.bs.length + 1)) (y.bs ++ [i]) rows).2).2 : Int)
      (addR (mkR y.f (goKids (y.f.kids.drop (y.bs.length + 1)) (y.bs ++ [i]) rows).1) (goKids (y.f.kids.drop (y.bs.length + 1)) (y.bs ++ [i]) rows).2).1
def contR : List FrR → List Row → List Row
  | [], rows => rows
  | y :: r, rows => retR r ((addR (mkR y.f (goKids (y.f.kids.drop y.bs.length) y.bs rows).1) (goKids (y.f.kids.drop y.bs.length) y.bs rows).2).2 : Int)
      (addR (mkR y.f (goKids (y.f.kids.drop y.bs.length) y.bs rows).1) (goKids (y.f.kids.drop y.bs.length) y.bs rows).2).1
theorem contR_cons {y : FrR} {r : List FrR} {rows : List Row} : contR (y :: r) rows = retR r ((addR (mkR y.f (goKids (y.f.kids.drop y.bs.length) y.bs rows).1) (goKids (y.f.kids.drop y.bs.length) y.bs rows).2).2 : Int)
      (addR (mkR y.f (goKids (y.f.kids.drop y.bs.length) y.bs rows).1) (goKids (y.f.kids.drop y.bs.length) y.bs rows).2).1 := rfl
theorem contR_start {t b : Addr} {v : V} {f : Fm} : contR [⟨t, b, v, f, []⟩] [] = (rowsOf f []).1 := by
  rw [rowsOf_eq]
  rfl
theorem contR_push {t b : Addr} {v : V} {c : Fm} {x : FrR} {r : List FrR} {rows : List Row} (h : x.f.kids[x.bs.length]? = some c) : contR (⟨t, b, v, c, []⟩ :: x :: r) rows = contR (x :: r) rows := by
  have lt := (List.getElem?_eq_some_iff.mp h).1
  have e : x.f.kids.drop x.bs.length = c :: x.f.kids.drop (x.bs.length + 1) := by
    rw [List.drop_eq_getElem_cons lt]
    congr 1
    rw [List.getElem?_eq_getElem lt] at h
    exact Option.some.inj h
  have e2 : addR (mkR c (goKids (c.kids.drop 0) [] rows).1) (goKids (c.kids.drop 0) [] rows).2 = rowsOf c rows := by
    rw [rowsOf_eq]
    rfl
  show retR (x :: r) ((addR (mkR c (goKids (c.kids.drop 0) [] rows).1) (goKids (c.kids.drop 0) [] rows).2).2 : Int) (addR (mkR c (goKids (c.kids.drop 0) [] rows).1) (goKids (c.kids.drop 0) [] rows).2).1 = _
  rw [e2, contR_cons, e]
  rfl
theorem contR_pop {x y : FrR} {r : List FrR} {rows : List Row} (h : x.bs.length = x.f.kids.length) :
    contR (x :: y :: r) rows = contR ({ y with bs := y.bs ++ [((addR (mkR x.f x.bs) rows).2 : Int)] } :: r) (addR (mkR x.f x.bs) rows).1 := by
  have e : x.f.kids.drop x.bs.length = [] := by rw [h, List.drop_length]
  show retR (y :: r) ((addR (mkR x.f (goKids (x.f.kids.drop x.bs.length) x.bs rows).1) (goKids (x.f.kids.drop x.bs.length) x.bs rows).2).2 : Int) (addR (mkR x.f (goKids (x.f.kids.drop x.bs.length) x.bs rows).1) (goKids (x.f.kids.drop x.bs.length) x.bs rows).2).1 = _
  rw [e, contR_cons]
  simp only [List.length_append, List.length_singleton]
  rfl
theorem contR_last {x : FrR} {rows : List Row} (h : x.bs.length = x.f.kids.length) : contR [x] rows = (addR (mkR x.f x.bs) rows).1 := by
  have e : x.f.kids.drop x.bs.length = [] := by rw [h, List.drop_length]
  rw [contR_cons, e]
  rfl
def muRR : List FrR → Nat
  | [] => 0
  | y :: r => 1 + wts (y.f.kids.drop (y.bs.length + 1)) + muRR r
def muRT : List FrR → Nat
  | [] => 0
  | y :: r => 1 + wts (y.f.kids.drop y.bs.length) + muRR r
theorem wts_drop {c : Fm} : ∀ (cs : List Fm) (k : Nat), cs[k]? = some c → wts (cs.drop k) = c.wt + wts (cs.drop (k + 1))
  | [], k, h => by simp at h
  | y :: ys, 0, h => by
    simp at h
    subst h
    simp [wts]
  | y :: ys, k + 1, h => by
    have := wts_drop ys k (by simpa using h)
    simpa using this
/-! the heap -/
structure FrROk (G H H0 : Hp) (x : FrR) : Prop where
  ht : H x.t = some (.tup [x.v, .ref x.b])
  hb : H x.b = some (.lst (x.bs.map V.int))
  gb : G x.b = none
  zb : H0 x.b = none
  dv : Hd G x.v x.f.toD
  hk : x.bs.length ≤ x.f.kids.length
  ok : x.f.ok
structure InvR (G0 H0 : Hp) (a n s : Addr) (xs : List FrR) (rows : List Row) (G H : Hp) : Prop where
  gh : Same G H
  g0 : Same G0 G
  keep : ∀ q o, H0 q = some o → H q = some o
  free : ∀ q, H0 q ≠ none → G0 q = none → G q = none
  ha : ∃ rvs, H a = some (.lst rvs) ∧ HdAll G rvs (rows.map rowD)
  ga : G a = none
  za : H0 a = none
  hn : ∃ kvs : List (Row × V), H n = some (.dT kvs) ∧ kvs.length = rows.length ∧ ∀ r, valV kvs r = (findR r rows).map fun i : Nat => V.int (i : Int)
  gn : G n = none
  zn : H0 n = none
  hs : H s = some (.lst (xs.map fun x => V.ref x.t).reverse)
  gs : G s = none
  zs : H0 s = none
  fr : ∀ x ∈ xs, FrROk G H H0 x
  nd : (a :: s :: xs.map (·.b)).Nodup
variable {K : PySem.W.Frag} {G0 H0 G H G' H' : Hp} {a n s : Addr} {xs r : List FrR} {x y : FrR} {rows : List Row}
theorem InvR.more (I : InvR G0 H0 a n s xs rows G H) (g1 : Same G G') (g2 : Same G' H') (kp : ∀ q o, H q = some o → H' q = some o) (fr : ∀ q, H q ≠ none → G q = none → G' q = none) : InvR G0 H0 a n s xs rows G' H' := by
  have nn : ∀ {q : Addr} {o : HO}, H q = some o → H q ≠ none := fun h z => by rw [h] at z; cases z
  obtain ⟨rvs, ha, hr⟩ := I.ha
  obtain ⟨kvs, hn, hl, hv⟩ := I.hn
  refine ⟨g2, fun b o h => g1 b o (I.g0 b o h), fun q o h => kp q o (I.keep q o h), fun q h1 h2 => ?_, ⟨rvs, kp _ _ ha, hr.mono g1⟩, fr _ (nn ha) I.ga, I.za, ⟨kvs, kp _ _ hn, hl, hv⟩, fr _ (nn hn) I.gn, I.zn, kp _ _ I.hs, fr _ (nn I.hs) I.gs, I.zs, fun z hz => ?_, I.nd⟩
  · cases e : H0 q with
    | none => exact absurd e h1
    | some o => exact fr q (nn (I.keep q o e)) (I.free q h1 h2)
  · have F := I.fr z hz
    exact ⟨kp _ _ F.ht, kp _ _ F.hb, fr _ (nn F.hb) F.gb, F.zb, F.dv.mono g1, F.hk, F.ok⟩
theorem alloc_more {q : Addr} {o : HO} (gh : Same G H) (hq : H q = none) : Same G (upd H q o) ∧ ∀ p o', H p = some o' → upd H q o p = some o' := by
  have h2 : ∀ p o', H p = some o' → upd H q o p = some o' := fun p o' h => by
    rw [upd_ne (ne_of_none h hq)]
    exact h
  exact ⟨fun p o' h => h2 p o' (gh p o' h), h2⟩
theorem InvR.alloc {q : Addr} {o : HO} (I : InvR G0 H0 a n s xs rows G H) (hq : H q = none) : InvR G0 H0 a n s xs rows G (upd H q o) :=
  I.more (Same.refl _) (alloc_more I.gh hq).1 (alloc_more I.gh hq).2 fun _ _ h => h
theorem gnone_of {q : Addr} (gh : Same G H) (hq : H q = none) : G q = none := by
  cases e : G q with
  | none => rfl
  | some o => rw [gh q o e] at hq; cases hq
theorem InvR.laid {q : Addr} {o : HO} (I : InvR G0 H0 a n s xs rows G H) (hq : H q = none) : InvR G0 H0 a n s xs rows (upd G q o) (upd H q o) := by
  refine I.more (sameNew (gnone_of I.gh hq)) (fun b o' h => ?_) (alloc_more I.gh hq).2 fun p h1 h2 => ?_
  · by_cases e : b = q
    · subst e; rw [upd_same] at h ⊢; exact h
    · rw [upd_ne e] at h ⊢; exact I.gh b o' h
  · rw [upd_ne (fun e => h1 (by rw [e]; exact hq))]
    exact h2
theorem tl_ne {p q : Addr} {us vs : List V} (h : H p = some (.tup us)) (h' : H q = some (.lst vs)) : p ≠ q := fun e => by
  rw [e, h'] at h; cases h
theorem dl_ne {p q : Addr} {us : List (Row × V)} {vs : List V} (h : H p = some (.dT us)) (h' : H q = some (.lst vs)) : p ≠ q := fun e => by
  rw [e, h'] at h; cases h
theorem td_ne {p q : Addr} {us : List V} {vs : List (Row × V)} (h : H p = some (.tup us)) (h' : H q = some (.dT vs)) : p ≠ q := fun e => by
  rw [e, h'] at h; cases h
/-- a write at a place of one's own: what else stands, stands -/
theorem wr_same {q : Addr} {o : HO} (gh : Same G H) (gq : G q = none) : Same G (upd H q o) := fun b o' h => by
  rw [upd_ne (ne_of_none h gq)]
  exact gh b o' h
theorem wr_keep {q : Addr} {o : HO} (kp : ∀ q o, H0 q = some o → H q = some o) (zq : H0 q = none) : ∀ p o', H0 p = some o' → upd H q o p = some o' := fun p o' h => by
  rw [upd_ne (ne_of_none h zq)]
  exact kp p o' h
theorem FrROk.wr {q : Addr} {o : HO} (h : FrROk G H H0 x) (n1 : x.t ≠ q) (n2 : x.b ≠ q) : FrROk G (upd H q o) H0 x :=
  ⟨by rw [upd_ne n1]; exact h.ht, by rw [upd_ne n2]; exact h.hb, h.gb, h.zb, h.dv, h.hk, h.ok⟩
theorem InvR.dist (I : InvR G0 H0 a n s xs rows G H) : a ≠ s ∧ (∀ z ∈ xs, z.b ≠ a) ∧ ∀ z ∈ xs, z.b ≠ s := by
  have nd := I.nd
  rw [List.nodup_cons, List.nodup_cons] at nd
  refine ⟨fun e => nd.1 (by rw [e]; exact List.mem_cons_self), fun z hz e => nd.1 (List.mem_cons_of_mem _ (by rw [← e]; exact List.mem_map_of_mem hz)), fun z hz e => nd.2.1 (by rw [← e]; exact List.mem_map_of_mem hz)⟩
theorem InvR.push {t' b' : Addr} {u : V} {c : Fm} (I : InvR G0 H0 a n s xs rows G H) (du : Hd G u c.toD) (oc : c.ok) (hb : H b' = none) (ht : (upd H b' (.lst [])) t' = none) :
    InvR G0 H0 a n s (⟨t', b', u, c, []⟩ :: xs) rows G (upd (upd (upd H b' (.lst [])) t' (.tup [u, .ref b'])) s (.lst ((xs.map fun x => V.ref x.t).reverse ++ [V.ref t']))) := by
  have tb : t' ≠ b' := fun e => by subst e; rw [upd_same] at ht; cases ht
  have J := (I.alloc (o := .lst []) hb).alloc (o := .tup [u, .ref b']) ht
  have sb : s ≠ b' := ne_of_none I.hs hb
  have st : s ≠ t' := ne_of_none ((I.alloc (o := .lst []) hb).hs) ht
  obtain ⟨das, dba, dbs⟩ := I.dist
  obtain ⟨rvs, ha, hr⟩ := J.ha
  obtain ⟨kvs, hn, hl, hv⟩ := J.hn
  have ab : a ≠ b' := by
    obtain ⟨rv, h, _⟩ := I.ha
    exact ne_of_none h hb
  have zb : H0 b' = none := by
    cases e : H0 b' with
    | none => rfl
    | some o => rw [I.keep _ _ e] at hb; cases hb
  refine ⟨wr_same J.gh J.gs, J.g0, wr_keep J.keep J.zs, J.free, ⟨rvs, by rw [upd_ne das]; exact ha, hr⟩, J.ga, J.za, ⟨kvs, by rw [upd_ne (dl_ne hn J.hs)]; exact hn, hl, hv⟩, J.gn, J.zn, ?_, J.gs, J.zs, fun z hz => ?_, ?_⟩
  · rw [upd_same, List.map_cons (f := fun x : FrR => V.ref x.t) (a := (⟨t', b', u, c, []⟩ : FrR)), List.reverse_cons]
  · rcases List.mem_cons.mp hz with e | hz
    · subst e
      refine ⟨?_, ?_, gnone_of I.gh hb, zb, du, Nat.zero_le _, oc⟩
      · show upd _ s _ t' = _
        rw [upd_ne st.symm, upd_same]
      · show upd _ s _ b' = _
        rw [upd_ne sb.symm, upd_ne tb.symm, upd_same]
        rfl
    · exact (J.fr z hz).wr (tl_ne (J.fr z hz).ht J.hs) (dbs z hz)
  · rw [List.map_cons, List.nodup_cons, List.nodup_cons, List.nodup_cons]
    have nd := I.nd
    rw [List.nodup_cons, List.nodup_cons] at nd
    refine ⟨fun z => ?_, fun z => ?_, fun z => ?_, nd.2.2⟩
    · rcases List.mem_cons.mp z with e | z
      · exact das e
      · rcases List.mem_cons.mp z with e | z
        · exact ab e
        · exact nd.1 (List.mem_cons_of_mem _ z)
    · rcases List.mem_cons.mp z with e | z
      · exact sb e
      · exact nd.2.1 z
    · obtain ⟨g, hg, e⟩ := List.mem_map.mp z
      exact ne_of_none (I.fr g hg).hb hb e
theorem InvR.pop (I : InvR G0 H0 a n s (x :: r) rows G H) : InvR G0 H0 a n s r rows G (upd H s (.lst (r.map fun x => V.ref x.t).reverse)) := by
  obtain ⟨das, dba, dbs⟩ := I.dist
  obtain ⟨rvs, ha, hr⟩ := I.ha
  obtain ⟨kvs, hn, hl, hv⟩ := I.hn
  refine ⟨wr_same I.gh I.gs, I.g0, wr_keep I.keep I.zs, I.free, ⟨rvs, by rw [upd_ne das]; exact ha, hr⟩, I.ga, I.za, ⟨kvs, by rw [upd_ne (dl_ne hn I.hs)]; exact hn, hl, hv⟩, I.gn, I.zn, upd_same, I.gs, I.zs, fun z hz => ?_, ?_⟩
  · have F := I.fr z (List.mem_cons_of_mem _ hz)
    exact F.wr (tl_ne F.ht I.hs) (dbs z (List.mem_cons_of_mem _ hz))
  · have nd := I.nd
    rw [List.map_cons, List.nodup_cons, List.nodup_cons, List.nodup_cons] at nd
    rw [List.nodup_cons, List.nodup_cons]
    refine ⟨fun z => nd.1 ?_, fun z => nd.2.1 (List.mem_cons_of_mem _ z), nd.2.2.2⟩
    rcases List.mem_cons.mp z with e | z
    · rw [e]; exact List.mem_cons_self
    · exact List.mem_cons_of_mem _ (List.mem_cons_of_mem _ z)
theorem InvR.put {i : Int} (I : InvR G0 H0 a n s (x :: r) rows G H) (hk : x.bs.length < x.f.kids.length) : InvR G0 H0 a n s ({ x with bs := x.bs ++ [i] } :: r) rows G (upd H x.b (.lst (x.bs.map V.int ++ [V.int i]))) := by
  have F := I.fr x (by simp)
  obtain ⟨das, dba, dbs⟩ := I.dist
  obtain ⟨rvs, ha, hr⟩ := I.ha
  obtain ⟨kvs, hn, hl, hv⟩ := I.hn
  have nd := I.nd
  rw [List.map_cons, List.nodup_cons, List.nodup_cons, List.nodup_cons] at nd
  refine ⟨wr_same I.gh F.gb, I.g0, wr_keep I.keep F.zb, I.free, ⟨rvs, by rw [upd_ne (dba x (by simp)).symm]; exact ha, hr⟩, I.ga, I.za, ⟨kvs, by rw [upd_ne (dl_ne hn F.hb)]; exact hn, hl, hv⟩, I.gn, I.zn, ?_, I.gs, I.zs, fun z hz => ?_, I.nd⟩
  · rw [upd_ne (dbs x (by simp)).symm]
    exact I.hs
  · rcases List.mem_cons.mp hz with e | hz
    · subst e
      refine ⟨?_, ?_, F.gb, F.zb, F.dv, ?_, F.ok⟩
      · show upd H x.b _ x.t = _
        rw [upd_ne (tl_ne F.ht F.hb)]
        exact F.ht
      · show upd H x.b _ x.b = _
        rw [upd_same, List.map_append]
        rfl
      · show (x.bs ++ [i]).length ≤ _
        simp
        omega
    · have Fz := I.fr z (List.mem_cons_of_mem _ hz)
      refine Fz.wr (tl_ne Fz.ht F.hb) fun e => nd.2.2.1 ?_
      rw [← e]
      exact List.mem_map_of_mem hz
/-- a row more: the dict first, the list then -/
theorem InvR.row {rb : Addr} {q : Row} (I : InvR G0 H0 a n s xs rows G H) (gr : G rb = some (.tup (q.map kV))) (new : findR q rows = none) {kvs : List (Row × V)} {rvs : List V} (hn : H n = some (.dT kvs)) (hl : kvs.length = rows.length) (hv : ∀ r, valV kvs r = (findR r rows).map fun i : Nat => V.int (i : Int)) (ha : H a = some (.lst rvs)) (hr : HdAll G rvs (rows.map rowD)) :
    InvR G0 H0 a n s xs (rows ++ [q]) G (upd (upd H n (.dT (kvs ++ [(q, V.int (rows.length : Nat))]))) a (.lst (rvs ++ [V.ref rb]))) := by
  obtain ⟨das, dba, dbs⟩ := I.dist
  have na : n ≠ a := dl_ne hn ha
  have hd : ∀ q : Row, HdAll G (q.map kV) (q.map keyD) := fun q => by
    induction q with
    | nil => exact .nil
    | cons k q ih =>
      refine .cons ?_ ih
      cases k with
      | inl i => exact .int i
      | inr t => exact .str t
  refine ⟨wr_same (wr_same I.gh I.gn) I.ga, I.g0, wr_keep (wr_keep I.keep I.zn) I.za, I.free, ⟨_, upd_same, ?_⟩, I.ga, I.za, ⟨_, by rw [upd_ne na, upd_same], by simp [hl], fun j => ?_⟩, I.gn, I.zn, ?_, I.gs, I.zs, fun z hz => ?_, I.nd⟩
  · rw [List.map_append]
    exact hr.app (.cons (.tup gr (hd q)) .nil)
  · have none_ : valV kvs q = none := by rw [hv, new]; rfl
    rw [valV_snoc q j _ kvs none_, findR_snoc new, hv]
    by_cases e : j = q
    · rw [if_pos e, if_pos e]; rfl
    · rw [if_neg e, if_neg e]
  · rw [upd_ne das.symm, upd_ne (dl_ne hn I.hs).symm]
    exact I.hs
  · have F := I.fr z hz
    exact (F.wr (td_ne F.ht hn) (dl_ne hn F.hb).symm).wr (tl_ne F.ht ha) (dba z hz)
end DL

namespace DL
open PySem PySem.Spec PyProof.Rows L2
variable {K : PySem.W.Frag} {G0 H0 G H G' H' : Hp} {a n s : Addr} {xs r : List FrR} {x y : FrR} {rows : List Row}
/-- what stands within a formula, told of where it lies -/
def spW (K : PySem.W.Frag) : Sp := fun vs H Q _ => ∃ (G : Hp) (v : V) (f : Fm), vs = [v] ∧ Same G H ∧ Hd G v f.toD ∧ f.ok ∧
  ∀ v' G' H', Same G G' → Same G' H' → (∀ q o, H q = some o → H' q = some o) → (∀ q, H q ≠ none → G q = none → G' q = none) → Hd G' v' (.tuple (f.kids.map Fm.toD)) → Q v' H'
abbrev tTru (K : PySem.W.Frag) (j : Nat) : TT := fun σ H Q => tVar j σ H fun x H' => ∃ k, TruV K x H' k ∧ Q k H'
abbrev tTop3 (K : PySem.W.Frag) : TE := tOp (rIx K) (tVar 3) (tUn (rU fun i => V.int (-i)) (tC (V.int 1)))
def TfrEnd (K : PySem.W.Frag) : TS := tSeq (tIfS (tNot (tTru K 3)) (tRet (tDGet (tVar 1) (tVar 7))) tNext) (tDrop (tBM K "list" rAppend (tOp (rIx K) (tTop3 K) (tC (V.int 1))) (tCons (tDGet (tVar 1) (tVar 7)) tNil)))
def TfrNew (K : PySem.W.Frag) : TS := tIfS (tB (tDNotIn (tVar 7) (tVar 1))) (tSeq (sDPut (tVar 1) (tVar 7) (tLenQ K 0)) (tDrop (tBM K "list" rAppend (tVar 0) (tCons (tVar 7) tNil)))) tNext
def TfrRow (K : PySem.W.Frag) : TS := tAsg (tIf (tTru K 6) (tTup (tCons (tOp (rIx K) (tVar 4) (tC (V.int 0))) (StX.tStar K (tVar 5) tNil))) (tVar 4)) (gName 7)
def TfrIn (K : PySem.W.Frag) : TS := tIfS (tTest (tOp (rI0 fun i j => V.bl (decide (i < j))) (tLenQ K 5) (tLenQ K 6)))
  (tSeq (tDrop (tBM K "list" rAppend (tVar 3) (tCons (tTup (tCons (tOp (rIx K) (tVar 6) (tLenQ K 5)) (tCons (tLst tNil) tNil))) tNil))) tCont) tNext
def TfrBody (K : PySem.W.Frag) (sp : Sp) : TS :=
  tSeq (tAsg (tTop3 K) (gTup K 2 (gCons (gName 4) (gCons (gName 5) gNil)))) (tSeq (tAsg (tCall sp [] L2.E0 (tCons (tVar 4) tNil)) (gName 6)) (tSeq (TfrIn K)
    (tSeq (tDrop (tBM0 K "list" rPop (tVar 3))) (tSeq (TfrRow K) (tSeq (TfrNew K) (TfrEnd K))))))
def Tar (K : PySem.W.Frag) (sp : Sp) : TS :=
  tSeq (tAsg (tLst (tCons (tTup (tCons (tVar 2) (tCons (tLst tNil) tNil))) tNil)) (gName 3)) (tWhile (tB (tC (V.bl true))) (TfrBody K sp))
def Tfr (K : PySem.W.Frag) (sp : Sp) : TS :=
  tSeq (tAsg (tLst tNil) (gName 1)) (tSeq (tDrop (tCall sp [] L2.E0 (tCons (tVar 1) (tCons tDNewT (tCons (tVar 0) tNil))))) (tRet (tVar 1)))
theorem atI_revR (f : FrR) (r : List FrR) : atI ((f :: r).map fun f => V.ref f.t).reverse (-1) = some (V.ref f.t) := by
  rw [List.map_cons, List.reverse_cons]
  exact atI_last _ _
theorem upd_none {p q : Addr} {o : HO} (h : upd H q o p = none) : p ≠ q ∧ H p = none := by
  have e : p ≠ q := fun z => by subst z; rw [upd_same] at h; cases h
  exact ⟨e, by rwa [upd_ne e] at h⟩
theorem InvR.init {v : V} {f0 : Fm} {b t : Addr} (gh0 : Same G0 H0) (dv : Hd G0 v f0.toD) (ok : f0.ok) (ha : H0 a = none) (hn : upd H0 a (.lst []) n = none) (hb : upd (upd H0 a (.lst [])) n (.dT []) b = none)
    (ht : upd (upd (upd H0 a (.lst [])) n (.dT [])) b (.lst []) t = none) (hs : upd (upd (upd (upd H0 a (.lst [])) n (.dT [])) b (.lst [])) t (.tup [v, .ref b]) s = none) :
    InvR G0 H0 a n s [⟨t, b, v, f0, []⟩] [] G0 (upd (upd (upd (upd (upd H0 a (.lst [])) n (.dT [])) b (.lst [])) t (.tup [v, .ref b])) s (.lst [V.ref t])) := by
  obtain ⟨na, hn0⟩ := upd_none hn
  obtain ⟨bn, hb1⟩ := upd_none hb
  obtain ⟨ba, hb0⟩ := upd_none hb1
  obtain ⟨tb, ht1⟩ := upd_none ht
  obtain ⟨tn, ht2⟩ := upd_none ht1
  obtain ⟨ta, ht0⟩ := upd_none ht2
  obtain ⟨st, hs1⟩ := upd_none hs
  obtain ⟨sb, hs2⟩ := upd_none hs1
  obtain ⟨sn, hs3⟩ := upd_none hs2
  obtain ⟨sa, hs0⟩ := upd_none hs3
  have kp : ∀ q o, H0 q = some o → (upd (upd (upd (upd (upd H0 a (.lst [])) n (.dT [])) b (.lst [])) t (.tup [v, .ref b])) s (.lst [V.ref t])) q = some o := fun q o h => by
    rw [upd_ne (ne_of_none h hs0), upd_ne (ne_of_none h ht0), upd_ne (ne_of_none h hb0), upd_ne (ne_of_none h hn0), upd_ne (ne_of_none h ha)]
    exact h
  have gn : ∀ {q : Addr}, H0 q = none → G0 q = none := fun h => gnone_of gh0 h
  refine ⟨fun q o h => kp q o (gh0 q o h), Same.refl _, kp, fun q _ h => h, ⟨[], ?_, .nil⟩, gn ha, ha, ⟨[], ?_, rfl, fun r => rfl⟩, gn hn0, hn0, upd_same, gn hs0, hs0, fun z hz => ?_, ?_⟩
  · rw [upd_ne sa.symm, upd_ne ta.symm, upd_ne ba.symm, upd_ne na.symm, upd_same]
  · rw [upd_ne sn.symm, upd_ne tn.symm, upd_ne bn.symm, upd_same]
  · simp only [List.mem_singleton] at hz
    subst hz
    refine ⟨?_, ?_, gn hb0, hb0, dv, Nat.zero_le _, ok⟩
    · show upd _ s _ t = _
      rw [upd_ne st.symm, upd_same]
    · show upd _ s _ b = _
      rw [upd_ne sb.symm, upd_ne tb.symm, upd_same]
      rfl
  · simp [sa.symm, ba.symm, sb]
/-! one formula's own tuple -/
theorem fm_tup {v : V} : ∀ {f : Fm}, Hd G v f.toD → ∃ p us, v = .ref p ∧ G p = some (.tup (.str f.head :: us)) ∧ (f.kids = [] → V.str f.head :: us = (mkR f []).map kV)
  | .tt, h => by
    cases h with
    | tup g da =>
      cases da with
      | cons h1 t1 =>
        cases h1
        cases t1
        exact ⟨_, _, rfl, g, fun _ => rfl⟩
  | .word w, h => by
    cases h with
    | tup g da =>
      cases da with
      | cons h1 t1 =>
        cases h1
        cases t1 with
        | cons h2 t2 =>
          cases h2
          cases t2
          exact ⟨_, _, rfl, g, fun _ => rfl⟩
  | .un k a, h => by
    cases h with
    | tup g da =>
      cases da with
      | cons h1 t1 =>
        cases h1
        exact ⟨_, _, rfl, g, fun z => by cases z⟩
  | .bin k a b, h => by
    cases h with
    | tup g da =>
      cases da with
      | cons h1 t1 =>
        cases h1
        exact ⟨_, _, rfl, g, fun z => by cases z⟩
theorem mkR_node : ∀ {f : Fm} (bs : List Int), f.kids ≠ [] → (mkR f bs).map kV = .str f.head :: (bs.map V.int ++ [])
  | .tt, bs, h => absurd rfl h
  | .word w, bs, h => absurd rfl h
  | .un k a, bs, _ => by
    show V.str k :: (bs.map Sum.inl).map kV = _
    rw [List.map_map, List.append_nil]
    rfl
  | .bin k a b, bs, _ => by
    show V.str k :: (bs.map Sum.inl).map kV = _
    rw [List.map_map, List.append_nil]
    rfl
theorem mkR_leaf : ∀ {f : Fm} {bs : List Int}, f.kids = [] → mkR f bs = mkR f []
  | .tt, bs, h => rfl
  | .word w, bs, h => rfl
  | .un k a, bs, h => by cases h
  | .bin k a b, bs, h => by cases h
theorem kids_ok : ∀ {f c : Fm}, f.ok → c ∈ f.kids → c.ok
  | .tt, c, h, m => by cases m
  | .word w, c, h, m => by cases m
  | .un k a, c, h, m => by
    simp [Fm.kids] at m
    subst m
    exact h.2.2
  | .bin k a b, c, h, m => by
    simp [Fm.kids] at m
    rcases m with e | e
    · subst e; exact h.2.2.1
    · subst e; exact h.2.2.2
/-- the row's tuple is made or is the piece's own -/
theorem row_ev {D : Ends} {v : V} {p : Addr} {ys : List V} (I : InvR G0 H0 a n s xs rows G H) (dv : Hd G x.v x.f.toD) (hb : H x.b = some (.lst (x.bs.map V.int))) (hk : x.bs.length = x.f.kids.length) (gp : G p = some (.tup ys)) (hy : HdAll G ys (x.f.kids.map Fm.toD)) {x7 : Option V}
    (q : ∀ rb G2 H2, InvR G0 H0 a n s xs rows G2 H2 → G2 rb = some (.tup ((mkR x.f x.bs).map kV)) → D.nx [some (.ref a), some (.ref n), some v, some (.ref s), some x.v, some (.ref x.b), some (.ref p), some (.ref rb)] H2) :
    TfrRow K D [some (.ref a), some (.ref n), some v, some (.ref s), some x.v, some (.ref x.b), some (.ref p), x7] H := by
  obtain ⟨pa, us, ev, ga, le⟩ := fm_tup dv
  have ly : ys.length = x.f.kids.length := by rw [hy.length, List.length_map]
  refine ⟨.ref p, rfl, _, .inr (.inl ⟨ys, .inl (.inl (I.gh _ _ gp)), rfl⟩), ?_⟩
  by_cases hz : x.f.kids = []
  · have : ys = [] := List.length_eq_zero_iff.mp (by rw [ly, hz]; rfl)
    subst this
    refine (if_neg (c := (!List.isEmpty ([] : List V)) = true) (by decide)).mpr ⟨x.v, rfl, ?_⟩
    have e : some x.v = some (V.ref pa) := by rw [ev]
    have := q pa G H I (by rw [mkR_leaf hz, ← le hz]; exact ga)
    rw [ev] at this ⊢
    exact this
  · have hne : ys.isEmpty = false := by
      cases ys with
      | nil =>
        refine absurd ?_ hz
        exact List.length_eq_zero_iff.mp ly.symm
      | cons _ _ => rfl
    rw [hne]
    refine (if_pos (c := (!false) = true) rfl).mpr ⟨x.v, rfl, ?_⟩
    have e0 : atI (V.str x.f.head :: us) 0 = some (.str x.f.head) := atI_0
    have hl : (x.bs.map V.int).length ≤ 2 := by
      rw [List.length_map, hk]
      cases x.f <;> simp [Fm.kids]
    rw [ev]
    refine rIx_at (.inr (.inl (.inl (I.gh _ _ ga)))) e0 ⟨.ref x.b, rfl, x.b, _, rfl, .inr (SqL.of hb), ?_, fun rb hrb => ?_⟩
    · rw [sizeLine_eq]
      simp only [List.length_cons, List.length_append, List.length_nil]
      omega
    · have := q rb _ _ (I.laid (o := .tup (.str x.f.head :: (x.bs.map V.int ++ []))) hrb) (by rw [upd_same, mkR_node x.bs hz])
      rw [ev] at this
      exact this
/-- what is put to the open list below -/
theorem end_ev {D : Ends} {v : V} {σ4 σ5 σ6 : Option V} {rb : Addr} {q : Row} {i : Nat} {kvs : List (Row × V)} (I : InvR G0 H0 a n s xs rows G H) (gr : G rb = some (.tup (q.map kV))) (hn : H n = some (.dT kvs)) (hv : valV kvs q = some (.int (i : Int)))
    (hk : ∀ y r, xs = y :: r → y.bs.length < y.f.kids.length)
    (k : (xs = [] → D.rt (.int (i : Int)) H) ∧ ∀ y r, xs = y :: r → ∀ H', InvR G0 H0 a n s ({ y with bs := y.bs ++ [(i : Int)] } :: r) rows G H' → D.nx [some (.ref a), some (.ref n), some v, some (.ref s), σ4, σ5, σ6, some (.ref rb)] H') :
    TfrEnd K D [some (.ref a), some (.ref n), some v, some (.ref s), σ4, σ5, σ6, some (.ref rb)] H := by
  refine ⟨.ref s, rfl, _, .inl ⟨_, SqL.of I.hs, rfl⟩, ?_⟩
  cases xs with
  | nil =>
    refine (if_pos (c := (!(!(List.map (fun x : FrR => V.ref x.t) []).reverse.isEmpty)) = true) (by decide)).mpr ?_
    exact ⟨.ref n, rfl, .ref rb, rfl, n, .int (i : Int), rfl, .inr ⟨kvs, q, rb, .inl hn, rfl, I.gh _ _ gr, hv.symm⟩, k.1 rfl⟩
  | cons y r =>
    have hne : ((y :: r).map fun f : FrR => V.ref f.t).reverse.isEmpty = false := by
      rw [List.isEmpty_reverse]
      rfl
    rw [hne]
    refine (if_neg (c := (!(!false)) = true) (by decide)).mpr ?_
    have F := I.fr y (by simp)
    have e1 : atI [y.v, V.ref y.b] 1 = some (V.ref y.b) := atI_1
    have lt := hk y r rfl
    have l2 : y.f.kids.length ≤ 2 := by cases y.f <;> simp [Fm.kids]
    refine ⟨.ref s, rfl, 1, rfl, rIx_at (.inl (SqL.of I.hs)) (atI_revR y r) (rIx_at (.inr (.inl (.inl F.ht))) e1 ⟨.inl ⟨rfl, _, SqL.of F.hb⟩, ?_⟩)⟩
    refine ⟨.ref n, rfl, .ref rb, rfl, n, .int (i : Int), rfl, .inr ⟨kvs, q, rb, .inl hn, rfl, I.gh _ _ gr, hv.symm⟩, y.b, _, .int (i : Int), rfl, rfl, F.hb, ?_, ?_⟩
    · rw [sizeLine_eq, List.length_map]
      omega
    · exact k.2 y r rfl _ (I.put lt)
/-- a row that is new is kept -/
theorem new_ev {D : Ends} {v : V} {σ4 σ5 σ6 : Option V} {rb : Addr} {q : Row} (I : InvR G0 H0 a n s xs rows G H) (gr : G rb = some (.tup (q.map kV))) (hl : rows.length ≤ 8000000)
    (k : ∀ H' kvs, InvR G0 H0 a n s xs (addR q rows).1 G H' → H' n = some (.dT kvs) → valV kvs q = some (.int ((addR q rows).2 : Int)) → D.nx [some (.ref a), some (.ref n), some v, some (.ref s), σ4, σ5, σ6, some (.ref rb)] H') :
    TfrNew K D [some (.ref a), some (.ref n), some v, some (.ref s), σ4, σ5, σ6, some (.ref rb)] H := by
  obtain ⟨kvs, hn, hkl, hv⟩ := I.hn
  obtain ⟨rvs, ha, hr⟩ := I.ha
  have lr : rvs.length = rows.length := by rw [hr.length, List.length_map]
  refine ⟨.ref rb, rfl, .ref n, rfl, n, _, rfl, .inr ⟨kvs, q, rb, .inl hn, rfl, I.gh _ _ gr, rfl⟩, _, rfl, ?_⟩
  rw [hv q]
  cases e : findR q rows with
  | some i =>
    have ad : addR q rows = (rows, i) := by unfold addR; rw [e]
    refine (if_neg (c := (!((Option.map (fun i : Nat => V.int (i : Int)) (some i)).isSome)) = true) (by simp)).mpr ?_
    rw [ad] at k
    exact k H kvs I hn (by rw [hv q, e]; rfl)
  | none =>
    have ad : addR q rows = (rows ++ [q], rows.length) := by unfold addR; rw [e]
    have nv : valV kvs q = none := by rw [hv q, e]; rfl
    refine (if_pos (c := (!((Option.map (fun i : Nat => V.int (i : Int)) (none : Option Nat)).isSome)) = true) rfl).mpr ?_
    have na : a ≠ n := (dl_ne hn ha).symm
    refine ⟨.ref a, rfl, a, rvs, rfl, .inl (SqL.of ha), .ref n, rfl, .ref rb, rfl, n, upd H n (.dT (kvs ++ [(q, V.int (rows.length : Nat))])), rfl, .inr ⟨kvs, q, rb, hn, rfl, I.gh _ _ gr, by rw [sizeLine_eq]; omega, by rw [putK_new _ nv, lr]⟩, ?_⟩
    have ha2 : upd H n (.dT (kvs ++ [(q, V.int (rows.length : Nat))])) a = some (.lst rvs) := by rw [upd_ne na]; exact ha
    refine ⟨.ref a, rfl, .inl ⟨rfl, _, SqL.of ha2⟩, .ref rb, rfl, a, rvs, .ref rb, rfl, rfl, ha2, by rw [sizeLine_eq]; omega, ?_⟩
    rw [ad] at k
    refine k _ (kvs ++ [(q, V.int (rows.length : Nat))]) (I.row gr e hn hkl hv ha hr) ?_ ?_
    · rw [upd_ne na.symm, upd_same]
    · rw [valV_snoc q q _ kvs nv, if_pos rfl]
theorem addR_len (q : Row) (rows : List Row) : (addR q rows).1.length ≤ rows.length + 1 := by
  unfold addR
  cases findR q rows <;> simp
end DL

namespace DL
open PySem PySem.Spec PyProof.Rows L2
variable {K : PySem.W.Frag} {G0 H0 G H G' H' : Hp} {a n s : Addr} {xs r : List FrR} {x y : FrR} {rows : List Row}
/-- each open list below waits for one -/
def Waits : List FrR → Prop
  | [] => True
  | y :: r => y.bs.length < y.f.kids.length ∧ Waits r
theorem muRT_pop {i : Int} (h : x.bs.length = x.f.kids.length) : muRT (x :: y :: r) = 1 + muRT ({ y with bs := y.bs ++ [i] } :: r) := by
  have e : x.f.kids.drop x.bs.length = [] := by rw [h, List.drop_length]
  show 1 + wts (x.f.kids.drop x.bs.length) + (1 + wts (y.f.kids.drop (y.bs.length + 1)) + muRR r) = 1 + (1 + wts (y.f.kids.drop (y.bs ++ [i]).length) + muRR r)
  rw [e, List.length_append]
  simp [wts]
theorem muRT_len : ∀ xs : List FrR, xs.length ≤ muRT xs
  | [] => Nat.le_refl _
  | y :: r => by
    have h : ∀ r : List FrR, r.length ≤ muRR r := fun r => by
      induction r with
      | nil => exact Nat.le_refl _
      | cons y r ih =>
        show r.length + 1 ≤ 1 + wts (y.f.kids.drop (y.bs.length + 1)) + muRR r
        omega
    have := h r
    show r.length + 1 ≤ 1 + wts (y.f.kids.drop y.bs.length) + muRR r
    omega
theorem ar_core {v : V} {f0 : Fm} {D : Ends} (gh0 : Same G0 H0) (dv : Hd G0 v f0.toD) (ok : f0.ok) (hw : f0.wt ≤ 4000000) (ha : H0 a = none) (hn : upd H0 a (.lst []) n = none)
    (q : ∀ (i : Int) rvs G' H', Same G0 G' → Same G' H' → (∀ q o, H0 q = some o → H' q = some o) → (∀ q, H0 q ≠ none → G0 q = none → G' q = none) → G' a = none → H' a = some (.lst rvs) → HdAll G' rvs ((rowsOf f0 []).1.map rowD) → D.rt (.int i) H') :
    Tar K (spW K) D [some (.ref a), some (.ref n), some v, none, none, none, none, none] (upd (upd H0 a (.lst [])) n (.dT [])) := by
  have s1 : 1 ≤ sizeLine := by decide
  have s2 : 2 ≤ sizeLine := by decide
  refine ⟨v, rfl, Nat.zero_le _, fun b hb => ⟨s2, fun t ht => ⟨s1, fun s hs => ?_⟩⟩⟩
  have I0 := InvR.init gh0 dv ok ha hn hb ht hs
  refine ⟨fun m σ H => ∃ G xs rows x4 x5 x6 x7, σ = [some (.ref a), some (.ref n), some v, some (.ref s), x4, x5, x6, x7] ∧ InvR G0 H0 a n s xs rows G H ∧ contR xs rows = (rowsOf f0 []).1 ∧ rows.length + muRT xs ≤ f0.wt ∧ Waits xs.tail ∧ xs ≠ [] ∧ muRT xs = m,
    ⟨_, G0, _, [], none, none, none, none, rfl, I0, contR_start, ?_, trivial, List.cons_ne_nil _ _, rfl⟩, fun m σ H hW => ?_⟩
  · show 0 + (1 + wts (f0.kids.drop 0) + 0) ≤ f0.wt
    rw [List.drop_zero, wt_kids f0]
    omega
  obtain ⟨G, xs, rows, x4, x5, x6, x7, rfl, I, hc, hb, hwt, hx, rfl⟩ := hW
  refine ⟨true, rfl, ?_⟩
  cases xs with
  | nil => exact absurd rfl hx
  | cons x r =>
    refine (if_pos (c := true = true) rfl).mpr ⟨fun σ' H' => ∃ m', m' < muRT (x :: r) ∧ ∃ G xs rows x4 x5 x6 x7, σ' = [some (.ref a), some (.ref n), some v, some (.ref s), x4, x5, x6, x7] ∧ InvR G0 H0 a n s xs rows G H' ∧ contR xs rows = (rowsOf f0 []).1 ∧ rows.length + muRT xs ≤ f0.wt ∧ Waits xs.tail ∧ xs ≠ [] ∧ muRT xs = m', fun _ _ h => h, ?_⟩
    have F := I.fr x (by simp)
    have ml := muRT_len (x :: r)
    simp only [List.length_cons] at ml
    -- piece, built = stack[-1]
    refine ⟨.ref s, rfl, 1, rfl, rIx_at (.inl (SqL.of I.hs)) (atI_revR x r) ?_⟩
    refine ⟨x.t, [x.v, .ref x.b], rfl, .inl (.inl F.ht), rfl, x.v, [.ref x.b], rfl, .ref x.b, [], rfl, rfl, ?_⟩
    -- within
    refine ⟨x.v, rfl, G, x.v, x.f, rfl, I.gh, F.dv, F.ok, fun v' G1 H1 g1 g2 kp fr hv' => ?_⟩
    have J := I.more g1 g2 kp fr
    have FJ := J.fr x (by simp)
    obtain ⟨p, ys, rfl, gp, hy⟩ : ∃ p ys, v' = .ref p ∧ G1 p = some (.tup ys) ∧ HdAll G1 ys (x.f.kids.map Fm.toD) := by
      cases hv' with
      | tup g da => exact ⟨_, _, rfl, g, da⟩
    have ly : ys.length = x.f.kids.length := by rw [hy.length, List.length_map]
    refine ⟨.ref x.b, rfl, x.b, _, rfl, .inl (SqL.of FJ.hb), .ref p, rfl, p, ys, rfl, .inr (.inl (.inl (g2 _ _ gp))), _, _, rfl, rfl, _, rfl, ?_⟩
    by_cases hlt : (((x.bs.map V.int).length : Nat) : Int) < (ys.length : Int)
    · refine (if_pos (c := decide ((((x.bs.map V.int).length : Nat) : Int) < (ys.length : Int)) = true) (decide_eq_true hlt)).mpr ?_
      have hk : x.bs.length < x.f.kids.length := by
        rw [List.length_map] at hlt
        omega
      obtain ⟨c, hc1⟩ : ∃ c, x.f.kids[x.bs.length]? = some c := ⟨_, List.getElem?_eq_getElem hk⟩
      obtain ⟨z, hz, dz⟩ := hy.get (i := x.bs.length) (d := c.toD) (by rw [List.getElem?_map, hc1]; rfl)
      have hz2 : atI ys (((x.bs.map V.int).length : Nat) : Int) = some z := by
        rw [List.length_map]
        exact atI_nat hz
      have wd := wts_drop _ _ hc1
      have wk := wt_kids c
      refine ⟨.ref s, rfl, .inl ⟨rfl, _, SqL.of J.hs⟩, .ref p, rfl, .ref x.b, rfl, x.b, _, rfl, .inl (SqL.of FJ.hb), rIx_at (.inr (.inl (.inl (g2 _ _ gp)))) hz2 ⟨Nat.zero_le _, fun b' hb' => ⟨s2, fun t' ht' => ?_⟩⟩⟩
      have J2 := ((J.alloc (o := .lst []) hb').alloc (o := .tup [z, .ref b']) ht').hs
      refine ⟨s, _, .ref t', rfl, rfl, J2, ?_, ?_⟩
      · rw [sizeLine_eq, List.length_reverse, List.length_map, List.length_cons]
        omega
      · have mu2 : muRT (⟨t', b', z, c, []⟩ :: x :: r) = 1 + wts (c.kids.drop 0) + (1 + wts (x.f.kids.drop (x.bs.length + 1)) + muRR r) := rfl
        have mu1 : muRT (x :: r) = 1 + wts (x.f.kids.drop x.bs.length) + muRR r := rfl
        rw [List.drop_zero] at mu2
        have oc := kids_ok F.ok (List.mem_of_getElem? hc1)
        refine ⟨_, ?_, G1, ⟨t', b', z, c, []⟩ :: x :: r, rows, _, _, _, _, rfl, J.push dz oc hb' ht', ?_, ?_, ⟨hk, hwt⟩, List.cons_ne_nil _ _, rfl⟩
        · omega
        · rw [contR_push hc1]
          exact hc
        · omega
    · refine (if_neg (c := decide ((((x.bs.map V.int).length : Nat) : Int) < (ys.length : Int)) = true) (by rw [decide_eq_true_iff]; exact hlt)).mpr ?_
      have hk : x.bs.length = x.f.kids.length := by
        have := F.hk
        rw [List.length_map] at hlt
        omega
      have er : ((x :: r).map fun f => V.ref f.t).reverse = (r.map fun f => V.ref f.t).reverse ++ [V.ref x.t] := by
        rw [List.map_cons, List.reverse_cons]
      have ed : (((x :: r).map fun f => V.ref f.t).reverse).dropLast = (r.map fun f => V.ref f.t).reverse := by
        rw [er, List.dropLast_concat]
      refine ⟨.ref s, rfl, .inl ⟨rfl, _, SqL.of J.hs⟩, s, _, .ref x.t, rfl, rfl, J.hs, ?_, ?_⟩
      · rw [er, List.length_append]
        simp
      rw [ed]
      have P := J.pop
      have sb : x.b ≠ s := J.dist.2.2 x (by simp)
      refine row_ev P FJ.dv (by rw [upd_ne sb]; exact FJ.hb) hk gp hy (fun rb G2 H2 I2 g2rb => ?_)
      refine new_ev I2 g2rb (by omega) (fun H3 kvs I3 hn3 hv3 => ?_)
      have al := addR_len (mkR x.f x.bs) rows
      have lt_ : ∀ y r', r = y :: r' → y.bs.length < y.f.kids.length := fun y r' e => by
        subst e
        exact hwt.1
      refine end_ev I3 g2rb hn3 hv3 lt_ ⟨fun e => ?_, fun y r' e H4 I4 => ?_⟩
      · subst e
        rw [contR_last hk] at hc
        obtain ⟨rvs, h1, h2⟩ := I3.ha
        refine q _ rvs G2 H3 I3.g0 I3.gh I3.keep I3.free I3.ga h1 ?_
        rw [← hc]
        exact h2
      · subst e
        have mp : muRT (x :: y :: r') = 1 + muRT ({ y with bs := y.bs ++ [((addR (mkR x.f x.bs) rows).2 : Int)] } :: r') := muRT_pop hk
        rw [contR_pop hk] at hc
        refine ⟨_, ?_, G2, _, _, _, _, _, _, rfl, I4, hc, ?_, hwt.2, List.cons_ne_nil _ _, rfl⟩
        · omega
        · omega
end DL

namespace DL
open PySem PySem.Spec PyProof.Rows L2
variable {K : PySem.W.Frag} {G0 H0 G H G' H' : Hp}
/-! ## the defs around formula_rows -/
def Twi (K : PySem.W.Frag) : TS :=
  tSeq (tIfS (tTest (tOp (rIn K false) (tOp (rIx K) (tVar 0) (tC (V.int 0))) (tTup (tCons (tC (V.str "true")) (tCons (tC (V.str "word")) tNil))))) (tRet (tTup tNil)) tNext)
    (tRet (tSl (rSlA K) (tVar 0) (tPart (tC (V.int 1))) tNoPart))
theorem upd_grow {q : Addr} {o : HO} (gh : Same G H) (hq : H q = none) : Same G (upd G q o) ∧ Same (upd G q o) (upd H q o) ∧ (∀ p o', H p = some o' → upd H q o p = some o') ∧ ∀ p, H p ≠ none → G p = none → upd G q o p = none := by
  refine ⟨sameNew (gnone_of gh hq), fun b o' h => ?_, (alloc_more gh hq).2, fun p h1 h2 => ?_⟩
  · by_cases e : b = q
    · subst e; rw [upd_same] at h ⊢; exact h
    · rw [upd_ne e] at h ⊢; exact gh b o' h
  · rw [upd_ne (fun e => h1 (by rw [e]; exact hq))]
    exact h2
theorem fm_items {v : V} : ∀ {f : Fm}, f.kids ≠ [] → Hd G v f.toD → ∃ p us, v = .ref p ∧ G p = some (.tup (.str f.head :: us)) ∧ HdAll G us (f.kids.map Fm.toD)
  | .tt, h, _ => absurd rfl h
  | .word _, h, _ => absurd rfl h
  | .un k a, _, h => by
    cases h with
    | tup g da =>
      cases da with
      | cons h1 t1 =>
        cases h1
        exact ⟨_, _, rfl, g, t1⟩
  | .bin k a b, _, h => by
    cases h with
    | tup g da =>
      cases da with
      | cons h1 t1 =>
        cases h1
        exact ⟨_, _, rfl, g, t1⟩
theorem head_leaf {f : Fm} (h : f.kids = []) : (f.head == ("true" : Str) || f.head == ("word" : Str)) = true := by
  cases f with
  | tt => decide +kernel
  | word w =>
    show (("word" : Str) == ("true" : Str) || ("word" : Str) == ("word" : Str)) = true
    decide +kernel
  | un _ _ => cases h
  | bin _ _ _ => cases h
theorem head_node {f : Fm} (h : f.kids ≠ []) (ok : f.ok) : (f.head == ("true" : Str) || f.head == ("word" : Str)) = false := by
  cases f with
  | tt => exact absurd rfl h
  | word _ => exact absurd rfl h
  | un k a =>
    have h1 : (k == ("true" : Str)) = false := beq_eq_false_iff_ne.mpr ok.1
    have h2 : (k == ("word" : Str)) = false := beq_eq_false_iff_ne.mpr ok.2.1
    show (k == ("true" : Str) || k == ("word" : Str)) = false
    rw [h1, h2]
    rfl
  | bin k a b =>
    have h1 : (k == ("true" : Str)) = false := beq_eq_false_iff_ne.mpr ok.1
    have h2 : (k == ("word" : Str)) = false := beq_eq_false_iff_ne.mpr ok.2.1
    show (k == ("true" : Str) || k == ("word" : Str)) = false
    rw [h1, h2]
    rfl
theorem wi_core {v : V} {f : Fm} {D : Ends} (gh : Same G H) (dv : Hd G v f.toD) (ok : f.ok)
    (q : ∀ v' G' H', Same G G' → Same G' H' → (∀ q o, H q = some o → H' q = some o) → (∀ q, H q ≠ none → G q = none → G' q = none) → Hd G' v' (.tuple (f.kids.map Fm.toD)) → D.rt v' H') : Twi K D [some v] H := by
  obtain ⟨p, us, ev, ga, le⟩ := fm_tup dv
  have s2 : 2 ≤ sizeLine := by decide
  have e0 : atI (V.str f.head :: us) 0 = some (.str f.head) := atI_0
  refine ⟨v, rfl, ?_⟩
  rw [ev]
  refine rIx_at (.inr (.inl (.inl (gh _ _ ga)))) e0 ⟨s2, fun t ht => ?_⟩
  have u1 := upd_grow (o := .tup [.str "true", .str "word"]) gh ht
  have iv : inV (V.str f.head) [.str "true", .str "word"] = (f.head == ("true" : Str) || f.head == ("word" : Str)) := by
    unfold inV
    simp only [List.any_cons, List.any_nil, Bool.or_false]
    have c1 : ∀ a b : Str, eqV (.str a) (.str b) = (b == a) := fun a b => by
      show (a == b) = (b == a)
      exact BEq.comm
    rw [c1, c1]
  refine ⟨t, _, rfl, .inr (.inl (.inl upd_same)), rfl, rfl, _, rfl, ?_⟩
  rw [if_neg (by decide : ¬ (false = true)), iv]
  by_cases hz : f.kids = []
  · rw [head_leaf hz]
    refine (if_pos (c := true = true) rfl).mpr ⟨Nat.zero_le _, fun l hl => ?_⟩
    obtain ⟨g1, g2, g3, g4⟩ := u1
    have u2 := upd_grow (o := .tup []) g2 hl
    refine q (.ref l) _ _ (fun b o h => u2.1 b o (g1 b o h)) u2.2.1 (fun b o h => u2.2.2.1 b o (g3 b o h)) (fun b h1 h2 => u2.2.2.2 b ?_ (g4 b h1 h2)) ?_
    · cases e : H b with
      | none => exact absurd e h1
      | some o => rw [g3 b o e]; exact fun z => by cases z
    · rw [hz]
      exact .tup upd_same .nil
  · rw [head_node hz ok]
    refine (if_neg (c := false = true) (by decide)).mpr ?_
    obtain ⟨p2, us2, ev2, ga2, da⟩ := fm_items hz dv
    rw [ev] at ev2
    cases ev2
    rw [ga] at ga2
    cases ga2
    obtain ⟨g1, g2, g3, g4⟩ := u1
    have hp : upd H t (.tup [.str "true", .str "word"]) p = some (.tup (.str f.head :: us)) := g3 _ _ (gh _ _ ga)
    have cv : cutV (V.str f.head :: us) (some 1) none = us := by
      unfold cutV
      rw [show HT.sIx (V.str f.head :: us).length 0 (some 1) = min 1 (V.str f.head :: us).length from HT.sIx_nat _ 0 1, HT.sIx_none]
      simp only [List.length_cons]
      rw [Nat.min_eq_left (by omega)]
      simp
    refine ⟨.ref p, rfl, ?_⟩
    refine ⟨1, rfl, p, _, rfl, .inl (.inl hp), fun z => ?_, fun _ l hl => ?_⟩
    · exfalso
      have := z.1
      rw [show HT.sIx (V.str f.head :: us).length 0 (some 1) = min 1 (V.str f.head :: us).length from HT.sIx_nat _ 0 1] at this
      simp only [List.length_cons] at this
      omega
    · rw [cv]
      have u2 := upd_grow (o := .tup us) g2 hl
      refine q (.ref l) _ _ (fun b o h => u2.1 b o (g1 b o h)) u2.2.1 (fun b o h => u2.2.2.1 b o (g3 b o h)) (fun b h1 h2 => u2.2.2.2 b ?_ (g4 b h1 h2)) ?_
      · cases e : H b with
        | none => exact absurd e h1
        | some o => rw [g3 b o e]; exact fun z => by cases z
      · exact .tup upd_same ((da.mono g1).mono u2.1)
abbrev N_arw : List Str := ["rows", "numbers", "formula", "stack", "piece", "built", "within", "row"]
abbrev N_frw : List Str := ["formula", "rows"]
section
variable {P : Program} {w : World} {mg : Str → Option Value} {base : Heap} {x qual : Str} {st : Stmt} {f : Addr} {fd : FuncData} {k : Nat}
theorem one_of {vs : List V} {G : Hp} {as : List Sl} {d : PyData} (hA : ArgsV K G H vs [.dat d]) : ∃ v, vs = [v] ∧ Dd K G v d := by
  obtain ⟨v, hv, dv⟩ := hA.dat 0 d rfl
  have hl := hA.len
  cases vs with
  | nil => simp at hl
  | cons u us =>
    cases us with
    | nil =>
      simp at hv
      subst hv
      exact ⟨_, rfl, dv⟩
    | cons _ _ => simp at hl
theorem fn_within (F : Fun K x qual st f fd) (Sc : FnScope ["piece"] ["piece"] (defScope st))
    (hbody : ∀ (cdv : Value) (A : Around) (outer : List Env) (s : Shared) (H : Hp) (E : XK), Room k (A.deeper (envOfC qual (defScope st) s.heap.objs.size f cdv)) →
      PSs (cxOf CX0 P w K mg base ["piece"] qual (defScope st) f cdv A outer s H E).nox (defBody st) (Twi K)) : FnOk P w K mg base CX0 (k + 1) f fd ["piece"] (spW K) := by
  refine F.ok Sc (fun vs H Q E h => ?_) (fun cdv A outer s H vs Q E hr h => ⟨_, hbody cdv A outer s H E hr, ?_⟩)
  · obtain ⟨G, v, f, rfl, _⟩ := h
    rfl
  · obtain ⟨G, v, f, rfl, gh, dv, ok, post⟩ := h
    exact wi_core gh dv ok post
def spFR (K : PySem.W.Frag) : Sp := fun vs H Q _ => ∃ (G : Hp) (v : V) (f0 : Fm), vs = [v] ∧ Same G H ∧ Hd G v f0.toD ∧ f0.ok ∧ f0.wt ≤ 4000000 ∧
  ∀ p rvs G' H', Same G G' → Same G' H' → (∀ q o, H q = some o → H' q = some o) → (∀ q, H q ≠ none → G q = none → G' q = none) → H p = none → G' p = none → H' p = some (.lst rvs) → HdAll G' rvs ((rowsOf f0 []).1.map rowD) → Q (.ref p) H'
/-- what add_rows does to a new list and a new dict -/
def spAR (K : PySem.W.Frag) : Sp := fun vs H Q _ => ∃ (G0 H0 : Hp) (a n : Addr) (v : V) (f0 : Fm), vs = [.ref a, .ref n, v] ∧ Same G0 H0 ∧ Hd G0 v f0.toD ∧ f0.ok ∧ f0.wt ≤ 4000000 ∧ H0 a = none ∧ upd H0 a (.lst []) n = none ∧ H = upd (upd H0 a (.lst [])) n (.dT []) ∧
  ∀ (i : Int) rvs G' H', Same G0 G' → Same G' H' → (∀ q o, H0 q = some o → H' q = some o) → (∀ q, H0 q ≠ none → G0 q = none → G' q = none) → G' a = none → H' a = some (.lst rvs) → HdAll G' rvs ((rowsOf f0 []).1.map rowD) → Q (.int i) H'
theorem fn_arows (F : Fun K x qual st f fd) (Sc : FnScope N_arw ["rows", "numbers", "formula"] (defScope st))
    (hbody : ∀ (cdv : Value) (A : Around) (outer : List Env) (s : Shared) (H : Hp) (E : XK), Room k (A.deeper (envOfC qual (defScope st) s.heap.objs.size f cdv)) →
      PSs (cxOf CX0 P w K mg base N_arw qual (defScope st) f cdv A outer s H E).nox (defBody st) (Tar K (spW K))) : FnOk P w K mg base CX0 (k + 1) f fd ["rows", "numbers", "formula"] (spAR K) := by
  refine F.ok Sc (fun vs H Q E h => ?_) (fun cdv A outer s H vs Q E hr h => ⟨_, hbody cdv A outer s H E hr, ?_⟩)
  · obtain ⟨G0, H0, a, n, v, f0, rfl, _⟩ := h
    rfl
  · obtain ⟨G0, H0, a, n, v, f0, rfl, gh, dv, ok, hw, ha, hn, rfl, post⟩ := h
    exact ar_core gh dv ok hw ha hn post
theorem fn_frows (F : Fun K x qual st f fd) (Sc : FnScope N_frw ["formula"] (defScope st))
    (hbody : ∀ (cdv : Value) (A : Around) (outer : List Env) (s : Shared) (H : Hp) (E : XK), Room k (A.deeper (envOfC qual (defScope st) s.heap.objs.size f cdv)) →
      PSs (cxOf CX0 P w K mg base N_frw qual (defScope st) f cdv A outer s H E).nox (defBody st) (Tfr K (spAR K))) : FnOk P w K mg base CX0 (k + 1) f fd ["formula"] (spFR K) := by
  refine F.ok Sc (fun vs H Q E h => ?_) (fun cdv A outer s H vs Q E hr h => ⟨_, hbody cdv A outer s H E hr, ?_⟩)
  · obtain ⟨G, v, f, rfl, _⟩ := h
    rfl
  · obtain ⟨G, v, f0, rfl, gh, dv, ok, hw, post⟩ := h
    refine ⟨Nat.zero_le _, fun a ha => ⟨.ref a, rfl, fun n hn => ⟨v, rfl, ?_⟩⟩⟩
    exact ⟨G, H, a, n, v, f0, rfl, gh, dv, ok, hw, ha, hn, rfl, fun i rvs G' H' g1 g2 kp fr ga ha' da => ⟨.ref a, rfl, post a rvs G' H' g1 g2 kp fr ha ga ha' da⟩⟩
/-- the rows of a formula, as data -/
def S_rows : PSp := fun as R => ∃ (d : PyData) (f : Fm), as = [.dat d] ∧ froz d = f.toD ∧ f.ok ∧ f.wt ≤ 4000000 ∧ wgt d ≤ sizeLine ∧ R (.new ((rowsOf f []).1.map rowD)) as
def Trows (K : PySem.W.Frag) : TS := tRet (tCall (spFR K) [] L2.E0 (tCons (tCall (spFH K) [] L2.E0 (tCons (tVar 0) tNil)) tNil))
theorem fn_rows (F : Fun K x qual st f fd) (Sc : FnScope ["formula"] ["formula"] (defScope st))
    (hbody : ∀ (cdv : Value) (A : Around) (outer : List Env) (s : Shared) (H : Hp) (E : XK), Room k (A.deeper (envOfC qual (defScope st) s.heap.objs.size f cdv)) →
      PSs (cxOf CX0 P w K mg base ["formula"] qual (defScope st) f cdv A outer s H E).nox (defBody st) (Trows K)) : FnOk P w K mg base CX0 (k + 1) f fd ["formula"] (spS K S_rows) := by
  refine F.ok Sc (fun vs H Q E h => ?_) (fun cdv A outer s H vs Q E hr h => ⟨_, hbody cdv A outer s H E hr, ?_⟩)
  · obtain ⟨G, as, R, _, hA, ⟨d, f, rfl, _⟩, _⟩ := h
    rw [hA.len]
    rfl
  · obtain ⟨G, as, R, gh, hA, ⟨d, f0, rfl, hf, ok, hw, hd, hR⟩, post⟩ := h
    obtain ⟨v, rfl, dv⟩ := one_of (as := []) hA
    refine ⟨v, rfl, G, v, d, rfl, gh, dv, hd, fun v1 G1 H1 g1 g2 g3 g4 h1 => ?_⟩
    rw [hf] at h1
    refine ⟨G1, v1, f0, rfl, g2, h1, ok, hw, fun p rvs G2 H2 k1 k2 k3 k4 hp gp hp2 da => ?_⟩
    have nn : ∀ {q : Addr}, H q ≠ none → H1 q ≠ none := fun {q} h => by
      cases e : H q with
      | none => exact absurd e h
      | some o => rw [g3 q o e]; exact fun z => by cases z
    have nn1 : ∀ {q : Addr}, H1 q ≠ none → H2 q ≠ none := fun {q} h => by
      cases e : H1 q with
      | none => exact absurd e h
      | some o => rw [k3 q o e]; exact fun z => by cases z
    refine post (.ref p) G2 H2 _ (.new ((rowsOf f0 []).1.map rowD)) ⟨g1.trans k1, k2, fun q o h _ => k3 q o (g3 q o h), fun q h => nn1 (nn h), fun q h h' => k4 q (nn h) (g4 q h h'), KS.refl _, fun i ds h => ?_, p, rvs, rfl, gp, hp2, da.dd, ?_⟩ hR
    · cases i with
      | zero => cases h
      | succ i => simp at h
    · show H p = none
      cases e : H p with
      | none => rfl
      | some o => rw [g3 p o e] at hp; cases hp
end
end DL

namespace DL
open PySem PySem.Spec PyProof.Rows L2
section
variable {X : Cx} {K : PySem.W.Frag} {a b c e tg elt iter : Expr} {es tgs ifs : List Expr} {Wa Wb Wc We : WE} {Wr Wr' : WA} {pos : Pos} {WT' : WT} {ts us : List Nat}
/-! ## a module's constants that are data -/
structure GD (K : PySem.W.Frag) (mg : Str → Option Value) (x : Str) (d : PyData) : Prop where
  ex : ∃ (v : V) (u : Value), mg x = some u ∧ RelV v u ∧ ∀ G, Dd K G v d
theorem de_gdat {x : Str} {d : PyData} {p : Pos} (hg : Gl X x) (h : GD X.K X.mg x d) (hd : (x == ("__debug__" : Str)) = false := by decide) : DE X (.Name x p) (wC d) := by
  obtain ⟨v, u, h1, h2, h3⟩ := h.ex
  exact ⟨_, pe_glob hg h1 h2 hd, re_c h3⟩
/-! ## x in a tuple of data -/
def rInT (K : PySem.W.Frag) : R2 := fun x y H Q => ∃ d ds, Dp K H x d ∧ Dp K H y (.tuple ds) ∧ SeqAt.shaped d = true ∧ SeqAt.shaped (.tuple ds) = true ∧ Q (.bl (ds.any fun z => PyData.eqv z d)) H
theorem layAll_of {ds : List PyData} (h : SeqAt.shaped (.tuple ds) = true) : PyData.canLayAll0 ds = true := SeqAt.canLay_of_shaped h
theorem op_inT (hu : X.A.units + 65 < cLine) : OpR X (compareOp .In) (rInT X.K) := by
  intro pins s σ H x y v u Q I rx ry h
  obtain ⟨d, ds, hd, he, sd, se, q⟩ := h
  obtain ⟨as, r1⟩ := Dp.reads I d x v hd rx
  obtain ⟨bs, r2⟩ := Dp.reads I (.tuple ds) y u he ry
  exact SeqAt.in_tuple_reads r2 r1 (layAll_of se) (SeqAt.canLay_of_shaped sd) (room_in_shaped sd hu) ⟨V.bl (ds.any fun y => y.eqv d), H, I, rfl, q⟩
@[irreducible] def inTD : F2
  | d, .tuple es, k => SeqAt.shaped d = true ∧ SeqAt.shaped (.tuple es) = true ∧ k (.bool (es.any fun z => PyData.eqv z d))
  | _, _, _ => False
theorem rv_inT : RV2 K (rInT K) inTD := by
  intro B Γ σ H G x y dx dy Q Q' E h1 h2 w k
  unfold inTD at w
  cases h2 with
  | @tup _ _ ds ga da =>
    obtain ⟨w1, w2, w3⟩ : SeqAt.shaped dx = true ∧ SeqAt.shaped (.tuple ds) = true ∧ Q (.bool (ds.any fun z => PyData.eqv z dx)) := w
    exact ⟨dx, ds, (h1.mono E.gh).dp, ((Dd.tup ga da).mono E.gh).dp, w1, w2, k _ H G _ E (Same.refl _) (.bl _) w3⟩
  | _ => exact w.elim
theorem de_inT (hu : X.A.units + 65 < cLine) (ha : DE X a Wa) (hb : DE X b Wb) (hm : behindInMarks .In b = false := by rfl) : DE X (.Compare a [.In] [b] pos) (wOp inTD Wa Wb) := de_cmp (op_inT hu) rv_inT ha hb hm
theorem dt_inT (hu : X.A.units + 65 < cLine) (ha : DE X a Wa) (hb : DE X b Wb) (hm : behindInMarks .In b = false := by rfl) : DT X (.Compare a [.In] [b] pos) (wB (wOp inTD Wa Wb)) := dt_cmp (op_inT hu) rv_inT ha hb hm
/-! ## a list of one's own that is changed no more -/
theorem En.drop {B : Bs} {σ : L2.St} {H G : Hp} {Γ : Gam} (E : En K B σ H G Γ) (i : Nat) : En K B σ H G (Γ.set i .un) := by
  have at_ : ∀ (k : Nat) (s : Sl), (Γ.set i .un)[k]? = some s → s ≠ .un → Γ[k]? = some s := fun k s h n => by
    by_cases e : k = i
    · subst e
      by_cases hl : k < Γ.length
      · rw [List.getElem?_set_self hl] at h; cases h; exact absurd rfl n
      · rw [List.getElem?_eq_none (by simpa using hl)] at h; cases h
    · rwa [List.getElem?_set_ne (Ne.symm e)] at h
  have own_ : ∀ (k : Nat) ds, Own (Γ.set i .un) k ds → Own Γ k ds := fun k ds o => by
    rcases o with o | o
    · exact .inl (at_ k _ o (fun z => by cases z))
    · exact .inr (at_ k _ o (fun z => by cases z))
  exact ⟨by simp [E.len], E.gh, E.g0, E.h0, E.bh, E.f0, E.nn, fun k d h => E.dat k d (at_ k _ h (fun z => by cases z)), fun k ds o => E.mine k ds (own_ k ds o), fun k ds o => E.new k ds (at_ k _ o (fun z => by cases z)),
    fun k ds o => E.par k ds (at_ k _ o (fun z => by cases z)), fun k ds o => E.scr k ds (at_ k _ o (fun z => by cases z)), fun k m p ds es o1 o2 h1 h2 => E.inj k m p ds es (own_ k ds o1) (own_ m es o2) h1 h2⟩
theorem En.own_no {B : Bs} {σ : L2.St} {H G : Hp} {Γ : Gam} {i : Nat} {ds : List PyData} {p : Addr} (E : En K B σ H G Γ) (o : Own Γ i ds) (hp : σ[i]? = some (some (V.ref p))) : ∀ (k : Nat) es, Own (Γ.set i .un) k es → σ[k]? ≠ some (some (V.ref p)) := fun k es ok h => by
  have hk : k ≠ i := fun e => by
    subst e
    rcases ok with ok | ok <;>
      (by_cases hl : k < Γ.length
       · rw [List.getElem?_set_self hl] at ok; cases ok
       · rw [List.getElem?_eq_none (by simpa using hl)] at ok; cases ok)
  have ok' : Own Γ k es := by
    unfold Own at ok ⊢
    rwa [List.getElem?_set_ne (Ne.symm hk)] at ok
  exact hk (E.inj k i p es ds ok' o h hp)
@[simp] def wFrz (j : Nat) (W : WS) : WS := fun D Γ => match Γ[j]? with
  | some (.own ds) => W D (Γ.set j (.dat (.list ds)))
  | _ => False
theorem dss_frz {st : List Stmt} {W : WS} (j : Nat) (h : DSs X st W) : DSs X st (wFrz j W) := by
  obtain ⟨t, p, r⟩ := h.ex
  refine ⟨t, p, ?_⟩
  intro B Γ σ H G D D' E w l
  unfold wFrz at w
  split at w
  · rename_i ds q
    obtain ⟨p, vs, h1, h2, h3, h4, h5⟩ := E.mine j ds (.inl q)
    obtain ⟨p', h1', n⟩ := E.new j ds q
    rw [h1] at h1'
    cases h1'
    have E2 := (E.drop j).freeze h3 h2 (l.nb p n) (E.own_no (.inl q) h1)
    have sg : Same G (upd G p (.lst vs)) := sameNew h2
    have E3 := E2.setDat (v := .ref p) (d := .list ds) j (.lst upd_same (h4.mono sg))
    have e1 : σ.set j (some (V.ref p)) = σ := by
      refine List.ext_getElem? fun k => ?_
      by_cases e : k = j
      · subst e
        have hl := (List.getElem?_eq_some_iff.mp h1).1
        rw [List.getElem?_set_self hl, h1]
      · rw [List.getElem?_set_ne (Ne.symm e)]
    have e2 : (Γ.set j .un).set j (.dat (.list ds)) = Γ.set j (.dat (.list ds)) := List.set_set ..
    rw [e1, e2] at E3
    exact r B _ σ H _ D D' E3 w (l.mono sg)
  · exact w.elim
/-! ## one's own list and another: a new one -/
@[simp] def wAddO (Wo : WP) (Wb : WE) : WA := fun Γ Q => Wo Γ fun o Γ1 => Wb Γ1 fun y Γ2 => match o.rd Γ2, y with
  | some (.list ds), .list es => ds.length + es.length ≤ sizeLine ∧ Q (ds ++ es) Γ2
  | _, _ => False
theorem dn_addO {Wo : WP} (ha : DP X a Wo) (hb : DE X b Wb) : DN X (.BinOp a .Add b pos) (wAddO Wo Wb) := by
  obtain ⟨ta, pa, ra⟩ := ha.ex
  obtain ⟨tb, pb, rb⟩ := hb.ex
  refine ⟨_, pe_op op_addU pa pb, ?_⟩
  intro B Γ σ H G Q Q' E w k
  refine ra B Γ σ H G _ _ E w fun v H1 G1 o Γ1 E1 s1 k1 o1 w1 => ?_
  refine rb B Γ1 σ H1 G1 _ _ E1 w1 fun u H2 G2 y Γ2 E2 s2 k2 d2 w2 => ?_
  cases q : o.rd Γ2 with
  | none => rw [q] at w2; exact w2.elim
  | some x =>
    rw [q] at w2
    cases x with
    | list ds =>
      cases d2 with
      | @lst b2 ys es gb db =>
        obtain ⟨w3, w4⟩ : ds.length + es.length ≤ sizeLine ∧ Q (ds ++ es) Γ2 := w2
        obtain ⟨p, vs, rfl, hp, dp⟩ := ((o1.mono s2).bd E2 q).lst E2
        refine .inr (.inr (.inl ⟨p, b2, vs, ys, rfl, rfl, hp, E2.gh _ _ gb, by rw [dp.length, db.length]; exact w3, fun c hc => ?_⟩))
        exact k c (vs ++ ys) _ G2 (ds ++ es) Γ2 (E2.laidN hc) (s1.trans s2) (k1.trans k2) (E2.gnone hc) upd_same (dp.app db) (E2.bnone hc) (E2.nn c hc) (fresh_own E2 hc) w4
      | _ => exact w2.elim
    | _ => exact w2.elim
end
end DL
namespace DL
open PySem PySem.Spec PyProof.Rows L2
theorem r65 {k : Nat} {A : Around} (h : Room k A) : A.units + 65 < cLine := by have := h.un; omega
theorem r1 {k : Nat} {A : Around} (h : Room k A) : A.units + 1 < cLine := by have := h.un; omega
end DL
namespace DL
open PySem PySem.Spec PyProof.Rows L2
section
variable {X : Cx} {K : PySem.W.Frag} {a b c : Expr} {Wa Wb Wc : WE} {pos : Pos}
@[simp] def wPar3 (i j l : Nat) (Wa Wb Wc : WE) : WS := fun D Γ => Wa Γ fun x Γ1 => Wb Γ1 fun y Γ2 => Wc Γ2 fun z Γ3 => D.nx (((Γ3.set i (.dat x)).set j (.dat y)).set l (.dat z))
theorem ds_par3 {i j l : Nat} {x y z : Str} {px py pz pt : Pos} {kt k2 pt2} (hc : X.calm = true) (hN : X.N.Nodup) (hi : X.N[i]? = some x) (hj : X.N[j]? = some y) (hl : X.N[l]? = some z) (hij : i ≠ j) (hil : i ≠ l) (hjl : j ≠ l)
    (hx : X.env.scope.names.lookup x = some .local) (hy : X.env.scope.names.lookup y = some .local) (hz : X.env.scope.names.lookup z = some .local) (ha : DE X a Wa) (hb : DE X b Wb) (hcc : DE X c Wc)
    (hw : swappedStores [.Tuple [.Name x px, .Name y py, .Name z pz] kt pt] (.Tuple [a, b, c] k2 pt2) X.env = pure (some [x, y, z]))
    (hs : swapsWithSole [.Tuple [.Name x px, .Name y py, .Name z pz] kt pt] (.Tuple [a, b, c] k2 pt2) pos.line X.env = pure false := by rfl) (h1 : starEach [a, b, c] X.env = (false, eval a X.env) :: starEach [b, c] X.env := by rfl) (h2 : starEach [b, c] X.env = (false, eval b X.env) :: starEach [c] X.env := by rfl) (h3 : starEach [c] X.env = (false, eval c X.env) :: starEach [] X.env := by rfl) :
    DS X (.Assign [.Tuple [.Name x px, .Name y py, .Name z pz] kt pt] (.Tuple [a, b, c] k2 pt2) pos) (wPar3 i j l Wa Wb Wc) := by
  obtain ⟨t, p, r⟩ := ha.ex
  obtain ⟨t', p', r'⟩ := hb.ex
  obtain ⟨t'', p'', r''⟩ := hcc.ex
  refine ⟨_, ps_par3 hc hN hi hj hl hij hil hjl hx hy hz (pa_cons p (pa_cons p' (pa_cons p'' pa_nil h3) h2) h1) hw hs, ?_⟩
  intro B Γ σ H G D D' E w l
  refine r B Γ σ H G _ _ E w fun v H1 G1 d Γ1 E1 s1 k1 d1 w1 => ?_
  refine r' B Γ1 σ H1 G1 _ _ E1 w1 fun u H2 G2 e Γ2 E2 s2 k2 d2 w2 => ?_
  refine r'' B Γ2 σ H2 G2 _ _ E2 w2 fun o H3 G3 e3 Γ3 E3 s3 k3 d3 w3 => ?_
  exact ⟨v, u, o, rfl, l.nx _ H3 G3 _ (((E3.setDat i (d1.mono (s2.trans s3))).setDat j (d2.mono s3)).setDat _ d3) (s1.trans (s2.trans s3)) w3⟩
end
end DL

namespace DL
open PySem PySem.Spec PyProof.Rows L2
/-- the promise that is never asked -/
def noS : PSp := fun _ _ => False
theorem fn_no {P : Program} {w : World} {K : PySem.W.Frag} {mg : Str → Option Value} {base : Heap} {k : Nat} {f : Addr} {fd : FuncData} {ps : List Str} : FnOk P w K mg base CX0 k f fd ps (spS K noS) :=
  ⟨fun vs H Q E h => by obtain ⟨G, as, R, _, _, h, _⟩ := h; exact h.elim, fun A outer s H args us vs Q E hr he hb hv h => by obtain ⟨G, as, R, _, _, h, _⟩ := h; exact h.elim⟩
/-- a tuple of the module -/
theorem dd_mod {K : PySem.W.Frag} {G : Hp} {a : Addr} {td : Option Addr} {its : Array Value} {tn : Nat} {ts : Array (Option Value)} {ds : List PyData} (xs : List V) (h : K.lookup a = some ⟨.type "tuple", td, .seq its tn, ts⟩) (hz : its.size ≤ sizeLine) (r : Vals xs its.toList) (da : DdAll K G xs ds) : Dd K G (.ref a) (.tuple ds) :=
  .tup (.inr ⟨_, its, tn, h, rfl, rfl, hz, r⟩) da
end DL

namespace DL
open PySem PySem.Spec PyProof.Rows L2
/-! ## defs that may raise -/
abbrev PSpX := List Sl → (Rs → List Sl → Prop) → (Exn → List Sl → Prop) → Prop
def spSX (K : PySem.W.Frag) (S : PSpX) : Sp := fun vs H Q E => ∃ (G : Hp) (as : List Sl) (R : Rs → List Sl → Prop) (RX : Exn → List Sl → Prop), Same G H ∧ ArgsV K G H vs as ∧ S as R RX ∧
  (∀ v G' H' as' r, PostV K G H vs as G' H' as' v r → R r as' → Q v H') ∧ ∀ d G' H' as' x, PostV K G H vs as G' H' as' .non (.dat .none) → ExOk K G' d x → RX x as' → E (.ref x.C) d H'
/-- where it does not raise -/
def noX (S : PSpX) : PSp := fun as R => S as R fun _ _ => False
abbrev WEX := Gam → (PyData → Gam → Prop) → (Exn → Gam → Prop) → Prop
def REX (K : PySem.W.Frag) (Wx : WX) (t : TE) (W : WEX) : Prop :=
  ∀ (B : Bs) (Γ : Gam) (σ : L2.St) (H G : Hp) (Q : PyData → Gam → Prop) (QX : Exn → Gam → Prop) (Q' : VK), En K B σ H G Γ → W Γ Q QX →
    (∀ v H' G' d Γ', En K B σ H' G' Γ' → Same G G' → KS Γ Γ' → Dd K G' v d → Q d Γ' → Q' v H') → (∀ d H' G' Γ' x, En K B σ H' G' Γ' → Same G G' → ExOk K G' d x → QX x Γ' → Wx (.ref x.C) d σ H') → t σ H Q'
structure DEX (X : Cx) (e : Expr) (W : WEX) : Prop where
  ex : ∃ t, PE X e t ∧ REX X.K (Wcan X) t W
@[simp] def wCallX (S : PSpX) (Wr : WPA) : WEX := fun Γ Q QX => Wr Γ fun os Γ1 => match argsOf Γ1 os with
  | some as => (varsOf os).Nodup ∧ S as (fun r as' => match r with
    | .dat d => Q d (putB Γ1 os as')
    | .new ds => Q (.list ds) (putB Γ1 os as')) fun x as' => QX x (putB Γ1 os as')
  | none => False
section
variable {X : Cx} {K : PySem.W.Frag} {Wx : WX} {a b c e : Expr} {es : List Expr} {Wa : WE} {Wr : WPA} {pos : Pos}
theorem rex_call {S : PSpX} {t : TA} (r : RPA K t Wr) : REX K Wx (tCallS (spSX K S) (L2.WE Wx) t) (wCallX S Wr) := by
  intro B Γ σ H G Q QX Q' E w k kx
  refine r B Γ σ H G _ _ E w fun vs H1 G1 os Γ1 E1 s1 k1 o1 w1 => ?_
  cases q : argsOf Γ1 os with
  | none => simp only [q] at w1
  | some as =>
    simp only [q] at w1
    obtain ⟨hn, hS⟩ := w1
    refine ⟨G1, as, _, _, E1.gh, argsV_of E1 o1 q hn, hS, fun v G' H' as' r Po hR => ?_, fun d G' H' as' x Po xo hX => ?_⟩
    · have E2 := E1.called o1 q hn Po
      have k2 : KS Γ (putB Γ1 os as') := k1.trans putB_KS
      cases r with
      | dat d => exact k v H' G' d _ E2 (s1.trans Po.gg) k2 Po.res hR
      | new ds =>
        obtain ⟨p, us, rfl, h1, h2, h3, h4⟩ := Po.res
        have no : ∀ (i : Nat) es, Own (putB Γ1 os as') i es → σ[i]? ≠ some (some (V.ref p)) := fun i es ow z => by
          obtain ⟨es0, o0⟩ := (putB_KS (os := os) (as := as')).mineB ow
          obtain ⟨p', us', g1, g2, g3, _⟩ := E1.mine i es0 o0
          rw [z] at g1
          cases g1
          rw [h4] at g3
          cases g3
        exact k (.ref p) H' (upd G' p (.lst us)) (.list ds) _ (E2.freeze h2 h1 (E1.bnone h4) no) ((s1.trans Po.gg).trans (sameNew h1)) k2 (.lst upd_same (h3.mono (sameNew h1))) hR
    · exact kx d H' G' _ x (E1.called o1 q hn Po) (s1.trans Po.gg) xo hX
/-- a def that may raise, by its name -/
structure CalX (P : Program) (w : World) (K : PySem.W.Frag) (mg : Str → Option Value) (base : Heap) (x : Str) (ps : List Str) (k : Nat) (S : PSpX) : Prop where
  ex : ∃ (f : Addr) (fd : FuncData), mg x = some (.ref f) ∧ PySem.W.keepIn K (.ref f) = true ∧ Binds K fd ps [] ∧ FnOk P w K mg base (L2.CX P w) k f fd ps (spSX K S)
theorem CalX.mono {P : Program} {w : World} {mg : Str → Option Value} {base : Heap} {x : Str} {ps : List Str} {k j : Nat} {S : PSpX} (h : k ≤ j) (C : CalX P w K mg base x ps k S) : CalX P w K mg base x ps j S := by
  obtain ⟨f, fd, h1, h2, h3, h4⟩ := C.ex
  exact ⟨f, fd, h1, h2, h3, h4.mono h⟩
theorem fn_calX {P : Program} {w : World} {mg : Str → Option Value} {base : Heap} {x qual : Str} {st : Stmt} {f : Addr} {fd : FuncData} {ps : List Str} {k : Nat} {S : PSpX} (hm : mg x = some (.ref f)) (F : Fun K x qual st f fd) (hb : Binds K fd ps []) (G : FnOk P w K mg base (L2.CX P w) k f fd ps (spSX K S)) : CalX P w K mg base x ps k S := ⟨f, fd, hm, F.kp, hb, G⟩
theorem dex_call {S : PSpX} {k : Nat} {ps : List Str} {x : Str} {p : Pos} (C : CalX X.prog X.w X.K X.mg X.base x ps k S) (hr : Room k X.A) (hg : Gl X x) (ha : DPA X (e :: es) Wr)
    (hdb : (x == ("__debug__" : Str)) = false := by decide) (he : starEach (e :: es) X.env = (false, eval e X.env) :: starEach es X.env := by rfl) (hpl : (backTo pos (starEach es X.env)).any (·.1) = false := by rfl) :
    DEX X (.Call (.Name x p) (e :: es) [] pos) (wCallX S Wr) := by
  obtain ⟨f, fd, h1, h2, h3, h4⟩ := C.ex
  obtain ⟨t, pa, ra⟩ := ha.ex
  exact ⟨_, pe_callS h4 hr hg h1 h2 h3 (fun σ => passAt takes_c σ) pa hdb he hpl, rex_call ra⟩
theorem passN {P : Program} {w : World} {X : Cx} : Passes (L2.CX P w) X L2.E0 := fun _ _ _ _ _ _ _ h => by
  obtain ⟨_, _, _, _, _, _, _, _, _, _, _, _, q⟩ := h
  exact q.elim
/-- .. where it does not raise -/
theorem de_callV {S : PSpX} {k : Nat} {ps : List Str} {x : Str} {p : Pos} (C : CalX X.prog X.w X.K X.mg X.base x ps k S) (hr : Room k X.A) (hg : Gl X x) (ha : DPA X (e :: es) Wr)
    (hdb : (x == ("__debug__" : Str)) = false := by decide) (he : starEach (e :: es) X.env = (false, eval e X.env) :: starEach es X.env := by rfl) (hpl : (backTo pos (starEach es X.env)).any (·.1) = false := by rfl) :
    DE X (.Call (.Name x p) (e :: es) [] pos) (wCall (noX S) Wr) := by
  obtain ⟨f, fd, h1, h2, h3, h4⟩ := C.ex
  obtain ⟨t, pa, ra⟩ := ha.ex
  have F : FnOk X.prog X.w X.K X.mg X.base (L2.CX X.prog X.w) k f fd ps (spS X.K (noX S)) := by
    refine ⟨fun vs H Q E h => ?_, fun A outer s H args us vs Q E hr he hb hv h => ?_⟩
    · obtain ⟨G, as, R, gh, hA, hS, hQ⟩ := h
      exact h4.len vs H Q E ⟨G, as, R, _, gh, hA, hS, hQ, fun _ _ _ _ _ _ _ z => z.elim⟩
    · obtain ⟨G, as, R, gh, hA, hS, hQ⟩ := h
      exact h4.run A outer s H args us vs Q E hr he hb hv ⟨G, as, R, _, gh, hA, hS, hQ, fun _ _ _ _ _ _ _ z => z.elim⟩
  exact ⟨_, pe_call (dvs := []) (E := L2.E0) F hr hg h1 h2 h3 .nil passN pa hdb he hpl, re_call ra⟩
/-! statements -/
@[simp] def wSetX (i : Nat) (W : WEX) : WS := fun D Γ => W Γ (fun d Γ1 => D.nx (Γ1.set i (.dat d))) fun x Γ1 => D.ex x Γ1
theorem ds_setX {i : Nat} {x : Str} {pos' : Pos} {W : WEX} (hN : X.N.Nodup) (hi : X.N[i]? = some x) (hx : Loc X.env.scope x) (h : DEX X e W) (hs : swapsWith e (some (.Name x pos')) pos.line X.env = pure false := by rfl) (hf : X.fn x = true ∨ X.env.scope.names.lookup x = some .local := by first | exact .inl rfl | exact .inr rfl | assumption) :
    DS X (.Assign [.Name x pos'] e pos) (wSetX i W) := by
  obtain ⟨t, p, r⟩ := h.ex
  refine ⟨_, ps_set hN hi hx p hs hf, ?_⟩
  intro B Γ σ H G D D' E w l
  exact r B Γ σ H G _ _ _ E w (fun v H1 G1 d Γ1 E1 s1 k1 d1 w1 => l.nx _ H1 G1 _ (E1.setDat i d1) s1 w1) fun d H1 G1 Γ1 x E1 s1 xo w1 => l.ex d σ H1 G1 Γ1 x E1 s1 xo w1
@[simp] def wRetX (W : WEX) : WS := fun D Γ => W Γ (fun d Γ1 => D.rt (.dat d) Γ1) fun x Γ1 => D.ex x Γ1
theorem ds_retX {W : WEX} (h : DEX X e W) : DS X (.Return (some e) pos) (wRetX W) := by
  obtain ⟨t, p, r⟩ := h.ex
  refine ⟨_, ps_ret p, ?_⟩
  intro B Γ σ H G D D' E w l
  exact r B Γ σ H G _ _ _ E w (fun v H1 G1 d Γ1 E1 s1 k1 d1 w1 => l.rt σ v H1 G1 Γ1 (.dat d) E1 s1 d1 w1) fun d H1 G1 Γ1 x E1 s1 xo w1 => l.ex d σ H1 G1 Γ1 x E1 s1 xo w1
@[simp] def wDropX (W : WEX) : WS := fun D Γ => W Γ (fun _ Γ1 => D.nx Γ1) fun x Γ1 => D.ex x Γ1
theorem ds_exprX {W : WEX} (h : DEX X e W) (hs : swapsWith e none pos.line X.env = pure false := by rfl) : DS X (.Expr e pos) (wDropX W) := by
  obtain ⟨t, p, r⟩ := h.ex
  refine ⟨_, ps_expr p hs, ?_⟩
  intro B Γ σ H G D D' E w l
  exact r B Γ σ H G _ _ _ E w (fun v H1 G1 d Γ1 E1 s1 k1 d1 w1 => l.nx σ H1 G1 Γ1 E1 s1 w1) fun d H1 G1 Γ1 x E1 s1 xo w1 => l.ex d σ H1 G1 Γ1 x E1 s1 xo w1
/-- raise C(e), one field -/
@[simp] def wRaise1 (C : Addr) (f : Str) (Wa : WE) : WS := fun D Γ => Wa Γ fun d Γ1 => D.ex ⟨C, [(f, d)]⟩ Γ1
def tMk1 (C : Addr) (f : Str) (ta : TA) : L2.St → Hp → XK → Prop := fun σ H Q => ta σ H fun vs H1 => ∃ v, vs = [v] ∧ ∀ d, H1 d = none → Q (.ref C) (some d) (upd H1 d (.xd [(f, v)]))
theorem ds_raise1 {C : Addr} {f : Str} (hc : X.calm = true) (ha : DE X a Wa) (pm : ∀ {ta : TA}, PA X [a] ta → PMk X e (tMk1 C f ta)) (h1 : starEach [a] X.env = (false, eval a X.env) :: starEach [] X.env := by rfl) :
    DS X (.Raise (some e) none pos) (wRaise1 C f Wa) := by
  obtain ⟨t, p, r⟩ := ha.ex
  refine ⟨_, ps_raise hc takes_c (pm (pa_cons p pa_nil h1)), ?_⟩
  intro B Γ σ H G D D' E w l
  refine r B Γ σ H G _ _ E w fun v H1 G1 d Γ1 E1 s1 k1 d1 w1 => ?_
  refine ⟨v, rfl, fun dd hd => ?_⟩
  have gd := E1.gnone hd
  exact l.ex (some dd) σ _ _ Γ1 ⟨C, [(f, d)]⟩ (E1.laid (o := .xd [(f, v)]) hd) (s1.trans (sameNew gd)) (.inr ⟨dd, _, rfl, upd_same, .cons (d1.mono (sameNew gd)) .nil⟩) w1
end
/-! ## such a def keeps its promise -/
@[simp] def endsX (as : List Sl) (R : Rs → List Sl → Prop) (RX : Exn → List Sl → Prop) : EndsD :=
  { endsF as R with ex := fun x Γ => match parO as Γ with
    | some as' => RX x as'
    | none => False }
section
variable {P : Program} {w : World} {K : PySem.W.Frag} {mg : Str → Option Value} {base : Heap}
theorem post_end {N : List Str} {vs : List V} {as as' : List Sl} {H G H' G' : Hp} {σ : L2.St} {v : V} {Γ : Gam} {r : Rs} (hA : ArgsV K G H vs as) (E1 : En K (bsOf H G vs as) σ H' G' Γ) (s1 : Same G G') (vr : VR K (fun q => H q = none) G' H' v r) (hp : parO as Γ = some as') :
    PostV K G H vs as G' H' as' v r := by
  obtain ⟨l, h1, h2⟩ := parO_at hp
  refine ⟨s1, E1.gh, fun q o h hn => E1.h0 q o h fun ⟨i, ds, e1, e2⟩ => hn i ds e1 e2, fun q h => E1.bh q h, fun q h h' => E1.f0 q h h', ⟨l, h1⟩, fun i ds h => ?_, vr⟩
  have h3 := h2 i ds h
  obtain ⟨p, us, g1, g2, g3, g4, g5⟩ := E1.mine i ds (.inr h3)
  have g6 := E1.par i ds h3
  rw [g1] at g6
  have g7 : p = addrAt (vs[i]?) := V.ref.inj (Option.some.inj (Option.some.inj g6))
  have li : i < as.length := by
    have := (List.getElem?_eq_some_iff.mp h).1
    omega
  have ha : as[i]? = some as[i] := List.getElem?_eq_getElem li
  have kk := h1 i _ _ ha h
  cases e : as[i] with
  | par es =>
    rw [e] at ha
    obtain ⟨p', us', q1, q2, q3, q4⟩ := hA.par i es ha
    rw [q1] at g7
    have g7 : p = p' := g7
    subst g7
    exact ⟨p, us, q1, g3, g4⟩
  | un => rw [e] at kk; exact kk.elim
  | dat _ => rw [e] at kk; exact kk.elim
  | own _ => rw [e] at kk; exact kk.elim
  | scr _ => rw [e] at kk; exact kk.elim
theorem fn_okX {x qual : Str} {st : Stmt} {f : Addr} {fd : FuncData} {N ps : List Str} {k : Nat} {S : PSpX} {W : WS} (F : Fun K x qual st f fd) (Sc : FnScope N ps (defScope st)) (len : ∀ as R RX, S as R RX → as.length = ps.length)
    (hbody : ∀ (cdv : Value) (A : Around) (outer : List Env) (s : Shared) (H : Hp) (E : XK), Room k (A.deeper (envOfC qual (defScope st) s.heap.objs.size f cdv)) →
      DSs (cxOf (L2.CX P w) P w K mg base N qual (defScope st) f cdv A outer s H E) (defBody st) W)
    (hW : ∀ as R RX, S as R RX → W (endsX as R RX) (startG N as)) : FnOk P w K mg base (L2.CX P w) (k + 1) f fd ps (spSX K S) := by
  refine F.okX Sc (fun vs H Q E h => ?_) (fun cdv A outer s H vs Q E hr h => ?_)
  · obtain ⟨G, as, R, RX, _, hA, hS, _⟩ := h
    rw [hA.len, len as R RX hS]
  · obtain ⟨t, p, r⟩ := (hbody cdv A outer s H E hr).ex
    refine ⟨t, p, ?_⟩
    obtain ⟨G, as, R, RX, gh, hA, hS, hQ, hX⟩ := h
    have E0 := en_start (N := N) gh hA
    refine r _ _ _ _ G (endsX as R RX) _ E0 (hW as R RX hS) ⟨fun σ H' G' Γ E1 s1 q => ?_, fun σ H' G' Γ E1 s1 q => q.elim, fun σ H' G' Γ E1 s1 q => q.elim, fun σ v H' G' Γ r E1 s1 vr q => ?_, fun _ h => h, fun d σ H' G' Γ x E1 s1 xo q => ?_⟩
    · have q : (match parO as Γ with
        | some as' => R (.dat .none) as'
        | none => False) := q
      cases q1 : parO as Γ with
      | none => rw [q1] at q; exact q.elim
      | some as' =>
        rw [q1] at q
        exact hQ .non G' H' as' (.dat .none) (post_end (N := N) hA E1 s1 Dd.non q1) q
    · have q : (match parO as Γ with
        | some as' => R r as'
        | none => False) := q
      cases q1 : parO as Γ with
      | none => rw [q1] at q; exact q.elim
      | some as' =>
        rw [q1] at q
        exact hQ v G' H' as' r (post_end (N := N) hA E1 s1 vr q1) q
    · have q : (match parO as Γ with
        | some as' => RX x as'
        | none => False) := q
      cases q1 : parO as Γ with
      | none => rw [q1] at q; exact q.elim
      | some as' =>
        rw [q1] at q
        exact ⟨fun cls d _ H => E cls d H, takes_of rfl rfl rfl rfl, hX d G' H' as' x (post_end (N := N) hA E1 s1 Dd.non q1) xo q⟩
end
end DL

namespace DL
open PySem PySem.Spec PyProof.Rows L2
/-! ## try: .. except C as n: x = [..] -/
theorem En.setUn {K : PySem.W.Frag} {B : Bs} {σ : L2.St} {H G : Hp} {Γ : Gam} (E : En K B σ H G Γ) (i : Nat) (u : Option V) : En K B (σ.set i u) H G (Γ.set i .un) := by
  have at_ : ∀ (k : Nat) (s : Sl), (Γ.set i .un)[k]? = some s → s ≠ .un → k ≠ i ∧ Γ[k]? = some s := fun k s h n => by
    by_cases e : k = i
    · subst e
      by_cases hl : k < Γ.length
      · rw [List.getElem?_set_self hl] at h; cases h; exact absurd rfl n
      · rw [List.getElem?_eq_none (by simpa using hl)] at h; cases h
    · exact ⟨e, by rwa [List.getElem?_set_ne (Ne.symm e)] at h⟩
  have own_ : ∀ (k : Nat) ds, Own (Γ.set i .un) k ds → k ≠ i ∧ Own Γ k ds := fun k ds o => by
    rcases o with o | o
    · obtain ⟨e, h⟩ := at_ k _ o (fun z => by cases z); exact ⟨e, .inl h⟩
    · obtain ⟨e, h⟩ := at_ k _ o (fun z => by cases z); exact ⟨e, .inr h⟩
  refine ⟨by simp [E.len], E.gh, E.g0, E.h0, E.bh, E.f0, E.nn, fun k d h => ?_, fun k ds o => ?_, fun k ds h => ?_, fun k ds h => ?_, fun k ds h => ?_, fun k m p ds es o1 o2 h1 h2 => ?_⟩
  · obtain ⟨e, h⟩ := at_ k _ h (fun z => by cases z)
    rw [List.getElem?_set_ne (Ne.symm e)]
    exact E.dat k d h
  · obtain ⟨e, h⟩ := own_ k ds o
    rw [List.getElem?_set_ne (Ne.symm e)]
    exact E.mine k ds h
  · obtain ⟨e, h⟩ := at_ k _ h (fun z => by cases z)
    rw [List.getElem?_set_ne (Ne.symm e)]
    exact E.new k ds h
  · obtain ⟨e, h⟩ := at_ k _ h (fun z => by cases z)
    rw [List.getElem?_set_ne (Ne.symm e)]
    exact E.par k ds h
  · obtain ⟨e, h⟩ := at_ k _ h (fun z => by cases z)
    rw [List.getElem?_set_ne (Ne.symm e)]
    exact E.scr k ds h
  · obtain ⟨e1, g1⟩ := own_ k ds o1
    obtain ⟨e2, g2⟩ := own_ m es o2
    rw [List.getElem?_set_ne (Ne.symm e1)] at h1
    rw [List.getElem?_set_ne (Ne.symm e2)] at h2
    exact E.inj k m p ds es g1 g2 h1 h2
/-- the reading of a suite, whatever takes what it lets out -/
def canS (K : PySem.W.Frag) (W : WS) (Wx : WX) : TS := fun D' σ H => ∃ (B : Bs) (Γ : Gam) (G : Hp) (D : EndsD), En K B σ H G Γ ∧ W D Γ ∧ Lk K Wx B G D D'
theorem pss_can {X : Cx} {body : List Stmt} {W : WS} {Wx : WX} (h : DSs X body W) (tk : Takes X Wx) : PSs X body (canS X.K W Wx) := by
  obtain ⟨t, p, r⟩ := h.ex
  refine ⟨fun pins s σ H D' I q => ?_⟩
  obtain ⟨B, Γ, G, D, E, w, l⟩ := q
  exact p.run pins s σ H D' I (r B Γ σ H G D D' E w ⟨l.nx, l.bk, l.ct, l.rt, l.nb, fun d σ1 H1 G1 Γ1 x E1 s1 xo q1 => ⟨Wx, tk, l.ex d σ1 H1 G1 Γ1 x E1 s1 xo q1⟩⟩)
/-- an item of the list that the suite makes, by what was raised -/
structure SI (X : Cx) (i : Nat) (a C : Addr) (d : Option Addr) (e : Expr) (f : Exn → Option PyData) : Prop where
  ex : ∃ t, PE X e t ∧ ∀ (σ : L2.St) (H G : Hp) (x : Exn) (dd : PyData) (Q : VK), σ[i]? = some (some (V.ref a)) → Same G H → ExOk X.K G d x → f x = some dd → (∀ v, Dd X.K G v dd → Q v H) → t σ H Q
structure SIs (X : Cx) (i : Nat) (a C : Addr) (d : Option Addr) (es : List Expr) (f : Exn → Option (List PyData)) : Prop where
  ex : ∃ t, PA X es t ∧ ∀ (σ : L2.St) (H G : Hp) (x : Exn) (ds : List PyData) (Q : List V → Hp → Prop), σ[i]? = some (some (V.ref a)) → Same G H → ExOk X.K G d x → f x = some ds → (∀ vs, DdAll X.K G vs ds → Q vs H) → t σ H Q
def consI (f : Exn → Option PyData) (g : Exn → Option (List PyData)) : Exn → Option (List PyData) := fun x => match f x, g x with
  | some d, some ds => some (d :: ds)
  | _, _ => none
section
variable {X : Cx} {i : Nat} {a C : Addr} {d : Option Addr} {e : Expr} {es : List Expr}
theorem sis_nil : SIs X i a C d [] (fun _ => some []) := ⟨_, pa_nil, fun σ H G x ds Q _ _ _ h k => by cases h; exact k [] .nil⟩
theorem sis_cons {f : Exn → Option PyData} {g : Exn → Option (List PyData)} (h : SI X i a C d e f) (h' : SIs X i a C d es g) (hs : starEach (e :: es) X.env = (false, eval e X.env) :: starEach es X.env := by rfl) : SIs X i a C d (e :: es) (consI f g) := by
  obtain ⟨t, p, r⟩ := h.ex
  obtain ⟨t', p', r'⟩ := h'.ex
  refine ⟨_, pa_cons p p' hs, fun σ H G x ds Q hσ gh xo hf k => ?_⟩
  unfold consI at hf
  cases q1 : f x with
  | none => simp only [q1] at hf; cases hf
  | some d1 =>
    cases q2 : g x with
    | none => simp only [q1, q2] at hf; cases hf
    | some ds1 =>
      simp only [q1, q2] at hf
      cases hf
      exact r σ H G x d1 _ hσ gh xo q1 fun v dv => r' σ H G x ds1 _ hσ gh xo q2 fun vs dvs => k (v :: vs) (.cons dv dvs)
theorem si_str {z : Str} {j p} : SI X i a C d (.Constant (.str z) j p) (fun _ => some (.str z)) := ⟨_, pe_str, fun σ H G x dd Q _ _ _ h k => by cases h; exact k _ (.str z)⟩
theorem si_int {z : Int} {j p} : SI X i a C d (.Constant (.int z) j p) (fun _ => some (.int z)) := ⟨_, pe_int, fun σ H G x dd Q _ _ _ h k => by cases h; exact k _ (.int z)⟩
/-- the first field -/
def fld1 (f : Str) : Exn → Option PyData := fun x => match x.fs with
  | [(g, d)] => if g = f then some d else none
  | _ => none
theorem fld1_of {K : PySem.W.Frag} {G : Hp} {d : Option Addr} {x : Exn} {f : Str} {dd : PyData} (xo : ExOk K G d x) (h : fld1 f x = some dd) : ∃ da v, d = some da ∧ G da = some (.xd [(f, v)]) ∧ Dd K G v dd := by
  unfold fld1 at h
  rcases xo with ⟨_, e⟩ | ⟨da, vs, e1, e2, e3⟩
  · rw [e] at h; cases h
  · cases x with
    | mk C fs =>
      cases fs with
      | nil => cases h
      | cons p r =>
        obtain ⟨g, dg⟩ := p
        cases r with
        | cons _ _ => cases h
        | nil =>
          simp only at h
          by_cases eg : g = f
          · rw [if_pos eg] at h
            cases h
            subst eg
            cases e3 with
            | cons h1 t1 =>
              cases t1
              exact ⟨da, _, e1, e2, h1⟩
          · rw [if_neg eg] at h; cases h
end
/-- what the clause 'except C as n' (n in slot i) puts in slot j -/
@[simp] def wTry1 (i j : Nat) (C : Addr) (f : Exn → Option (List PyData)) (Wb : WS) : WS := fun D Γ => Wb { D with ex := fun x Γ1 => x.C = C ∧ i < Γ1.length ∧ ∃ ds, f x = some ds ∧ ds.length ≤ sizeLine ∧ D.nx (((Γ1.set i .un).set j (.dat (.list ds))).set i .un) } Γ
section
variable {X : Cx} {i j : Nat} {C : Addr} {x n y : Str} {es : List Expr} {body : List Stmt} {np yp lp ap pos' pos : Pos} {Wb : WS} {f : Exn → Option (List PyData)}
def tSu (K : PySem.W.Frag) (i j : Nat) (C : Addr) (f : Exn → Option (List PyData)) : Addr → Value → Option Addr → TS := fun a cls d D' σ H => cls = .ref C ∧ ∃ (G : Hp) (x : Exn) (ds : List PyData), σ[i]? = some (some (V.ref a)) ∧ Same G H ∧ ExOk K G d x ∧ f x = some ds ∧ ds.length ≤ sizeLine ∧
  ∀ vs p, DdAll K G vs ds → H p = none → D'.nx (σ.set j (some (.ref p))) (upd H p (.lst vs))
theorem ds_try1 (hs : X.stack = X.env :: X.outer) (hf : X.env.frame = some X.env.locals) (hN : X.N.Nodup) (hi : X.N[i]? = some n) (hln : X.env.kindOf n = some .local) (hc : Names X x (.ref C)) (te : PySem.W.exmOne X.K (.ref C) (.ref C) = some true)
    (hb : ∀ (pn : List (Addr × Obj)) (xe : Value → Shared → Prop), DSs (X.tr pn xe) body Wb)
    (tk : Takes X fun _ _ _ _ => False)
    (hsu : ∀ (a : Addr) (oe : Obj) (d : Option Addr) (pn : List (Addr × Obj)), Zc (.ref C) d oe → (∃ vs, oe.data = .fields vs) → SIs (X.suite a ((a, oe) :: pn)) i a C d es f)
    (hset : ∀ (a : Addr) (oe : Obj) (pn : List (Addr × Obj)) (t : TE), PE (X.suite a ((a, oe) :: pn)) (.List es lp) t → PS (X.suite a ((a, oe) :: pn)) (.Assign [.Name y yp] (.List es lp) ap) (tAsg t (gName j))) :
    DS X (.Try body [.ExceptHandler (some (.Name x np)) (some n) [.Assign [.Name y yp] (.List es lp) ap] pos'] [] [] pos) (wTry1 i j C f Wb) := by
  refine ⟨_, ps_try_as (tb := fun W => canS X.K Wb W) (ts := tSu X.K i j C f) (Wout := fun _ _ _ _ => False) hs hf hN hi hln hc tk (fun W pn xe t1 _ => pss_can (hb pn xe) t1) (fun a oe cls d pn hz hfl => ?_), ?_⟩
  · refine ⟨fun pins s σ H D I q => ?_⟩
    obtain ⟨rfl, G, x, ds, hσ, gh, xo, hx, hl, k⟩ := q
    obtain ⟨t, p, r⟩ := (hsu a oe d pn hz hfl).ex
    refine (pss_one (hset a oe pn _ (pe_lst p))).run pins s σ H D I ?_
    refine r σ H G x ds _ hσ gh xo hx fun vs dv => ?_
    refine ⟨by rw [dv.length]; exact hl, fun p hp => ?_⟩
    exact k vs p dv hp
  · intro B Γ σ H G D D' E w l
    refine ⟨B, Γ, G, _, E, w, l.nx, l.bk, l.ct, l.rt, l.nb, fun d σ1 H1 G1 Γ1 x E1 s1 xo q => ?_⟩
    obtain ⟨hC, hlt, ds, hx, hl, q⟩ := q
    rw [hC]
    refine ⟨true, te, fun _ a ha => ⟨rfl, G1, x, ds, ?_, E1.gh, xo, hx, hl, fun vs p dv hp => ?_⟩, fun z => nomatch z⟩
    · exact List.getElem?_set_self (by rw [E1.len]; exact hlt)
    · have gp := E1.gnone hp
      have E2 := (((E1.setUn i (some (V.ref a))).laid (o := .lst vs) hp).setDat j (Dd.lst (a := p) upd_same (dv.mono (sameNew gp)))).setUn i none
      exact l.nx _ _ _ _ E2 (s1.trans (sameNew gp)) q
end
end DL

namespace DL
open PySem PySem.Spec PyProof.Rows L2
/-! ## isinstance(n, B) in such a suite -/
structure IsiC (K : PySem.W.Frag) (C CM : Addr) : Prop where
  hd : PySem.W.hasDictIn K C = true
  ga : PySem.W.findIn K (.ref C) "__getattribute__" = some (some (.builtin "BaseException.__getattribute__"))
  gg : PySem.W.findIn K (.ref C) "__getattr__" = some none
  sb : PySem.W.subIn K (.ref C) (.type "BaseException") = some true
  ha : PySem.W.findIn K (.ref C) "__class__" = some (some (.builtin "object.__class__"))
  hn : PySem.W.specialIn K (.builtin "object.__class__") "__get__" = some (some (.builtin "getset_descriptor.__get__"))
  ht : PySem.W.takesIn K (.builtin "object.__class__") = some true
  hm : PySem.W.mroIn K C (.type "object") = some true
  kit : PySem.W.kitOne K (.ref C) (.ref CM) = some true
def rIsD (K : PySem.W.Frag) (CM a : Addr) (d : Option Addr) : List V → Hp → VK → Prop := fun xs H Q => ∃ (x : Exn) (G : Hp), xs = [.ref a, .ref CM] ∧ Same G H ∧ ExOk K G d x ∧ Q (.bl true) H
section
variable {X : Cx} {i : Nat} {a C CM : Addr} {oe : Obj} {d : Option Addr} {pn : List (Addr × Obj)} {e : Expr} {pos : Pos}
theorem call_isD (T : IsiC X.K C CM) (hz : Zc (.ref C) d oe) (hf : ∃ vs, oe.data = .fields vs) : CallR (X.suite a ((a, oe) :: pn)) (.builtin "isinstance") (rIsD X.K CM a d) := by
  intro pins s σ H xs us Q I r h
  obtain ⟨x, G, rfl, gh, xo, q⟩ := h
  cases r with
  | cons rx rr =>
    cases rr with
    | cons rt rr =>
      cases rr
      cases rx
      cases rt
      obtain ⟨hget, _⟩ := I.pin (a, oe) (List.mem_append.mpr (.inl List.mem_cons_self))
      obtain ⟨vs, hv⟩ := hf
      have hcl : (PySem.W.clsIn X.K C).isSome = true := by
        have h0 := T.hd
        unfold PySem.W.hasDictIn at h0
        cases q0 : PySem.W.clsIn X.K C with
        | none => rw [q0] at h0; cases h0
        | some _ => rfl
      have J : ∃ od, PySem.W.InstAt s.heap a oe C od := by
        rcases xo with ⟨e1, _⟩ | ⟨dd, fs, e1, e2, _⟩
        · subst e1
          obtain ⟨oc, od, oda, osl⟩ := oe
          obtain ⟨h1, h2⟩ := hz
          dsimp only at h1 h2 hv
          subst h1 h2 hv
          exact ⟨none, hget, rfl, rfl, trivial⟩
        · subst e1
          obtain ⟨mA, hns, _⟩ := (I.hok dd _ (gh _ _ e2) : ObjOk X.prog X.w H s.heap dd (.xd fs))
          obtain ⟨od, ho, _⟩ := lookIn_ns hns
          refine ⟨some od, hget, hz.1, ?_, ?_⟩
          · unfold PySem.W.notCls
            rw [hv] <;> rfl
          · rw [hz.2]
            exact ho
      obtain ⟨od, J⟩ := J
      exact PySem.W.kia_one (PySem.W.kitx_exc (od := od) hcl T.ga T.gg T.sb T.ha T.hn T.ht T.hm) I.kIn J T.kit (fun z => nomatch z) fun tk => ⟨.bl true, H, I.kept (t' := tk) fun _ _ z => z, rfl, q⟩
theorem si_isi {M : Str} {p p2 : Pos} (T : IsiC X.K C CM) (hz : Zc (.ref C) d oe) (hf : ∃ vs, oe.data = .fields vs) (he : PE (X.suite a ((a, oe) :: pn)) e (tVar i)) (hg : Gl X "isinstance") (hm : X.mg "isinstance" = none) (hgM : Gl X M) (mM : X.mg M = some (.ref CM))
    (hdM : (M == ("__debug__" : Str)) = false := by decide)
    (h1 : starEach [e, .Name M p2] X.env = (false, eval e X.env) :: starEach [.Name M p2] X.env := by rfl) (h2 : starEach [.Name M p2] X.env = (false, eval (.Name M p2) X.env) :: starEach [] X.env := by rfl) (hpl : (backTo pos (starEach [.Name M p2] X.env)).any (·.1) = false := by rfl) :
    SI (X.suite a ((a, oe) :: pn)) i a C d (.Call (.Name "isinstance" p) [e, .Name M p2] [] pos) (fun _ => some (.bool true)) := by
  refine ⟨_, pe_callB (call_isD T hz hf) hg hm DL.boot_isinstance (pa_cons he (pa_cons (pe_glob (v := .ref CM) hgM mM rfl hdM) pa_nil h2) h1) (by decide) (by decide) h1 hpl, fun σ H G x dd Q hσ gh xo h k => ?_⟩
  cases h
  exact ⟨_, hσ, x, G, rfl, gh, xo, k _ (.bl true)⟩
end
end DL

namespace DL
open PySem PySem.Spec PyProof.Rows L2
/-! ## reversed(range(n)) -/
def rngD (n : Nat) : List PyData := (List.range n).map fun i => .int (((n - 1 - i : Nat)) : Int)
section
variable {X : Cx} {K : PySem.W.Frag} {a b c e tg : Expr} {Wa : WE} {pos : Pos}
theorem dwalk_rangeD {G0 : Hp} {lo : Int} {n m : Nat} (hm : m = n) (hl : lo = (n : Int) - 1) : DWalk K (Itc lo (-1) m) G0 (rngD n) := by
  subst hm hl
  intro B Γ σ H G E s i
  have hl : (rngD m).length = m := by unfold rngD; simp
  refine ⟨fun hi => by rw [hl] at hi; exact Nat.le_of_eq hi.symm, fun d hd => ?_⟩
  have hi : i < m := by
    have := (List.getElem?_eq_some_iff.mp hd).1
    rwa [hl] at this
  have hd' : d = .int ((m : Int) - 1 + (i : Nat) * (-1)) := by
    unfold rngD at hd
    rw [List.getElem?_map, List.getElem?_range hi] at hd
    have hd := Option.some.inj hd
    have e : ((m - 1 - i : Nat) : Int) = (m : Int) - 1 + (i : Nat) * (-1) := by omega
    rw [← hd]
    exact congrArg PyData.int e
  subst hd'
  refine ⟨hi, fun x H' y => ?_⟩
  obtain ⟨e, ex⟩ := y
  subst e ex
  exact ⟨G, E, Same.refl _, .int _, Same.refl _⟩
@[simp] def wRngD (Wa : WE) : WI := fun Γ Q => Wa Γ fun d Γ1 => match d with
  | .int n => n < 2 ^ 62 ∧ -(2 ^ 62) ≤ n ∧ Q (rngD n.toNat) Γ1
  | _ => False
theorem di_revR {p p2 pos2 : Pos} (hg : Gl X "reversed") (hm : X.mg "reversed" = none) (hg2 : Gl X "range") (hm2 : X.mg "range" = none) (ha : DE X a Wa) (hs : starEach [.Call (.Name "range" p2) [a] [] pos2] X.env = (false, eval (.Call (.Name "range" p2) [a] [] pos2) X.env) :: starEach [] X.env := by rfl) (hs2 : starEach [a] X.env = (false, eval a X.env) :: starEach [] X.env := by rfl) :
    DI X tg (.Call (.Name "reversed" p) [.Call (.Name "range" p2) [a] [] pos2] [] pos) (wRngD Wa) := by
  obtain ⟨t, pa, r⟩ := ha.ex
  refine ⟨_, pi_revR hg hm (prg_1 hg2 hm2 pa hs2) hs, ?_⟩
  intro B Γ σ H G Q R E w k
  refine r B Γ σ H G _ _ E w fun v H1 G1 d Γ1 E1 s1 k1 d1 w1 => ?_
  cases d1 with
  | int n =>
    refine ⟨n, rfl, by decide, by decide, w1.2.1, w1.1, k _ H1 G1 _ Γ1 E1 s1 k1 (dwalk_rangeD (by rw [Int.sub_zero]) ?_) w1.2.2⟩
    rw [Int.sub_zero]
    by_cases h0 : n < 0
    · have : n.toNat = 0 := by omega
      rw [this]; omega
    · omega
  | _ => exact w1.elim
end
end DL

namespace PySem
namespace NoNumberX
open PySem.W PySem.Calls PyProof.Rows PySem.HandSPX
/-! ### the text of __init__ -/
def iA (p1 p2 : Pos) : Arguments := { posonlyargs := [], args := [{ arg := "self", annotation := none, pos := p1 }, { arg := "number", annotation := none, pos := p2 }], vararg := none, kwonlyargs := [], kw_defaults := [], kwarg := none, defaults := [] }
def iB (q1 q2 q3 q4 : Pos) : List Stmt := [.Assign [.Attribute (.Name "self" q1) "number" q2] (.Name "number" q3) q4]
def iS : Scope := { kind := .function, names := [(PySem.Str.ofString "self", .local), (PySem.Str.ofString "number", .local)], isGenerator := false, isCoroutine := false, more := [] }
/-- what the written part says of Low, at C, and of its __init__, at fI -/
structure NoNumberTxt (K : Frag) (mg : Str → Option Value) (C fI : Addr) : Prop where
  gC : mg "NoNumber" = some (.ref C)
  cls : ∃ nm q N bs bm sn sub ab col dd k0 k1 k2 k3 k5, K.lookup C = some (excClassObj nm q C N bs bm true sn sub ab col dd k0 k1 k2 k3 k5 "ValueError.__new__") ∧ refsVE bm = true
  sa : findIn K (.ref C) "__setattr__" = some (some (.builtin "object.__setattr__"))
  ga : findIn K (.ref C) "__getattribute__" = some (some (.builtin "BaseException.__getattribute__"))
  gg : findIn K (.ref C) "__getattr__" = some none
  noN : findIn K (.ref C) "number" = some none
  iC : findIn K (.ref C) "__init__" = some (some (.ref fI))
  tC : typeIn K (.ref fI) = some (.type "function")
  kC : keepIn K (.ref C) = true
  exC : subIn K (.ref C) (.type "BaseException") = some true
  tyC : typeIn K (.ref C) = some (.type "type")
  hdC : hasDictIn K C = true
  te : exmOne K (.ref C) (.ref C) = some true
  fn : ∃ (oc : Value) (od : Option Addr) (doc pm : Value) (an : Option Addr) (cdv ct : Value) (osl : Array (Option Value)) (p1 p2 q1 q2 q3 q4 : Pos),
    K.lookup fI = some ⟨oc, od, .func (fnOf "__init__" "NoNumber.__init__" (iA p1 p2) (iB q1 q2 q3 q4) iS .none .none doc pm an cdv ct), osl⟩ ∧ codeIn K cdv "NoNumber.__init__" = true
theorem one_size (v : Value) : [v].length ≤ sizeLine := by
  rw [sizeLine_eq]
  exact (by decide : 1 ≤ 16777216)
theorem kept_but {K : Frag} {h h' : Heap} {x : Addr} (X : K.In h) (hx : K.lookup x = none) (k : ∀ b o, b ≠ x → h.get? b = some o → h'.get? b = some o) : K.In h' := fun a o e =>
  k a o (fun z => by rw [z, hx] at e; cases e) (X a o e)
theorem ldC {M : Model} {s : Shared} {name : Str} {scope : Scope} {L a : Addr} {cd : Value} {m : Str → Option Value} {x : Str} {pos : Pos} {v : Value} {Q : Value → Shared → Prop} {A : Around} {E : Value → Shared → Prop} (hn : s.heap.Ns L m) (hv : m x = some v) (h : Q v s)
    (hk : scope.kind = .function := by rfl) (hl : (envOfC name scope L a cd).kindOf x = some .local := by rfl) (hd : (x == ("__debug__" : Str)) = false := by decide) :
    wpAny M A (eval (.Name x pos) (envOfC name scope L a cd)) Q E s := wpAny_Name (wpAny_loadName_local hk hl hn hv h) hd
/-- what __init__ leaves of a fresh exception at x -/
structure InitEnd (h h' : Heap) (x C dx t1 : Addr) (v : Value) : Prop where
  keep : ∀ b o, b ≠ x → h.get? b = some o → h'.get? b = some o
  obj : h'.get? x = some { cls := .ref C, dict := some dx, data := .fields #[.ref t1, .none, .none, .none, .bool false, .none] }
  dbig : h.objs.size ≤ dx
  dne : dx ≠ x
  ns : h'.Ns1 dx (fun y => if y = "number" then some v else none)
/-- a made Low -/
structure OwnMade (h h' : Heap) (e C d : Addr) (v : Value) : Prop where
  keep : ∀ b o, h.get? b = some o → h'.get? b = some o
  new : h.objs.size ≤ e
  obj : ∃ oe vs, h'.get? e = some oe ∧ oe.cls = .ref C ∧ oe.dict = some d ∧ oe.data = .fields vs ∧ vs[1]? = some .none
  dbig : h.objs.size ≤ d
  dne : d ≠ e
  ns : h'.Ns1 d (fun y => if y = "number" then some v else none)
section
variable {prog : Program} {w : World} {A : Around} {E : Value → Shared → Prop} {R : Result → Shared → Prop} {s : Shared} {K : Frag} {mg : Str → Option Value} {C fI : Addr}
theorem low_init_NoNumber (T : NoNumberTxt K mg C fI) {x t0 : Addr} {v : Value} (X : K.In s.heap) (hlim : s.heap.NoLimit) (hx : s.heap.get? x = some (excO C t0)) (hnx : K.lookup x = none) (hroom : A.depth < recursionLimit)
    (hq : ∀ h' tk dx, InitEnd s.heap h' x C dx t0 v → R (.ok (.ret .none)) { s with heap := h', toks := tk }) :
    codeAny (model prog w) A (.call (.ref fI) ⟨[.ref x, v], []⟩) R s := by
  obtain ⟨oc, od, doc, pm, an, cdv, ct, osl, p1, p2, q1, q2, q3, q4, ho, hcd⟩ := T.fn
  obtain ⟨nm, q, N, bs, bm, sn, sub, ab, col, dd, k0, k1, k2, k3, k5, hC, hbm⟩ := T.cls
  have hcl : clsIn K C = some { name := nm, bases := bs, mro := .ref C :: bm, ns := N, qualname := q, hasDict := true, slotNames := sn, subclasses := sub, abstract := ab, collection := col, hasDel := false } := by unfold clsIn; rw [hC] <;> rfl
  refine Att.call_fn (binds := [("self", .ref x), ("number", v)]) X hlim ho hcd hroom (BindsTo.of_eq (by first | rfl | with_unfolding_all rfl)) (by first | rfl | decide | with_unfolding_all rfl) (fun s₁ IC => ?_) rfl rfl rfl
  obtain ⟨h₁, tk₁, rfl⟩ := IC.toInCall.same
  have k : ∀ b o, s.heap.get? b = some o → h₁.get? b = some o := IC.toInCall.keep
  have hn := IC.toInCall.ns
  have hxL : s.heap.objs.size ≠ x := Nat.ne_of_gt (Heap.lt_size hx)
  have X₁ : K.In h₁ := X.keeps k
  have hx₁ := k _ _ hx
  -- self.by = by
  show wpAny _ _ (execs _ _) _ _ _
  refine wpAny_execs_cons (plainObj_wpAny_Assign_Attribute ?_)
  refine ldC (v := v) hn (by first | rfl | with_unfolding_all rfl | kernel_rfl) (ldC (v := .ref x) hn (by first | rfl | with_unfolding_all rfl | kernel_rfl) ?_)
  refine set_plain X₁ (ox := excO C t0) (od := none) ⟨hx₁, rfl, rfl, trivial⟩ T.sa ?_
  refine exc_osa X₁ hx₁ hcl (show refsVE (.ref C :: bm) = true from hbm) rfl T.noN (fun h₃ tk₃ dx k₃ dn dne hx₃ hn₃ => ?_)
  show wpAny _ _ (execs _ _) _ _ _
  have z : s.heap.objs.size < h₁.objs.size := hn.lt
  exact wpAny_execs_nil (hq h₃ tk₃ dx ⟨fun b o hb e => k₃ b o hb (k b o e), hx₃, Nat.le_of_lt (Nat.lt_of_lt_of_le z dn), dne, hn₃⟩)
theorem low_made_NoNumber (T : NoNumberTxt K mg C fI) {v : Value} (X : K.In s.heap) (hlim : s.heap.NoLimit) (hroom : A.depth + 1 < recursionLimit)
    (hq : ∀ h' tk e d, OwnMade s.heap h' e C d v → R (.ok (.ret (.ref e))) { s with heap := h', toks := tk }) :
    codeAny (model prog w) A (.call (.ref C) ⟨[v], []⟩) R s := by
  obtain ⟨nm, q, N, bs, bm, sn, sub, ab, col, dd, k0, k1, k2, k3, k5, hC, hbm⟩ := T.cls
  obtain ⟨hp, g, dr, tk, os⟩ := s
  have k : ∀ b o, hp.get? b = some o → ((hp.push (kdv_tup [v])).push (excO C hp.objs.size)).get? b = some o := fun b o e => Heap.get?_push_of_some _ (Heap.get?_push_of_some _ e)
  have hget : ((hp.push (kdv_tup [v])).push (excO C hp.objs.size)).get? (hp.objs.size + 1) = some (excO C hp.objs.size) := by heap_get
  have hnx : K.lookup (hp.objs.size + 1) = none := by
    cases e : K.lookup (hp.objs.size + 1) with
    | none => rfl
    | some o =>
      have z : hp.get? (hp.objs.size + 1) = some o := X _ _ e
      exact absurd (Nat.lt_of_succ_lt (Heap.lt_size z)) (Nat.lt_irrefl _)
  refine call_own F.excBase_ValueError (fun X => refsVE_contains X bm hbm) (X _ _ hC) (looks_findIn X T.iC) (fun self => bind_fn X self T.tC) (one_size v) ?_
  refine low_init_NoNumber (s := ⟨(hp.push (kdv_tup [v])).push (excO C hp.objs.size), g, dr, tk, os⟩) T (X.keeps k) (hlim.keeps k) hget hnx ?_ fun h' tk' dx ⟨k', hx, dn, dne, hns⟩ => ?_
  · show A.depth + 1 < recursionLimit
    exact hroom
  · have old : ∀ b o, hp.get? b = some o → h'.get? b = some o := fun b o e => k' b o (Nat.ne_of_lt (Nat.lt_succ_of_lt (Heap.lt_size e))) (k b o e)
    have z : hp.objs.size + 1 + 1 ≤ dx := by
      first
        | (simpa only [Heap.size_push] using dn)
        | exact dn
        | (have q := dn; rw [Heap.size_push, Heap.size_push] at q; exact q)
    exact ⟨rfl, hq h' tk' (hp.objs.size + 1) dx ⟨old, Nat.le_succ _, ⟨_, _, hx, rfl, rfl, rfl, rfl⟩, Nat.le_trans (Nat.le_trans (Nat.le_succ _) (Nat.le_succ _)) z, dne, hns⟩⟩
end
end NoNumberX
end PySem
namespace L2
open PySem PySem.Spec PyProof.Rows
theorem relO_low_NoNumber {v : V} {v' : Value} (r : RelV v v') (f : Str) : RelO (List.lookup f [(("number" : Str), v)]) (if f = "number" then some v' else none) := by
  by_cases hw : f = "number"
  · subst hw
    rw [if_pos rfl]
    have q : List.lookup ("number" : Str) [(("number" : Str), v)] = some v := by simp [List.lookup]
    rw [q]
    exact r
  · rw [if_neg hw]
    have qw : (f == ("number" : Str)) = false := by simpa using hw
    have q2 : List.lookup f [(("number" : Str), v)] = none := by simp [List.lookup, qw]
    rw [q2]
    trivial
section
variable {X : Cx} {C fI : Addr}
/-- Low(e) -/
def tMkLow_NoNumber (C : Addr) (ta : TA) : St → Hp → XK → Prop := fun σ H Q => ta σ H fun vs H1 => ∃ v, vs = [v] ∧ ∀ d, H1 d = none → Q (.ref C) (some d) (upd H1 d (.xd [(("number" : Str), v)]))
theorem pmk_low_NoNumber {a : Expr} {ta : TA} {p pos : Pos} {k : Nat} (T : PySem.NoNumberX.NoNumberTxt X.K X.mg C fI) (hr : Room k X.A) (ha : PA X [a] ta) (hg : Gl X "NoNumber" := by rfl)
    (he : starEach (a :: []) X.env = (false, eval a X.env) :: starEach [] X.env := by rfl) (hpl : (backTo pos (starEach [] X.env)).any (·.1) = false := by rfl) :
    PMk X (.Call (.Name "NoNumber" p) [a] [] pos) (tMkLow_NoNumber C ta) := by
  intro pins s σ H Q I h
  refine wpAny_Call_Name_kw (ld_glob I hg T.gC ?_)
  refine PySem.W.callWith_K (h₀ := X.base) I.ok.mod.kin T.kC (thn (ha.run pos pins s σ H _ I h) fun us s1 hh => ?_) he hpl
  obtain ⟨vs, H1, I1, r1, v, ev, q1⟩ := hh
  subst ev
  refine ⟨I1.kIn, ?_⟩
  cases r1 with
  | cons rv rn =>
    rename_i v' us'
    cases rn
    show wpAny _ _ (call (.ref C) [v']) _ _ _
    have hlim := I1.nolimit
    obtain ⟨hp, g, dr, tk, os⟩ := s1
    refine wpAny_call (PySem.NoNumberX.low_made_NoNumber T I1.kIn hlim (by have := hr.dp; omega) fun h' tk' e d M => ?_)
    show MkP X pins σ Q (.ref e) ⟨h', g, dr, tk', os⟩
    obtain ⟨oe, fv, hoe, hc, hd, hdat, h1⟩ := M.obj
    have hns := M.ns
    obtain ⟨G', g1, g2⟩ := restrict h' fun b => decide (b ≠ e)
    have gk : ∀ b, b ≠ e → G'.get? b = h'.get? b := fun b hb => g1 b (decide_eq_true hb)
    have ge : G'.get? e = none := g2 e (by simp)
    have old : ∀ b o, hp.get? b = some o → G'.get? b = some o := fun b o q => (gk b (Nat.ne_of_lt (Nat.lt_of_lt_of_le (Heap.lt_size q) M.new))).trans (M.keep b o q)
    have ob : ObjOk X.prog X.w (upd H1 d (.xd [(("number" : Str), v)])) G' d (.xd [(("number" : Str), v)]) :=
      ⟨_, hns.at (fun o q => (gk d M.dne).trans q), fun f => relO_low_NoNumber rv f⟩
    have J : Inv X pins σ (upd H1 d (.xd [(("number" : Str), v)])) ⟨G', g, dr, tk', os⟩ := I1.laid (t' := tk') old M.dbig ob
    refine ⟨e, oe, fv, ⟨G', g, dr, tk', os⟩, _, .ref C, some d, rfl, J, fun b o q => ?_, ge, hoe, ⟨hc, hd⟩, hdat, h1, ?_, rfl, I1.bare, raises_own T.exC T.tyC, q1 d (I1.hok.fresh M.dbig)⟩
    · by_cases hb : b = e
      · have q' : G'.get? b = some o := q
        rw [hb, ge] at q'; cases q'
      · exact (gk b hb).symm.trans q
    · rw [upd_ne (Ne.symm M.dne)]
      exact I1.hok.fresh M.new
/-- raise Low(e) -/
def tRaiseLow_NoNumber (C : Addr) (W : WX) (ta : TA) : TS := fun _ σ H => tMkLow_NoNumber C ta σ H fun cls d H' => W cls d σ H'
theorem ps_raiseLow_NoNumber {a : Expr} {ta : TA} {W : WX} {p pos pos2 : Pos} {k : Nat} (hc : X.calm = true) (T : PySem.NoNumberX.NoNumberTxt X.K X.mg C fI) (hr : Room k X.A) (tk : Takes X W) (ha : PA X [a] ta) (hg : Gl X "NoNumber" := by rfl)
    (he : starEach (a :: []) X.env = (false, eval a X.env) :: starEach [] X.env := by rfl) (hpl : (backTo pos (starEach [] X.env)).any (·.1) = false := by rfl) :
    PS X (.Raise (some (.Call (.Name "NoNumber" p) [a] [] pos)) none pos2) (tRaiseLow_NoNumber C W ta) := ps_raise hc tk (pmk_low_NoNumber T hr ha hg he hpl)
/-- low.by, low the exception that the suite holds (at a; its class cls, its dict d) -/
def tByLow_NoNumber (C : Addr) (a : Addr) (cls : Value) (d : Option Addr) (te : TE) : TE := fun σ H Q => te σ H fun x H1 => x = .ref a ∧ cls = .ref C ∧ ∃ (dd : Addr) (v : V), d = some dd ∧ H1 dd = some (.xd [(("number" : Str), v)]) ∧ Q v H1
theorem pe_byLow_NoNumber {a : Addr} {oe : Obj} {cls : Value} {d : Option Addr} {pn : List (Addr × Obj)} {e : Expr} {te : TE} {pos : Pos} (T : PySem.NoNumberX.NoNumberTxt X.K X.mg C fI) (hz : Zc cls d oe) (hf : ∃ vs, oe.data = .fields vs) (he : PE (X.suite a ((a, oe) :: pn)) e te)
    (hb : attributeBase e "number" X.env (eval e X.env) = eval e X.env := by rfl) :
    PE (X.suite a ((a, oe) :: pn)) (.Attribute e "number" pos) (tByLow_NoNumber C a cls d te) := by
  refine ⟨fun pins s σ H Q I h => ?_⟩
  refine attr_of hb (thn (he.run pins s σ H _ I h) fun u s1 hh => ?_)
  obtain ⟨x, H1, I1, rx, ex, ec, dd, v, ed, ea, q⟩ := hh
  subst ex
  obtain rfl : u = Value.ref a := rx
  subst ec
  subst ed
  obtain ⟨ha, _⟩ := I1.pin (a, oe) (List.mem_append_left _ List.mem_cons_self)
  obtain ⟨vs, hd⟩ := hf
  have hx : ObjOk X.prog X.w H1 s1.heap dd (.xd [(("number" : Str), v)]) := I1.hok dd _ ea
  obtain ⟨mA, hns, hr⟩ := hx
  obtain ⟨od, ho, hl⟩ := lookIn_ns hns
  have l : List.lookup ("number" : Str) [(("number" : Str), v)] = some v := by simp [List.lookup]
  obtain ⟨u, hu, ru⟩ := RelO.some_of (v := v) (o := mA "number") (by rw [← l]; exact hr "number")
  have J : PySem.W.InstAt s1.heap a oe C (some od) := ⟨ha, hz.1, by unfold PySem.W.notCls; rw [hd] <;> rfl, by rw [hz.2]; exact ho⟩
  exact HandSPX.exc_get I1.kIn J T.ga T.gg T.exC (PySem.W.findObj_own T.hdC T.noN rfl (by rw [hl, hu])) (handed_of ru) ⟨v, H1, I1.tok _, ru, q⟩
end
end L2

namespace DL
open PySem PySem.Spec PyProof.Rows L2
section
variable {X : Cx} {C fI : Addr}
theorem pmk1_NoNumber {a : Expr} {p pos : Pos} {k : Nat} (T : PySem.NoNumberX.NoNumberTxt X.K X.mg C fI) (hr : Room k X.A) (hg : Gl X "NoNumber" := by rfl)
    (he : starEach (a :: []) X.env = (false, eval a X.env) :: starEach [] X.env := by rfl) (hpl : (backTo pos (starEach [] X.env)).any (·.1) = false := by rfl) {ta : TA} (ha : PA X [a] ta) :
    PMk X (.Call (.Name "NoNumber" p) [a] [] pos) (tMk1 C "number" ta) := pmk_low_NoNumber T hr ha hg he hpl
theorem si_fld_NoNumber {i : Nat} {a : Addr} {oe : Obj} {d : Option Addr} {pn : List (Addr × Obj)} {e : Expr} {pos : Pos} (T : PySem.NoNumberX.NoNumberTxt X.K X.mg C fI) (hz : Zc (.ref C) d oe) (hf : ∃ vs, oe.data = .fields vs) (he : PE (X.suite a ((a, oe) :: pn)) e (tVar i))
    (hb : attributeBase e "number" X.env (eval e X.env) = eval e X.env := by rfl) : SI (X.suite a ((a, oe) :: pn)) i a C d (.Attribute e "number" pos) (fld1 "number") := by
  refine ⟨_, pe_byLow_NoNumber (cls := .ref C) T hz hf he hb, fun σ H G x dd Q hσ gh xo h k => ?_⟩
  obtain ⟨da, v, rfl, h2, h3⟩ := fld1_of xo h
  exact ⟨_, hσ, rfl, rfl, da, v, rfl, gh _ _ h2, k v h3⟩
end
end DL


namespace DL
open PySem PySem.Spec PyProof.Rows L2
theorem takes_not {X : Cx} : Takes X fun _ _ _ _ => False := fun _ _ ⟨_, _, _, _, _, _, _, _, _, _, _, _, _, _, _, _, q⟩ => q.elim
/-! ## a def that may raise, called by keywords where it does not -/
theorem fn_calm {P : Program} {w : World} {K : PySem.W.Frag} {mg : Str → Option Value} {base : Heap} {k : Nat} {f : Addr} {fd : FuncData} {ps : List Str} {S : PSpX} (h4 : FnOk P w K mg base (L2.CX P w) k f fd ps (spSX K S)) :
    FnOk P w K mg base (L2.CX P w) k f fd ps (spS K (noX S)) := by
  refine ⟨fun vs H Q E h => ?_, fun A outer s H args us vs Q E hr he hb hv h => ?_⟩
  · obtain ⟨G, as, R, gh, hA, hS, hQ⟩ := h
    exact h4.len vs H Q E ⟨G, as, R, _, gh, hA, hS, hQ, fun _ _ _ _ _ _ _ z => z.elim⟩
  · obtain ⟨G, as, R, gh, hA, hS, hQ⟩ := h
    exact h4.run A outer s H args us vs Q E hr he hb hv ⟨G, as, R, _, gh, hA, hS, hQ, fun _ _ _ _ _ _ _ z => z.elim⟩
structure CalKX (P : Program) (w : World) (K : PySem.W.Frag) (mg : Str → Option Value) (base : Heap) (x : Str) (ps : List Str) (k : Nat) (S : PSpX) (n : Nat) (ks : List Str) (is : List Nat) : Prop where
  ex : ∃ (f : Addr) (fd : FuncData), mg x = some (.ref f) ∧ PySem.W.keepIn K (.ref f) = true ∧ KBn K fd ps n ks (fun us ws => pick is (us ++ ws)) (fun us ws => pick is (us ++ ws)) ∧ FnOk P w K mg base (L2.CX P w) k f fd ps (spSX K S)
section
variable {X : Cx} {e : Expr} {es : List Expr} {pos : Pos}
theorem de_callK0V {S : PSpX} {k : Nat} {ps ks : List Str} {is : List Nat} {x : Str} {p : Pos} {kws : List Keyword} {Wk : WPA} (C : CalKX X.prog X.w X.K X.mg X.base x ps k S 0 ks is) (hr : Room k X.A) (hg : Gl X x) (hk : DPK X kws Wk)
    (hall : (backToKw pos (keywordEach kws X.env)).all (·.1.isSome) = true := by rfl) (hks : (backToKw pos (keywordEach kws X.env)).filterMap (·.1) = ks := by rfl)
    (hdb : (x == ("__debug__" : Str)) = false := by decide) (hpl : ((backTo pos (starEach [] X.env)).any (·.1) || (backToKw pos (keywordEach kws X.env)).any (·.1.isNone)) = false := by rfl) :
    DE X (.Call (.Name x p) [] kws pos) (wCallK (noX S) wPNil Wk 0 ks.length is) := by
  obtain ⟨f, fd, h1, h2, h3, h4⟩ := C.ex
  obtain ⟨t, pk, rk⟩ := hk.ex
  refine ⟨_, pe_callN0 (E' := L2.E0) (fn_calm h4) hr hg h1 h2 h3 passN pk hall hks hdb hpl, re_callK ?_ rk⟩
  intro B Γ σ H G Q Q' E w k
  exact k [] H G [] Γ E (Same.refl _) (KS.refl _) .nil w
theorem de_callKCV {S : PSpX} {k n : Nat} {ps ks : List Str} {is : List Nat} {x : Str} {p : Pos} {kws : List Keyword} {Wr Wk : WPA} (C : CalKX X.prog X.w X.K X.mg X.base x ps k S n ks is) (hr : Room k X.A) (hg : Gl X x) (ha : DPA X (e :: es) Wr) (hk : DPK X kws Wk)
    (hall : (backToKw pos (keywordEach kws X.env)).all (·.1.isSome) = true := by rfl) (hks : (backToKw pos (keywordEach kws X.env)).filterMap (·.1) = ks := by rfl)
    (hdb : (x == ("__debug__" : Str)) = false := by decide) (he : starEach (e :: es) X.env = (false, eval e X.env) :: starEach es X.env := by rfl)
    (hpl : ((backTo pos (starEach (e :: es) X.env)).any (·.1) || (backToKw pos (keywordEach kws X.env)).any (·.1.isNone)) = false := by rfl) :
    DE X (.Call (.Name x p) (e :: es) kws pos) (wCallK (noX S) Wr Wk n ks.length is) := by
  obtain ⟨f, fd, h1, h2, h3, h4⟩ := C.ex
  obtain ⟨t, pk, rk⟩ := hk.ex
  obtain ⟨ta, pa, ra⟩ := ha.ex
  exact ⟨_, pe_callN (E := L2.E0) (fn_calm h4) hr hg h1 h2 h3 passN pa pk hall hks hdb he hpl, re_callK ra rk⟩
end
end DL

namespace DL
open PySem PySem.Spec PyProof.Rows L2
/-- an error of the class at S is what 'except S' names -/
theorem exm_self {K : PySem.W.Frag} {S : Addr} (h1 : PySem.W.subIn K (.ref S) (.type "BaseException") = some true) (h2 : PySem.W.isClsIn K S = true) (h3 : PySem.W.typeIn K (.ref S) = some (.type "type")) (h4 : PySem.W.subIn K (.ref S) (.ref S) = some true) :
    PySem.W.exmOne K (.ref S) (.ref S) = some true := by
  have e2 : (PySem.W.clsIn K S).isSome = true := h2
  simp [PySem.W.exmOne, PySem.W.kitCls, h1, e2, h3, h4]
end DL

/-! ## sets of texts that are walked -/
namespace DL
open PySem PySem.Spec PyProof.Rows L2 PySem.Froz
/-- the set of the texts l at a, its table D -/
structure SetS (P : Program) (w : World) (h : Heap) (a : Addr) (D : SD) (l : List Str) : Prop where
  obj : h.get? a = some (sObj "set" D)
  ok : TxOk P w D l
  nd : l.Nodup
  ris : Ris D.2.2.place.toList
  led : w.params.followText "set-order" = true ∨ D.2.2.led = true
section
variable {P : Program} {w : World} {A : Around} {E : Value → Shared → Prop} {s : Shared} {a : Addr} {D : SD} {l : List Str} {k : Str} {u : Tok}
theorem SetS.keep {h h' : Heap} (S : SetS P w h a D l) (ha : ∀ o, h.get? a = some o → h'.get? a = some o) : SetS P w h' a D l := ⟨ha _ S.obj, S.ok, S.nd, S.ris, S.led⟩
theorem tail_ris {ep : Nat} {es1 : Array (Int × Value)} {t2 : SetTable} {wd : Bool} (r : Ris t2.place.toList) : Ris (tailTx ep es1 t2 wd).2.2.place.toList ∧ (tailTx ep es1 t2 wd).2.2.led = t2.led := by
  unfold tailTx
  by_cases c : (!wd && t2.tooFull) = true
  · rw [if_pos c]
    exact ⟨relayAll_ris t2 es1 _, relayAll_led t2 es1 _⟩
  · rw [if_neg c]
    exact ⟨r, rfl⟩
theorem add_ris {h : Int} {v : Value} (r : Ris D.2.2.place.toList) : Ris (addTx h v D).2.2.place.toList ∧ (addTx h v D).2.2.led = D.2.2.led := by
  have q1 := layNew_ris D.2.2 D.1 h v r
  have q2 := layNew_led D.2.2 D.1 h v
  unfold addTx
  by_cases c : (layNew D.2.2 D.1 h v).2.1.plain = true
  · rw [if_pos c]
    obtain ⟨x, y⟩ := tail_ris (ep := D.2.1) (es1 := (layNew D.2.2 D.1 h v).1) (t2 := { (layNew D.2.2 D.1 h v).2.1 with plain := false }) (wd := (layNew D.2.2 D.1 h v).2.2.1) q1
    exact ⟨x, y.trans q2⟩
  · rw [if_neg c]
    obtain ⟨x, y⟩ := tail_ris (ep := D.2.1) (es1 := (layNew D.2.2 D.1 h v).1) (t2 := (layNew D.2.2 D.1 h v).2.1) (wd := (layNew D.2.2 D.1 h v).2.2.1) q1
    exact ⟨x, y.trans q2⟩
/-- a text that is there -/
theorem add_have {Q : Bool → Shared → Prop} (S : SetS P w s.heap a D l) (hk : k ∈ l) (hb : l.length < scanBound) (h : Q false s) : wpAny (model P w) A (setAddHashed a (.str k u) (hashStr w k)) Q E s := by
  obtain ⟨es, ep, t⟩ := D
  have key : (strKind P w).is k (.str k u) = true := is_str k u
  have sz : es.size = l.length := S.ok.sz
  have el : ElemsOf (strKind P w) es.toList := S.ok.el
  have ft : t.fits es.size = true := S.ok.fit
  unfold setAddHashed setAddHashedIn
  refine wpAny_holding (wpAny_bind (wpAny_setState_of S.obj rfl ft ?_))
  dsimp only
  rw [byScan_of (x := .str k u) rfl (by omega) el]
  simp only [↓reduceIte]
  unfold setAddByScan
  refine wpAny_bind ?_
  refine wpAny_bind (wpAny_rule ?_)
  refine wpAny_bind (wpAny_setScan_of key S.obj rfl ft el ?_)
  cases hf : List.findIdx? (fun e => (strKind P w).is k e.2) es.toList with
  | some j => exact wpAny_pure (wpAny_pure h)
  | none =>
    obtain ⟨e, he, q⟩ := (S.ok.mem k).mp hk
    have := List.findIdx?_eq_none_iff.mp hf e he
    rw [q] at this
    cases this
/-- one text more, or one that is there -/
theorem add_s {Q : Bool → Shared → Prop} (S : SetS P w s.heap a D l) (hb : l.length + 1 < scanBound)
    (hQ : ∀ b h' D' l', (∀ c, c ≠ a → h'.get? c = s.heap.get? c) → SetS P w h' a D' l' → l' = (if k ∈ l then l else k :: l) → Q b { s with heap := h' }) :
    wpAny (model P w) A (setAddHashed a (.str k u) (hashStr w k)) Q E s := by
  by_cases hk : k ∈ l
  · exact add_have S hk (by omega) (hQ false s.heap D l (fun _ _ => rfl) S (by rw [if_pos hk]))
  · refine add_x S.obj S.ok hk hb (hQ true _ (addTx (hashStr w k) (.str k u) D) (k :: l) (fun c hc => Heap.get?_update_other _ _ (Ne.symm hc)) ⟨?_, add_ok u S.ok, List.nodup_cons.mpr ⟨hk, S.nd⟩, (add_ris S.ris).1, S.led.imp id fun z => by rw [(add_ris S.ris).2]; exact z⟩ (by rw [if_neg hk]))
    rw [Heap.get?_update_self _ S.obj rfl]
end
end DL

/-! ## a list of texts put into a set -/
namespace DL
open PySem PySem.Spec PyProof.Rows L2 PySem.Froz
def stepS (l : List Str) (x : Str) : List Str := if x ∈ l then l else x :: l
/-- what a set has got of some texts -/
def gotS (xs : List Str) : List Str := xs.foldl stepS []
theorem gotS_next {xs : List Str} {i : Nat} {x : Str} (h : xs[i]? = some x) : gotS (xs.take (i + 1)) = stepS (gotS (xs.take i)) x := by
  unfold gotS
  rw [List.take_add_one, h, List.foldl_append]
  rfl
theorem foldS_len : ∀ (xs l : List Str), (xs.foldl stepS l).length ≤ l.length + xs.length
  | [], l => Nat.le_refl _
  | x :: xs, l => by
    have ih := foldS_len xs (stepS l x)
    have : (stepS l x).length ≤ l.length + 1 := by
      unfold stepS
      split
      · omega
      · exact Nat.le_refl _
    show (xs.foldl stepS (stepS l x)).length ≤ l.length + (xs.length + 1)
    omega
theorem gotS_len (xs : List Str) : (gotS xs).length ≤ xs.length := by
  have := foldS_len xs []
  simpa [gotS] using this
section
variable {P : Program} {w : World} {A : Around} {E : Value → Shared → Prop}
theorem upd_texts {I : Addr} {fp wr : List Addr} {G : Array GenState → Array GenState → Prop} {n : Nat} {Pv : Nat → Value → Prop} {St : Nat → Shared → Prop} {R : Result → Shared → Prop} (W : WalksS P w A.in1 I fp wr G n Pv St) (S : Addr) (nf : S ∉ fp) (xs : List Str)
    (hn : n = xs.length) (few : xs.length + 1 < scanBound) (hv : ∀ i v, Pv i v → ∃ x u, xs[i]? = some x ∧ v = .str x u) (h0 : Heap) (nS : h0.get? S = none) (nw : ∀ b ∈ wr, h0.get? b = none) :
    ∀ (m i : Nat) (s : Shared), n - i = m → i ≤ n → St i s → (∀ b o, h0.get? b = some o → s.heap.get? b = some o) → (∃ D, SetS P w s.heap S D (gotS (xs.take i))) →
      (∀ s' D, Moved (S :: wr) G s s' → SetS P w s'.heap S D (gotS xs) → (∀ b o, h0.get? b = some o → s'.heap.get? b = some o) → R (.ok (.ret .none)) s') →
      codeAny (model P w) A (.builtin "set.update.loop" ⟨[.ref S, .ref I], []⟩) R s := by
  have nr : S ∉ wr := fun h => nf (W.sub _ h)
  have up : ∀ b ∈ wr, b ∈ S :: wr := fun b hb => List.mem_cons_of_mem _ hb
  have old : ∀ {s s' : Shared}, Moved wr G s s' → (∀ b o, h0.get? b = some o → s.heap.get? b = some o) → ∀ b o, h0.get? b = some o → s'.heap.get? b = some o := fun hm q b o e =>
    hm.heap b o (fun hb => by rw [nw b hb] at e; cases e) (q b o e)
  intro m
  induction m with
  | zero =>
    intro i s hm hi st q ⟨D, hS⟩ hR
    have ei : i = n := by omega
    subst ei
    refine codeAny_builtin F.entry_set_update_loop ?_
    rw [Around.under_plainId F.plain_set_update_loop _]
    show wpAny _ A.in1 (pyNext (.ref I) >>= _) _ _ s
    refine wpAny_bind (W.done s _ _ st fun s' mv => ?_)
    have e : xs.take i = xs := List.take_of_length_le (by omega)
    rw [e] at hS
    exact wpAny_pure (hR s' D (mv.mono up) (hS.keep fun o z => mv.heap S o nr z) (old mv q))
  | succ m ih =>
    intro i s hm hi st q ⟨D, hS⟩ hR
    have lt : i < n := by omega
    refine codeAny_builtin F.entry_set_update_loop ?_
    rw [Around.under_plainId F.plain_set_update_loop _]
    show wpAny _ A.in1 (pyNext (.ref I) >>= _) _ _ s
    refine wpAny_bind (W.item i s _ _ lt st fun v s' hP st' mv => ?_)
    obtain ⟨x, u, hx, rfl⟩ := hv i v hP
    have q' := old mv q
    have hS' := hS.keep (h' := s'.heap) fun o z => mv.heap S o nr z
    show wpAny _ A.in1 (holding [Value.str x u] (setAdd S (.str x u)) >>= _) _ _ s'
    refine wpAny_bind (wpAny_holding ?_)
    unfold setAdd
    refine wpAny_holding ?_
    refine wpAny_bind ((strKind P w).pyHash (is_str x u) ?_)
    have bd : (gotS (xs.take i)).length + 1 < scanBound := by
      have h1 := gotS_len (xs.take i)
      have h2 : (xs.take i).length ≤ xs.length := by
        rw [List.length_take]
        omega
      omega
    refine add_s (s := { s' with toks := s'.toks + 1 }) hS' bd fun b h' D' l' same hS2 el => ?_
    have el : l' = gotS (xs.take (i + 1)) := el.trans (gotS_next hx).symm
    subst el
    have q2 : ∀ c o, h0.get? c = some o → h'.get? c = some o := fun c o z => (same c (fun y => by rw [y, nS] at z; cases z)).trans (q' c o z)
    refine wpAny_pure ⟨plainId_quiet F.plain_set_update_loop _, ih (i + 1) _ (by omega) lt (W.frame _ s' _ _ st' (Nat.le_add_right _ _) fun b hb o z => ?_) q2 ⟨D', hS2⟩ fun s'' D2 mv2 hS3 q3 => ?_⟩
    · rw [same b (fun y : b = S => nf (by rw [← y]; exact hb))]
      exact z
    · refine hR s'' D2 (Moved.trans W.gtrans ((mv.mono up).then_heap (Nat.le_add_right _ _) fun b o hb z => ?_) mv2) hS3 q3
      rw [same b (fun y : b = S => hb (by rw [y]; exact List.mem_cons_self))]
      exact z
end
end DL

/-! ## set(xs), xs a list of texts -/
namespace DL
open PySem PySem.Spec PyProof.Rows L2 PySem.Froz
abbrev freshS (w : World) : Obj := { cls := .type "set", dict := none, data := .set #[] 0 (.fresh 0 0 (!w.params.followText "set-order")) }
section
variable {P : Program} {w : World} {A : Around} {E : Value → Shared → Prop} {s : Shared}
theorem setS_fresh {h : Heap} {a : Addr} (e : h.get? a = some (freshS w)) : SetS P w h a (#[], 0, .fresh 0 0 (!w.params.followText "set-order")) [] where
  obj := e
  ok := TxOk.nil rfl
  nd := List.nodup_nil
  ris := List.Pairwise.nil
  led := by
    show _ ∨ (!w.params.followText "set-order") = true
    cases w.params.followText "set-order" <;> simp
set_option maxHeartbeats 8000000 in
theorem call_set_texts {l : Addr} {its : Array Value} {xs : List Str} {Q : Value → Shared → Prop} (hh : A.handled = none) (hl : s.heap.IsList l its) (hi : StrsAre its.toList xs) (few : xs.length + 1 < scanBound)
    (h : ∀ (h' : Heap) (tk : Nat) D, SetS P w h' s.heap.objs.size D (gotS xs) → (∀ b o, s.heap.get? b = some o → h'.get? b = some o) → Q (.ref s.heap.objs.size) { s with heap := h', toks := tk }) :
    wpAny (model P w) A (call (.type "set") [.ref l]) Q E s := by
  have sz : its.size = xs.length := by rw [← StrsAre.len_eq hi, Array.length_toList]
  obtain ⟨cc, ct, cmro⟩ := F.called_set.mro
  have cmade := F.called_set.made
  have csub := F.called_set.sub
  refine wpAny_call (codeAny_of_tree ?_)
  show wpAny _ _ (callAny (.type "set") _) _ _ _
  refine wpAny_pure ⟨Code.quiet_builtin _ (by decide +kernel), codeAny_builtin F.entry_type_call ?_⟩
  rw [Around.under_plain (weight_type_call_type "set" [.ref l] []) rfl]
  have c1 := F.called_set.notType
  have c2 := F.called_set.canCreate
  have c3 := F.typeCall_set_1 (.ref l)
  repeat (any_goals (first | assumption | wp_step))
  refine codeAny_mono (code_set_led1 (.ref l) (E := E) (Q₁ := fun obj s₁ => obj = .ref s.heap.objs.size ∧ s₁ = { s with heap := s.heap.push (freshS w) }) ⟨rfl, rfl⟩) fun r s₁ hr => ?_
  rcases r with e | (obj | _ | _ | _) <;> first | exact hr | exact hr.elim | skip
  obtain ⟨rfl, rfl⟩ := hr
  have atS : (s.heap.push (freshS w)).get? s.heap.objs.size = some (freshS w) := Heap.get?_push_size _ rfl
  have tyS : Shared.TypeIs { s with heap := s.heap.push (freshS w) } (.ref s.heap.objs.size) "set" := ⟨_, atS, rfl⟩
  have i1 := F.called_set.init.lookup
  have i2 := F.called_set.init.bind (.ref s.heap.objs.size)
  repeat (any_goals (first | assumption | wp_step))
  refine codeAny_mono (codeAny_call_builtin (R := wants (fun r s₂ => r = .none ∧ ∃ h' tk D, s₂ = { s with heap := h', toks := tk } ∧ SetS P w h' s.heap.objs.size D (gotS xs) ∧ (∀ b o, s.heap.get? b = some o → h'.get? b = some o)) E)
    F.called_set.init.plain F.entry_set_init (check_set_init_1 tyS ?_)) fun r₂ s₂ hr₂ => ?_
  · obtain ⟨ol, gol, kol, nl, dol⟩ := hl
    obtain ⟨ocls, odict, odata, oslots⟩ := ol
    simp only at kol dol
    subst kol dol
    have gol' : (s.heap.push (freshS w)).get? l = some { cls := .type "list", dict := odict, data := .seq its nl, slots := oslots } := Heap.get?_push_of_some _ gol
    have f1 := F.sub_list_set
    have f2 := F.sub_list_frozenset
    have f3 : (Value.type "list" == Value.type "dict") = false := by decide
    have isl : (s.heap.push (freshS w)).IsList l its := ⟨_, gol', rfl, nl, rfl⟩
    unfold Builtin.«set.__init__» noKeywords Builtin.Frozenset.updateFrom
    generalize hIt : pyIter = It
    wp_walk
    subst hIt
    refine wpAny_pyIter_list isl ?_
    refine wpAny_bind (wpAny_runValue ?_)
    have ltl : l < s.heap.objs.size := Heap.lt_size gol
    have noh : A.in1.in1.in1.handled = none := by simp [hh]
    have ne1 : l ≠ (s.heap.push (freshS w)).objs.size := by
      rw [Heap.size_push]
      exact Nat.ne_of_lt (Nat.lt_succ_of_lt ltl)
    have nf : s.heap.objs.size ∉ [(s.heap.push (freshS w)).objs.size, l] := by
      rw [Heap.size_push]
      simp only [List.mem_cons, List.not_mem_nil, or_false, not_or]
      exact ⟨Nat.ne_of_lt (Nat.lt_succ_self _), Nat.ne_of_gt ltl⟩
    have val : ∀ (i : Nat) (v : Value), its[i]? = some v → ∃ x u, xs[i]? = some x ∧ v = .str x u := fun i v hv => by
      have lt : i < xs.length := by
        rw [← sz]
        exact (Array.getElem?_eq_some_iff.mp hv).1
      obtain ⟨u, e⟩ := SS.strs_at hi i v (by rw [Array.getElem?_toList]; exact hv)
      rw [List.getD_eq_getElem?_getD, List.getElem?_eq_getElem lt] at e
      exact ⟨xs[i], u, List.getElem?_eq_getElem lt, e⟩
    have non : ∀ b, s.heap.objs.size ≤ b → s.heap.get? b = none := fun b hb => by
      cases q : s.heap.get? b with
      | none => rfl
      | some o => exact absurd (Nat.lt_of_lt_of_le (Heap.lt_size q) hb) (Nat.lt_irrefl _)
    refine upd_texts ((Walks.list noh _ l ne1 its).toS) s.heap.objs.size nf xs sz few val s.heap (non _ (Nat.le_refl _)) (fun b hb => non b (by rw [List.mem_singleton.mp hb, Heap.size_push]; exact Nat.le_succ _))
      (its.size - 0) 0 _ (by omega) (Nat.zero_le _) ⟨⟨_, Heap.get?_push_size _ rfl, rfl, rfl⟩, (isl.push _)⟩ (fun b o e => Heap.get?_push_of_some _ (Heap.get?_push_of_some _ e)) ⟨_, setS_fresh (Heap.get?_push_of_some _ atS)⟩ ?_
    intro s' D mv hS q
    obtain ⟨h', g2, d', tk', os'⟩ := s'
    have e1 : g2 = s.gens := mv.gens
    have e2 : d' = s.drawn := mv.drawn
    have e3 : os' = s.os := mv.os
    subst e1 e2 e3
    show wpAny _ _ _ _ _ _
    refine wpAny_pure ?_
    show wpAny _ _ (ret Value.none) _ _ _
    exact wpAny_pure ⟨rfl, h', tk', D, rfl, hS, q⟩
  · rcases r₂ with e | (v | _ | _ | _) <;> first | exact hr₂ | exact hr₂.elim | skip
    obtain ⟨rfl, h', tk, D, rfl, hS, q⟩ := hr₂
    repeat (any_goals (first | assumption | wp_step))
    exact h _ _ _ hS q
end
end DL

/-! ## sorted(s), s a set of texts -/
namespace DL
open PySem PySem.Spec PyProof.Rows L2 PySem.Froz
def leS (a b : Str) : Bool := decide (a.cps.toList ≤ b.cps.toList)
/-- the texts in order -/
def sortS (l : List Str) : List Str := l.mergeSort leS
theorem leS_trans (a b c : Str) (h1 : leS a b = true) (h2 : leS b c = true) : leS a c = true := by
  unfold leS at *
  rw [decide_eq_true_iff] at *
  exact List.le_trans h1 h2
theorem leS_total (a b : Str) : (leS a b || leS b a) = true := by
  unfold leS
  rw [Bool.or_eq_true, decide_eq_true_iff, decide_eq_true_iff]
  exact List.le_total _ _
theorem leS_anti (a b : Str) (h1 : leS a b = true) (h2 : leS b a = true) : a = b := by
  unfold leS at *
  rw [decide_eq_true_iff] at *
  have e := List.le_antisymm h1 h2
  obtain ⟨⟨x⟩⟩ := a
  obtain ⟨⟨y⟩⟩ := b
  simp only at e
  rw [e]
theorem sort_perm {a l : List Str} (h : a.Perm l) : sortS a = sortS l := by
  unfold sortS
  exact PySem.W.Srt.the_of_perm leS leS_trans leS_total leS_anti ((List.mergeSort_perm a leS).trans h) (List.pairwise_mergeSort leS_trans leS_total a)
/-- as many, and all of them: the same but for the order -/
theorem perm_of_sub : ∀ (l ks : List Str), l.Nodup → (∀ x ∈ l, x ∈ ks) → ks.length = l.length → ks.Perm l
  | [], ks, _, _, h => by
    have : ks = [] := List.length_eq_zero_iff.mp h
    rw [this]
  | x :: l, ks, nd, sub, h => by
    obtain ⟨nx, nd⟩ := List.nodup_cons.mp nd
    have hx : x ∈ ks := sub x (by simp)
    have p := List.perm_cons_erase hx
    refine p.trans (List.Perm.cons x (perm_of_sub l (ks.erase x) nd (fun y hy => ?_) ?_))
    · exact (List.mem_erase_of_ne (fun e => nx (by rw [← e]; exact hy))).mpr (sub y (by simp [hy]))
    · rw [List.length_erase_of_mem hx, h]
      rfl
def strOf : Value → Str
  | .str x _ => x
  | _ => Str.empty
section
variable {P : Program} {w : World} {A : Around} {E : Value → Shared → Prop} {s : Shared} {a : Addr} {D : SD} {l : List Str}
theorem isStr_of {x : Str} {v : Value} (h : (strKind P w).is x v = true) : ∃ u, v = .str x u := by
  have h : Value.isStrOf x v = true := h
  cases v with
  | str y u =>
    have : y = x := by simpa [Value.isStrOf] using h
    exact ⟨u, by rw [this]⟩
  | _ => simp [Value.isStrOf] at h
theorem SetS.texts {h : Heap} (S : SetS P w h a D l) : (D.1.toList.map fun e => strOf e.2).Perm l ∧ ∀ e ∈ D.1.toList, ∃ u, e.2 = .str (strOf e.2) u := by
  refine ⟨perm_of_sub l _ S.nd (fun x hx => ?_) ?_, fun e he => ?_⟩
  · obtain ⟨e, he, q⟩ := (S.ok.mem x).mp hx
    obtain ⟨u, eu⟩ := isStr_of q
    refine List.mem_map.mpr ⟨e, he, ?_⟩
    rw [eu]
    rfl
  · rw [List.length_map, Array.length_toList]
    exact S.ok.sz
  · obtain ⟨⟨k, q, _⟩, _⟩ := S.ok.el e he
    obtain ⟨u, eu⟩ := isStr_of q
    exact ⟨u, by rw [eu]; rfl⟩
end
end DL

namespace DL
open PySem PySem.Spec PyProof.Rows L2 PySem.Froz
section
variable {P : Program} {w : World} {A : Around} {E : Value → Shared → Prop} {s : Shared} {a : Addr} {D : SD} {l : List Str}
theorem each_of : ∀ vs : List Value, (∀ v ∈ vs, ∃ u, v = .str (strOf v) u) → PySem.W.EachIs (fun (v : Value) (b : Str) => ∃ u, v = .str b u) vs (vs.map strOf)
  | [], _ => .nil
  | v :: vs, h => .cons (h v (by simp)) (each_of vs fun x hx => h x (by simp [hx]))
theorem strsAre_each : ∀ {vs : List Value} {bs : List Str}, PySem.W.EachIs (fun (v : Value) (b : Str) => ∃ u, v = .str b u) vs bs → StrsAre vs bs
  | _, _, .nil => .nil
  | _, _, .cons ⟨u, e⟩ t => by
    subst e
    exact .cons _ u (strsAre_each t)
theorem sorted_texts {Q : Value → Shared → Prop} (S : SetS P w s.heap a D l) (hh : A.handled = none) (few : l.length < scanBound) (hu : A.units + 64 < cLine)
    (hQ : ∀ s' p (out : Array Value) (c : Nat), (∀ b o, s.heap.get? b = some o → s'.heap.get? b = some o) → s'.gens = s.gens → s'.os = s.os → s.heap.objs.size ≤ p → s'.heap.get? p = some (seqObj "list" out c) → StrsAre out.toList (sortS l) → Q (.ref p) s') :
    wpAny (model P w) A (call (.builtin "sorted") [.ref a]) Q E s := by
  obtain ⟨pk, pv⟩ := S.texts
  have sz : D.1.size = l.length := S.ok.sz
  refine Calls.call_function_entry kind_sorted plain_sorted entry_sorted (args_sorted1 _) ?_
  unfold Builtin.«sorted»
  refine wpAny_bind (m := checkCount "sorted" 1 1 _) (wpAny_pure ?_)
  refine wpAny_bind (collect_set (A := A.in1) hh ⟨_, S.obj, rfl, rfl⟩ S.ok.fit (by rw [sz]; exact few) S.ris S.led fun s1 vs k1 hz g1 o1 pm => ?_)
  have vl : vs.length = l.length := by rw [pm.length_eq, List.length_map, Array.length_toList]; exact sz
  have vstr : ∀ v ∈ vs, ∃ u, v = .str (strOf v) u := fun v hv => by
    obtain ⟨e, he, q⟩ := List.mem_map.mp (pm.mem_iff.mp hv)
    rw [← q]
    exact pv e he
  have bl : (vs.map strOf).Perm l := by
    have q := pm.map strOf
    rw [List.map_map] at q
    exact q.trans pk
  have big : vs.length ≤ sizeLine := by
    rw [vl, sizeLine_eq]
    have : scanBound ≤ 16777216 := by unfold scanBound; omega
    omega
  refine wpAny_bind (wpAny_newList ?_ big)
  have atL : (s1.heap.push (seqObj "list" vs.toArray 0)).get? s1.heap.objs.size = some (seqObj "list" vs.toArray 0) := Heap.get?_push_size _ rfl
  have er : PySem.W.EachIs (fun (v : Value) (b : Str) => ∃ as, Reads (s1.heap.push (seqObj "list" vs.toArray 0)) v (PyData.str b) as ∧ s1.heap.objs.size ∉ as) vs (vs.map strOf) := (each_of vs vstr).mono fun v b ⟨u, e⟩ => by
    subst e
    exact ⟨[], .str _ _, fun z => by cases z⟩
  refine wpAny_bind (wpAny_holding (PySem.W.list_sort_data (R := fun (v : Value) (b : Str) => ∃ u, v = .str b u) (enc := PyData.str) atL (each_of vs vstr) er (PySem.W.AllAlike.of fun b b' => rfl) (PySem.W.Sortable.others (enc := PyData.str) fun b => by
    constructor
    · intro z
      cases z
    · intro xs z
      cases z) (by rw [List.length_map]; exact big) (fun b _ => ?_) fun out ol oe => ?_))
  · show _ + 1 + (PyData.str b).depth < cLine
    simp [PyData.depth]
    omega
  obtain ⟨c, hc⟩ := sortedHeap_at (vs := vs) (out := out.toArray) atL
  refine wpAny_pure ⟨_, rfl, hQ { s1 with heap := sortedHeap (s1.heap.push (seqObj "list" vs.toArray 0)) s1.heap.objs.size vs out.toArray } s1.heap.objs.size out.toArray c (fun b o e => ?_) g1 o1 hz hc ?_⟩
  · have q := k1 b o e
    have lt := Heap.lt_size q
    show (sortedHeap (s1.heap.push (seqObj "list" vs.toArray 0)) s1.heap.objs.size vs out.toArray).get? b = some o
    rw [sortedHeap_old (Nat.ne_of_lt lt) (by rw [size_push']; exact Nat.lt_succ_of_lt lt)]
    exact Heap.get?_push_of_some _ q
  · have e1 : (vs.map strOf).mergeSort (PySem.W.dataLe false PyData.str) = sortS l := by
      have e2 : (PySem.W.dataLe false PyData.str : Str → Str → Bool) = leS := PySem.W.dataLe_str (fun b => b)
      rw [e2]
      exact sort_perm bl
    rw [e1] at oe
    exact strsAre_each oe
end
end DL

/-! ## sorted(set(e)), e a list of texts -/
namespace DL
open PySem PySem.Spec PyProof.Rows L2 PySem.Froz
theorem sort_len (l : List Str) : (sortS l).length = l.length := List.length_mergeSort ..
def asSet (xs : List Str) : List Str := sortS (gotS xs)
theorem asSet_len (xs : List Str) : (asSet xs).length ≤ xs.length := by
  unfold asSet
  rw [sort_len]
  exact gotS_len xs
def tSortSet (K : PySem.W.Frag) (te : TE) : TE := fun σ H Q => te σ H fun x H1 => ∃ a, ∃ xs : List Str, x = .ref a ∧ SqL K H1 a (xs.map V.str) ∧ xs.length ≤ 1000 ∧ ∀ p, H1 p = none → Q (.ref p) (upd H1 p (.lst ((asSet xs).map V.str)))
section
variable {X : Cx} {e : Expr} {te : TE} {We : WE} {p p2 pos pos2 : Pos}
theorem pe_sortSet (hc : X.calm = true) (hu : X.A.units + 64 < cLine) (hg : Gl X "sorted") (hm : X.mg "sorted" = none) (hg2 : Gl X "set") (hm2 : X.mg "set" = none) (he : PE X e te)
    (na : starEach [e] X.env = (false, eval e X.env) :: starEach [] X.env := by rfl) (nb : starEach [.Call (.Name "set" p2) [e] [] pos2] X.env = (false, eval (.Call (.Name "set" p2) [e] [] pos2) X.env) :: starEach [] X.env := by rfl) :
    PE X (.Call (.Name "sorted" p) [.Call (.Name "set" p2) [e] [] pos2] [] pos) (tSortSet X.K te) := by
  refine ⟨fun pins s σ H Q I h => ?_⟩
  refine Call_ (ld_blt I hg hm boot_sorted ?_)
  refine PyProof.Rows.callWith_builtin1 (PyProof.Rows.args_cons ?_ nb) nb rfl
  refine Call_ (ld_blt I hg2 hm2 boot_set ?_)
  refine PyProof.Rows.callWith_type1 (PyProof.Rows.args_cons (thn (he.run pins s σ H _ I h) fun v s1 ⟨x, H1, I1, r1, l, xs, ex, hq, hl, q⟩ => PyProof.Rows.args_nil ?_) na) na rfl
  subst ex
  cases r1
  obtain ⟨its, r, pl, hz⟩ := I1.list hq
  have sb : (1000 : Nat) + 2 < scanBound := by unfold scanBound; omega
  refine call_set_texts (P := X.prog) (w := X.w) (I1.ok.hd hc) pl.isList (by simpa using strsAre_of r) (by omega) fun h' tk D hS kp => ?_
  refine PyProof.Rows.args_nil ?_
  have I2 : Inv X pins σ H1 { s1 with heap := h', toks := tk } := I1.kept kp
  have gl := gotS_len xs
  refine sorted_texts (P := X.prog) (w := X.w) (s := { s1 with heap := h', toks := tk }) hS (I1.ok.hd hc) (by omega) hu fun s' p out c k g o hp hgt hi => ?_
  have al := asSet_len xs
  have len : ((asSet xs).map V.str).length ≤ sizeLine := by
    rw [List.length_map, sizeLine_eq]
    omega
  have hn : H1 p = none := I2.hok.fresh hp
  have J : Inv X pins σ (upd H1 p (.lst ((asSet xs).map V.str))) { ({ s1 with heap := h', toks := tk } : Shared) with heap := s'.heap, gens := s'.gens, drawn := s'.drawn, toks := s'.toks } :=
    I2.call (ch := []) (Un.laid k hp hn) (I2.hok.laid k hp ⟨len, out.toList, c, vals_of_strs hi, hgt⟩) (by rw [g]; exact I2.bare) (fun _ z => nomatch z)
  have es : s' = { ({ s1 with heap := h', toks := tk } : Shared) with heap := s'.heap, gens := s'.gens, drawn := s'.drawn, toks := s'.toks } := by
    cases s'
    cases s1
    cases o
    rfl
  rw [es]
  exact ⟨.ref p, _, J, rfl, q p hn⟩
/-! .. as a reading -/
@[simp] def wSortSet (We : WE) : WA := fun Γ Q => We Γ fun d Γ1 => ∃ xs : List Str, d = .list (xs.map PyData.str) ∧ xs.length ≤ 1000 ∧ Q ((asSet xs).map PyData.str) Γ1
theorem dd_strs {K : PySem.W.Frag} {G : Hp} : ∀ {vs : List V} {xs : List Str}, DdAll K G vs (xs.map PyData.str) → vs = xs.map V.str
  | _, [], h => by
    cases h
    rfl
  | _, x :: xs, h => by
    cases h with
    | cons h1 t =>
      cases h1
      rw [dd_strs t]
      rfl
theorem strs_dd {K : PySem.W.Frag} {G : Hp} : ∀ xs : List Str, DdAll K G (xs.map V.str) (xs.map PyData.str)
  | [] => .nil
  | x :: xs => .cons (.str x) (strs_dd xs)
theorem dn_sortSet (hc : X.calm = true) (hu : X.A.units + 64 < cLine) (hg : Gl X "sorted") (hm : X.mg "sorted" = none) (hg2 : Gl X "set") (hm2 : X.mg "set" = none) (he : DE X e We)
    (na : starEach [e] X.env = (false, eval e X.env) :: starEach [] X.env := by rfl) (nb : starEach [.Call (.Name "set" p2) [e] [] pos2] X.env = (false, eval (.Call (.Name "set" p2) [e] [] pos2) X.env) :: starEach [] X.env := by rfl) :
    DN X (.Call (.Name "sorted" p) [.Call (.Name "set" p2) [e] [] pos2] [] pos) (wSortSet We) := by
  obtain ⟨t, pe, r⟩ := he.ex
  refine ⟨_, pe_sortSet hc hu hg hm hg2 hm2 pe na nb, ?_⟩
  intro B Γ σ H G Q Q' E w k
  refine r B Γ σ H G _ _ E w fun v H1 G1 d Γ1 E1 s1 k1 d1 w1 => ?_
  obtain ⟨xs, ed, hl, w2⟩ := w1
  subst ed
  cases d1 with
  | lst ga da =>
    have ev := dd_strs da
    subst ev
    refine ⟨_, xs, rfl, SqL.of (E1.gh _ _ ga), hl, fun p hp => ?_⟩
    exact k p _ _ G1 _ Γ1 (E1.laidN hp) s1 k1 (E1.gnone hp) upd_same (strs_dd (asSet xs)) (E1.bnone hp) (E1.nn p hp) (fresh_own E1 hp) w2
end
end DL

/-! ## sets of rows of a kind: the table -/
namespace DL
open PySem PySem.Spec PyProof.Rows L2 PySem.Froz
/-- a kind of tuples that may stand in a set -/
structure RK (P : Program) (w : World) (α : Type) [DecidableEq α] where
  hk : HeapKind P w α
  cls : ∀ {A : Around} {E : Value → Shared → Prop} {s : Shared} {k : α} {b : Addr} {Q : Bool → Shared → Prop}, hk.is s.heap k b → Q false s → wpAny (model P w) A (ofAClassStatement 8 (.ref b)) Q E s
  hby : ∀ {A : Around} {E : Value → Shared → Prop} {s : Shared} {k : α} {b : Addr} {Q : Bool → Shared → Prop}, hk.is s.heap k b → (∀ c, Q c s) → wpAny (model P w) A (hashByValue 8 (.ref b)) Q E s
  keep : ∀ {h h' : Heap} {k : α} {b : Addr}, hk.is h k b → (∀ c o, h.get? c = some o → o.cls = .type "tuple" → h'.get? c = some o) → hk.is h' k b
section
variable {P : Program} {w : World} {α : Type} [DecidableEq α] (R : RK P w α)
/-- the hashes of the rows -/
def RK.hs (L : List (Addr × α)) : List Int := L.map fun p => R.hk.hash p.2
def RK.ents (L : List (Addr × α)) : List (Int × Value) := L.map fun p => (R.hk.hash p.2, Value.ref p.1)
/-- the set of the rows L at a -/
structure SetR (h : Heap) (a : Addr) (L : List (Addr × α)) (D : SD) : Prop where
  obj : h.get? a = some (sObj "set" D)
  ents : D.1.toList = R.ents L
  tab : TabOk D.2.2 (R.hs L)
  nd : (L.map (·.2)).Nodup
  row : ∀ p ∈ L, R.hk.is h p.2 p.1
  led : w.params.followText "set-order" = true ∨ D.2.2.led = true
  room : L.length * 5 < D.2.2.mask * 3
  few : L.length < 64
variable {R} {A : Around} {E : Value → Shared → Prop} {s : Shared} {h : Heap} {a : Addr} {L : List (Addr × α)} {D : SD} {k : α} {x : Addr}
theorem SetR.size (S : SetR R h a L D) : D.1.size = L.length := by
  have q := congrArg List.length S.ents
  simpa [RK.ents] using q
theorem SetR.fits (S : SetR R h a L D) : D.2.2.fits D.1.size = true := by
  have h1 : D.2.2.place.size = L.length := by simpa [RK.hs] using S.tab.sz
  have h2 := S.room
  unfold SetTable.fits SetTable.fill
  rw [S.tab.dm, S.size, h1, Bool.and_eq_true, beq_iff_eq, decide_eq_true_eq]
  refine ⟨rfl, ?_⟩
  show L.length + 0 ≤ _
  omega
theorem SetR.at_ (S : SetR R h a L D) {i : Nat} {p : Addr × α} (e : L[i]? = some p) : D.1[i]? = some (R.hk.hash p.2, Value.ref p.1) := by
  rw [← Array.getElem?_toList, S.ents, RK.ents, List.getElem?_map, e]
  rfl
theorem SetR.noGap (S : SetR R h a L D) : D.2.2.gaveWay = false := by
  unfold SetTable.gaveWay
  rw [mask_odd S.tab.mok]
  rfl
theorem nth_dummy (m : Nat) : ∀ (n : Nat) (p : SetTable.Probe), p.dummy = none → (nth m p n).dummy = none
  | 0, _, e => e
  | n + 1, p, e => nth_dummy m n (adv m p) (by unfold adv; split <;> exact e)
/-- looking through stored rows shows nothing -/
theorem seen_rows (hx : R.hk.is s.heap k x) {ys : List Value} (hy : ∀ y ∈ ys, ∃ k' c, y = Value.ref c ∧ R.hk.is s.heap k' c) {Q : Bool → Shared → Prop} (q : Q false s) : wpAny (model P w) A (searchCouldBeSeen (.ref x) ys) Q E s := by
  unfold searchCouldBeSeen
  refine wpAny_bind (wpAny_forIn_list _ (fun left r s' => r.1 = none ∧ s' = s ∧ ∀ y ∈ left, ∃ k' c, y = Value.ref c ∧ R.hk.is s.heap k' c) _ ?step ?done _ _ ⟨rfl, rfl, hy⟩)
  case done =>
    rintro ⟨r1, r2⟩ s' ⟨e, rfl, _⟩
    cases e
    exact wpAny_pure q
  case step =>
    rintro v left r s' ⟨hr, rfl, all⟩
    obtain ⟨k', c, rfl, hc⟩ := all v (by simp)
    have all' : ∀ y ∈ left, ∃ k' c, y = Value.ref c ∧ R.hk.is s'.heap k' c := fun y m => all y (by simp [m])
    dsimp only
    cases e : (x == c || (carriedByValue (.ref x) && carriedByValue (.ref c))) with
    | true => exact wp_if_pos rfl (wpAny_pure ⟨rfl, rfl, all'⟩)
    | false =>
      refine wp_if_neg (by simp) (wpAny_bind (R.hk.quiet hx ?_))
      simp only [Bool.not_true, Bool.false_eq_true, if_false]
      refine wpAny_bind (R.hk.quiet hc ?_)
      simp only [Bool.not_true, Bool.false_eq_true, if_false]
      refine wpAny_bind (R.cls hx ?_)
      simp only [Bool.false_eq_true, if_false]
      refine wpAny_bind (R.cls hc ?_)
      simp only [Bool.false_eq_true, if_false]
      exact wpAny_pure ⟨rfl, rfl, all'⟩
/-- the c-th stand of the search for a row -/
abbrev stand (t : SetTable) (hz : Int) (c : Nat) : SetTable.Probe := nth t.mask (runAt t.mask (SetTable.bits hz % (t.mask + 1)) (SetTable.bits hz)) c
theorem stand_add (t : SetTable) (hz : Int) (c q : Nat) : nth t.mask (stand t hz c) q = stand t hz (c + q) := (nth_add t.mask c _ q).symm
theorem find_row (S : SetR R s.heap a L D) (hx : R.hk.is s.heap k x) (hroom : R.hk.room A) {K : Nat} (hE : way D.2.2.mask (R.hk.hash k) K ∉ D.2.2.place.toList) (hF : ∀ c, c < K → way D.2.2.mask (R.hk.hash k) c ∈ D.2.2.place.toList) (hT : K < 10 * SetTable.turns D.2.2.mask) {Q : SetFound → Shared → Prop}
    (yes : k ∈ L.map (·.2) → Q (.there none) s) (no : k ∉ L.map (·.2) → Q (.free (way D.2.2.mask (R.hk.hash k) K) false) s) :
    ∀ (fuel c : Nat) (o : Option SetTable.Probe), o.getD (D.2.2.probeStart (R.hk.hash k)) = stand D.2.2 (R.hk.hash k) c → c ≤ K → K < fuel + c →
      (∀ (i : Nat) p, L[i]? = some p → p.2 = k → ∃ d, c ≤ d ∧ d < K ∧ D.2.2.place.toList[i]? = some (way D.2.2.mask (R.hk.hash k) d)) →
      wpAny (model P w) A (setSearchFrom a (.ref x) (R.hk.hash k) true fuel o) Q E s := by
  obtain ⟨es, ep, t⟩ := D
  intro fuel
  induction fuel with
  | zero => intro c o _ h1 h2 _; omega
  | succ fuel ih =>
    intro c o eo hc hf rest
    have fit : t.fits es.size = true := S.fits
    have gap : t.gaveWay = false := S.noGap
    have ent : ∀ {i : Nat} {p : Addr × α}, L[i]? = some p → es[i]? = some (R.hk.hash p.2, Value.ref p.1) := fun e => S.at_ e
    have hashAt : ∀ {i : Nat} {p : Addr × α}, L[i]? = some p → (es[i]?.map (·.1)).getD 0 = R.hk.hash p.2 := fun e => by rw [ent e]; rfl
    have ris := S.tab.ris
    have dm := S.tab.dm
    rw [setSearchFrom_succ]
    refine wpAny_bind (wpAny_setState_of S.obj rfl fit ?_)
    dsimp only
    refine wp_if_neg (by rw [gap]; decide) ?_
    try refine wpAny_bind (wpAny_pure ?_)
    have ej : ∀ q, (nth t.mask (stand t (R.hk.hash k) c) q).j = way t.mask (R.hk.hash k) (c + q) := fun q => congrArg SetTable.Probe.j (stand_add t (R.hk.hash k) c q)
    have what := go_spec t ris dm (fun i => (es[i]?.map (·.1)).getD 0) (R.hk.hash k) (10 * SetTable.turns t.mask) (K - c) (stand t (R.hk.hash k) c) (nth_dummy _ _ _ rfl) (by have : K < 10 * SetTable.turns t.mask := hT; omega)
      (fun q hq => by rw [ej]; exact hF (c + q) (by omega)) (by rw [ej, Nat.add_sub_cancel' hc]; exact hE)
    rcases what with ⟨q, i, hq, hi, hh, first, answer⟩ | ⟨none_, answer⟩
    · have answer' : t.probe (fun i => (es[i]?.map (·.1)).getD 0) (R.hk.hash k) (o.getD (t.probeStart (R.hk.hash k))) = some (.candidate (way t.mask (R.hk.hash k) (c + q)) i (stand t (R.hk.hash k) (c + (q + 1)))) := by
        have eo : o.getD (t.probeStart (R.hk.hash k)) = stand t (R.hk.hash k) c := eo
        rw [eo, ← ej, ← stand_add]
        exact answer
      rw [answer']
      dsimp only
      rw [ej] at hi
      have li : i < L.length := by
        have h1 := (List.getElem?_eq_some_iff.mp hi).1
        have h2 : t.place.size = L.length := by simpa [RK.hs] using S.tab.sz
        rwa [Array.length_toList, h2] at h1
      obtain ⟨p, hp⟩ : ∃ p, L[i]? = some p := ⟨_, List.getElem?_eq_getElem li⟩
      have pm : p ∈ L := List.mem_of_getElem? hp
      have pr := S.row p pm
      have on : wpAny (model P w) A (searchRest a (.ref x) (R.hk.hash k) true fuel es t (way t.mask (R.hk.hash k) (c + q)) i (stand t (R.hk.hash k) (c + (q + 1)))) Q E s := by
        unfold searchRest
        rw [ent hp]
        dsimp only
        refine wpAny_bind (wpAny_holding (R.hk.eqBool hroom pr hx ?_))
        refine wpAny_bind (wpAny_setState_of S.obj rfl fit ?_)
        dsimp only
        by_cases same : p.2 = k
        · exact wp_if_pos (by simp [same]) (wpAny_pure (yes (List.mem_map.mpr ⟨p, pm, same⟩)))
        · refine wp_if_neg (by simp [same]) ?_
          try refine wpAny_bind (wpAny_pure ?_)
          rw [sameMem]
          dsimp only
          have live : t.slot (way t.mask (R.hk.hash k) (c + q)) = .live i := slot_live ris hi
          simp only [if_true, live, ent hp]
          refine wpAny_bind (wpAny_isSame_ref_self (wpAny_bind (wpAny_pure ?_)))
          simp only [if_true]
          refine wp_if_neg (by simp [same]) ?_
          refine ih (c + (q + 1)) _ rfl (by omega) (by omega) fun j r hj hr => ?_
          obtain ⟨d, d1, d2, d3⟩ := rest j r hj hr
          refine ⟨d, ?_, d2, d3⟩
          by_cases d4 : d < c + q
          · exfalso
            refine first (d - c) j (by omega) (by rw [ej, Nat.add_sub_cancel' d1]; exact d3) ?_
            exact (hashAt hj).trans (congrArg R.hk.hash hr)
          · by_cases d5 : d = c + q
            · exfalso
              subst d5
              have l2 := slot_live ris d3
              have l3 : SetTable.Slot.live i = SetTable.Slot.live j := live.symm.trans l2
              injection l3 with l3
              subst l3
              rw [hp] at hj
              cases hj
              exact same hr
            · omega
      cases led : t.led with
      | true =>
        refine wp_if_neg (by simp) ?_
        try refine wpAny_bind (wpAny_pure ?_)
        exact on
      | false =>
        refine wp_if_pos (by simp) (wpAny_bind (seen_rows hx (fun y hy => ?_) ?_))
        · obtain ⟨e, he, rfl⟩ := List.mem_map.mp hy
          have he : e ∈ es.toList := by
            have : e ∈ es ∧ e.1 = R.hk.hash k := by simpa using he
            exact Array.mem_toList_iff.mpr this.1
          have en : es.toList = R.ents L := S.ents
          rw [en] at he
          obtain ⟨p2, hp2, rfl⟩ := List.mem_map.mp he
          exact ⟨p2.2, p2.1, rfl, S.row p2 hp2⟩
        · refine wp_if_neg (by decide) ?_
          try refine wpAny_bind (wpAny_pure ?_)
          exact on
    · have answer' : t.probe (fun i => (es[i]?.map (·.1)).getD 0) (R.hk.hash k) (o.getD (t.probeStart (R.hk.hash k))) = some (.empty (way t.mask (R.hk.hash k) K) none) := by
        have eo : o.getD (t.probeStart (R.hk.hash k)) = stand t (R.hk.hash k) c := eo
        have ew : way t.mask (R.hk.hash k) K = (nth t.mask (stand t (R.hk.hash k) c) (K - c)).j := by rw [ej, Nat.add_sub_cancel' hc]
        rw [eo, ew]
        exact answer
      rw [answer']
      dsimp only
      refine wpAny_pure (no fun hm => ?_)
      obtain ⟨p, pm, e⟩ := List.mem_map.mp hm
      obtain ⟨j, hj⟩ := List.getElem?_of_mem pm
      obtain ⟨d, d1, d2, d3⟩ := rest j p hj e
      refine none_ (d - c) j (by omega) (by rw [ej, Nat.add_sub_cancel' d1]; exact d3) ?_
      exact (hashAt hj).trans (congrArg R.hk.hash e)
theorem search_row (S : SetR R s.heap a L D) (hx : R.hk.is s.heap k x) (hroom : R.hk.room A) {Q : SetFound → Shared → Prop} (yes : k ∈ L.map (·.2) → Q (.there none) s)
    (no : ∀ K, k ∉ L.map (·.2) → way D.2.2.mask (R.hk.hash k) K ∉ D.2.2.place.toList → (∀ c, c < K → way D.2.2.mask (R.hk.hash k) c ∈ D.2.2.place.toList) → Q (.free (way D.2.2.mask (R.hk.hash k) K) false) s) :
    wpAny (model P w) A (setSearch a (.ref x) (R.hk.hash k) true) Q E s := by
  have h1 := S.room
  have hl : (R.hs L).length = L.length := by simp [RK.hs]
  obtain ⟨K, kT, kE, kF⟩ := S.tab.first (by rw [hl]; omega) (R.hk.hash k)
  have small : 10 * SetTable.turns D.2.2.mask ≤ 1420 := by
    unfold SetTable.turns
    rcases S.tab.mok with e | e | e <;> omega
  unfold setSearch
  refine find_row S hx hroom kE kF kT yes (fun n => no K n kE kF) 100000 0 none rfl (Nat.zero_le _) (by omega) fun i p hp hk => ?_
  have hi : (R.hs L)[i]? = some (R.hk.hash k) := by rw [RK.hs, List.getElem?_map, hp, ← hk]; rfl
  have li : i < D.2.2.place.toList.length := by
    rw [Array.length_toList, S.tab.sz, hl]
    exact (List.getElem?_eq_some_iff.mp hp).1
  have hj := List.getElem?_eq_getElem li
  obtain ⟨c, c1, c2⟩ := S.tab.before kE hi hj
  exact ⟨c, Nat.zero_le _, c1, by rw [hj, c2]⟩
end
end DL

/-! ## a row is put in -/
namespace DL
open PySem PySem.Spec PyProof.Rows L2 PySem.Froz
section
variable {P : Program} {w : World} {α : Type} [DecidableEq α] {R : RK P w α} {A : Around} {E : Value → Shared → Prop} {s : Shared} {a : Addr} {L : List (Addr × α)} {D : SD} {k : α} {x : Addr}
theorem row_but {h h' : Heap} {b : Addr} {T : String} (hx : R.hk.is h k b) (ho : h.get? a = some (sObj T D)) (hT : (Value.type T == Value.type "tuple") = false) (sb : Heap.SameBut a h h') : R.hk.is h' k b :=
  R.keep hx fun c o e et => by
    refine (sb.2 c fun z => ?_).trans e
    subst z
    rw [ho] at e
    cases e
    have : (Value.type T == Value.type "tuple") = true := by
      rw [show Value.type T = Value.type "tuple" from et]
      decide
    rw [hT] at this
    cases this
/-- rows in another order: the entries follow -/
theorem ents_order (L : List (Addr × α)) (es : Array (Int × Value)) (he : es.toList = R.ents L) : ∀ l : List Nat, (∀ i ∈ l, i < L.length) →
    l.filterMap (fun i => es[i]?) = R.ents (l.filterMap fun i => L[i]?) ∧ R.hs (l.filterMap fun i => L[i]?) = l.map fun i => (es.map (·.1)).getD i 0
  | [], _ => ⟨rfl, rfl⟩
  | i :: l, hl => by
    obtain ⟨e1, e2⟩ := ents_order L es he l fun j hj => hl j (by simp [hj])
    have li := hl i (by simp)
    have g : es[i]? = some (R.hk.hash (L[i]).2, Value.ref (L[i]).1) := by
      rw [← Array.getElem?_toList, he, RK.ents, List.getElem?_map, List.getElem?_eq_getElem li]
      rfl
    have gL : L[i]? = some L[i] := List.getElem?_eq_getElem li
    have eA : l.filterMap (fun i => es[i]?) = R.ents (l.filterMap fun i => L[i]?) := e1
    constructor
    · rw [List.filterMap_cons_some g, List.filterMap_cons_some gL, eA]
      rfl
    · rw [List.filterMap_cons_some gL, List.map_cons, ← e2]
      have : (es.map (·.1)).getD i 0 = R.hk.hash (L[i]).2 := by
        have q : (es.map (·.1))[i]? = some (R.hk.hash (L[i]).2) := by rw [Array.getElem?_map, g]; rfl
        simp [Array.getD_eq_getD_getElem?, q]
      rw [this]
      rfl
theorem range_all {β : Type} (L : List β) : (List.range L.length).filterMap (fun i => L[i]?) = L := by
  suffices h : ∀ n, n ≤ L.length → (List.range n).filterMap (fun i => L[i]?) = L.take n by
    rw [h _ (Nat.le_refl _), List.take_length]
  intro n
  induction n with
  | zero => intro _; simp
  | succ n ih =>
    intro hn
    rw [List.range_succ, List.filterMap_append, ih (by omega), List.take_add_one]
    simp [List.getElem?_eq_getElem (show n < L.length from hn)]
/-- what must hold of rows whose table may be full -/
structure Full (R : RK P w α) (h : Heap) (a : Addr) (L : List (Addr × α)) (D : SD) : Prop where
  obj : h.get? a = some (sObj "set" D)
  ents : D.1.toList = R.ents L
  tab : TabOk D.2.2 (R.hs L)
  nd : (L.map (·.2)).Nodup
  row : ∀ p ∈ L, R.hk.is h p.2 p.1
  led : w.params.followText "set-order" = true ∨ D.2.2.led = true
  fill : L.length ≤ D.2.2.mask
  few : L.length < 64
theorem relay_rows (F : Full R s.heap a L D) {wanted M : Nat} (hw : SetTable.sizeAbove wanted - 1 = M) (hM : MaskOk M) (hs : SetTable.sizeAbove wanted ≤ 128) (hn : L.length * 5 < M * 3) {Q : Unit → Shared → Prop}
    (q : ∀ h' L' D', Heap.SameBut a s.heap h' → SetR R h' a L' D' → L'.Perm L → Q () { s with heap := h' }) : wpAny (model P w) A (setRelay a wanted) Q E s := by
  obtain ⟨es, ep, t⟩ := D
  have en : es.toList = R.ents L := F.ents
  have sz : es.size = L.length := by
    have q := congrArg List.length en
    simpa [RK.ents] using q
  have ps : t.place.size = L.length := by simpa [RK.hs] using F.tab.sz
  have few := F.few
  have fill : L.length ≤ t.mask := F.fill
  have fit : t.fits es.size = true := by
    unfold SetTable.fits SetTable.fill
    rw [F.tab.dm, sz, ps, Bool.and_eq_true, beq_iff_eq, decide_eq_true_eq]
    exact ⟨rfl, fill⟩
  obtain ⟨t', order, e, pm, T, em, el, _, _⟩ := relaid_ok t (hs := es.map (·.1)) (wanted := wanted) hw hM (by rw [Array.size_map, sz]; omega)
  rw [Array.size_map, sz] at pm
  obtain ⟨o1, o2⟩ := ents_order L es en order.toList fun i hi => List.mem_range.mp (pm.mem_iff.mp hi)
  have pL : (order.toList.filterMap fun i => L[i]?).Perm L := by
    have := pm.filterMap fun i => L[i]?
    rwa [range_all] at this
  rw [← o2] at T
  have en' : (order.filterMap (es[·]?)).toList = R.ents (order.toList.filterMap fun i => L[i]?) := by
    rw [Array.toList_filterMap]
    exact o1
  generalize order.toList.filterMap (fun i => L[i]?) = L2 at pL T en'
  have sz' : (order.filterMap (es[·]?)).size = es.size := by
    have q := congrArg List.length en'
    rw [Array.length_toList, RK.ents, List.length_map, pL.length_eq] at q
    rw [q, sz]
  rw [setRelay_eq]
  refine wpAny_bind (wpAny_setState_of F.obj rfl fit ?_)
  dsimp only
  refine wp_if_neg (by rw [sizeLine_eq]; omega) ?_
  try refine wpAny_bind (wpAny_pure ?_)
  rw [e]
  dsimp only
  refine wpAny_bind ?_
  refine wp_if_neg (by rw [sz']; simp) ?_
  try refine wpAny_bind (wpAny_pure ?_)
  refine wpAny_pure ?_
  dsimp only
  refine wpAny_storeSet_of F.obj rfl ?_ (by rw [sz', sz, sizeLine_eq]; omega)
  have sb : Heap.SameBut a s.heap (s.heap.update a (Obj.putSet (order.filterMap (es[·]?)) t')) := Heap.SameBut.update ..
  refine q _ L2 (order.filterMap (es[·]?), ep + 1, t') sb ⟨store_at F.obj rfl, en', T, (pL.map (·.2)).nodup_iff.mpr F.nd, fun p hp => row_but (F.row p (pL.mem_iff.mp hp)) F.obj (by decide) sb, by rw [el]; exact F.led, ?_, by rw [pL.length_eq]; exact few⟩ pL
  show _ < t'.mask * 3
  rw [em, pL.length_eq]
  exact hn
theorem put_in {β : Type} (L : List β) (p : Nat) (y : β) : (L.take p ++ y :: L.drop p).Perm (y :: L) := by
  refine List.perm_middle.trans ?_
  rw [List.take_append_drop]
/-- adding -/
theorem add_row (S : SetR R s.heap a L D) (hx : R.hk.is s.heap k x) (hroom : R.hk.room A) (hfew : L.length + 1 < 64) {Q : Bool → Shared → Prop}
    (q : ∀ b h' L' D', Heap.SameBut a s.heap h' → SetR R h' a L' D' → (k ∈ L.map (·.2) → L' = L) → (k ∉ L.map (·.2) → L'.Perm ((x, k) :: L)) → Q b { s with heap := h' }) :
    wpAny (model P w) A (setAddHashed a (.ref x) (R.hk.hash k)) Q E s := by
  obtain ⟨es, ep, t⟩ := D
  have sz : es.size = L.length := S.size
  have room : L.length * 5 < t.mask * 3 := S.room
  have fit : t.fits es.size = true := S.fits
  unfold setAddHashed
  refine wpAny_holding ?_
  rw [show (100000 : Nat) = 99999 + 1 from rfl, setAddHashedIn_succ]
  refine wpAny_bind (wpAny_setState_of S.obj rfl fit ?_)
  dsimp only
  refine wp_if_neg (by simp [byScan, Value.scannable]) ?_
  try refine wpAny_bind (wpAny_pure ?_)
  refine wpAny_bind (search_row S hx hroom (fun hm => ?_) fun K hm kE kF => ?_)
  · dsimp only
    exact wpAny_pure (q false s.heap L _ (Heap.SameBut.refl a s.heap) S (fun _ => rfl) fun z => absurd hm z)
  have kE : way t.mask (R.hk.hash k) K ∉ t.place.toList := kE
  have kF : ∀ c, c < K → way t.mask (R.hk.hash k) c ∈ t.place.toList := kF
  dsimp only
  refine wpAny_bind (wpAny_setState_of S.obj rfl fit ?_)
  dsimp only
  have tab : TabOk t (R.hs L) := S.tab
  obtain ⟨q1, q2, q3, q4, q5, q6, q7, q8, q9⟩ := tab.put kE kF
  generalize eT : t.put (way t.mask (R.hk.hash k) K) = T at q1 q3 q4 q5 q6 q7 q8 q9 ⊢
  obtain ⟨t1, p⟩ := T
  dsimp only at q1 q3 q4 q5 q6 q7 q8 q9 ⊢
  rw [← q1] at q2 q3
  have en : (SetTable.insertAt es p (R.hk.hash k, Value.ref x)).toList = R.ents (L.take p ++ (x, k) :: L.drop p) := by
    rw [SetTable.toList_insertAt, S.ents, RK.ents, RK.ents, List.map_append, List.map_cons, List.map_take, List.map_drop]
  have hh : R.hs (L.take p ++ (x, k) :: L.drop p) = (R.hs L).take p ++ R.hk.hash k :: (R.hs L).drop p := by
    rw [RK.hs, List.map_append, List.map_cons, List.map_take, List.map_drop]
    rfl
  rw [← hh] at q3
  have pm := put_in L p (x, k)
  generalize L.take p ++ (x, k) :: L.drop p = L1 at en q3 pm
  have len : L1.length = L.length + 1 := pm.length_eq
  have sz1 : (SetTable.insertAt es p (R.hk.hash k, Value.ref x)).size = L.length + 1 := by
    have q := congrArg List.length en
    rw [Array.length_toList, RK.ents, List.length_map, len] at q
    exact q
  generalize SetTable.insertAt es p (R.hk.hash k, Value.ref x) = es1 at en sz1 ⊢
  have nd1 : (L1.map (·.2)).Nodup := (pm.map (·.2)).nodup_iff.mpr (List.nodup_cons.mpr ⟨hm, S.nd⟩)
  -- what follows, whichever the mark
  have after : ∀ c : Bool, wpAny (model P w) A (do
      let t := if c = true then t1 else { t1 with plain := false }
      storeSet a es1 t
      if !false && t.tooFull then setRelay a (SetTable.grown (es.size + 1))
      return true) Q E s := fun c => by
    have facts : ∃ t2 : SetTable, (if c = true then t1 else { t1 with plain := false }) = t2 ∧ TabOk t2 (R.hs L1) ∧ t2.mask = t.mask ∧ t2.led = t.led ∧ t2.tooFull = t1.tooFull := by
      cases c with
      | true => exact ⟨t1, rfl, q3, q4, q5, rfl⟩
      | false => exact ⟨{ t1 with plain := false }, rfl, ⟨q3.ris, q3.dm, q3.sz, q3.mok, q3.bd, q3.reach⟩, q4, q5, rfl⟩
    obtain ⟨t2, e2, T2, m2, l2, f2⟩ := facts
    dsimp only
    rw [e2]
    refine wpAny_bind (wpAny_storeSet_of S.obj rfl ?_ (by rw [sz1, sizeLine_eq]; omega))
    have sb : Heap.SameBut a s.heap (s.heap.update a (Obj.putSet es1 t2)) := Heap.SameBut.update ..
    have ob1 := store_at (es' := es1) (t' := t2) S.obj rfl
    generalize s.heap.update a (Obj.putSet es1 t2) = h1 at sb ob1 ⊢
    have ob1 : h1.get? a = some (sObj "set" (es1, ep + 1, t2)) := ob1
    have rows1 : ∀ p ∈ L1, R.hk.is h1 p.2 p.1 := fun p hp => by
      rcases List.mem_cons.mp (pm.mem_iff.mp hp) with z | z
      · rw [z]; exact row_but hx S.obj (by decide) sb
      · exact row_but (S.row p z) S.obj (by decide) sb
    have led1 : w.params.followText "set-order" = true ∨ t2.led = true := by rw [l2]; exact S.led
    have full : t1.tooFull = decide ((L.length + 1) * 5 ≥ t1.mask * 3) := by
      unfold SetTable.tooFull
      rw [q9, RK.hs, List.length_map]
    cases fl : t2.tooFull with
    | false =>
      rw [f2, full, decide_eq_false_iff_not, q4] at fl
      first
        | refine wp_if_neg (by simp) ?_
        | refine wpAny_bind (wp_if_neg (by simp) (wpAny_pure ?_))
      refine wpAny_pure (q true h1 L1 (es1, ep + 1, t2) sb ⟨ob1, en, T2, nd1, rows1, led1, ?_, by rw [len]; exact hfew⟩ (fun z => absurd z hm) fun _ => pm)
      show _ < t2.mask * 3
      rw [m2, len]
      omega
    | true =>
      rw [f2, full, decide_eq_true_iff, q4] at fl
      have F : Full R h1 a L1 (es1, ep + 1, t2) := ⟨ob1, en, T2, nd1, rows1, led1, by show _ ≤ t2.mask; rw [m2, len]; omega, by rw [len]; exact hfew⟩
      have two : (t.mask = 7 ∧ L.length = 4) ∨ (t.mask = 31 ∧ L.length = 18) := by
        rcases tab.mok with e | e | e
        · left; omega
        · right; omega
        · omega
      have on : ∀ M, SetTable.sizeAbove (SetTable.grown (es.size + 1)) - 1 = M → MaskOk M → SetTable.sizeAbove (SetTable.grown (es.size + 1)) ≤ 128 → L1.length * 5 < M * 3 →
          wpAny (model P w) A (setRelay a (SetTable.grown (es.size + 1))) (fun _ s' => wpAny (model P w) A (pure true) Q E s') E { s with heap := h1 } := fun M e1 e2 e3 e4 =>
        relay_rows (s := { s with heap := h1 }) F e1 e2 e3 e4 fun h2 L2 D2 sb2 S2 pm2 => wpAny_pure (q true h2 L2 D2 (sb.trans sb2) S2 (fun z => absurd z hm) fun _ => pm2.trans pm)
      have grown : wpAny (model P w) A (setRelay a (SetTable.grown (es.size + 1))) (fun _ s' => wpAny (model P w) A (pure true) Q E s') E { s with heap := h1 } := by
        rcases two with ⟨_, e⟩ | ⟨_, e⟩
        · exact on 31 (by rw [sz, e, size_20]) (.inr (.inl rfl)) (by rw [sz, e, size_20]; decide) (by rw [len, e]; decide)
        · exact on 127 (by rw [sz, e, size_76]) (.inr (.inr rfl)) (by rw [sz, e, size_76]; decide) (by rw [len, e]; decide)
      first
        | exact wp_if_pos (by simp) (wpAny_bind grown)
        | exact wpAny_bind (wp_if_pos (by simp) grown)
  cases pl : t1.plain with
  | true =>
    first
      | exact wp_if_pos rfl (wpAny_bind (R.hby hx fun c => after c))
      | exact wpAny_bind (wp_if_pos rfl (R.hby hx fun c => after c))
  | false =>
    first
      | exact wp_if_neg (by decide) (wpAny_bind (wpAny_pure (after true)))
      | exact wpAny_bind (wp_if_neg (by decide) (wpAny_pure (after true)))
end
end DL

/-! ## set(xs), xs a list of rows; sorted(such a set) -/
namespace DL
open PySem PySem.Spec PyProof.Rows L2 PySem.Froz
section
variable {P : Program} {w : World} {α : Type} [DecidableEq α] {R : RK P w α} {A : Around} {E : Value → Shared → Prop} {s : Shared} {a : Addr} {L : List (Addr × α)} {D : SD} {k : α} {x : Addr}
theorem RK.kept {h h' : Heap} {b : Addr} (hx : R.hk.is h k b) (kp : ∀ c o, h.get? c = some o → h'.get? c = some o) : R.hk.is h' k b := R.keep hx fun c o e _ => kp c o e
theorem SetR.kept {h h' : Heap} (S : SetR R h a L D) (kp : ∀ c o, h.get? c = some o → h'.get? c = some o) : SetR R h' a L D :=
  ⟨kp _ _ S.obj, S.ents, S.tab, S.nd, fun p hp => RK.kept (S.row p hp) kp, S.led, S.room, S.few⟩
theorem setR_fresh {h : Heap} (e : h.get? a = some (freshS w)) : SetR R h a [] (#[], 0, .fresh 0 0 (!w.params.followText "set-order")) where
  obj := e
  ents := rfl
  tab := ⟨List.Pairwise.nil, rfl, rfl, .inl rfl, fun y hy => (by cases hy), fun i z j hi => (by simp [RK.hs] at hi)⟩
  nd := List.nodup_nil
  row := fun p hp => by cases hp
  led := by
    show _ ∨ (!w.params.followText "set-order") = true
    cases w.params.followText "set-order" <;> simp
  room := by show 0 * 5 < 7 * 3; decide
  few := by show 0 < 64; decide
/-- what the set has of the first rows -/
structure Of (ks : List (Addr × α)) (i : Nat) (L : List (Addr × α)) : Prop where
  sub : ∀ p ∈ L, p ∈ ks.take i
  all : ∀ p ∈ ks.take i, p.2 ∈ L.map (·.2)
  len : L.length ≤ i
theorem Of.next {ks L L' : List (Addr × α)} {i : Nat} {y : Addr × α} (g : Of ks i L) (e : ks[i]? = some y) (c1 : y.2 ∈ L.map (·.2) → L' = L) (c2 : y.2 ∉ L.map (·.2) → L'.Perm (y :: L)) : Of ks (i + 1) L' := by
  have tk : ks.take (i + 1) = ks.take i ++ [y] := by
    rw [List.take_add_one, e]
    rfl
  by_cases h : y.2 ∈ L.map (·.2)
  · have := c1 h
    subst this
    refine ⟨fun p hp => ?_, fun p hp => ?_, Nat.le_succ_of_le g.len⟩
    · rw [tk]
      exact List.mem_append_left _ (g.sub p hp)
    · rw [tk] at hp
      rcases List.mem_append.mp hp with z | z
      · exact g.all p z
      · rw [List.mem_singleton.mp z]
        exact h
  · have pm := c2 h
    refine ⟨fun p hp => ?_, fun p hp => ?_, by rw [pm.length_eq]; exact Nat.succ_le_succ g.len⟩
    · rw [tk]
      rcases List.mem_cons.mp (pm.mem_iff.mp hp) with z | z
      · rw [z]
        exact List.mem_append_right _ (by simp)
      · exact List.mem_append_left _ (g.sub p z)
    · rw [(pm.map (·.2)).mem_iff, List.map_cons]
      rw [tk] at hp
      rcases List.mem_append.mp hp with z | z
      · exact List.mem_cons_of_mem _ (g.all p z)
      · rw [List.mem_singleton.mp z]
        exact List.mem_cons_self
theorem upd_rows {I : Addr} {fp wr : List Addr} {G : Array GenState → Array GenState → Prop} {n : Nat} {Pv : Nat → Value → Prop} {St : Nat → Shared → Prop} {Rt : Result → Shared → Prop} (W : WalksS P w A.in1 I fp wr G n Pv St) (S : Addr) (nf : S ∉ fp) (ks : List (Addr × α))
    (hn : n = ks.length) (few : ks.length < 64) (hv : ∀ i v, Pv i v → ∃ p, ks[i]? = some p ∧ v = .ref p.1) (h0 : Heap) (rows : ∀ p ∈ ks, R.hk.is h0 p.2 p.1) (nS : h0.get? S = none) (nw : ∀ b ∈ wr, h0.get? b = none) (hroom : R.hk.room A.in1) :
    ∀ (m i : Nat) (s : Shared), n - i = m → i ≤ n → St i s → (∀ b o, h0.get? b = some o → s.heap.get? b = some o) → (∃ L D, SetR R s.heap S L D ∧ Of ks i L) →
      (∀ s' L D, Moved (S :: wr) G s s' → SetR R s'.heap S L D → Of ks n L → (∀ b o, h0.get? b = some o → s'.heap.get? b = some o) → Rt (.ok (.ret .none)) s') →
      codeAny (model P w) A (.builtin "set.update.loop" ⟨[.ref S, .ref I], []⟩) Rt s := by
  have nr : S ∉ wr := fun h => nf (W.sub _ h)
  have up : ∀ b ∈ wr, b ∈ S :: wr := fun b hb => List.mem_cons_of_mem _ hb
  have old : ∀ {s s' : Shared}, Moved wr G s s' → (∀ b o, h0.get? b = some o → s.heap.get? b = some o) → ∀ b o, h0.get? b = some o → s'.heap.get? b = some o := fun hm q b o e =>
    hm.heap b o (fun hb => by rw [nw b hb] at e; cases e) (q b o e)
  have moved : ∀ {s s' : Shared} {i : Nat} {L : List (Addr × α)} {D : SD}, Moved wr G s s' → SetR R s.heap S L D → Of ks i L → (∀ b o, h0.get? b = some o → s'.heap.get? b = some o) → SetR R s'.heap S L D := fun hm S1 g q =>
    ⟨hm.heap S _ nr S1.obj, S1.ents, S1.tab, S1.nd, fun p hp => RK.kept (rows p (List.mem_of_mem_take (g.sub p hp))) q, S1.led, S1.room, S1.few⟩
  intro m
  induction m with
  | zero =>
    intro i s hm hi st q ⟨L, D, S1, g⟩ hR
    have ei : i = n := by omega
    subst ei
    refine codeAny_builtin F.entry_set_update_loop ?_
    rw [Around.under_plainId F.plain_set_update_loop _]
    show wpAny _ A.in1 (pyNext (.ref I) >>= _) _ _ s
    refine wpAny_bind (W.done s _ _ st fun s' mv => ?_)
    exact wpAny_pure (hR s' L D (mv.mono up) (moved mv S1 g (old mv q)) g (old mv q))
  | succ m ih =>
    intro i s hm hi st q ⟨L, D, S1, g⟩ hR
    have lt : i < n := by omega
    refine codeAny_builtin F.entry_set_update_loop ?_
    rw [Around.under_plainId F.plain_set_update_loop _]
    show wpAny _ A.in1 (pyNext (.ref I) >>= _) _ _ s
    refine wpAny_bind (W.item i s _ _ lt st fun v s' hP st' mv => ?_)
    obtain ⟨p, hp, rfl⟩ := hv i v hP
    have q' := old mv q
    have S2 := moved mv S1 g q'
    have hx : R.hk.is s'.heap p.2 p.1 := RK.kept (rows p (List.mem_of_getElem? hp)) q'
    show wpAny _ A.in1 (holding [Value.ref p.1] (setAdd S (.ref p.1)) >>= _) _ _ s'
    refine wpAny_bind (wpAny_holding ?_)
    unfold setAdd
    refine wpAny_holding ?_
    refine wpAny_bind (R.hk.pyHash hroom hx ?_)
    refine add_row (s := { s' with toks := s'.toks + R.hk.draws p.2 }) S2 hx hroom (by have := g.len; omega) fun b h' L' D' same S3 c1 c2 => ?_
    have g' : Of ks (i + 1) L' := g.next hp c1 c2
    have q2 : ∀ c o, h0.get? c = some o → h'.get? c = some o := fun c o z => (same.2 c (fun y => by rw [y, nS] at z; cases z)).trans (q' c o z)
    refine wpAny_pure ⟨plainId_quiet F.plain_set_update_loop _, ih (i + 1) _ (by omega) lt (W.frame _ s' _ _ st' (Nat.le_add_right _ _) fun b hb o z => ?_) q2 ⟨L', D', S3, g'⟩ fun s'' L2 D2 mv2 S4 g2 q3 => ?_⟩
    · rw [same.2 b (fun y : b = S => nf (by rw [← y]; exact hb))]
      exact z
    · refine hR s'' L2 D2 (Moved.trans W.gtrans ((mv.mono up).then_heap (Nat.le_add_right _ _) fun b o hb z => ?_) mv2) S4 g2 q3
      rw [same.2 b (fun y : b = S => hb (by rw [y]; exact List.mem_cons_self))]
      exact z
set_option maxHeartbeats 8000000 in
theorem call_set_rows {l : Addr} {its : Array Value} (ks : List (Addr × α)) {Q : Value → Shared → Prop} (hh : A.handled = none) (hl : s.heap.IsList l its) (hi : its.toList = ks.map fun p => Value.ref p.1) (rows : ∀ p ∈ ks, R.hk.is s.heap p.2 p.1) (few : ks.length < 64)
    (hroom : ∀ B : Around, B.units ≤ A.units + 3 → R.hk.room B)
    (h : ∀ (h' : Heap) (tk : Nat) L D, SetR R h' s.heap.objs.size L D → Of ks ks.length L → (∀ b o, s.heap.get? b = some o → h'.get? b = some o) → Q (.ref s.heap.objs.size) { s with heap := h', toks := tk }) :
    wpAny (model P w) A (call (.type "set") [.ref l]) Q E s := by
  have sz : its.size = ks.length := by
    have q := congrArg List.length hi
    simpa using q
  obtain ⟨cc, ct, cmro⟩ := F.called_set.mro
  have cmade := F.called_set.made
  have csub := F.called_set.sub
  refine wpAny_call (codeAny_of_tree ?_)
  show wpAny _ _ (callAny (.type "set") _) _ _ _
  refine wpAny_pure ⟨Code.quiet_builtin _ (by decide +kernel), codeAny_builtin F.entry_type_call ?_⟩
  rw [Around.under_plain (weight_type_call_type "set" [.ref l] []) rfl]
  have c1 := F.called_set.notType
  have c2 := F.called_set.canCreate
  have c3 := F.typeCall_set_1 (.ref l)
  repeat (any_goals (first | assumption | wp_step))
  refine codeAny_mono (code_set_led1 (.ref l) (E := E) (Q₁ := fun obj s₁ => obj = .ref s.heap.objs.size ∧ s₁ = { s with heap := s.heap.push (freshS w) }) ⟨rfl, rfl⟩) fun r s₁ hr => ?_
  rcases r with e | (obj | _ | _ | _) <;> first | exact hr | exact hr.elim | skip
  obtain ⟨rfl, rfl⟩ := hr
  have atS : (s.heap.push (freshS w)).get? s.heap.objs.size = some (freshS w) := Heap.get?_push_size _ rfl
  have tyS : Shared.TypeIs { s with heap := s.heap.push (freshS w) } (.ref s.heap.objs.size) "set" := ⟨_, atS, rfl⟩
  have i1 := F.called_set.init.lookup
  have i2 := F.called_set.init.bind (.ref s.heap.objs.size)
  repeat (any_goals (first | assumption | wp_step))
  refine codeAny_mono (codeAny_call_builtin (R := wants (fun r s₂ => r = .none ∧ ∃ h' tk L D, s₂ = { s with heap := h', toks := tk } ∧ SetR R h' s.heap.objs.size L D ∧ Of ks ks.length L ∧ (∀ b o, s.heap.get? b = some o → h'.get? b = some o)) E)
    F.called_set.init.plain F.entry_set_init (check_set_init_1 tyS ?_)) fun r₂ s₂ hr₂ => ?_
  · obtain ⟨ol, gol, kol, nl, dol⟩ := hl
    obtain ⟨ocls, odict, odata, oslots⟩ := ol
    simp only at kol dol
    subst kol dol
    have gol' : (s.heap.push (freshS w)).get? l = some { cls := .type "list", dict := odict, data := .seq its nl, slots := oslots } := Heap.get?_push_of_some _ gol
    have f1 := F.sub_list_set
    have f2 := F.sub_list_frozenset
    have f3 : (Value.type "list" == Value.type "dict") = false := by decide
    have isl : (s.heap.push (freshS w)).IsList l its := ⟨_, gol', rfl, nl, rfl⟩
    unfold Builtin.«set.__init__» noKeywords Builtin.Frozenset.updateFrom
    generalize hIt : pyIter = It
    wp_walk
    subst hIt
    refine wpAny_pyIter_list isl ?_
    refine wpAny_bind (wpAny_runValue ?_)
    have ltl : l < s.heap.objs.size := Heap.lt_size gol
    have noh : A.in1.in1.in1.handled = none := by simp [hh]
    have ne1 : l ≠ (s.heap.push (freshS w)).objs.size := by
      rw [Heap.size_push]
      exact Nat.ne_of_lt (Nat.lt_succ_of_lt ltl)
    have nf : s.heap.objs.size ∉ [(s.heap.push (freshS w)).objs.size, l] := by
      rw [Heap.size_push]
      simp only [List.mem_cons, List.not_mem_nil, or_false, not_or]
      exact ⟨Nat.ne_of_lt (Nat.lt_succ_self _), Nat.ne_of_gt ltl⟩
    have val : ∀ (i : Nat) (v : Value), its[i]? = some v → ∃ p, ks[i]? = some p ∧ v = .ref p.1 := fun i v hv => by
      have q : its.toList[i]? = some v := by rw [Array.getElem?_toList]; exact hv
      rw [hi, List.getElem?_map] at q
      cases e : ks[i]? with
      | none => rw [e] at q; cases q
      | some p => rw [e] at q; cases q; exact ⟨p, rfl, rfl⟩
    have non : ∀ b, s.heap.objs.size ≤ b → s.heap.get? b = none := fun b hb => by
      cases q : s.heap.get? b with
      | none => rfl
      | some o => exact absurd (Nat.lt_of_lt_of_le (Heap.lt_size q) hb) (Nat.lt_irrefl _)
    refine upd_rows (R := R) ((Walks.list noh _ l ne1 its).toS) s.heap.objs.size nf ks sz few val s.heap rows (non _ (Nat.le_refl _)) (fun b hb => non b (by rw [List.mem_singleton.mp hb, Heap.size_push]; exact Nat.le_succ _)) (hroom _ (by simp [Around.in1]))
      (its.size - 0) 0 _ (by omega) (Nat.zero_le _) ⟨⟨_, Heap.get?_push_size _ rfl, rfl, rfl⟩, (isl.push _)⟩ (fun b o e => Heap.get?_push_of_some _ (Heap.get?_push_of_some _ e)) ⟨_, _, setR_fresh (Heap.get?_push_of_some _ atS), ⟨fun p hp => (by cases hp), fun p hp => (by simp at hp), Nat.le_refl _⟩⟩ ?_
    intro s' L D mv hS g q
    obtain ⟨h', g2, d', tk', os'⟩ := s'
    have e1 : g2 = s.gens := mv.gens
    have e2 : d' = s.drawn := mv.drawn
    have e3 : os' = s.os := mv.os
    subst e1 e2 e3
    show wpAny _ _ _ _ _ _
    refine wpAny_pure ?_
    show wpAny _ _ (ret Value.none) _ _ _
    rw [sz] at g
    exact wpAny_pure ⟨rfl, h', tk', L, D, rfl, hS, g, q⟩
  · rcases r₂ with e | (v | _ | _ | _) <;> first | exact hr₂ | exact hr₂.elim | skip
    obtain ⟨rfl, h', tk, L, D, rfl, hS, g, q⟩ := hr₂
    repeat (any_goals (first | assumption | wp_step))
    exact h _ _ _ _ hS g q
end
end DL

/-! ## keys: numbers, texts, tuples of keys -/
namespace DL
open PySem PySem.Spec PyProof.Rows L2 PySem.Froz
mutual
/-- numbers, texts, tuples of them, at most n deep -/
def keyB : Nat → PyData → Bool
  | _, .int _ => true
  | _, .str _ => true
  | 0, .tuple _ => false
  | n + 1, .tuple xs => keyAll n xs
  | _, .none => false
  | _, .bool _ => false
  | _, .list _ => false
  | _, .dict _ => false
def keyAll : Nat → List PyData → Bool
  | _, [] => true
  | n, x :: xs => keyB n x && keyAll n xs
end
mutual
def hashD (w : World) : PyData → Int
  | .int i => (intKind default w).hash i
  | .str x => hashStr w x
  | .tuple xs => reduceHash (Builtin.Tuple.tupleHashOf (hashesD w xs))
  | .none => 0
  | .bool _ => 0
  | .list _ => 0
  | .dict _ => 0
def hashesD (w : World) : List PyData → List Int
  | [] => []
  | x :: xs => hashD w x :: hashesD w xs
end
mutual
def drawsD : PyData → Nat
  | .int _ => 1
  | .str _ => 1
  | .tuple xs => drawsAll xs + 1
  | .none => 0
  | .bool _ => 0
  | .list _ => 0
  | .dict _ => 0
def drawsAll : List PyData → Nat
  | [] => 0
  | x :: xs => drawsD x + drawsAll xs
end
theorem keyAll_mem : ∀ {xs : List PyData} {n : Nat}, keyAll n xs = true → ∀ x ∈ xs, keyB n x = true
  | [], _, _, _, m => by cases m
  | y :: ys, n, h, x, m => by
    unfold keyAll at h
    rw [Bool.and_eq_true] at h
    rcases List.mem_cons.mp m with e | m
    · rw [e]; exact h.1
    · exact keyAll_mem h.2 x m
mutual
theorem key_plain : ∀ (d : PyData) (n : Nat), keyB n d = true → d.plain = true
  | .int _, _, _ => rfl
  | .str _, _, _ => rfl
  | .tuple xs, 0, h => by simp [keyB] at h
  | .tuple xs, n + 1, h => by
    simp only [PyData.plain]
    exact keys_plain xs n (by simpa [keyB] using h)
  | .none, n, h => by simp [keyB] at h
  | .bool _, n, h => by simp [keyB] at h
  | .list _, n, h => by simp [keyB] at h
  | .dict _, n, h => by simp [keyB] at h
theorem keys_plain : ∀ (xs : List PyData) (n : Nat), keyAll n xs = true → PyData.plainAll xs = true
  | [], _, _ => rfl
  | x :: xs, n, h => by
    unfold keyAll at h
    rw [Bool.and_eq_true] at h
    simp only [PyData.plainAll, key_plain x n h.1, keys_plain xs n h.2, Bool.and_self]
end
mutual
theorem key_depth : ∀ (d : PyData) (n : Nat), keyB n d = true → d.depth ≤ n
  | .int _, _, _ => by simp [PyData.depth]
  | .str _, _, _ => by simp [PyData.depth]
  | .tuple xs, 0, h => by simp [keyB] at h
  | .tuple xs, n + 1, h => by
    have := keys_depth xs n (by simpa [keyB] using h)
    simp only [PyData.depth]
    omega
  | .none, n, h => by simp [keyB] at h
  | .bool _, n, h => by simp [keyB] at h
  | .list _, n, h => by simp [keyB] at h
  | .dict _, n, h => by simp [keyB] at h
theorem keys_depth : ∀ (xs : List PyData) (n : Nat), keyAll n xs = true → PyData.depthAll xs ≤ n
  | [], _, _ => by simp [PyData.depthAll]
  | x :: xs, n, h => by
    unfold keyAll at h
    rw [Bool.and_eq_true] at h
    have h1 := key_depth x n h.1
    have h2 := keys_depth xs n h.2
    simp only [PyData.depthAll]
    omega
end
mutual
/-- of keys, alike is the same -/
theorem key_eqv : ∀ (x y : PyData) (n m : Nat), keyB n x = true → keyB m y = true → (PyData.eqv x y = true ↔ x = y)
  | .int i, y, n, m, _, hy => by
    cases y <;> simp_all [PyData.eqv, keyB]
  | .str i, y, n, m, _, hy => by
    cases y <;> simp_all [PyData.eqv, keyB]
  | .tuple xs, y, n, m, hx, hy => by
    cases y with
    | tuple ys =>
      cases n with
      | zero => simp [keyB] at hx
      | succ n =>
        cases m with
        | zero => simp [keyB] at hy
        | succ m =>
          have := keys_eqv xs ys n m (by simpa [keyB] using hx) (by simpa [keyB] using hy)
          simp only [PyData.eqv, PyData.tuple.injEq]
          exact this
    | _ => simp_all [PyData.eqv, keyB]
  | .none, y, n, m, hx, _ => by simp [keyB] at hx
  | .bool _, y, n, m, hx, _ => by simp [keyB] at hx
  | .list _, y, n, m, hx, _ => by simp [keyB] at hx
  | .dict _, y, n, m, hx, _ => by simp [keyB] at hx
theorem keys_eqv : ∀ (xs ys : List PyData) (n m : Nat), keyAll n xs = true → keyAll m ys = true → (PyData.eqvAll xs ys = true ↔ xs = ys)
  | [], [], _, _, _, _ => by simp [PyData.eqvAll]
  | [], y :: ys, _, _, _, _ => by simp [PyData.eqvAll]
  | x :: xs, [], _, _, _, _ => by simp [PyData.eqvAll]
  | x :: xs, y :: ys, n, m, hx, hy => by
    unfold keyAll at hx hy
    rw [Bool.and_eq_true] at hx hy
    have h1 := key_eqv x y n m hx.1 hy.1
    have h2 := keys_eqv xs ys n m hx.2 hy.2
    simp only [PyData.eqvAll, Bool.and_eq_true, List.cons.injEq, h1, h2]
end
mutual
theorem key_reads : ∀ (d : PyData) (n : Nat) {h h' : Heap} {v : Value} {as : List Addr}, keyB n d = true → Reads h v d as → (∀ c o vs m, h.get? c = some o → o.cls = .type "tuple" → o.data = .seq vs m → h'.get? c = some o) → Reads h' v d as ∧ as = []
  | .int _, _, _, _, _, _, _, r, _ => by cases r; exact ⟨.int _ _, rfl⟩
  | .str _, _, _, _, _, _, _, r, _ => by cases r; exact ⟨.str _ _, rfl⟩
  | .tuple xs, 0, _, _, _, _, hk, _, _ => by simp [keyB] at hk
  | .tuple xs, n + 1, _, _, _, _, hk, r, kp => by
    cases r with
    | tuple h1 h2 h3 h4 =>
      obtain ⟨q1, q2⟩ := keys_reads xs n (by simpa [keyB] using hk) h4 kp
      exact ⟨.tuple (kp _ _ _ _ h1 h2 h3) h2 h3 q1, q2⟩
  | .none, n, _, _, _, _, h, _, _ => by simp [keyB] at h
  | .bool _, n, _, _, _, _, h, _, _ => by simp [keyB] at h
  | .list _, n, _, _, _, _, h, _, _ => by simp [keyB] at h
  | .dict _, n, _, _, _, _, h, _, _ => by simp [keyB] at h
theorem keys_reads : ∀ (xs : List PyData) (n : Nat) {h h' : Heap} {vs : List Value} {as : List Addr}, keyAll n xs = true → ReadsAll h vs xs as → (∀ c o vs m, h.get? c = some o → o.cls = .type "tuple" → o.data = .seq vs m → h'.get? c = some o) → ReadsAll h' vs xs as ∧ as = []
  | [], _, _, _, _, _, _, r, _ => by cases r; exact ⟨.nil, rfl⟩
  | x :: xs, n, _, _, _, _, hk, r, kp => by
    unfold keyAll at hk
    rw [Bool.and_eq_true] at hk
    cases r with
    | cons r1 r2 =>
      obtain ⟨q1, e1⟩ := key_reads x n hk.1 r1 kp
      obtain ⟨q2, e2⟩ := keys_reads xs n hk.2 r2 kp
      subst e1 e2
      exact ⟨.cons q1 q2, rfl⟩
end
section
variable {P : Program} {w : World}
theorem hash_int_any (Q : Program) (i : Int) : (intKind Q w).hash i = (intKind default w).hash i := rfl
mutual
theorem hash_key : ∀ (d : PyData) (n : Nat) {A : Around} {s : Shared} {v : Value} {as : List Addr} {Q : Int → Shared → Prop} {E : Value → Shared → Prop}, keyB n d = true → Reads s.heap v d as → A.units + 8 * n < cLine → Q (hashD w d) { s with toks := s.toks + drawsD d } → wpAny (model P w) A (pyHash v) Q E s
  | .int i, _, A, s, v, as, Q, E, _, r, _, q => by
    cases r
    exact (intKind P w).pyHash (k := i) (by simp [PySem.intKind, Value.isInt]) q
  | .str x, _, A, s, v, as, Q, E, _, r, _, q => by
    cases r
    exact (strKind P w).pyHash (k := x) (by simp [PySem.strKind, Value.isStrOf]) q
  | .tuple xs, 0, A, s, v, as, Q, E, hk, _, _, _ => by simp [keyB] at hk
  | .tuple xs, n + 1, A, s, v, as, Q, E, hk, r, hu, q => by
    cases r with
    | @tuple a o items m _ _ h1 h2 h3 h4 =>
      have hT : s.TypeIs (.ref a) "tuple" := ⟨o, h1, h2⟩
      have hks : keyAll n xs = true := by simpa [keyB] using hk
      unfold pyHash
      first | unfold pyHashByItsType | skip
      first | refine wpAny_bind (wpAny_cRoomFor_or (.inr (by omega)) ?_) | skip
      refine wpAny_bind (wpAny_specialOf hT F.slot_tuple_hash.lookup ?_)
      show wpAny _ _ (if (some (Value.builtin "tuple.__hash__") == some Value.none) = true then _ else _) Q E s
      rw [if_neg (by rw [beq_builtin_none]; exact Bool.false_ne_true)]
      refine wpAny_bind (wpAny_specialOf hT F.slot_tuple_hash.lookup ?_)
      show wpAny _ _ (callSpecialIfBoundUnlessNone? (.ref a) "__hash__" _ >>= _) Q E s
      refine wpAny_bind (wpAny_callSpecialIfBoundUnlessNone?_slot hT F.slot_tuple_hash (wpAny_call_entry F.slot_tuple_hash hT F.entry_tuple_hash ?_ (F.args_tuple_hash_1 _)))
      show wpAny _ _ (Builtin.Tuple.tupleItemsOf (.ref a) >>= _) _ _ s
      refine wpAny_bind (wpAny_tupleItemsOf h1 h3 ?_)
      refine wpAny_bind ?_
      rw [← Array.forIn_toList]
      refine hashes_key xs n hks h4 ?hroom #[] ?_
      case hroom => simp; omega
      show wpAny _ _ (retInt (Builtin.Tuple.tupleHashOf (#[] ++ (hashesD w xs).toArray).toList)) _ _ _
      rw [show (#[] ++ (hashesD w xs).toArray : Array Int).toList = hashesD w xs by simp]
      refine wpAny_ret_mkInt ?_
      have q : Q (reduceHash (Builtin.Tuple.tupleHashOf (hashesD w xs))) { s with toks := s.toks + (drawsAll xs + 1) } := q
      show wpAny _ _ (if (decide (-(2 : Int) ^ 63 ≤ Builtin.Tuple.tupleHashOf (hashesD w xs)) && decide (Builtin.Tuple.tupleHashOf (hashesD w xs) < 2 ^ 63)) = true then _ else _) Q E _
      unfold reduceHash at q
      by_cases hr : (decide (-(2 : Int) ^ 63 ≤ Builtin.Tuple.tupleHashOf (hashesD w xs)) && decide (Builtin.Tuple.tupleHashOf (hashesD w xs) < 2 ^ 63)) = true
      · rw [if_pos hr]
        rw [if_pos hr] at q
        exact wpAny_pure (by simpa [Nat.add_assoc] using q)
      · rw [if_neg hr]
        rw [if_neg hr] at q
        exact wpAny_bind (wpAny_rule (wpAny_pure (by simpa [Nat.add_assoc] using q)))
  | .none, n, _, _, _, _, _, _, h, _, _, _ => by simp [keyB] at h
  | .bool _, n, _, _, _, _, _, _, h, _, _, _ => by simp [keyB] at h
  | .list _, n, _, _, _, _, _, _, h, _, _, _ => by simp [keyB] at h
  | .dict _, n, _, _, _, _, _, _, h, _, _, _ => by simp [keyB] at h
theorem hashes_key : ∀ (xs : List PyData) (n : Nat) {A : Around} {s : Shared} {vs : List Value} {as : List Addr} {Q : Array Int → Shared → Prop} {E : Value → Shared → Prop}, keyAll n xs = true → ReadsAll s.heap vs xs as → A.units + 8 * n < cLine → ∀ (out : Array Int), Q (out ++ (hashesD w xs).toArray) { s with toks := s.toks + drawsAll xs } →
    wpAny (model P w) A (forIn vs out fun x r => do
      let h ← pyHash x
      pure (ForInStep.yield (r.push h))) Q E s
  | [], n, A, s, vs, as, Q, E, _, r, _, out, q => by
    cases r
    refine wpAny_pure ?_
    simpa [hashesD, drawsAll] using q
  | x :: xs, n, A, s, vs, as, Q, E, hk, r, hu, out, q => by
    unfold keyAll at hk
    rw [Bool.and_eq_true] at hk
    cases r with
    | @cons v vs _ _ as bs r1 r2 =>
      rw [List.forIn_cons]
      refine wpAny_bind (wpAny_bind (hash_key x n hk.1 r1 hu ?_))
      refine wpAny_pure ?_
      refine hashes_key xs n hk.2 (s := { s with toks := s.toks + drawsD x }) r2 hu (out.push (hashD w x)) ?_
      have e : out.push (hashD w x) ++ (hashesD w xs).toArray = out ++ (hashesD w (x :: xs)).toArray := by simp [hashesD]
      rw [e]
      simpa [drawsAll, Nat.add_assoc] using q
end
end
end DL

namespace DL
open PySem PySem.Spec PyProof.Rows L2 PySem.Froz
noncomputable instance decData : DecidableEq PyData := fun a b => Classical.propDecidable (a = b)
section
variable {P : Program} {w : World}
theorem key_value {d : PyData} {n : Nat} {h : Heap} {v : Value} {as : List Addr} (hk : keyB n d = true) (r : Reads h v d as) : carriedByValue v = true ∨ ∃ a xs, v = .ref a ∧ d = .tuple xs := by
  cases r with
  | tuple _ _ _ _ => exact .inr ⟨_, _, rfl, rfl⟩
  | int _ _ => exact .inl rfl
  | str _ _ => exact .inl rfl
  | _ => cases n <;> simp [keyB] at hk
mutual
theorem quiet_key : ∀ (d : PyData) (n m : Nat) {A : Around} {s : Shared} {v : Value} {as : List Addr} {Q : Bool → Shared → Prop} {E : Value → Shared → Prop}, keyB n d = true → n ≤ m → Reads s.heap v d as → Q true s → wpAny (model P w) A (eqIsQuiet m v) Q E s
  | .int i, _, m, A, s, v, as, Q, E, _, _, r, q => by
    cases r
    rw [eqIsQuiet_byValue _ rfl]
    exact wpAny_pure q
  | .str i, _, m, A, s, v, as, Q, E, _, _, r, q => by
    cases r
    rw [eqIsQuiet_byValue _ rfl]
    exact wpAny_pure q
  | .tuple xs, 0, m, A, s, v, as, Q, E, hk, _, _, _ => by simp [keyB] at hk
  | .tuple xs, n + 1, 0, A, s, v, as, Q, E, hk, hm, _, _ => by omega
  | .tuple xs, n + 1, m + 1, A, s, v, as, Q, E, hk, hm, r, q => by
    cases r with
    | @tuple a o items k _ _ h1 h2 h3 h4 =>
      have hT : s.TypeIs (.ref a) "tuple" := ⟨o, h1, h2⟩
      have hks : keyAll n xs = true := by simpa [keyB] using hk
      unfold eqIsQuiet
      refine wpAny_bind (wpAny_specialOf hT F.slot_tuple_eq.lookup ?_)
      show wpAny _ _ (isInstance (.ref a) (.type "tuple") >>= _) _ _ s
      refine wpAny_bind (wpAny_isInstance hT isSubtype_tuple_tuple ?_)
      simp only [Bool.not_true, Bool.false_eq_true, if_false]
      refine wpAny_bind (wpAny_seqItems h1 h3 ?_)
      refine wpAny_bind ?_
      show wpAny _ _ (forIn items _ _) _ _ s
      rw [← Array.forIn_toList]
      refine quiets_key xs n m hks (by omega) h4 ?_
      exact wpAny_pure q
  | .none, n, _, _, _, _, _, _, _, h, _, _, _ => by simp [keyB] at h
  | .bool _, n, _, _, _, _, _, _, _, h, _, _, _ => by simp [keyB] at h
  | .list _, n, _, _, _, _, _, _, _, h, _, _, _ => by simp [keyB] at h
  | .dict _, n, _, _, _, _, _, _, _, h, _, _, _ => by simp [keyB] at h
theorem quiets_key : ∀ (xs : List PyData) (n m : Nat) {A : Around} {s : Shared} {vs : List Value} {as : List Addr} {Q : Option Bool × Unit → Shared → Prop} {E : Value → Shared → Prop}, keyAll n xs = true → n ≤ m → ReadsAll s.heap vs xs as → Q (none, ()) s →
    wpAny (model P w) A (forIn vs ((none, ()) : Option Bool × Unit) fun y r => do
      let c ← eqIsQuiet m y
      if (!c) = true then pure (ForInStep.done (some false, ())) else do
        pure (ForInStep.yield (none, ()))) Q E s
  | [], n, m, A, s, vs, as, Q, E, _, _, r, q => by
    cases r
    exact wpAny_pure q
  | x :: xs, n, m, A, s, vs, as, Q, E, hk, hm, r, q => by
    unfold keyAll at hk
    rw [Bool.and_eq_true] at hk
    cases r with
    | @cons v vs _ _ as bs r1 r2 =>
      rw [List.forIn_cons]
      refine wpAny_bind (wpAny_bind (quiet_key x n m hk.1 hm r1 ?_))
      simp only [Bool.not_true, Bool.false_eq_true, if_false]
      refine wpAny_pure ?_
      exact quiets_key xs n m hk.2 hm r2 q
end
mutual
theorem cls_key : ∀ (d : PyData) (n m : Nat) {A : Around} {s : Shared} {v : Value} {as : List Addr} {Q : Bool → Shared → Prop} {E : Value → Shared → Prop}, keyB n d = true → n ≤ m → Reads s.heap v d as → Q false s → wpAny (model P w) A (ofAClassStatement m v) Q E s
  | .int i, _, m, A, s, v, as, Q, E, _, _, r, q => by
    cases r
    rw [ofAClass_int]
    exact wpAny_pure q
  | .str i, _, m, A, s, v, as, Q, E, _, _, r, q => by
    cases r
    have e : ∀ t, ofAClassStatement m (.str i t) = pure false := fun t => by cases m <;> rfl
    rw [e]
    exact wpAny_pure q
  | .tuple xs, 0, m, A, s, v, as, Q, E, hk, _, _, _ => by simp [keyB] at hk
  | .tuple xs, n + 1, 0, A, s, v, as, Q, E, hk, hm, _, _ => by omega
  | .tuple xs, n + 1, m + 1, A, s, v, as, Q, E, hk, hm, r, q => by
    cases r with
    | @tuple a o items k _ _ h1 h2 h3 h4 =>
      have hT : s.TypeIs (.ref a) "tuple" := ⟨o, h1, h2⟩
      have hks : keyAll n xs = true := by simpa [keyB] using hk
      unfold ofAClassStatement
      refine wpAny_bind (wpAny_typeOf hT ?_)
      dsimp only
      have e : (("tuple" : String) == "tuple") = true := by decide
      simp only [e, if_true, Bool.not_true, Bool.false_eq_true, if_false]
      try refine wpAny_bind (wpAny_pure ?_)
      try simp only [Bool.not_true, Bool.false_eq_true, if_false]
      show wpAny _ _ (seqItems? (.ref a) >>= _) _ _ s
      refine wpAny_bind (wpAny_seqItems h1 h3 ?_)
      dsimp only
      refine wpAny_bind ?_
      show wpAny _ _ (forIn items _ _) _ _ s
      rw [← Array.forIn_toList]
      refine clss_key xs n m hks (by omega) h4 ?_
      exact wpAny_pure q
  | .none, n, _, _, _, _, _, _, _, h, _, _, _ => by simp [keyB] at h
  | .bool _, n, _, _, _, _, _, _, _, h, _, _, _ => by simp [keyB] at h
  | .list _, n, _, _, _, _, _, _, _, h, _, _, _ => by simp [keyB] at h
  | .dict _, n, _, _, _, _, _, _, _, h, _, _, _ => by simp [keyB] at h
theorem clss_key : ∀ (xs : List PyData) (n m : Nat) {A : Around} {s : Shared} {vs : List Value} {as : List Addr} {Q : Option Bool × Unit → Shared → Prop} {E : Value → Shared → Prop}, keyAll n xs = true → n ≤ m → ReadsAll s.heap vs xs as → Q (none, ()) s →
    wpAny (model P w) A (forIn vs ((none, ()) : Option Bool × Unit) fun y r => do
      let c ← ofAClassStatement m y
      if c = true then pure (ForInStep.done (some true, ())) else do
        pure (ForInStep.yield (none, ()))) Q E s
  | [], n, m, A, s, vs, as, Q, E, _, _, r, q => by
    cases r
    exact wpAny_pure q
  | x :: xs, n, m, A, s, vs, as, Q, E, hk, hm, r, q => by
    unfold keyAll at hk
    rw [Bool.and_eq_true] at hk
    cases r with
    | @cons v vs _ _ as bs r1 r2 =>
      rw [List.forIn_cons]
      refine wpAny_bind (wpAny_bind (cls_key x n m hk.1 hm r1 ?_))
      simp only [Bool.false_eq_true, if_false]
      refine wpAny_pure ?_
      exact clss_key xs n m hk.2 hm r2 q
end
mutual
theorem hby_key : ∀ (d : PyData) (n m : Nat) {A : Around} {s : Shared} {v : Value} {as : List Addr} {Q : Bool → Shared → Prop} {E : Value → Shared → Prop}, keyB n d = true → n ≤ m → Reads s.heap v d as → (∀ c, Q c s) → wpAny (model P w) A (hashByValue m v) Q E s
  | .int i, _, m, A, s, v, as, Q, E, _, _, r, q => by
    cases r
    rw [hashBy_int]
    exact wpAny_pure (q _)
  | .str i, _, m, A, s, v, as, Q, E, _, _, r, q => by
    cases r
    have e : ∀ t, hashByValue m (.str i t) = pure false := fun t => by cases m <;> rfl
    rw [e]
    exact wpAny_pure (q _)
  | .tuple xs, 0, m, A, s, v, as, Q, E, hk, _, _, _ => by simp [keyB] at hk
  | .tuple xs, n + 1, 0, A, s, v, as, Q, E, hk, hm, _, _ => by omega
  | .tuple xs, n + 1, m + 1, A, s, v, as, Q, E, hk, hm, r, q => by
    cases r with
    | @tuple a o items k _ _ h1 h2 h3 h4 =>
      have hT : s.TypeIs (.ref a) "tuple" := ⟨o, h1, h2⟩
      have hks : keyAll n xs = true := by simpa [keyB] using hk
      unfold hashByValue
      refine wpAny_bind (wpAny_specialOf hT F.slot_tuple_hash.lookup ?_)
      show wpAny _ _ (seqItems? (.ref a) >>= _) _ _ s
      refine wpAny_bind (wpAny_seqItems h1 h3 ?_)
      refine wpAny_bind ?_
      show wpAny _ _ (forIn items _ _) _ _ s
      rw [← Array.forIn_toList]
      refine hbys_key xs n m hks (by omega) h4 fun r hr => ?_
      obtain ⟨r1, r2⟩ := r
      rcases hr with e | e
      · cases e
        exact wpAny_pure (q _)
      · cases e
        exact wpAny_pure (q _)
  | .none, n, _, _, _, _, _, _, _, h, _, _, _ => by simp [keyB] at h
  | .bool _, n, _, _, _, _, _, _, _, h, _, _, _ => by simp [keyB] at h
  | .list _, n, _, _, _, _, _, _, _, h, _, _, _ => by simp [keyB] at h
  | .dict _, n, _, _, _, _, _, _, _, h, _, _, _ => by simp [keyB] at h
theorem hbys_key : ∀ (xs : List PyData) (n m : Nat) {A : Around} {s : Shared} {vs : List Value} {as : List Addr} {Q : Option Bool × Unit → Shared → Prop} {E : Value → Shared → Prop}, keyAll n xs = true → n ≤ m → ReadsAll s.heap vs xs as → (∀ r : Option Bool × Unit, r.1 = none ∨ r.1 = some false → Q r s) →
    wpAny (model P w) A (forIn vs ((none, ()) : Option Bool × Unit) fun y r => do
      let c ← hashByValue m y
      if (!c) = true then pure (ForInStep.done (some false, ())) else do
        pure (ForInStep.yield (none, ()))) Q E s
  | [], n, m, A, s, vs, as, Q, E, _, _, r, q => by
    cases r
    exact wpAny_pure (q _ (.inl rfl))
  | x :: xs, n, m, A, s, vs, as, Q, E, hk, hm, r, q => by
    unfold keyAll at hk
    rw [Bool.and_eq_true] at hk
    cases r with
    | @cons v vs _ _ as bs r1 r2 =>
      rw [List.forIn_cons]
      refine wpAny_bind (wpAny_bind (hby_key x n m hk.1 hm r1 fun c => ?_))
      cases c with
      | true =>
        simp only [Bool.not_true, Bool.false_eq_true, if_false]
        refine wpAny_pure ?_
        exact hbys_key xs n m hk.2 hm r2 q
      | false =>
        simp only [Bool.not_false, if_true]
        refine wpAny_pure ?_
        exact wpAny_pure (q _ (.inr rfl))
end
/-- a key that is a tuple -/
def IsK (h : Heap) (d : PyData) (a : Addr) : Prop := keyB 8 d = true ∧ (∃ xs, d = .tuple xs) ∧ Reads h (.ref a) d []
theorem eqB_key {A : Around} {E : Value → Shared → Prop} {s : Shared} {x y : PyData} {a b : Addr} {Q : Bool → Shared → Prop} (hu : A.units + 64 < cLine) (hx : IsK s.heap x a) (hy : IsK s.heap y b) (q : Q (decide (x = y)) s) : wpAny (model P w) A (eqBool (.ref a) (.ref b)) Q E s := by
  have dx := key_depth x 8 hx.1
  refine SeqAt.eqAt_plain x y A s (.ref a) (.ref b) [] [] hx.2.2 hy.2.2 (key_plain x 8 hx.1) (key_plain y 8 hy.1) (by have := Nat.min_le_left x.depth y.depth; omega) P w E Q ?_
  have e := key_eqv x y 8 8 hx.1 hy.1
  have : PyData.eqv x y = decide (x = y) := by
    by_cases z : x = y
    · rw [decide_eq_true z]
      exact e.mpr z
    · rw [decide_eq_false z]
      cases c : PyData.eqv x y with
      | false => rfl
      | true => exact absurd (e.mp c) z
  rw [this]
  exact q
noncomputable def keyHK (P : Program) (w : World) : HeapKind P w PyData where
  is := IsK
  hash := hashD w
  draws := drawsD
  room := fun A => A.units + 64 < cLine
  inj := fun hx hy => SeqAt.plain_unique _ _ _ _ _ (key_plain _ 8 hx.1) hx.2.2 hy.2.2
  keeps := fun {h h' k a d o es ep} hx ho hd sb => ⟨hx.1, hx.2.1, (key_reads _ 8 hx.1 hx.2.2 fun c o' vs m e1 _ e3 => (sb.2 c fun z => by
    subst z
    rw [ho] at e1
    cases e1
    rw [hd] at e3
    cases e3).trans e1).1⟩
  pyHash := fun hu hx q => hash_key _ 8 hx.1 hx.2.2 (by omega) q
  eqBool := fun hu hx hy q => eqB_key hu hx hy q
  quiet := fun hx q => quiet_key _ 8 8 hx.1 (Nat.le_refl _) hx.2.2 q
noncomputable def keyRK (P : Program) (w : World) : RK P w PyData where
  hk := keyHK P w
  cls := fun hx q => cls_key _ 8 8 hx.1 (Nat.le_refl _) hx.2.2 q
  hby := fun hx q => hby_key _ 8 8 hx.1 (Nat.le_refl _) hx.2.2 q
  keep := fun {h h' k b} hx kp => ⟨hx.1, hx.2.1, (key_reads _ 8 hx.1 hx.2.2 fun c o vs m e1 e2 _ => kp c o e1 e2).1⟩
end
end DL

/-! ## the order of keys; ascending lists, each once -/
namespace DL
open PySem PySem.Spec PyProof.Rows L2 PySem.Froz PySem.W
theorem lt_irr (x : PyData) : dataLt x x = false := lex_irrefl (O := itemOrd) _
theorem lt_tr {x y z : PyData} (h : dataLt x y = true) (h' : dataLt y z = true) : dataLt x z = true := lex_trans (O := itemOrd) _ _ _ h h'
theorem lt_asym {x y : PyData} (h : dataLt x y = true) : dataLt y x = false := by
  cases c : dataLt y x with
  | false => rfl
  | true =>
    have := lt_tr h c
    rw [lt_irr] at this
    cases this
theorem toks_inj {x y : PyData} (ha : alike x y = true) (e : keyToks x = keyToks y) : PyData.eqv x y = true := by
  cases c : PyData.eqv x y with
  | true => rfl
  | false =>
    have h := (toks_eqv x y ha).2 c [] [Sum.inl 0]
    rw [e, lex_pre, lex_irrefl] at h
    exact absurd h (by decide)
/-- keys that can be compared: neither is less, then they are one -/
theorem lt_tot {x y : PyData} {n m : Nat} (hx : keyB n x = true) (hy : keyB m y = true) (ha : alike x y = true) (h1 : dataLt x y = false) (h2 : dataLt y x = false) : x = y :=
  (key_eqv x y n m hx hy).mp (toks_inj ha (lex_total (O := itemOrd) _ _ h1 h2))
@[simp] def insU (d : PyData) : List PyData → List PyData
  | [] => [d]
  | e :: es => if dataLt d e = true then d :: e :: es else if dataLt e d = true then e :: insU d es else e :: es
/-- ascending, each once -/
def asSetD (ds : List PyData) : List PyData := ds.foldl (fun acc d => insU d acc) []
/-- of one kind, comparable -/
structure KeysOk (ds : List PyData) : Prop where
  key : ∀ d ∈ ds, keyB 8 d = true
  alk : ∀ d ∈ ds, ∀ e ∈ ds, alike d e = true
theorem KeysOk.sub {ds es : List PyData} (h : KeysOk ds) (s : ∀ e ∈ es, e ∈ ds) : KeysOk es := ⟨fun d m => h.key d (s d m), fun d m e n => h.alk d (s d m) e (s e n)⟩
abbrev Asc (ds : List PyData) : Prop := ds.Pairwise fun x y => dataLt x y = true
theorem mem_insU {d : PyData} {es : List PyData} (h : KeysOk (d :: es)) : ∀ x, x ∈ insU d es ↔ x = d ∨ x ∈ es := by
  induction es with
  | nil => intro x; simp
  | cons e es ih =>
    intro x
    have ih := ih (h.sub fun y m => by
      rcases List.mem_cons.mp m with z | z
      · simp [z]
      · simp [z])
    unfold insU
    cases c1 : dataLt d e with
    | true => simp
    | false =>
      cases c2 : dataLt e d with
      | true =>
        simp only [Bool.false_eq_true, if_false, if_true, List.mem_cons, ih]
        constructor
        · rintro (z | z | z) <;> simp [z]
        · rintro (z | z | z) <;> simp [z]
      | false =>
        have := lt_tot (h.key d (by simp)) (h.key e (by simp)) (h.alk d (by simp) e (by simp)) c1 c2
        subst this
        simp
theorem asc_insU {d : PyData} {es : List PyData} (h : KeysOk (d :: es)) (a : Asc es) : Asc (insU d es) := by
  induction es with
  | nil => simp [Asc]
  | cons e es ih =>
    have hs : KeysOk (d :: es) := h.sub fun y m => by
      rcases List.mem_cons.mp m with z | z
      · simp [z]
      · simp [z]
    have ih := ih hs (List.Pairwise.of_cons a)
    unfold insU
    cases c1 : dataLt d e with
    | true =>
      simp only [if_true]
      refine List.Pairwise.cons (fun y m => ?_) a
      rcases List.mem_cons.mp m with z | z
      · rw [z]; exact c1
      · exact lt_tr c1 (List.rel_of_pairwise_cons a z)
    | false =>
      cases c2 : dataLt e d with
      | true =>
        simp only [Bool.false_eq_true, if_false, if_true]
        refine List.Pairwise.cons (fun y m => ?_) ih
        rcases (mem_insU hs y).mp m with z | z
        · rw [z]; exact c2
        · exact List.rel_of_pairwise_cons a z
      | false =>
        simp only [Bool.false_eq_true, if_false]
        exact a
theorem fold_insU : ∀ (ds acc : List PyData), KeysOk (ds ++ acc) → Asc acc → Asc (ds.foldl (fun acc d => insU d acc) acc) ∧ ∀ x, x ∈ ds.foldl (fun acc d => insU d acc) acc ↔ x ∈ ds ∨ x ∈ acc
  | [], acc, _, a => ⟨a, fun x => by simp⟩
  | d :: ds, acc, h, a => by
    have h1 : KeysOk (d :: acc) := h.sub fun y m => by
      rcases List.mem_cons.mp m with z | z
      · simp [z]
      · simp [z]
    obtain ⟨q1, q2⟩ := fold_insU ds (insU d acc) (h.sub fun y m => by
      rcases List.mem_append.mp m with z | z
      · simp [z]
      · rcases (mem_insU h1 y).mp z with z | z <;> simp [z]) (asc_insU h1 a)
    refine ⟨q1, fun x => ?_⟩
    show x ∈ ds.foldl _ (insU d acc) ↔ _
    rw [q2 x, mem_insU h1 x]
    simp only [List.mem_cons]
    constructor
    · rintro (z | z | z) <;> simp [z]
    · rintro ((z | z) | z) <;> simp [z]
theorem asSetD_asc {ds : List PyData} (h : KeysOk ds) : Asc (asSetD ds) := (fold_insU ds [] (by simpa using h) List.Pairwise.nil).1
theorem mem_asSetD {ds : List PyData} (h : KeysOk ds) (x : PyData) : x ∈ asSetD ds ↔ x ∈ ds := by
  have := (fold_insU ds [] (by simpa using h) List.Pairwise.nil).2 x
  unfold asSetD
  simpa using this
/-- ascending lists of the same members are one -/
theorem asc_one : ∀ (xs ys : List PyData), Asc xs → Asc ys → (∀ x, x ∈ xs ↔ x ∈ ys) → xs = ys
  | [], [], _, _, _ => rfl
  | [], y :: ys, _, _, h => by
    have := (h y).mpr (by simp)
    cases this
  | x :: xs, [], _, _, h => by
    have := (h x).mp (by simp)
    cases this
  | x :: xs, y :: ys, hx, hy, h => by
    have lx : ∀ z ∈ xs, dataLt x z = true := fun z m => List.rel_of_pairwise_cons hx m
    have ly : ∀ z ∈ ys, dataLt y z = true := fun z m => List.rel_of_pairwise_cons hy m
    have e : x = y := by
      rcases List.mem_cons.mp ((h x).mp (by simp)) with z | z
      · exact z
      · rcases List.mem_cons.mp ((h y).mpr (by simp)) with z' | z'
        · exact z'.symm
        · have h1 := ly x z
          have h2 := lx y z'
          rw [lt_asym h1] at h2
          cases h2
    subst e
    have nx : x ∉ xs := fun m => by have := lx x m; rw [lt_irr] at this; cases this
    have ny : x ∉ ys := fun m => by have := ly x m; rw [lt_irr] at this; cases this
    rw [asc_one xs ys (List.Pairwise.of_cons hx) (List.Pairwise.of_cons hy) fun z => ?_]
    constructor
    · intro m
      rcases List.mem_cons.mp ((h z).mp (List.mem_cons_of_mem _ m)) with q | q
      · rw [q] at m; exact absurd m nx
      · exact q
    · intro m
      rcases List.mem_cons.mp ((h z).mpr (List.mem_cons_of_mem _ m)) with q | q
      · rw [q] at m; exact absurd m ny
      · exact q
theorem asSetD_ext {xs ys : List PyData} (hx : KeysOk xs) (hy : KeysOk ys) (h : ∀ x, x ∈ xs ↔ x ∈ ys) : asSetD xs = asSetD ys :=
  asc_one _ _ (asSetD_asc hx) (asSetD_asc hy) fun x => by rw [mem_asSetD hx, mem_asSetD hy, h]
theorem le_def (x y : PyData) : dataLe false (fun d : PyData => d) x y = !dataLt y x := rfl
theorem le_trans (a b c : PyData) (h1 : dataLe false (fun d : PyData => d) a b = true) (h2 : dataLe false (fun d : PyData => d) b c = true) : dataLe false (fun d : PyData => d) a c = true := by
  rw [le_def, Bool.not_eq_true'] at *
  cases e : dataLt c a with
  | false => rfl
  | true =>
    rcases lex_negTrans (O := itemOrd) (keyToks c) (keyToks b) (keyToks a) e with z | z
    · rw [show dataLt c b = true from z] at h2; cases h2
    · rw [show dataLt b a = true from z] at h1; cases h1
theorem le_total (a b : PyData) : (dataLe false (fun d : PyData => d) a b || dataLe false (fun d : PyData => d) b a) = true := by
  rw [le_def, le_def]
  cases e : dataLt b a with
  | false => rfl
  | true => rw [lt_asym e]; rfl
/-- unlike keys, sorted: ascending -/
theorem sort_asc {ks : List PyData} (h : KeysOk ks) (nd : ks.Nodup) : Asc (ks.mergeSort (dataLe false fun d => d)) := by
  have pw := List.pairwise_mergeSort (le := dataLe false fun d : PyData => d) le_trans le_total ks
  have pm := List.mergeSort_perm ks (dataLe false fun d : PyData => d)
  have nd2 : (ks.mergeSort (dataLe false fun d => d)).Nodup := pm.nodup_iff.mpr nd
  refine List.Pairwise.imp_of_mem (fun {x y} hx hy hq => ?_) (pw.and nd2)
  obtain ⟨h1, h2⟩ := hq
  rw [le_def, Bool.not_eq_true'] at h1
  cases e : dataLt x y with
  | true => rfl
  | false =>
    have mx := pm.mem_iff.mp hx
    have my := pm.mem_iff.mp hy
    exact absurd (lt_tot (h.key x mx) (h.key y my) (h.alk x mx y my) e h1) h2
theorem sort_set {ks ds : List PyData} (hd : KeysOk ds) (nd : ks.Nodup) (h : ∀ x, x ∈ ks ↔ x ∈ ds) : ks.mergeSort (dataLe false fun d => d) = asSetD ds := by
  have hk : KeysOk ks := hd.sub fun x m => (h x).mp m
  refine asc_one _ _ (sort_asc hk nd) (asSetD_asc hd) fun x => ?_
  rw [(List.mergeSort_perm ks _).mem_iff, mem_asSetD hd, h]
theorem insU_len (d : PyData) : ∀ es : List PyData, (insU d es).length ≤ es.length + 1
  | [] => by simp
  | e :: es => by
    unfold insU
    have := insU_len d es
    split
    · simp
    · split
      · simp only [List.length_cons]; omega
      · simp
theorem fold_len : ∀ (ds acc : List PyData), (ds.foldl (fun acc d => insU d acc) acc).length ≤ ds.length + acc.length
  | [], acc => by simp
  | d :: ds, acc => by
    have h1 := fold_len ds (insU d acc)
    have h2 := insU_len d acc
    show (ds.foldl _ (insU d acc)).length ≤ _
    simp only [List.length_cons]
    omega
theorem asSetD_len (ds : List PyData) : (asSetD ds).length ≤ ds.length := by
  have := fold_len ds []
  simpa [asSetD] using this
/-- a row of values that stand for addresses, in another order -/
theorem perm_map {β γ : Type} (f : β → γ) {xs ys : List γ} (p : xs.Perm ys) : ∀ L : List β, ys = L.map f → ∃ L1 : List β, L1.Perm L ∧ xs = L1.map f := by
  induction p with
  | nil => intro L e; exact ⟨[], by rw [List.map_eq_nil_iff.mp e.symm], rfl⟩
  | @cons x l1 l2 _ ih =>
    intro L e
    cases L with
    | nil => cases e
    | cons b L =>
      rw [List.map_cons] at e
      injection e with e1 e2
      obtain ⟨L1, q1, q2⟩ := ih L e2
      exact ⟨b :: L1, q1.cons b, by rw [List.map_cons, e1, q2]⟩
  | @swap x y l =>
    intro L e
    match L, e with
    | b :: c :: L, e =>
      rw [List.map_cons, List.map_cons] at e
      injection e with e1 e2
      injection e2 with e2 e3
      exact ⟨c :: b :: L, List.Perm.swap .., by rw [List.map_cons, List.map_cons, ← e1, ← e2, ← e3]⟩
  | @trans l1 l2 l3 _ _ ih1 ih2 =>
    intro L e
    obtain ⟨L2, q1, q2⟩ := ih2 L e
    obtain ⟨L1, q3, q4⟩ := ih1 L2 q2
    exact ⟨L1, q3.trans q1, q4⟩
end DL

/-! ## sorted(set(e)), e a list of texts or of tuples of keys -/
namespace DL
open PySem PySem.Spec PyProof.Rows L2 PySem.Froz
section
variable {P : Program} {w : World} {A : Around} {E : Value → Shared → Prop} {s : Shared} {a : Addr} {L : List (Addr × PyData)} {D : SD}
theorem each_rows {h : Heap} : ∀ {L : List (Addr × PyData)}, (∀ p ∈ L, IsK h p.2 p.1) → PySem.W.EachIs (fun (v : Value) (d : PyData) => ∃ b, v = .ref b ∧ IsK h d b ∧ (b, d) ∈ L) (L.map fun p => Value.ref p.1) (L.map (·.2))
  | [], _ => .nil
  | p :: L, hr => .cons ⟨p.1, rfl, hr p (by simp), by simp⟩ ((each_rows fun q hq => hr q (by simp [hq])).mono fun v d ⟨b, e, k, m⟩ => ⟨b, e, k, by simp [m]⟩)
theorem each_rows_back {h : Heap} {Lk : List (Addr × PyData)} : ∀ {vs : List Value} {ds : List PyData}, PySem.W.EachIs (fun (v : Value) (d : PyData) => ∃ b, v = .ref b ∧ IsK h d b ∧ (b, d) ∈ Lk) vs ds → ∃ M : List (Addr × PyData), vs = M.map (fun p => Value.ref p.1) ∧ ds = M.map (·.2) ∧ ∀ p ∈ M, IsK h p.2 p.1 ∧ p ∈ Lk
  | _, _, .nil => ⟨[], rfl, rfl, fun p m => by cases m⟩
  | _, _, .cons (b := d) ⟨b, e, k, m⟩ t => by
    obtain ⟨M, q1, q2, q3⟩ := each_rows_back t
    subst e
    refine ⟨(b, d) :: M, by rw [q1]; rfl, by rw [q2]; rfl, fun p hp => ?_⟩
    rcases List.mem_cons.mp hp with z | z
    · rw [z]; exact ⟨k, m⟩
    · exact q3 p z
set_option maxHeartbeats 8000000 in
theorem sorted_rows {Q : Value → Shared → Prop} (S : SetR (keyRK P w) s.heap a L D) (hh : A.handled = none) (hu : A.units + 64 < cLine) {ds : List PyData} (hd : KeysOk ds) (hm : ∀ x, x ∈ L.map (·.2) ↔ x ∈ ds) (ne : ∀ d ∈ ds, ∃ x r, d = .tuple (x :: r))
    (hQ : ∀ s' p (M : List (Addr × PyData)) (out : Array Value) (c : Nat), (∀ b o, s.heap.get? b = some o → s'.heap.get? b = some o) → s'.gens = s.gens → s'.os = s.os → s.heap.objs.size ≤ p → s'.heap.get? p = some (seqObj "list" out c) → out.toList = M.map (fun q => Value.ref q.1) → M.map (·.2) = asSetD ds → (∀ q ∈ M, q ∈ L) → Q (.ref p) s') :
    wpAny (model P w) A (call (.builtin "sorted") [.ref a]) Q E s := by
  have sz : D.1.size = L.length := S.size
  have few := S.few
  refine Calls.call_function_entry kind_sorted plain_sorted entry_sorted (args_sorted1 _) ?_
  unfold Builtin.«sorted»
  refine wpAny_bind (m := checkCount "sorted" 1 1 _) (wpAny_pure ?_)
  refine wpAny_bind (collect_set (A := A.in1) hh ⟨_, S.obj, rfl, rfl⟩ S.fits (by rw [sz]; unfold scanBound; omega) S.tab.ris S.led fun s1 vs k1 hz g1 o1 pm => ?_)
  have ev : D.1.toList.map (·.2) = L.map fun p => Value.ref p.1 := by
    rw [S.ents, RK.ents, List.map_map]
    rfl
  obtain ⟨L1, pL, rfl⟩ := perm_map (fun p : Addr × PyData => Value.ref p.1) pm L ev
  have vl : L1.length = L.length := pL.length_eq
  have big : (L1.map fun p => Value.ref p.1).length ≤ sizeLine := by
    rw [List.length_map, vl, sizeLine_eq]
    omega
  refine wpAny_bind (wpAny_newList ?_ big)
  have atL : (s1.heap.push (seqObj "list" (L1.map fun p => Value.ref p.1).toArray 0)).get? s1.heap.objs.size = some (seqObj "list" (L1.map fun p => Value.ref p.1).toArray 0) := Heap.get?_push_size _ rfl
  have isk : ∀ p ∈ L1, IsK (s1.heap.push (seqObj "list" (L1.map fun p => Value.ref p.1).toArray 0)) p.2 p.1 := fun p hp =>
    RK.kept (R := keyRK P w) (S.row p (pL.mem_iff.mp hp)) fun c o e => Heap.get?_push_of_some _ (k1 c o e)
  have ek := each_rows isk
  have mem1 : ∀ x, x ∈ L1.map (·.2) ↔ x ∈ ds := fun x => by rw [(pL.map (·.2)).mem_iff, hm]
  have nd1 : (L1.map (·.2)).Nodup := (pL.map (·.2)).nodup_iff.mpr S.nd
  have hk1 : KeysOk (L1.map (·.2)) := hd.sub fun x m => (mem1 x).mp m
  refine wpAny_bind (wpAny_holding (PySem.W.list_sort_data (enc := fun d : PyData => d) atL ek (ek.mono fun v d ⟨b, e, k, _⟩ => ⟨[], by rw [e]; exact k.2.2, by simp⟩) (fun d m d' m' => ?_) (.inl fun d m => ?_) (by rw [List.length_map, vl, sizeLine_eq]; omega) (fun b m => ?_) fun out ol oe => ?_))
  · rw [List.map_id'] at m m'
    exact hk1.alk d m d' m'
  · rw [List.map_id'] at m
    exact ne d ((mem1 d).mp m)
  · have := key_depth b 8 (hk1.key b m)
    show A.in1.units + 1 + b.depth < cLine
    have e : A.in1.units ≤ A.units + 3 := by simp [Around.in1]
    omega
  obtain ⟨c, hc⟩ := sortedHeap_at (vs := L1.map fun p => Value.ref p.1) (out := out.toArray) atL
  obtain ⟨M, m1, m2, m3⟩ := each_rows_back oe
  refine wpAny_pure ⟨_, rfl, hQ { s1 with heap := sortedHeap (s1.heap.push (seqObj "list" (L1.map fun p => Value.ref p.1).toArray 0)) s1.heap.objs.size (L1.map fun p => Value.ref p.1) out.toArray } s1.heap.objs.size M out.toArray c (fun b o e => ?_) g1 o1 hz hc ?_ ?_ fun q hq => pL.mem_iff.mp (m3 q hq).2⟩
  · have q := k1 b o e
    have lt := Heap.lt_size q
    show (sortedHeap (s1.heap.push (seqObj "list" (L1.map fun p => Value.ref p.1).toArray 0)) s1.heap.objs.size (L1.map fun p => Value.ref p.1) out.toArray).get? b = some o
    rw [sortedHeap_old (Nat.ne_of_lt lt) (by rw [size_push']; exact Nat.lt_succ_of_lt lt)]
    exact Heap.get?_push_of_some _ q
  · exact m1
  · rw [← m2]
    exact sort_set hd nd1 mem1
end
end DL

namespace DL
open PySem PySem.Spec PyProof.Rows L2 PySem.Froz
/-! texts as keys -/
theorem gotS_nd : ∀ (xs l : List Str), l.Nodup → (xs.foldl stepS l).Nodup ∧ ∀ x, x ∈ xs.foldl stepS l ↔ x ∈ xs ∨ x ∈ l
  | [], l, h => ⟨h, fun x => by simp⟩
  | y :: xs, l, h => by
    have h1 : (stepS l y).Nodup := by
      unfold stepS
      split
      · exact h
      · rename_i n
        exact List.nodup_cons.mpr ⟨n, h⟩
    obtain ⟨q1, q2⟩ := gotS_nd xs (stepS l y) h1
    refine ⟨q1, fun x => ?_⟩
    show x ∈ xs.foldl stepS (stepS l y) ↔ _
    rw [q2 x]
    have : x ∈ stepS l y ↔ x = y ∨ x ∈ l := by
      unfold stepS
      split
      · rename_i m
        constructor
        · intro z; exact .inr z
        · rintro (z | z)
          · rw [z]; exact m
          · exact z
      · simp
    rw [this, List.mem_cons]
    constructor
    · rintro (z | z | z) <;> simp [z]
    · rintro ((z | z) | z) <;> simp [z]
theorem strs_ok (xs : List Str) : KeysOk (xs.map PyData.str) := by
  refine ⟨fun d m => ?_, fun d m e n => ?_⟩
  · obtain ⟨x, _, rfl⟩ := List.mem_map.mp m
    rfl
  · obtain ⟨x, _, rfl⟩ := List.mem_map.mp m
    obtain ⟨y, _, rfl⟩ := List.mem_map.mp n
    rfl
theorem asSet_D (xs : List Str) : (asSet xs).map PyData.str = asSetD (xs.map PyData.str) := by
  have g := gotS_nd xs [] List.nodup_nil
  refine asc_one _ _ ?_ (asSetD_asc (strs_ok xs)) fun x => ?_
  · have pw := List.pairwise_mergeSort leS_trans leS_total (gotS xs)
    have pm := List.mergeSort_perm (gotS xs) leS
    have nd := pm.nodup_iff.mpr g.1
    refine List.pairwise_map.mpr (List.Pairwise.imp (fun {a b} h => ?_) (pw.and nd))
    obtain ⟨h1, h2⟩ := h
    rw [PySem.W.dataLt_str, decide_eq_true_iff]
    by_cases z : a.cps.toList < b.cps.toList
    · exact z
    · exact absurd (leS_anti a b h1 (by unfold leS; exact decide_eq_true (List.not_lt.mp z))) h2
  · rw [mem_asSetD (strs_ok xs), List.mem_map, List.mem_map]
    have : ∀ y, y ∈ asSet xs ↔ y ∈ xs := fun y => by
      unfold asSet sortS
      rw [(List.mergeSort_perm _ _).mem_iff]
      have := g.2 y
      simpa [gotS] using this
    constructor
    · rintro ⟨y, m, e⟩; exact ⟨y, (this y).mp m, e⟩
    · rintro ⟨y, m, e⟩; exact ⟨y, (this y).mpr m, e⟩
/-! the rule -/
@[simp] def neTup : PyData → Bool
  | .tuple (_ :: _) => true
  | _ => false
@[simp] def textsB (ds : List PyData) : Bool := match strsD ds with
  | some xs => Nat.ble xs.length 1000
  | none => false
@[simp] def rowsB (ds : List PyData) : Bool := ds.all (fun d => neTup d && keyB 8 d) && (ds.all (fun d => ds.all fun e => PySem.W.alike d e) && Nat.blt ds.length 64)
/-- texts, or tuples of keys that can be compared: what set may be asked of -/
def setOkB (ds : List PyData) : Bool := textsB ds || rowsB ds
theorem strsD_eq : ∀ {ds : List PyData} {xs : List Str}, strsD ds = some xs → ds = xs.map PyData.str
  | [], xs, h => by cases h; rfl
  | .str s :: ds, xs, h => by
    unfold strsD at h
    cases e : strsD ds with
    | none => rw [e] at h; cases h
    | some r => rw [e] at h; cases h; rw [strsD_eq e]; rfl
  | .none :: _, _, h => by cases h
  | .bool _ :: _, _, h => by cases h
  | .int _ :: _, _, h => by cases h
  | .list _ :: _, _, h => by cases h
  | .tuple _ :: _, _, h => by cases h
  | .dict _ :: _, _, h => by cases h
theorem rowsB_ok {ds : List PyData} (h : rowsB ds = true) : KeysOk ds ∧ (∀ d ∈ ds, ∃ x r, d = .tuple (x :: r)) ∧ ds.length < 64 := by
  unfold rowsB at h
  rw [Bool.and_eq_true, Bool.and_eq_true, List.all_eq_true, List.all_eq_true] at h
  obtain ⟨h1, h2, h3⟩ := h
  refine ⟨⟨fun d m => ?_, fun d m e n => ?_⟩, fun d m => ?_, ?_⟩
  · have := h1 d m
    rw [Bool.and_eq_true] at this
    exact this.2
  · exact List.all_eq_true.mp (h2 d m) e n
  · have := h1 d m
    rw [Bool.and_eq_true] at this
    cases d with
    | tuple xs =>
      cases xs with
      | nil => cases this.1
      | cons x r => exact ⟨x, r, rfl⟩
    | _ => cases this.1
  · unfold Nat.blt at h3
    exact Nat.le_of_ble_eq_true h3
theorem setOkB_keys {ds : List PyData} (h : setOkB ds = true) : KeysOk ds := by
  unfold setOkB at h
  rw [Bool.or_eq_true] at h
  rcases h with h | h
  · unfold textsB at h
    cases e : strsD ds with
    | none => rw [e] at h; cases h
    | some xs =>
      rw [strsD_eq e]
      exact strs_ok xs
  · exact (rowsB_ok h).1
/-- values of vs that stand for data of ds -/
inductive Picked (vs : List V) (ds : List PyData) : List V → List PyData → Prop
  | nil : Picked vs ds [] []
  | cons {u : V} {d : PyData} {us : List V} {es : List PyData} (j : Nat) : vs[j]? = some u → ds[j]? = some d → Picked vs ds us es → Picked vs ds (u :: us) (d :: es)
theorem Picked.dd {K : PySem.W.Frag} {G : Hp} {vs : List V} {ds : List PyData} (h : DdAll K G vs ds) : ∀ {us : List V} {es : List PyData}, Picked vs ds us es → DdAll K G us es
  | _, _, .nil => .nil
  | _, _, .cons j h1 h2 t => by
    obtain ⟨v, q1, q2⟩ := h.get h2
    rw [h1] at q1
    cases q1
    exact .cons q2 (Picked.dd h t)
def tSortKeys (K : PySem.W.Frag) (te : TE) : TE := fun σ H Q => te σ H fun x H1 => ∃ (a : Addr) (vs : List V) (ds : List PyData), x = .ref a ∧ SqL K H1 a vs ∧ DpAll K H1 vs ds ∧ setOkB ds = true ∧ ∀ p us, H1 p = none → Picked vs ds us (asSetD ds) → Q (.ref p) (upd H1 p (.lst us))
theorem dpAll_strs {K : PySem.W.Frag} {H : Hp} : ∀ {vs : List V} {xs : List Str}, DpAll K H vs (xs.map PyData.str) → vs = xs.map V.str
  | [], [], _ => rfl
  | [], _ :: _, h => by cases h
  | _ :: _, [], h => by cases h
  | v :: vs, x :: xs, h => by
    cases h with
    | cons h1 t =>
      cases h1
      rw [dpAll_strs t]
      rfl
theorem picked_strs {xs : List Str} : ∀ {ys : List Str}, (∀ y ∈ ys, y ∈ xs) → Picked (xs.map V.str) (xs.map PyData.str) (ys.map V.str) (ys.map PyData.str)
  | [], _ => .nil
  | y :: ys, h => by
    obtain ⟨j, hj⟩ := List.getElem?_of_mem (h y (by simp))
    exact .cons j (by rw [List.getElem?_map, hj]; rfl) (by rw [List.getElem?_map, hj]; rfl) (picked_strs fun z m => h z (by simp [m]))
section
variable {X : Cx} {e : Expr} {te : TE} {We : WE} {p p2 pos pos2 : Pos}
/-- the values of a list of tuples: addresses that read as keys -/
theorem rows_of {pins : List (Addr × Obj)} {σ : L2.St} {H : Hp} {s : Shared} (I : Inv X pins σ H s) : ∀ {vs : List V} {ds : List PyData} {us : List Value}, DpAll X.K H vs ds → Vals vs us → (∀ d ∈ ds, keyB 8 d = true ∧ ∃ xs, d = .tuple xs) →
    ∃ ks : List (Addr × PyData), us = ks.map (fun q => Value.ref q.1) ∧ vs = ks.map (fun q => V.ref q.1) ∧ ds = ks.map (·.2) ∧ ∀ q ∈ ks, IsK s.heap q.2 q.1
  | [], [], us, _, r, _ => by
    cases r
    exact ⟨[], rfl, rfl, rfl, fun q m => by cases m⟩
  | [], _ :: _, _, h, _, _ => by cases h
  | _ :: _, [], _, h, _, _ => by cases h
  | v :: vs, d :: ds, us, h, r, hk => by
    cases h with
    | cons h1 t =>
      obtain ⟨k1, xs, rfl⟩ := hk d (by simp)
      cases r with
      | @cons _ u _ us' r1 r2 =>
        obtain ⟨ks, e1, e2, e3, e4⟩ := rows_of I t r2 fun x m => hk x (by simp [m])
        obtain ⟨as, rd⟩ := Dp.reads I _ _ _ h1 r1
        cases h1 with
        | @tup a _ _ _ _ =>
          cases r1
          have k2 := (key_reads _ 8 k1 rd fun _ _ _ _ e _ _ => e)
          obtain ⟨k3, rfl⟩ := k2
          refine ⟨(a, .tuple xs) :: ks, by rw [e1]; rfl, by rw [e2]; rfl, by rw [e3]; rfl, fun q m => ?_⟩
          rcases List.mem_cons.mp m with z | z
          · rw [z]; exact ⟨k1, ⟨xs, rfl⟩, k3⟩
          · exact e4 q z
set_option maxHeartbeats 8000000 in
theorem pe_sortKeys (hc : X.calm = true) (hu : X.A.units + 72 < cLine) (hg : Gl X "sorted") (hm : X.mg "sorted" = none) (hg2 : Gl X "set") (hm2 : X.mg "set" = none) (he : PE X e te)
    (na : starEach [e] X.env = (false, eval e X.env) :: starEach [] X.env := by rfl) (nb : starEach [.Call (.Name "set" p2) [e] [] pos2] X.env = (false, eval (.Call (.Name "set" p2) [e] [] pos2) X.env) :: starEach [] X.env := by rfl) :
    PE X (.Call (.Name "sorted" p) [.Call (.Name "set" p2) [e] [] pos2] [] pos) (tSortKeys X.K te) := by
  refine ⟨fun pins s σ H Q I h => ?_⟩
  refine Call_ (ld_blt I hg hm boot_sorted ?_)
  refine PyProof.Rows.callWith_builtin1 (PyProof.Rows.args_cons ?_ nb) nb rfl
  refine Call_ (ld_blt I hg2 hm2 boot_set ?_)
  refine PyProof.Rows.callWith_type1 (PyProof.Rows.args_cons (thn (he.run pins s σ H _ I h) fun v s1 ⟨x, H1, I1, r1, l, vs, ds, ex, hq, hd, ok, q⟩ => PyProof.Rows.args_nil ?_) na) na rfl
  subst ex
  cases r1
  obtain ⟨its, r, pl, hz⟩ := I1.list hq
  unfold setOkB at ok
  rw [Bool.or_eq_true] at ok
  rcases ok with ok | ok
  · unfold textsB at ok
    cases ed : strsD ds with
    | none => rw [ed] at ok; cases ok
    | some xs =>
      rw [ed] at ok
      have hl : xs.length ≤ 1000 := Nat.le_of_ble_eq_true ok
      have ed := strsD_eq ed
      subst ed
      have ev := dpAll_strs hd
      subst ev
      have sb : (1000 : Nat) + 2 < scanBound := by unfold scanBound; omega
      refine call_set_texts (P := X.prog) (w := X.w) (I1.ok.hd hc) pl.isList (by simpa using strsAre_of r) (by omega) fun h' tk D hS kp => ?_
      refine PyProof.Rows.args_nil ?_
      have I2 : Inv X pins σ H1 { s1 with heap := h', toks := tk } := I1.kept kp
      have gl := gotS_len xs
      refine sorted_texts (P := X.prog) (w := X.w) (s := { s1 with heap := h', toks := tk }) hS (I1.ok.hd hc) (by omega) (by omega) fun s' p out c k g o hp hgt hi => ?_
      have al := asSet_len xs
      have len : ((asSet xs).map V.str).length ≤ sizeLine := by
        rw [List.length_map, sizeLine_eq]
        omega
      have hn : H1 p = none := I2.hok.fresh hp
      have J : Inv X pins σ (upd H1 p (.lst ((asSet xs).map V.str))) { ({ s1 with heap := h', toks := tk } : Shared) with heap := s'.heap, gens := s'.gens, drawn := s'.drawn, toks := s'.toks } :=
        I2.call (ch := []) (Un.laid k hp hn) (I2.hok.laid k hp ⟨len, out.toList, c, vals_of_strs hi, hgt⟩) (by rw [g]; exact I2.bare) (fun _ z => nomatch z)
      have es : s' = { ({ s1 with heap := h', toks := tk } : Shared) with heap := s'.heap, gens := s'.gens, drawn := s'.drawn, toks := s'.toks } := by
        cases s'
        cases s1
        cases o
        rfl
      rw [es]
      refine ⟨.ref p, _, J, rfl, q p _ hn ?_⟩
      rw [← asSet_D]
      refine picked_strs fun y m => ?_
      have g2 := (gotS_nd xs [] List.nodup_nil).2 y
      have : y ∈ gotS xs := by
        unfold asSet sortS at m
        exact (List.mergeSort_perm _ _).mem_iff.mp m
      have := g2.mp this
      simpa using this
  · obtain ⟨ko, ne, few⟩ := rowsB_ok ok
    obtain ⟨ks, e1, e2, e3, e4⟩ := rows_of I1 hd r fun d m => ⟨ko.key d m, by obtain ⟨x, t, z⟩ := ne d m; exact ⟨x :: t, z⟩⟩
    subst e2 e3
    rw [List.length_map] at few
    refine call_set_rows (R := keyRK X.prog X.w) ks (I1.ok.hd hc) pl.isList (by simpa using e1) e4 few (fun B hB => by show B.units + 64 < cLine; omega) fun h' tk L D hS g kp => ?_
    refine PyProof.Rows.args_nil ?_
    have I2 : Inv X pins σ H1 { s1 with heap := h', toks := tk } := I1.kept kp
    have sub : ∀ p ∈ L, p ∈ ks := fun p hp => List.mem_of_mem_take (g.sub p hp)
    have all : ∀ p ∈ ks, p.2 ∈ L.map (·.2) := fun p hp => g.all p (by rw [List.take_length]; exact hp)
    refine sorted_rows (P := X.prog) (w := X.w) (s := { s1 with heap := h', toks := tk }) hS (I1.ok.hd hc) (by omega) ko (fun x => ?_) ne fun s' p M out c k g' o hp hgt hM hA hL => ?_
    · constructor
      · intro m
        obtain ⟨p, hp, rfl⟩ := List.mem_map.mp m
        exact List.mem_map.mpr ⟨p, sub p hp, rfl⟩
      · intro m
        obtain ⟨p, hp, rfl⟩ := List.mem_map.mp m
        exact all p hp
    have lM : M.length ≤ ks.length := by
      have h1 := congrArg List.length hA
      have h2 := asSetD_len (ks.map (·.2))
      rw [List.length_map] at h1 h2
      omega
    have len : (M.map fun q => V.ref q.1).length ≤ sizeLine := by
      rw [List.length_map, sizeLine_eq]
      omega
    have hn : H1 p = none := I2.hok.fresh hp
    have J : Inv X pins σ (upd H1 p (.lst (M.map fun q => V.ref q.1))) { ({ s1 with heap := h', toks := tk } : Shared) with heap := s'.heap, gens := s'.gens, drawn := s'.drawn, toks := s'.toks } :=
      I2.call (ch := []) (Un.laid k hp hn) (I2.hok.laid k hp ⟨len, out.toList, c, by
        rw [hM]
        have : ∀ M : List (Addr × PyData), Vals (M.map fun q => V.ref q.1) (M.map fun q => Value.ref q.1) := fun M => by
          induction M with
          | nil => exact .nil
          | cons q M ih => exact .cons rfl ih
        exact this M, hgt⟩) (by rw [g']; exact I2.bare) (fun _ z => nomatch z)
    have es : s' = { ({ s1 with heap := h', toks := tk } : Shared) with heap := s'.heap, gens := s'.gens, drawn := s'.drawn, toks := s'.toks } := by
      cases s'
      cases s1
      cases o
      rfl
    rw [es]
    refine ⟨.ref p, _, J, rfl, q p _ hn ?_⟩
    rw [← hA]
    have pk : ∀ M : List (Addr × PyData), (∀ q ∈ M, q ∈ ks) → Picked (ks.map fun q => V.ref q.1) (ks.map (·.2)) (M.map fun q => V.ref q.1) (M.map (·.2)) := fun M => by
      induction M with
      | nil => intro _; exact .nil
      | cons q M ih =>
        intro hs
        obtain ⟨j, hj⟩ := List.getElem?_of_mem (hs q (by simp))
        exact .cons j (by rw [List.getElem?_map, hj]; rfl) (by rw [List.getElem?_map, hj]; rfl) (ih fun r m => hs r (by simp [m]))
    exact pk M fun q m => sub q (hL q m)
/-- as a reading -/
@[simp] def wSortKeys (We : WE) : WA := fun Γ Q => We Γ fun d Γ1 => ∃ ds, d = .list ds ∧ setOkB ds = true ∧ Q (asSetD ds) Γ1
theorem dn_sortKeys (hc : X.calm = true) (hu : X.A.units + 72 < cLine) (hg : Gl X "sorted") (hm : X.mg "sorted" = none) (hg2 : Gl X "set") (hm2 : X.mg "set" = none) (he : DE X e We)
    (na : starEach [e] X.env = (false, eval e X.env) :: starEach [] X.env := by rfl) (nb : starEach [.Call (.Name "set" p2) [e] [] pos2] X.env = (false, eval (.Call (.Name "set" p2) [e] [] pos2) X.env) :: starEach [] X.env := by rfl) :
    DN X (.Call (.Name "sorted" p) [.Call (.Name "set" p2) [e] [] pos2] [] pos) (wSortKeys We) := by
  obtain ⟨t, pe, r⟩ := he.ex
  refine ⟨_, pe_sortKeys hc hu hg hm hg2 hm2 pe na nb, ?_⟩
  intro B Γ σ H G Q Q' E w k
  refine r B Γ σ H G _ _ E w fun v H1 G1 d Γ1 E1 s1 k1 d1 w1 => ?_
  obtain ⟨ds, ed, ok, w2⟩ := w1
  subst ed
  cases d1 with
  | @lst a vs _ ga da =>
    refine ⟨a, vs, ds, rfl, SqL.of (E1.gh _ _ ga), (da.mono E1.gh).dp, ok, fun p us hp pk => ?_⟩
    exact k p us _ G1 _ Γ1 (E1.laidN hp) s1 k1 (E1.gnone hp) upd_same (pk.dd da) (E1.bnone hp) (E1.nn p hp) (fresh_own E1 hp) w2
end
end DL

/-! ## more words: a chain of two comparisons, extend, pop, a list that is given away -/
namespace DL
open PySem PySem.Spec PyProof.Rows L2
section
variable {X : Cx} {K : PySem.W.Frag} {a b c e tg elt iter : Expr} {es tgs ifs : List Expr} {Wa Wb Wc We : WE} {Wr Wr' : WA} {pos : Pos} {WT' : WT} {ts us : List Nat}
/-! a op b op' c -/
@[simp] def wChain (f g : F2) (Wa Wb Wc : WE) : WE := fun Γ Q => Wa Γ fun x Γ1 => Wb Γ1 fun y Γ2 => f x y fun z => match z with
  | .bool k => if k = true then Wc Γ2 fun u Γ3 => g y u fun z' => Q z' Γ3 else Q (.bool false) Γ2
  | _ => False
theorem re_chain {r r' : R2} {f g : F2} {ta tb tc : TE} (hr : RV2 K r f) (hr' : RV2 K r' g) (ha : RE K ta Wa) (hb : RE K tb Wb) (hc : RE K tc Wc) : RE K (tChain r r' ta tb tc) (wChain f g Wa Wb Wc) := by
  intro B Γ σ H G Q Q' E w k
  refine ha B Γ σ H G _ _ E w fun x H1 G1 dx Γ1 E1 s1 k1 d1 w1 => ?_
  refine hb B Γ1 σ H1 G1 _ _ E1 w1 fun y H2 G2 dy Γ2 E2 s2 k2 d2 w2 => ?_
  refine hr B Γ2 σ H2 G2 x y dx dy _ _ E2 (d1.mono s2) d2 w2 fun v H3 G3 d E3 s3 d3 w3 => ?_
  cases d3 with
  | bl q =>
    refine ⟨q, rfl, ?_⟩
    cases q with
    | false => exact k _ H3 G3 _ Γ2 E3 ((s1.trans s2).trans s3) (k1.trans k2) (.bl _) w3
    | true =>
      refine hc B Γ2 σ H3 G3 _ _ E3 w3 fun u H4 G4 du Γ3 E4 s4 k4 d4 w4 => ?_
      refine hr' B Γ3 σ H4 G4 y u dy du _ _ E4 (d2.mono (s3.trans s4)) d4 w4 fun v' H5 G5 d' E5 s5 d5 w5 => ?_
      exact k v' H5 G5 d' Γ3 E5 ((((s1.trans s2).trans s3).trans s4).trans s5) ((k1.trans k2).trans k4) d5 w5
  | _ => exact w3.elim
theorem de_chain {op op' : CmpOp} {r r' : R2} {f g : F2} (ho : OpR X (compareOp op) r) (hr : RV2 X.K r f) (ho' : OpR X (compareOp op') r') (hr' : RV2 X.K r' g) (ha : DE X a Wa) (hb : DE X b Wb) (hc : DE X c Wc)
    (hm : lastMarks [op, op'] [b, c] = false := by with_unfolding_all rfl) : DE X (.Compare a [op, op'] [b, c] pos) (wChain f g Wa Wb Wc) := by
  obtain ⟨ta, pa, ra⟩ := ha.ex
  obtain ⟨tb, pb, rb⟩ := hb.ex
  obtain ⟨tc, pc, rc⟩ := hc.ex
  exact ⟨_, pe_chain ho ho' pa pb pc hm, re_chain hr hr' ra rb rc⟩
theorem dt_chain {op op' : CmpOp} {r r' : R2} {f g : F2} (ho : OpR X (compareOp op) r) (hr : RV2 X.K r f) (ho' : OpR X (compareOp op') r') (hr' : RV2 X.K r' g) (ha : DE X a Wa) (hb : DE X b Wb) (hc : DE X c Wc)
    (hm : lastMarks [op, op'] [b, c] = false := by with_unfolding_all rfl) : DT X (.Compare a [op, op'] [b, c] pos) (wB (wChain f g Wa Wb Wc)) := by
  obtain ⟨ta, pa, ra⟩ := ha.ex
  obtain ⟨tb, pb, rb⟩ := hb.ex
  obtain ⟨tc, pc, rc⟩ := hc.ex
  exact ⟨_, pt_chain ho ho' pa pb pc hm, rt_test (re_chain hr hr' ra rb rc)⟩
/-! xs.extend(e), e a list -/
@[simp] def wExt (j : Nat) (Wa : WE) : WS := fun D Γ => (ownAt Γ j).isSome = true ∧ Wa Γ fun d Γ1 => match d, ownAt Γ1 j with
  | .list es, some ds => ds.length + es.length ≤ sizeLine ∧ D.nx (setOwn Γ1 j (ds ++ es))
  | _, _ => False
theorem ds_ext (j : Nat) {x : Str} {p apos cpos : Pos} {t0 : TE} (h : PE X (.Name x p) (tVar j)) (he : DE X e Wa)
    (hb : ∀ {t : TE}, PE X e t → PE X (.Call (.Attribute (.Name x p) "extend" apos) [e] [] cpos) (tBM X.K "list" rExtend (tVar j) (tCons t tNil))) (hs : swapsWith (.Call (.Attribute (.Name x p) "extend" apos) [e] [] cpos) none pos.line X.env = pure false := by rfl) :
    DS X (.Expr (.Call (.Attribute (.Name x p) "extend" apos) [e] [] cpos) pos) (wExt j Wa) := by
  obtain ⟨t, pe, r⟩ := he.ex
  refine ⟨_, ps_expr (hb pe) hs, ?_⟩
  intro B Γ σ H G D D' E w l
  obtain ⟨w0, w⟩ := w
  cases q : ownAt Γ j with
  | none => rw [q] at w0; cases w0
  | some ds0 =>
    obtain ⟨p, vs, h1, h2, h3, h4, h5⟩ := E.mine j ds0 (own_of q)
    refine ⟨_, h1, .inl ⟨rfl, vs, SqL.of h3⟩, ?_⟩
    refine r B Γ σ H G _ _ E w fun v H1 G1 d Γ1 E1 s1 k1 d1 w1 => ?_
    cases d1 with
    | @lst u zs es gu da =>
      cases q1 : ownAt Γ1 j with
      | none => rw [q1] at w1; exact w1.elim
      | some ds =>
        rw [q1] at w1
        obtain ⟨p', vs', g1, g2, g3, g4, g5⟩ := E1.mine j ds (own_of q1)
        rw [h1] at g1
        cases g1
        refine ⟨p, u, vs', zs, rfl, rfl, g3, E1.gh _ _ gu, by rw [g4.length, da.length]; exact w1.1, ?_⟩
        exact l.nx σ _ G1 _ (E1.wrote (own_of q1) h1 (g4.app da)) s1 w1.2
    | _ => exact w1.elim
/-! xs.pop() -/
def lastD (ds : List PyData) : Option PyData := ds[ds.length - 1]?
@[simp] def wPop (j : Nat) : WE := fun Γ Q => match ownAt Γ j with
  | some ds => optD (lastD ds) fun d => Q d (setOwn Γ j ds.dropLast)
  | none => False
theorem DdAll.dropLast {G : Hp} : ∀ {vs : List V} {ds : List PyData}, DdAll K G vs ds → DdAll K G vs.dropLast ds.dropLast
  | _, _, .nil => .nil
  | _, _, .cons _ .nil => .nil
  | _, _, .cons h (.cons h2 t) => .cons h (DdAll.dropLast (.cons h2 t))
theorem ks_setOwn (Γ : Gam) (j : Nat) (ds : List PyData) : KS Γ (setOwn Γ j ds) := by
  refine ⟨(setOwn_len ..).symm, fun i a b ha hb => ?_⟩
  unfold setOwn at hb
  by_cases e : i = j
  · subst e
    rw [ha] at hb
    cases a with
    | own es =>
      dsimp only at hb
      rw [List.getElem?_set_self (List.getElem?_eq_some_iff.mp ha).1] at hb
      cases hb
      exact trivial
    | par es =>
      dsimp only at hb
      rw [List.getElem?_set_self (List.getElem?_eq_some_iff.mp ha).1] at hb
      cases hb
      exact trivial
    | _ => dsimp only at hb; rw [ha] at hb; cases hb; exact KS1.refl _
  · have : Γ[i]? = some b := by
      split at hb
      · rwa [List.getElem?_set_ne (Ne.symm e)] at hb
      · rwa [List.getElem?_set_ne (Ne.symm e)] at hb
      · exact hb
    rw [ha] at this
    cases this
    exact KS1.refl _
theorem de_pop (j : Nat) {x : Str} {p apos cpos : Pos} (h : PE X (.Name x p) (tVar j))
    (hb : PE X (.Call (.Attribute (.Name x p) "pop" apos) [] [] cpos) (tBM0 X.K "list" rPop (tVar j))) : DE X (.Call (.Attribute (.Name x p) "pop" apos) [] [] cpos) (wPop j) := by
  refine ⟨_, hb, ?_⟩
  intro B Γ σ H G Q Q' E w k
  unfold wPop at w
  cases q : ownAt Γ j with
  | none => rw [q] at w; exact w.elim
  | some ds =>
    rw [q] at w
    obtain ⟨d, hd, w⟩ := w
    obtain ⟨p, vs, h1, h2, h3, h4, h5⟩ := E.mine j ds (own_of q)
    obtain ⟨v, hv, dv⟩ := h4.get hd
    refine ⟨_, h1, .inl ⟨rfl, vs, SqL.of h3⟩, p, vs, v, rfl, rfl, h3, by rw [h4.length]; exact hv, ?_⟩
    exact k v _ G d _ (E.wrote (own_of q) h1 h4.dropLast) (Same.refl _) (ks_setOwn Γ j _) dv w
/-! a def whose one argument is a list that is given away -/
structure PostG (K : PySem.W.Frag) (G H : Hp) (p : Addr) (G' H' : Hp) (v : V) (r : Rs) : Prop where
  gg : Same G G'
  gh : Same G' H'
  keep : ∀ q o, q ≠ p → H q = some o → H' q = some o
  free : ∀ q, q ≠ p → H q ≠ none → G q = none → G' q = none
  res : VR K (fun q => q = p ∨ H q = none) G' H' v r
def spG (K : PySem.W.Frag) (S : List PyData → (Rs → Prop) → Prop) : Sp := fun vs H Q _ => ∃ (G : Hp) (p : Addr) (us : List V) (ds : List PyData) (R : Rs → Prop), vs = [.ref p] ∧ Same G H ∧ G p = none ∧ H p = some (.lst us) ∧ DdAll K G us ds ∧ S ds R ∧
  ∀ v G' H' r, PostG K G H p G' H' v r → R r → Q v H'
def bsG (H G : Hp) (p : Addr) : Bs := ⟨fun q => if q = p then none else H q, G, fun _ => False, fun q => q = p ∨ H q = none, fun _ => p⟩
theorem bsG_ne {H G : Hp} {p q : Addr} (h : q ≠ p) : (bsG H G p).H q = H q := if_neg h
theorem bsG_at {H G : Hp} {p : Addr} : (bsG H G p).H p = none := if_pos rfl
theorem bsG_some {H G : Hp} {p q : Addr} {o : HO} (h : (bsG H G p).H q = some o) : q ≠ p ∧ H q = some o := by
  by_cases e : q = p
  · subst e
    rw [bsG_at] at h
    cases h
  · rw [bsG_ne e] at h
    exact ⟨e, h⟩
theorem en_startG {N : List Str} {G H : Hp} {p : Addr} {us : List V} {ds : List PyData} (gh : Same G H) (gp : G p = none) (hp : H p = some (.lst us)) (da : DdAll K G us ds) (hn : 0 < N.length) :
    En K (bsG H G p) (L2.start N [.ref p]) H G (.own ds :: List.replicate (N.length - 1) .un) := by
  have st0 : (L2.start N [V.ref p])[0]? = some (some (V.ref p)) := start_get (by simp)
  have g0 : ∀ (i : Nat) s, ((.own ds :: List.replicate (N.length - 1) .un : Gam))[i]? = some s → s ≠ .un → i = 0 ∧ s = .own ds := fun i s h n => by
    cases i with
    | zero => simp at h; exact ⟨rfl, h.symm⟩
    | succ i =>
      simp only [List.getElem?_cons_succ] at h
      have := List.mem_of_getElem? h
      exact absurd (List.eq_of_mem_replicate this) n
  have ow : ∀ (i : Nat) es, Own (.own ds :: List.replicate (N.length - 1) .un : Gam) i es → i = 0 ∧ es = ds := fun i es h => by
    rcases h with h | h
    · obtain ⟨h1, h2⟩ := g0 i _ h (fun z => by cases z)
      cases h2
      exact ⟨h1, rfl⟩
    · obtain ⟨h1, h2⟩ := g0 i _ h (fun z => by cases z)
      cases h2
  refine ⟨?_, gh, Same.refl _, fun q o h _ => (bsG_some h).2, fun q h => ?_, fun q _ h => h, fun q h => .inr h, fun i d h => ?_, fun i es o => ?_, fun i es o => ?_, fun i es o => ?_, fun i es o => ?_, fun i j q es fs o1 o2 _ _ => ?_⟩
  · unfold L2.start
    simp
  · cases e : (bsG H G p).H q with
    | none => exact absurd e h
    | some o => rw [(bsG_some e).2]; exact fun z => by cases z
  · obtain ⟨_, h2⟩ := g0 i _ h (fun z => by cases z)
    cases h2
  · obtain ⟨rfl, rfl⟩ := ow i es o
    exact ⟨p, us, st0, gp, hp, da, .inr bsG_at⟩
  · obtain ⟨rfl, _⟩ := ow i es (.inl o)
    exact ⟨p, st0, .inl rfl⟩
  · obtain ⟨_, h2⟩ := g0 i _ o (fun z => by cases z)
    cases h2
  · obtain ⟨_, h2⟩ := g0 i _ o (fun z => by cases z)
    cases h2
  · rw [(ow i es o1).1, (ow j fs o2).1]
@[simp] def endsG (R : Rs → Prop) : EndsD where
  nx := fun _ => R (.dat .none)
  rt := fun r _ => R r
end
section
variable {P : Program} {w : World} {K : PySem.W.Frag} {mg : Str → Option Value} {base : Heap}
theorem fn_okG {x qual : Str} {st : Stmt} {f : Addr} {fd : FuncData} {N : List Str} {p1 : Str} {k : Nat} {S : List PyData → (Rs → Prop) → Prop} {W : WS} (F : Fun K x qual st f fd) (Sc : FnScope N [p1] (defScope st)) (hn : 0 < N.length)
    (hbody : ∀ (cdv : Value) (A : Around) (outer : List Env) (s : Shared) (H : Hp) (E : XK), Room k (A.deeper (envOfC qual (defScope st) s.heap.objs.size f cdv)) →
      DSs (cxOf CX0 P w K mg base N qual (defScope st) f cdv A outer s H E).nox (defBody st) W)
    (hW : ∀ ds R, S ds R → W (endsG R) (.own ds :: List.replicate (N.length - 1) .un)) : FnOk P w K mg base CX0 (k + 1) f fd [p1] (spG K S) := by
  refine F.ok Sc (fun vs H Q E h => ?_) (fun cdv A outer s H vs Q E hr h => ?_)
  · obtain ⟨G, p, us, ds, R, rfl, _⟩ := h
    rfl
  · obtain ⟨t, pt, r⟩ := (hbody cdv A outer s H E hr).ex
    refine ⟨t, pt, ?_⟩
    obtain ⟨G, p, us, ds, R, rfl, gh, gp, hp, da, hS, hQ⟩ := h
    have E0 := en_startG (N := N) gh gp hp da hn
    have fin : ∀ (σ : L2.St) (v : V) (H' G' : Hp) (Γ : Gam) (r : Rs), En K (bsG H G p) σ H' G' Γ → Same G G' → VR K (fun q => q = p ∨ H q = none) G' H' v r → R r → Q v H' := fun σ v H' G' Γ r E1 s1 vr hR =>
      hQ v G' H' r ⟨s1, E1.gh, fun q o n h => E1.h0 q o (by rw [bsG_ne n]; exact h) (fun z => z), fun q n h h' => E1.f0 q (by rw [bsG_ne n]; exact h) h', vr⟩ hR
    refine r _ _ _ _ G (endsG R) _ E0 (hW ds R hS) ⟨fun σ H' G' Γ E1 s1 q => fin σ .non H' G' Γ (.dat .none) E1 s1 Dd.non q, fun σ H' G' Γ E1 s1 q => q.elim, fun σ H' G' Γ E1 s1 q => q.elim, fun σ v H' G' Γ r E1 s1 vr q => fin σ v H' G' Γ r E1 s1 vr q, fun q h => ?_, fun d σ H' G' Γ x E1 s1 xo q => q.elim⟩
    rcases h with h | h
    · rw [h]; exact bsG_at
    · by_cases e : q = p
      · rw [e]; exact bsG_at
      · rw [bsG_ne e]; exact h
structure CalG (P : Program) (w : World) (K : PySem.W.Frag) (mg : Str → Option Value) (base : Heap) (x : Str) (ps : List Str) (k : Nat) (S : List PyData → (Rs → Prop) → Prop) : Prop where
  ex : ∃ (f : Addr) (fd : FuncData), mg x = some (.ref f) ∧ PySem.W.keepIn K (.ref f) = true ∧ Binds K fd ps [] ∧ FnOk P w K mg base CX0 k f fd ps (spG K S)
theorem CalG.mono {x : Str} {ps : List Str} {k k' : Nat} {S : List PyData → (Rs → Prop) → Prop} (h : CalG P w K mg base x ps k S) (hk : k ≤ k') : CalG P w K mg base x ps k' S := by
  obtain ⟨f, fd, h1, h2, h3, h4⟩ := h.ex
  exact ⟨f, fd, h1, h2, h3, h4.mono hk⟩
theorem fn_calG {x qual : Str} {st : Stmt} {f : Addr} {fd : FuncData} {ps : List Str} {k : Nat} {S : List PyData → (Rs → Prop) → Prop} (hm : mg x = some (.ref f)) (F : Fun K x qual st f fd) (hb : Binds K fd ps []) (G : FnOk P w K mg base CX0 k f fd ps (spG K S)) : CalG P w K mg base x ps k S :=
  ⟨f, fd, hm, F.kp, hb, G⟩
end
section
variable {X : Cx} {K : PySem.W.Frag} {a : Expr} {Wr : WA} {pos : Pos}
@[simp] def wCallG (S : List PyData → (Rs → Prop) → Prop) (Wa : WA) : WE := fun Γ Q => Wa Γ fun ds Γ1 => S ds fun r => match r with
  | .dat d => Q d Γ1
  | .new es => Q (.list es) Γ1
theorem En.calledG {B : Bs} {σ : L2.St} {H G H' G' : Hp} {Γ : Gam} {p : Addr} {v : V} {r : Rs} (E : En K B σ H G Γ) (bp : B.H p = none) (np : B.N p)
    (no : ∀ (i : Nat) es, Own Γ i es → σ[i]? ≠ some (some (V.ref p))) (Po : PostG K G H p G' H' v r) : En K B σ H' G' Γ := by
  have ne_of : ∀ {q : Addr}, B.H q ≠ none → q ≠ p := fun h z => by subst z; exact h bp
  have al : ∀ q, q ≠ p → H q ≠ none → H' q ≠ none := fun q n h => by
    cases e : H q with
    | none => exact absurd e h
    | some o => rw [Po.keep q o n e]; exact fun z => by cases z
  refine ⟨E.len, Po.gh, E.g0.trans Po.gg, fun q o h hP => Po.keep q o (ne_of (by rw [h]; exact fun z => by cases z)) (E.h0 q o h hP), fun q h => al q (ne_of h) (E.bh q h), fun q h h' => Po.free q (ne_of h) (E.bh q h) (E.f0 q h h'), fun q h => ?_, fun i d h => ?_, fun i es ow => ?_, fun i es ow => E.new i es ow, fun i es ow => E.par i es ow, fun i es ow => E.scrG Po.gg i es ow, fun i j q ds es o1 o2 h1 h2 => E.inj i j q ds es o1 o2 h1 h2⟩
  · by_cases e : q = p
    · rw [e]; exact np
    · refine E.nn q ?_
      cases q1 : H q with
      | none => rfl
      | some u => exact absurd h (al q e (by rw [q1]; exact fun z => by cases z))
  · obtain ⟨u, h1, h2⟩ := E.dat i d h
    exact ⟨u, h1, h2.mono Po.gg⟩
  · obtain ⟨q, us', g1, g2, g3, g4, g5⟩ := E.mine i es ow
    have n : q ≠ p := fun z => by subst z; exact no i es ow g1
    exact ⟨q, us', g1, Po.free q n (by rw [g3]; exact fun z => by cases z) g2, Po.keep q _ n g3, g4.mono Po.gg, g5⟩
theorem de_callG {S : List PyData → (Rs → Prop) → Prop} {k : Nat} {ps : List Str} {x : Str} {p : Pos} (C : CalG X.prog X.w X.K X.mg X.base x ps k S) (hr : Room k X.A) (hg : Gl X x)
    (ha : DN X a Wr) (hdb : (x == ("__debug__" : Str)) = false := by decide) (he : starEach (a :: []) X.env = (false, eval a X.env) :: starEach [] X.env := by rfl) (hpl : (backTo pos (starEach [] X.env)).any (·.1) = false := by rfl) :
    DE X (.Call (.Name x p) (a :: []) [] pos) (wCallG S Wr) := by
  obtain ⟨f, fd, h1, h2, h3, h4⟩ := C.ex
  obtain ⟨t, pa, ra⟩ := ha.ex
  refine ⟨_, pe_call (dvs := []) (E := L2.E0) h4 hr hg h1 h2 h3 .nil pass0 (pa_cons pa pa_nil he) hdb he hpl, ?_⟩
  intro B Γ σ H G Q Q' E w k
  refine ra B Γ σ H G _ _ E w fun p us H1 G1 ds Γ1 E1 s1 k1 gp hp da bp np no w1 => ?_
  refine ⟨G1, p, us, ds, _, rfl, E1.gh, gp, hp, da, w1, fun v G' H' r Po hR => ?_⟩
  have E2 := E1.calledG bp np no Po
  cases r with
  | dat d => exact k v H' G' d _ E2 (s1.trans Po.gg) k1 Po.res hR
  | new ds =>
    obtain ⟨q, us, rfl, h1, h2, h3, h4⟩ := Po.res
    have bq : B.H q = none := by
      rcases h4 with h4 | h4
      · rw [h4]; exact bp
      · exact E1.bnone h4
    have no' : ∀ (i : Nat) es, Own Γ1 i es → σ[i]? ≠ some (some (V.ref q)) := fun i es ow z => by
      rcases h4 with h4 | h4
      · subst h4
        exact no i es ow z
      · obtain ⟨p', us', g1, g2, g3, _⟩ := E1.mine i es ow
        rw [z] at g1
        cases g1
        rw [h4] at g3
        cases g3
    exact k (.ref q) H' (upd G' q (.lst us)) (.list ds) _ (E2.freeze h2 h1 bq no') ((s1.trans Po.gg).trans (sameNew h1)) k1 (.lst upd_same (h3.mono (sameNew h1))) hR
end
end DL

/-! # FL: readings that are functions
A def is read as a function over slots. Each word of the layer has its function, and where the function answers, the reading holds. -/
namespace DL
open PySem PySem.Spec PyProof.Rows L2

/-! ## results -/
inductive Flow where
  | nx (Γ : Gam)
  | bk (Γ : Gam)
  | ct (Γ : Gam)
  | rt (r : Rs) (Γ : Gam)
  | ex (x : Exn) (Γ : Gam)
inductive Out where
  | ok (r : Rs) (as : List Sl)
  | ex (x : Exn) (as : List Sl)
inductive ResX where
  | ok (d : PyData) (Γ : Gam)
  | ex (x : Exn) (Γ : Gam)
abbrev FR (α : Type) := Gam → Option (α × Gam)
abbrev FE := FR PyData
abbrev FT := FR Bool
abbrev FAs := FR (List PyData)
abbrev FO := FR (Option Int)
abbrev FP := FR Opd
abbrev FPA := FR (List Opd)
abbrev FG := PyData → Gam → Option Gam
abbrev FGs := List PyData → Gam → Option Gam
abbrev FEX := Gam → Option ResX
abbrev FS := Gam → Option Flow
abbrev Fn := List Sl → Option Out
abbrev F2F := PyData → PyData → Option PyData
abbrev FAF := List PyData → Option PyData

def Flow.ok (D : EndsD) : Flow → Prop
  | .nx Γ => D.nx Γ
  | .bk Γ => D.bk Γ
  | .ct Γ => D.ct Γ
  | .rt r Γ => D.rt r Γ
  | .ex x Γ => D.ex x Γ
def Ad {α : Type} (W : Gam → (α → Gam → Prop) → Prop) (F : FR α) : Prop := ∀ Γ Q a Γ', F Γ = some (a, Γ') → Q a Γ' → W Γ Q
def AdX (W : WEX) (F : FEX) : Prop := ∀ Γ Q QX, match F Γ with
  | some (.ok d Γ') => Q d Γ' → W Γ Q QX
  | some (.ex x Γ') => QX x Γ' → W Γ Q QX
  | none => True
def AdG (W : WG) (F : FG) : Prop := ∀ d Γ (Q : Gam → Prop) Γ', F d Γ = some Γ' → Q Γ' → W d Γ Q
def AdGs (W : WGs) (F : FGs) : Prop := ∀ d Γ (Q : Gam → Prop) Γ', F d Γ = some Γ' → Q Γ' → W d Γ Q
def AdS (W : WS) (F : FS) : Prop := ∀ D Γ f, F Γ = some f → f.ok D → W D Γ
def Ad2 (f : F2) (g : F2F) : Prop := ∀ x y z k, g x y = some z → k z → f x y k
def AdA (f : FA) (g : FAF) : Prop := ∀ xs z k, g xs = some z → k z → f xs k

/-! ## the carrying words -/
def bnd {α β : Type} (o : Option (α × Gam)) (k : α → Gam → Option β) : Option β := match o with
  | some (a, Γ) => k a Γ
  | none => none
@[simp] theorem bnd_mk {α β : Type} (a : α) (Γ : Gam) (k : α → Gam → Option β) : bnd (some (a, Γ)) k = k a Γ := rfl
@[simp] theorem bnd_none {α β : Type} (k : α → Gam → Option β) : bnd none k = none := rfl
theorem bnd_some {α β : Type} {o : Option (α × Gam)} {k : α → Gam → Option β} {b : β} (h : bnd o k = some b) : ∃ a Γ, o = some (a, Γ) ∧ k a Γ = some b := by
  cases o with
  | none => cases h
  | some p => exact ⟨p.1, p.2, rfl, h⟩
def onO {α β : Type} (o : Option α) (k : α → Option β) : Option β := match o with
  | some a => k a
  | none => none
@[simp] theorem onO_mk {α β : Type} (a : α) (k : α → Option β) : onO (some a) k = k a := rfl
@[simp] theorem onO_none {α β : Type} (k : α → Option β) : onO none k = none := rfl
theorem onO_some {α β : Type} {o : Option α} {k : α → Option β} {b : β} (h : onO o k = some b) : ∃ a, o = some a ∧ k a = some b := by
  cases o with
  | none => cases h
  | some a => exact ⟨a, rfl, h⟩
@[simp] def boolF : PyData → Option Bool
  | .bool b => some b
  | _ => none
@[simp] def intF : PyData → Option Int
  | .int b => some b
  | _ => none
@[simp] def strF : PyData → Option Str
  | .str b => some b
  | _ => none
theorem boolF_some {d : PyData} {b : Bool} (h : boolF d = some b) : d = .bool b := by cases d <;> cases h; rfl
theorem intF_some {d : PyData} {b : Int} (h : intF d = some b) : d = .int b := by cases d <;> cases h; rfl
theorem strF_some {d : PyData} {b : Str} (h : strF d = some b) : d = .str b := by cases d <;> cases h; rfl
/-- a test ahead -/
def chk {β : Type} (c : Bool) (k : Option β) : Option β := if c = true then k else none
@[simp] theorem chk_true {β : Type} (k : Option β) : chk true k = k := rfl
theorem chk_pos {β : Type} {c : Bool} {k : Option β} (h : c = true) : chk c k = k := by subst h; rfl
theorem chk_some {β : Type} {c : Bool} {k : Option β} {b : β} (h : chk c k = some b) : c = true ∧ k = some b := by
  cases c with
  | true => exact ⟨rfl, h⟩
  | false => cases h

/-! ## expressions -/
def slV : Sl → Option PyData
  | .dat d => some d
  | _ => none
@[simp] theorem slV_dat (d : PyData) : slV (.dat d) = some d := rfl
@[simp] def fVar (i : Nat) : FE := fun Γ => match Γ[i]? with
  | some (.dat d) => some (d, Γ)
  | _ => none
theorem ad_var (i : Nat) : Ad (wVar i) (fVar i) := by
  intro Γ Q a Γ' h q
  unfold wVar
  unfold fVar at h
  cases e : Γ[i]? with
  | none => rw [e] at h; cases h
  | some s =>
    rw [e] at h
    cases s with
    | dat d => cases h; exact q
    | _ => cases h
@[simp] def fC (d : PyData) : FE := fun Γ => some (d, Γ)
theorem ad_c (d : PyData) : Ad (wC d) (fC d) := fun Γ Q a Γ' h q => by cases h; exact q
@[simp] def fOp (f : F2F) (a b : FE) : FE := fun Γ => bnd (a Γ) fun x Γ1 => bnd (b Γ1) fun y Γ2 => onO (f x y) fun z => some (z, Γ2)
theorem ad_op {f : F2} {g : F2F} {Wa Wb : WE} {a b : FE} (hf : Ad2 f g) (ha : Ad Wa a) (hb : Ad Wb b) : Ad (wOp f Wa Wb) (fOp g a b) := fun Γ Q z Γ' h q => by
  obtain ⟨x, Γ1, h1, h⟩ := bnd_some h
  obtain ⟨y, Γ2, h2, h⟩ := bnd_some h
  obtain ⟨u, h3, h⟩ := onO_some h
  cases h
  exact ha _ _ _ _ h1 (hb _ _ _ _ h2 (hf _ _ _ _ h3 q))
@[simp] def fB (a : FE) : FT := fun Γ => bnd (a Γ) fun d Γ1 => onO (boolF d) fun b => some (b, Γ1)
theorem ad_b {W : WE} {F : FE} (h : Ad W F) : Ad (wB W) (fB F) := fun Γ Q z Γ' e q => by
  obtain ⟨x, Γ1, h1, e⟩ := bnd_some e
  obtain ⟨b, h2, e⟩ := onO_some e
  cases e
  have := boolF_some h2
  subst this
  exact h _ _ _ _ h1 q
@[simp] def fAnd (a b : FT) : FT := fun Γ => bnd (a Γ) fun x Γ1 => if x = true then b Γ1 else some (false, Γ1)
@[simp] def fOr (a b : FT) : FT := fun Γ => bnd (a Γ) fun x Γ1 => if x = true then some (true, Γ1) else b Γ1
@[simp] def fNot (a : FT) : FT := fun Γ => bnd (a Γ) fun x Γ1 => some (!x, Γ1)
theorem ad_and {A B : WT} {a b : FT} (ha : Ad A a) (hb : Ad B b) : Ad (wAnd A B) (fAnd a b) := fun Γ Q z Γ' e q => by
  obtain ⟨x, Γ1, h1, e⟩ := bnd_some e
  refine ha _ _ _ _ h1 ?_
  cases x with
  | true => exact hb _ _ _ _ e q
  | false => cases e; exact q
theorem ad_or {A B : WT} {a b : FT} (ha : Ad A a) (hb : Ad B b) : Ad (wOr A B) (fOr a b) := fun Γ Q z Γ' e q => by
  obtain ⟨x, Γ1, h1, e⟩ := bnd_some e
  refine ha _ _ _ _ h1 ?_
  cases x with
  | true => cases e; exact q
  | false => exact hb _ _ _ _ e q
theorem ad_not {A : WT} {a : FT} (ha : Ad A a) : Ad (wNot A) (fNot a) := fun Γ Q z Γ' e q => by
  obtain ⟨x, Γ1, h1, e⟩ := bnd_some e
  cases e
  exact ha _ _ _ _ h1 q
@[simp] def fAndV (a b : FE) : FE := fun Γ => bnd (a Γ) fun d Γ1 => onO (boolF d) fun x => if x = true then b Γ1 else some (.bool false, Γ1)
@[simp] def fOrV (a b : FE) : FE := fun Γ => bnd (a Γ) fun d Γ1 => onO (boolF d) fun x => if x = true then some (.bool true, Γ1) else b Γ1
@[simp] def fNotV (a : FE) : FE := fun Γ => bnd (a Γ) fun d Γ1 => onO (boolF d) fun x => some (.bool (!x), Γ1)
theorem ad_andV {A B : WE} {a b : FE} (ha : Ad A a) (hb : Ad B b) : Ad (wAndV A B) (fAndV a b) := fun Γ Q z Γ' e q => by
  obtain ⟨d, Γ1, h1, e⟩ := bnd_some e
  obtain ⟨x, h2, e⟩ := onO_some e
  have := boolF_some h2
  subst this
  refine ha _ _ _ _ h1 ?_
  cases x with
  | true => exact hb _ _ _ _ e q
  | false => cases e; exact q
theorem ad_orV {A B : WE} {a b : FE} (ha : Ad A a) (hb : Ad B b) : Ad (wOrV A B) (fOrV a b) := fun Γ Q z Γ' e q => by
  obtain ⟨d, Γ1, h1, e⟩ := bnd_some e
  obtain ⟨x, h2, e⟩ := onO_some e
  have := boolF_some h2
  subst this
  refine ha _ _ _ _ h1 ?_
  cases x with
  | true => cases e; exact q
  | false => exact hb _ _ _ _ e q
theorem ad_notV {A : WE} {a : FE} (ha : Ad A a) : Ad (wNotV A) (fNotV a) := fun Γ Q z Γ' e q => by
  obtain ⟨d, Γ1, h1, e⟩ := bnd_some e
  obtain ⟨x, h2, e⟩ := onO_some e
  have := boolF_some h2
  subst this
  cases e
  exact ha _ _ _ _ h1 q
@[simp] def fIf (t : FT) (a b : FE) : FE := fun Γ => bnd (t Γ) fun x Γ1 => if x = true then a Γ1 else b Γ1
theorem ad_if {T : WT} {A B : WE} {t : FT} {a b : FE} (ht : Ad T t) (ha : Ad A a) (hb : Ad B b) : Ad (wIf T A B) (fIf t a b) := fun Γ Q z Γ' e q => by
  obtain ⟨x, Γ1, h1, e⟩ := bnd_some e
  refine ht _ _ _ _ h1 ?_
  cases x with
  | true => exact ha _ _ _ _ e q
  | false => exact hb _ _ _ _ e q
@[simp] def fNil : FAs := fun Γ => some ([], Γ)
@[simp] def fCons (a : FE) (r : FAs) : FAs := fun Γ => bnd (a Γ) fun d Γ1 => bnd (r Γ1) fun ds Γ2 => some (d :: ds, Γ2)
theorem ad_nil : Ad wNil fNil := fun Γ Q z Γ' e q => by cases e; exact q
theorem ad_cons {A : WE} {R : WA} {a : FE} {r : FAs} (ha : Ad A a) (hr : Ad R r) : Ad (wCons A R) (fCons a r) := fun Γ Q z Γ' e q => by
  obtain ⟨d, Γ1, h1, e⟩ := bnd_some e
  obtain ⟨ds, Γ2, h2, e⟩ := bnd_some e
  cases e
  exact ha _ _ _ _ h1 (hr _ _ _ _ h2 q)
/-- short enough to be a list -/
def fits (n : Nat) : Bool := Nat.ble n 16777216
theorem fits_le {n : Nat} (h : fits n = true) : n ≤ sizeLine := by
  unfold fits at h
  have := Nat.le_of_ble_eq_true h
  rw [sizeLine_eq]
  exact this
theorem fits_of {n : Nat} (h : n ≤ 16777216) : fits n = true := Nat.ble_eq_true_of_le h
@[simp] def fTup (r : FAs) : FE := fun Γ => bnd (r Γ) fun ds Γ1 => chk (fits ds.length) (some (.tuple ds, Γ1))
@[simp] def fLst (r : FAs) : FAs := fun Γ => bnd (r Γ) fun ds Γ1 => chk (fits ds.length) (some (ds, Γ1))
@[simp] def fL (r : FAs) : FE := fun Γ => bnd (r Γ) fun ds Γ1 => some (.list ds, Γ1)
theorem ad_tup {R : WA} {r : FAs} (h : Ad R r) : Ad (wTup R) (fTup r) := fun Γ Q z Γ' e q => by
  obtain ⟨ds, Γ1, h1, e⟩ := bnd_some e
  obtain ⟨c, e⟩ := chk_some e
  cases e
  exact h _ _ _ _ h1 ⟨fits_le c, q⟩
theorem ad_lst {R : WA} {r : FAs} (h : Ad R r) : Ad (wLst R) (fLst r) := fun Γ Q z Γ' e q => by
  obtain ⟨ds, Γ1, h1, e⟩ := bnd_some e
  obtain ⟨c, e⟩ := chk_some e
  cases e
  exact h _ _ _ _ h1 ⟨fits_le c, q⟩
theorem ad_l {R : WA} {r : FAs} (h : Ad R r) : Ad (wL R) (fL r) := fun Γ Q z Γ' e q => by
  obtain ⟨ds, Γ1, h1, e⟩ := bnd_some e
  cases e
  exact h _ _ _ _ h1 q
@[simp] def fCB (g : FAF) (r : FAs) : FE := fun Γ => bnd (r Γ) fun ds Γ1 => onO (g ds) fun z => some (z, Γ1)
theorem ad_cb {f : FA} {g : FAF} {R : WA} {r : FAs} (hf : AdA f g) (h : Ad R r) : Ad (wCB f R) (fCB g r) := fun Γ Q z Γ' e q => by
  obtain ⟨ds, Γ1, h1, e⟩ := bnd_some e
  obtain ⟨u, h2, e⟩ := onO_some e
  cases e
  exact h _ _ _ _ h1 (hf _ _ _ h2 q)
@[simp] def fNeg (a : FE) : FE := fun Γ => bnd (a Γ) fun d Γ1 => onO (intF d) fun i => some (.int (-i), Γ1)
theorem ad_neg {A : WE} {a : FE} (h : Ad A a) : Ad (wNeg A) (fNeg a) := fun Γ Q z Γ' e q => by
  obtain ⟨d, Γ1, h1, e⟩ := bnd_some e
  obtain ⟨i, h2, e⟩ := onO_some e
  have := intF_some h2
  subst this
  cases e
  exact h _ _ _ _ h1 q
@[simp] def fNone : FO := fun Γ => some (none, Γ)
@[simp] def fSome (a : FE) : FO := fun Γ => bnd (a Γ) fun d Γ1 => onO (intF d) fun i => some (some i, Γ1)
theorem ad_none : Ad wNone fNone := fun Γ Q z Γ' e q => by cases e; exact q
theorem ad_some {A : WE} {a : FE} (h : Ad A a) : Ad (wSome A) (fSome a) := fun Γ Q z Γ' e q => by
  obtain ⟨d, Γ1, h1, e⟩ := bnd_some e
  obtain ⟨i, h2, e⟩ := onO_some e
  have := intF_some h2
  subst this
  cases e
  exact h _ _ _ _ h1 q

/-! ## operators over data -/
@[simp] def addF : F2F
  | .int i, .int j => some (.int (i + j))
  | .str s, .str t => chk (fits (s.length + t.length)) (some (.str (s ++ t)))
  | .list x, .list y => chk (fits (x.length + y.length)) (some (.list (x ++ y)))
  | .tuple x, .tuple y => chk (fits (x.length + y.length)) (some (.tuple (x ++ y)))
  | _, _ => none
theorem ad_add : Ad2 addD addF := fun x y z k h q => by
  cases x <;> cases y <;> first
    | (cases h; exact q)
    | (obtain ⟨c, h⟩ := chk_some h; cases h; exact ⟨fits_le c, q⟩)
    | cases h
@[simp] def subF : F2F
  | .int i, .int j => some (.int (i - j))
  | _, _ => none
theorem ad_sub : Ad2 subD subF := fun x y z k h q => by
  cases x <;> cases y <;> first
    | (cases h; exact ⟨trivial, q⟩)
    | cases h
@[simp] def modF : F2F
  | .int i, .int j => chk (j != 0) (some (.int (i.fmod j)))
  | _, _ => none
theorem ad_mod : Ad2 modD modF := fun x y z k h q => by
  cases x <;> cases y <;> first
    | (obtain ⟨c, h⟩ := chk_some h; cases h; exact ⟨by simpa using c, q⟩)
    | cases h
end DL

namespace DL
open PySem PySem.Spec PyProof.Rows L2
/-! operators, on -/
@[simp] def fdivF : F2F
  | .int i, .int j => chk (j != 0 && Nat.blt j.natAbs 1073741824) (some (.int (i.fdiv j)))
  | _, _ => none
theorem ad_fdiv : Ad2 fdivD fdivF := fun x y z k h q => by
  cases x <;> cases y <;> first
    | (obtain ⟨c, h⟩ := chk_some h; cases h
       rw [Bool.and_eq_true] at c
       exact ⟨⟨by simpa using c.1, by have := c.2; unfold Nat.blt at this; exact Nat.le_of_ble_eq_true this⟩, q⟩)
    | cases h
@[simp] def powF : F2F
  | .int i, .int j => chk (decide (0 ≤ j) && (decide (j ≤ 1000000) && Nat.blt i.natAbs 18446744073709551616)) (some (.int (i ^ j.toNat)))
  | _, _ => none
theorem ad_pow : Ad2 powD powF := fun x y z k h q => by
  cases x <;> cases y <;> first
    | (obtain ⟨c, h⟩ := chk_some h; cases h
       rw [Bool.and_eq_true, Bool.and_eq_true] at c
       exact ⟨⟨of_decide_eq_true c.1, of_decide_eq_true c.2.1, by have := c.2.2; unfold Nat.blt at this; exact Nat.le_of_ble_eq_true this⟩, q⟩)
    | cases h
def mulOk (i j : Int) : Bool := Nat.blt i.natAbs 18446744073709551616 || Nat.blt j.natAbs 18446744073709551616
theorem mulOk_c {i j : Int} (h : mulOk i j = true) : CMul i j := by
  unfold mulOk at h
  rw [Bool.or_eq_true] at h
  rcases h with h | h
  · left; unfold Nat.blt at h; have := Nat.le_of_ble_eq_true h; omega
  · right; unfold Nat.blt at h; have := Nat.le_of_ble_eq_true h; omega
@[simp] def mulF : F2F
  | .int i, .int j => chk (mulOk i j) (some (.int (i * j)))
  | .list x, .int j => chk (decide (-(2 ^ 63) ≤ j) && (decide (j < 2 ^ 63) && fits (x.length * j.toNat))) (some (.list (List.replicate j.toNat x).flatten))
  | _, _ => none
theorem ad_mul : Ad2 mulD mulF := fun x y z k h q => by
  cases x <;> cases y <;> first
    | (obtain ⟨c, h⟩ := chk_some h; cases h; exact ⟨mulOk_c c, q⟩)
    | (obtain ⟨c, h⟩ := chk_some h; cases h
       rw [Bool.and_eq_true, Bool.and_eq_true] at c
       exact ⟨of_decide_eq_true c.1, of_decide_eq_true c.2.1, fits_le c.2.2, q⟩)
    | cases h
@[simp] def cmpF (g : Int → Int → Bool) : F2F
  | .int i, .int j => some (.bool (g i j))
  | _, _ => none
theorem ad_cmp {g : Int → Int → Bool} : Ad2 (cmpD g) (cmpF g) := fun x y z k h q => by
  cases x <;> cases y <;> first
    | (cases h; exact q)
    | cases h
@[simp] def ltF : F2F := cmpF fun i j => decide (i < j)
@[simp] def leF : F2F := cmpF fun i j => decide (i ≤ j)
@[simp] def gtF : F2F := cmpF fun i j => decide (j < i)
@[simp] def geF : F2F := cmpF fun i j => decide (j ≤ i)
@[simp] def eqF : F2F := fun x y => chk (SeqAt.shaped x && SeqAt.shaped y) (some (.bool (PyData.eqv x y)))
@[simp] def neF : F2F := fun x y => chk (SeqAt.shaped x && SeqAt.shaped y) (some (.bool (!PyData.eqv x y)))
theorem ad_eq : Ad2 eqD eqF := fun x y z k h q => by
  obtain ⟨c, h⟩ := chk_some h
  cases h
  rw [Bool.and_eq_true] at c
  unfold eqD
  exact ⟨c.1, c.2, q⟩
theorem ad_ne : Ad2 neD neF := fun x y z k h q => by
  obtain ⟨c, h⟩ := chk_some h
  cases h
  rw [Bool.and_eq_true] at c
  unfold neD
  exact ⟨c.1, c.2, q⟩
@[simp] def isNoneB : PyData → Bool
  | .none => true
  | _ => false
@[simp] def isNF : F2F := fun x y => chk (isNoneB y) (some (.bool (isNoneB x)))
@[simp] def notNF : F2F := fun x y => chk (isNoneB y) (some (.bool !(isNoneB x)))
theorem ad_isN : Ad2 isND isNF := fun x y z k h q => by
  obtain ⟨c, h⟩ := chk_some h
  cases h
  have hy : y = .none := by
    cases y <;> first
      | rfl
      | cases c
  subst hy
  refine ⟨rfl, ?_⟩
  cases x <;> exact q
theorem ad_notN : Ad2 notND notNF := fun x y z k h q => by
  obtain ⟨c, h⟩ := chk_some h
  cases h
  have hy : y = .none := by
    cases y <;> first
      | rfl
      | cases c
  subst hy
  refine ⟨rfl, ?_⟩
  cases x <;> exact q
@[simp] def seqOf : PyData → Option (List PyData)
  | .list es => some es
  | .tuple es => some es
  | _ => none
@[simp] def inF : F2F
  | .str a, .str b => some (.bool (inStr a b))
  | d, e => onO (seqOf e) fun es => chk (flatD d && es.all flatD) (some (.bool (es.any fun z => PyData.eqv z d)))
@[simp] def notInF : F2F
  | .str a, .str b => some (.bool (!inStr a b))
  | d, e => onO (seqOf e) fun es => chk (flatD d && es.all flatD) (some (.bool (!es.any fun z => PyData.eqv z d)))
theorem ad_in : Ad2 inD inF := fun x y z k h q => by
  unfold inD
  cases y with
  | list es =>
    have h : onO (seqOf (.list es)) (fun es => chk (flatD x && es.all flatD) (some (.bool (es.any fun z => PyData.eqv z x)))) = some z := by cases x <;> exact h
    obtain ⟨c, h⟩ := chk_some h
    cases h
    rw [Bool.and_eq_true] at c
    cases x <;> exact ⟨c.1, c.2, q⟩
  | tuple es =>
    have h : onO (seqOf (.tuple es)) (fun es => chk (flatD x && es.all flatD) (some (.bool (es.any fun z => PyData.eqv z x)))) = some z := by cases x <;> exact h
    obtain ⟨c, h⟩ := chk_some h
    cases h
    rw [Bool.and_eq_true] at c
    cases x <;> exact ⟨c.1, c.2, q⟩
  | str b =>
    cases x <;> first
      | (cases h; exact q)
      | cases h
  | _ => cases x <;> cases h
theorem ad_notIn : Ad2 notInD notInF := fun x y z k h q => by
  unfold notInD
  cases y with
  | list es =>
    have h : onO (seqOf (.list es)) (fun es => chk (flatD x && es.all flatD) (some (.bool (!es.any fun z => PyData.eqv z x)))) = some z := by cases x <;> exact h
    obtain ⟨c, h⟩ := chk_some h
    cases h
    rw [Bool.and_eq_true] at c
    cases x <;> exact ⟨c.1, c.2, q⟩
  | tuple es =>
    have h : onO (seqOf (.tuple es)) (fun es => chk (flatD x && es.all flatD) (some (.bool (!es.any fun z => PyData.eqv z x)))) = some z := by cases x <;> exact h
    obtain ⟨c, h⟩ := chk_some h
    cases h
    rw [Bool.and_eq_true] at c
    cases x <;> exact ⟨c.1, c.2, q⟩
  | str b =>
    cases x <;> first
      | (cases h; exact q)
      | cases h
  | _ => cases x <;> cases h
@[simp] def inTF : F2F
  | d, .tuple es => chk (SeqAt.shaped d && SeqAt.shaped (.tuple es)) (some (.bool (es.any fun z => PyData.eqv z d)))
  | _, _ => none
theorem ad_inT : Ad2 inTD inTF := fun x y z k h q => by
  unfold inTD
  cases y with
  | tuple es =>
    obtain ⟨c, h⟩ := chk_some h
    cases h
    rw [Bool.and_eq_true] at c
    exact ⟨c.1, c.2, q⟩
  | _ => cases h
@[simp] def ixF : F2F
  | .list xs, .int i => atI xs i
  | .tuple xs, .int i => atI xs i
  | .str z, .int i => chk (fits z.length) (onO (atI z.cps.toList i) fun c => some (sign c))
  | _, _ => none
theorem ad_ix : Ad2 ixD ixF := fun x y z k h q => by
  cases x <;> cases y <;> first
    | exact ⟨_, h, q⟩
    | (obtain ⟨c, h⟩ := chk_some h
       obtain ⟨a, h1, h⟩ := onO_some h
       cases h
       exact ⟨fits_le c, a, h1, q⟩)
    | cases h
@[simp] def slF (d : PyData) (lo hi : Option Int) : Option PyData := match d with
  | .list xs => some (.list (cutD xs lo hi))
  | .tuple xs => some (.tuple (cutD xs lo hi))
  | .str z => chk (fits z.length) (some (.str (cutS z lo hi)))
  | _ => none
@[simp] def fSl (a : FE) (l h : FO) : FE := fun Γ => bnd (a Γ) fun d Γ1 => bnd (l Γ1) fun lo Γ2 => bnd (h Γ2) fun hi Γ3 => onO (slF d lo hi) fun z => some (z, Γ3)
theorem ad_sl {A : WE} {L Hh : WO} {a : FE} {l h : FO} (ha : Ad A a) (hl : Ad L l) (hh : Ad Hh h) : Ad (wSl A L Hh) (fSl a l h) := fun Γ Q z Γ' e q => by
  obtain ⟨d, Γ1, h1, e⟩ := bnd_some e
  obtain ⟨lo, Γ2, h2, e⟩ := bnd_some e
  obtain ⟨hi, Γ3, h3, e⟩ := bnd_some e
  obtain ⟨u, h4, e⟩ := onO_some e
  cases e
  refine ha _ _ _ _ h1 (hl _ _ _ _ h2 (hh _ _ _ _ h3 ?_))
  cases d <;> first
    | (cases h4; exact q)
    | (obtain ⟨c, h4⟩ := chk_some h4; cases h4; exact ⟨fits_le c, q⟩)
    | cases h4
@[simp] def fSlS (j : Nat) (l h : FO) : FE := fun Γ => match Γ[j]? with
  | some (.scr ds) => bnd (l Γ) fun lo Γ2 => bnd (h Γ2) fun hi Γ3 => some (.list (cutD ds lo hi), Γ3)
  | _ => none
theorem ad_slS (j : Nat) {L Hh : WO} {l h : FO} (hl : Ad L l) (hh : Ad Hh h) : Ad (wSlS j L Hh) (fSlS j l h) := fun Γ Q z Γ' e q => by
  unfold wSlS
  unfold fSlS at e
  cases g : Γ[j]? with
  | none => rw [g] at e; cases e
  | some s =>
    rw [g] at e
    cases s with
    | scr ds =>
      obtain ⟨lo, Γ2, h2, e⟩ := bnd_some e
      obtain ⟨hi, Γ3, h3, e⟩ := bnd_some e
      cases e
      exact hl _ _ _ _ h2 (hh _ _ _ _ h3 q)
    | _ => cases e
@[simp] def lenF : FAF
  | [.list xs] => some (.int xs.length)
  | [.tuple xs] => some (.int xs.length)
  | [.str z] => chk (fits z.length) (some (.int z.length))
  | _ => none
theorem ad_len : AdA lenD lenF := fun xs z k h q => by
  match xs with
  | [] => cases h
  | [d] => cases d <;> first
      | (cases h; exact q)
      | (obtain ⟨c, h⟩ := chk_some h; cases h; exact ⟨fits_le c, q⟩)
      | cases h
  | d :: _ :: _ => cases d <;> cases h
@[simp] def absF : FAF
  | [.int i] => some (.int (if i < 0 then -i else i))
  | _ => none
theorem ad_abs : AdA absD absF := fun xs z k h q => by
  match xs with
  | [] => cases h
  | [d] => cases d <;> first
      | (cases h; exact q)
      | cases h
  | d :: _ :: _ => cases d <;> cases h
@[simp] def intTF : FAF
  | [.int i] => some (.int i)
  | [.bool b] => some (.int (if b then 1 else 0))
  | _ => none
theorem ad_intT : AdA intT intTF := fun xs z k h q => by
  match xs with
  | [] => cases h
  | [d] => cases d <;> first
      | (cases h; exact q)
      | cases h
  | d :: _ :: _ => cases d <;> cases h
@[simp] def tupTF : FAF
  | [.list xs] => some (.tuple xs)
  | [.tuple xs] => some (.tuple xs)
  | _ => none
theorem ad_tupT : AdA tupT tupTF := fun xs z k h q => by
  match xs with
  | [] => cases h
  | [d] => cases d <;> first
      | (cases h; exact q)
      | cases h
  | d :: _ :: _ => cases d <;> cases h
/-! type names, as numbers of a table: no text is compared -/
inductive Ty where
  | bool | int | str | list | tuple | non
@[simp] def Ty.name : Ty → String
  | .bool => "bool" | .int => "int" | .str => "str" | .list => "list" | .tuple => "tuple" | .non => "NoneType"
@[simp] def isTyF : PyData → Ty → Bool
  | .none, .non => true
  | .bool _, .bool => true
  | .bool _, .int => true
  | .int _, .int => true
  | .str _, .str => true
  | .list _, .list => true
  | .tuple _, .tuple => true
  | _, _ => false
theorem isTyF_eq (d : PyData) (t : Ty) : isTyF d t = isTy (tyD d) t.name := by
  cases d <;> cases t <;> first | rfl | decide
@[simp] def fIsi (T : Ty) (a : FE) : FE := fun Γ => bnd (a Γ) fun d Γ1 => some (.bool (isTyF d T), Γ1)
@[simp] def fIsi2 (T U : Ty) (a : FE) : FE := fun Γ => bnd (a Γ) fun d Γ1 => some (.bool (isTyF d T || isTyF d U), Γ1)
theorem ad_isi (T : Ty) {A : WE} {a : FE} (ha : Ad A a) : Ad (wIsi T.name A) (fIsi T a) := fun Γ Q z Γ' e q => by
  obtain ⟨d, Γ1, h1, e⟩ := bnd_some e
  cases e
  refine ha _ _ _ _ h1 ?_
  rw [isTyF_eq] at q
  exact q
theorem ad_isi2 (T U : Ty) {A : WE} {a : FE} (ha : Ad A a) : Ad (wIsi2 T.name U.name A) (fIsi2 T U a) := fun Γ Q z Γ' e q => by
  obtain ⟨d, Γ1, h1, e⟩ := bnd_some e
  cases e
  refine ha _ _ _ _ h1 ?_
  rw [isTyF_eq, isTyF_eq] at q
  exact q
/-! lists that are one's own, as operands -/
@[simp] def fD (a : FE) : FP := fun Γ => bnd (a Γ) fun d Γ1 => some (.dat d, Γ1)
@[simp] def fOw (j : Nat) : FP := fun Γ => match ownAt Γ j with
  | some _ => some (.var j, Γ)
  | none => none
@[simp] def fOs (j : Nat) : FP := fun Γ => match Γ[j]? with
  | some (.scr _) => some (.var j, Γ)
  | _ => none
theorem ad_d {A : WE} {a : FE} (h : Ad A a) : Ad (wD A) (fD a) := fun Γ Q z Γ' e q => by
  obtain ⟨d, Γ1, h1, e⟩ := bnd_some e
  cases e
  exact h _ _ _ _ h1 q
theorem ad_ow (j : Nat) : Ad (wO j) (fOw j) := fun Γ Q z Γ' e q => by
  unfold fOw at e
  cases g : ownAt Γ j with
  | none => rw [g] at e; cases e
  | some ds => rw [g] at e; cases e; exact ⟨by rw [g]; rfl, q⟩
theorem ad_os (j : Nat) : Ad (wOs j) (fOs j) := fun Γ Q z Γ' e q => by
  unfold fOs at e
  unfold wOs
  cases g : Γ[j]? with
  | none => rw [g] at e; cases e
  | some s =>
    rw [g] at e
    cases s with
    | scr ds => cases e; exact q
    | _ => cases e
@[simp] def fIxO (o : FP) (b : FE) : FE := fun Γ => bnd (o Γ) fun o Γ1 => bnd (b Γ1) fun y Γ2 => onO (o.rd Γ2) fun x => onO (ixF x y) fun z => some (z, Γ2)
theorem ad_ixO {O : WP} {B : WE} {o : FP} {b : FE} (ho : Ad O o) (hb : Ad B b) : Ad (wIxO O B) (fIxO o b) := fun Γ Q z Γ' e q => by
  obtain ⟨o, Γ1, h1, e⟩ := bnd_some e
  obtain ⟨y, Γ2, h2, e⟩ := bnd_some e
  obtain ⟨x, h3, e⟩ := onO_some e
  obtain ⟨u, h4, e⟩ := onO_some e
  cases e
  refine ho _ _ _ _ h1 (hb _ _ _ _ h2 ?_)
  rw [h3]
  exact ad_ix _ _ _ _ h4 q
@[simp] def fLenO (o : FP) : FE := fun Γ => bnd (o Γ) fun o Γ1 => onO (o.rd Γ1) fun x => onO (lenF [x]) fun z => some (z, Γ1)
theorem ad_lenO {O : WP} {o : FP} (ho : Ad O o) : Ad (wLenO O) (fLenO o) := fun Γ Q z Γ' e q => by
  obtain ⟨o, Γ1, h1, e⟩ := bnd_some e
  obtain ⟨x, h3, e⟩ := onO_some e
  obtain ⟨u, h4, e⟩ := onO_some e
  cases e
  refine ho _ _ _ _ h1 ?_
  rw [h3]
  exact ad_len _ _ _ h4 q
@[simp] def fTupO (o : FP) : FE := fun Γ => bnd (o Γ) fun o Γ1 => onO (o.rd Γ1) fun x => onO (tupTF [x]) fun z => some (z, Γ1)
theorem ad_tupO {O : WP} {o : FP} (ho : Ad O o) : Ad (wTupO O) (fTupO o) := fun Γ Q z Γ' e q => by
  obtain ⟨o, Γ1, h1, e⟩ := bnd_some e
  obtain ⟨x, h3, e⟩ := onO_some e
  obtain ⟨u, h4, e⟩ := onO_some e
  cases e
  refine ho _ _ _ _ h1 ?_
  rw [h3]
  exact ad_tupT _ _ _ h4 q
@[simp] def fListO (o : FP) : FAs := fun Γ => bnd (o Γ) fun o Γ1 => onO (o.rd Γ1) fun x => onO (seqOf x) fun ds => some (ds, Γ1)
theorem ad_listO {O : WP} {o : FP} (ho : Ad O o) : Ad (wListO O) (fListO o) := fun Γ Q z Γ' e q => by
  obtain ⟨o, Γ1, h1, e⟩ := bnd_some e
  obtain ⟨x, h3, e⟩ := onO_some e
  obtain ⟨ds, h4, e⟩ := onO_some e
  cases e
  refine ho _ _ _ _ h1 ?_
  rw [h3]
  cases x <;> first
    | (cases h4; exact q)
    | cases h4
@[simp] def fAddO (o : FP) (b : FE) : FAs := fun Γ => bnd (o Γ) fun o Γ1 => bnd (b Γ1) fun y Γ2 => onO (o.rd Γ2) fun x => match x, y with
  | .list ds, .list es => chk (fits (ds.length + es.length)) (some (ds ++ es, Γ2))
  | _, _ => none
theorem ad_addO {O : WP} {B : WE} {o : FP} {b : FE} (ho : Ad O o) (hb : Ad B b) : Ad (wAddO O B) (fAddO o b) := fun Γ Q z Γ' e q => by
  obtain ⟨o, Γ1, h1, e⟩ := bnd_some e
  obtain ⟨y, Γ2, h2, e⟩ := bnd_some e
  obtain ⟨x, h3, e⟩ := onO_some e
  refine ho _ _ _ _ h1 (hb _ _ _ _ h2 ?_)
  rw [h3]
  cases x <;> cases y <;> first
    | (obtain ⟨c, e⟩ := chk_some e; cases e; exact ⟨fits_le c, q⟩)
    | cases e
@[simp] def fOrL (a b : FAs) : FAs := fun Γ => bnd (a Γ) fun ds Γ1 => if ds.isEmpty = true then b Γ1 else some (ds, Γ1)
theorem ad_orL {A B : WA} {a b : FAs} (ha : Ad A a) (hb : Ad B b) : Ad (wOrL A B) (fOrL a b) := fun Γ Q z Γ' e q => by
  obtain ⟨ds, Γ1, h1, e⟩ := bnd_some e
  refine ha _ _ _ _ h1 ?_
  cases g : ds.isEmpty with
  | true =>
    rw [g, if_pos rfl] at e
    rw [if_pos rfl]
    exact hb _ _ _ _ e q
  | false =>
    rw [g, if_neg (by decide)] at e
    cases e
    rw [if_neg (by decide)]
    exact q
/-! texts -/
@[simp] def strsF : List PyData → Option (List Str) := strsD
@[simp] def joinF (s : Str) (d : PyData) : Option PyData := onO (seqOf d) fun ds => onO (strsD ds) fun ss => chk (Nat.ble ((ss.map (·.length)).sum + ss.length * s.length) 16777216) (some (.str (Txt.join s ss)))
@[simp] def fJoin (a b : FE) : FE := fun Γ => bnd (a Γ) fun d Γ1 => onO (strF d) fun s => bnd (b Γ1) fun e Γ2 => onO (joinF s e) fun z => some (z, Γ2)
theorem ad_join {A B : WE} {a b : FE} (ha : Ad A a) (hb : Ad B b) : Ad (wM1 joinD A B) (fJoin a b) := fun Γ Q z Γ' e q => by
  obtain ⟨d, Γ1, h1, e⟩ := bnd_some e
  obtain ⟨s, h2, e⟩ := onO_some e
  obtain ⟨y, Γ2, h3, e⟩ := bnd_some e
  obtain ⟨u, h4, e⟩ := onO_some e
  cases e
  have := strF_some h2
  subst this
  refine ha _ _ _ _ h1 (hb _ _ _ _ h3 ?_)
  obtain ⟨ds, h5, h4⟩ := onO_some h4
  obtain ⟨ss, h6, h4⟩ := onO_some h4
  obtain ⟨c, h4⟩ := chk_some h4
  cases h4
  have g : joinS s ds fun z => Q z Γ' := by
    unfold joinS
    rw [h6]
    exact ⟨Nat.le_of_ble_eq_true c, q⟩
  cases y <;> first
    | (cases h5; exact g)
    | cases h5
@[simp] def allF : FAF
  | [.list ds] => onO (boolsD ds) fun bs => some (.bool (bs.all id))
  | _ => none
@[simp] def anyF : FAF
  | [.list ds] => onO (boolsD ds) fun bs => some (.bool (bs.any id))
  | _ => none
theorem ad_all : AdA allB allF := fun xs z k h q => by
  match xs with
  | [] => cases h
  | [.list ds] =>
    have h : onO (boolsD ds) (fun bs => some (.bool (bs.all id))) = some z := h
    show (match boolsD ds with
      | some bs => k (.bool (bs.all id))
      | none => False)
    cases g : boolsD ds with
    | none => rw [g] at h; cases h
    | some bs => rw [g] at h; cases h; exact q
  | [.none] => cases h
  | [.bool _] => cases h
  | [.int _] => cases h
  | [.str _] => cases h
  | [.tuple _] => cases h
  | [.dict _] => cases h
  | d :: _ :: _ => cases d <;> cases h
theorem ad_any : AdA anyB anyF := fun xs z k h q => by
  match xs with
  | [] => cases h
  | [.list ds] =>
    have h : onO (boolsD ds) (fun bs => some (.bool (bs.any id))) = some z := h
    show (match boolsD ds with
      | some bs => k (.bool (bs.any id))
      | none => False)
    cases g : boolsD ds with
    | none => rw [g] at h; cases h
    | some bs => rw [g] at h; cases h; exact q
  | [.none] => cases h
  | [.bool _] => cases h
  | [.int _] => cases h
  | [.str _] => cases h
  | [.tuple _] => cases h
  | [.dict _] => cases h
  | d :: _ :: _ => cases d <;> cases h
end DL

namespace DL
open PySem PySem.Spec PyProof.Rows L2
/-! ## calls -/
@[simp] def rsD : Rs → PyData
  | .dat d => d
  | .new ds => .list ds
def sF (F : Fn) : PSp := fun as R => ∃ r as', F as = some (.ok r as') ∧ R r as'
def sFX (F : Fn) : PSpX := fun as R RX => match F as with
  | some (.ok r as') => R r as'
  | some (.ex x as') => RX x as'
  | none => False
theorem noX_sFX {F : Fn} {as : List Sl} {R : Rs → List Sl → Prop} : noX (sFX F) as R ↔ sF F as R := by
  unfold noX sFX sF
  constructor
  · intro h
    cases e : F as with
    | none => rw [e] at h; exact h.elim
    | some o =>
      rw [e] at h
      cases o with
      | ok r as' => exact ⟨r, as', rfl, h⟩
      | ex x as' => exact h.elim
  · rintro ⟨r, as', e, h⟩
    rw [e]
    exact h
@[simp] def nodupB : List Nat → Bool
  | [] => true
  | x :: xs => !(xs.any fun y => Nat.beq y x) && nodupB xs
theorem nodupB_nd : ∀ {l : List Nat}, nodupB l = true → l.Nodup
  | [], _ => List.nodup_nil
  | x :: xs, h => by
    unfold nodupB at h
    rw [Bool.and_eq_true] at h
    refine List.nodup_cons.mpr ⟨fun hm => ?_, nodupB_nd h.2⟩
    have h1 := h.1
    rw [Bool.not_eq_true', List.any_eq_false] at h1
    exact h1 x hm (Nat.beq_refl x)
@[simp] def fPNil : FPA := fun Γ => some ([], Γ)
@[simp] def fPCons (o : FP) (r : FPA) : FPA := fun Γ => bnd (o Γ) fun o Γ1 => bnd (r Γ1) fun os Γ2 => some (o :: os, Γ2)
theorem ad_pnil : Ad wPNil fPNil := fun Γ Q z Γ' e q => by cases e; exact q
theorem ad_pcons {O : WP} {R : WPA} {o : FP} {r : FPA} (ho : Ad O o) (hr : Ad R r) : Ad (wPCons O R) (fPCons o r) := fun Γ Q z Γ' e q => by
  obtain ⟨o, Γ1, h1, e⟩ := bnd_some e
  obtain ⟨os, Γ2, h2, e⟩ := bnd_some e
  cases e
  exact ho _ _ _ _ h1 (hr _ _ _ _ h2 q)
/-- what a call hands back, and the slots behind it -/
def outD (Γ : Gam) (os : List Opd) : Option Out → Option (PyData × Gam)
  | some (.ok r as') => some (rsD r, putB Γ os as')
  | _ => none
@[simp] theorem outD_ok (Γ : Gam) (os : List Opd) (r : Rs) (as' : List Sl) : outD Γ os (some (.ok r as')) = some (rsD r, putB Γ os as') := rfl
def outN (Γ : Gam) : Option Out → Option (PyData × Gam)
  | some (.ok r _) => some (rsD r, Γ)
  | _ => none
@[simp] theorem outN_ok (Γ : Gam) (r : Rs) (as' : List Sl) : outN Γ (some (.ok r as')) = some (rsD r, Γ) := rfl
def outL (Γ : Gam) (os : List Opd) : Option Out → Option (List PyData × Gam)
  | some (.ok (.new ds) as') => some (ds, putB Γ os as')
  | _ => none
@[simp] theorem outL_ok (Γ : Gam) (os : List Opd) (ds : List PyData) (as' : List Sl) : outL Γ os (some (.ok (.new ds) as')) = some (ds, putB Γ os as') := rfl
def outX (Γ : Gam) (os : List Opd) : Option Out → Option ResX
  | some (.ok r as') => some (.ok (rsD r) (putB Γ os as'))
  | some (.ex x as') => some (.ex x (putB Γ os as'))
  | none => none
@[simp] theorem outX_ok (Γ : Gam) (os : List Opd) (r : Rs) (as' : List Sl) : outX Γ os (some (.ok r as')) = some (.ok (rsD r) (putB Γ os as')) := rfl
@[simp] theorem outX_ex (Γ : Gam) (os : List Opd) (x : Exn) (as' : List Sl) : outX Γ os (some (.ex x as')) = some (.ex x (putB Γ os as')) := rfl
@[simp] def fCall (F : Fn) (r : FPA) : FE := fun Γ => bnd (r Γ) fun os Γ1 => onO (argsOf Γ1 os) fun as => chk (nodupB (varsOf os)) (outD Γ1 os (F as))
theorem ad_call {F : Fn} {R : WPA} {r : FPA} (hr : Ad R r) : Ad (wCall (sF F) R) (fCall F r) := fun Γ Q z Γ' e q => by
  obtain ⟨os, Γ1, h1, e⟩ := bnd_some e
  obtain ⟨as, h2, e⟩ := onO_some e
  obtain ⟨c, e⟩ := chk_some e
  refine hr _ _ _ _ h1 ?_
  rw [h2]
  cases g : F as with
  | none => rw [g] at e; cases e
  | some o =>
    rw [g] at e
    cases o with
    | ex x as' => cases e
    | ok v as' =>
      cases e
      refine ⟨nodupB_nd c, v, as', g, ?_⟩
      cases v <;> exact q
theorem ad_callV {F : Fn} {R : WPA} {r : FPA} (hr : Ad R r) : Ad (wCall (noX (sFX F)) R) (fCall F r) := fun Γ Q z Γ' e q => by
  obtain ⟨os, Γ1, h1, e⟩ := bnd_some e
  obtain ⟨as, h2, e⟩ := onO_some e
  obtain ⟨c, e⟩ := chk_some e
  refine hr _ _ _ _ h1 ?_
  rw [h2]
  cases g : F as with
  | none => rw [g] at e; cases e
  | some o =>
    rw [g] at e
    cases o with
    | ex x as' => cases e
    | ok v as' =>
      cases e
      refine ⟨nodupB_nd c, noX_sFX.mpr ⟨v, as', g, ?_⟩⟩
      cases v <;> exact q
@[simp] def fCallL (F : Fn) (r : FPA) : FAs := fun Γ => bnd (r Γ) fun os Γ1 => onO (argsOf Γ1 os) fun as => chk (nodupB (varsOf os)) (outL Γ1 os (F as))
theorem ad_callL {F : Fn} {R : WPA} {r : FPA} (hr : Ad R r) : Ad (wCallL (sF F) R) (fCallL F r) := fun Γ Q z Γ' e q => by
  obtain ⟨os, Γ1, h1, e⟩ := bnd_some e
  obtain ⟨as, h2, e⟩ := onO_some e
  obtain ⟨c, e⟩ := chk_some e
  refine hr _ _ _ _ h1 ?_
  rw [h2]
  cases g : F as with
  | none => rw [g] at e; cases e
  | some o =>
    rw [g] at e
    cases o with
    | ex x as' => cases e
    | ok v as' =>
      cases v with
      | dat d => cases e
      | new ds =>
        cases e
        exact ⟨nodupB_nd c, .new _, as', g, q⟩
@[simp] def fCallK (F : Fn) (r k : FPA) (n m : Nat) (is : List Nat) : FE := fun Γ => bnd (r Γ) fun os Γ1 => bnd (k Γ1) fun os2 Γ2 => chk (Nat.beq os.length n && Nat.beq os2.length m) (onO (argsOf Γ2 (pick is (os ++ os2))) fun as => chk (nodupB (varsOf (pick is (os ++ os2)))) (outD Γ2 (pick is (os ++ os2)) (F as)))
theorem ad_callK {F : Fn} {R S : WPA} {r k : FPA} {n m : Nat} {is : List Nat} (hr : Ad R r) (hk : Ad S k) : Ad (wCallK (sF F) R S n m is) (fCallK F r k n m is) := fun Γ Q z Γ' e q => by
  obtain ⟨os, Γ1, h1, e⟩ := bnd_some e
  obtain ⟨os2, Γ2, h2, e⟩ := bnd_some e
  obtain ⟨c0, e⟩ := chk_some e
  obtain ⟨as, h3, e⟩ := onO_some e
  obtain ⟨c, e⟩ := chk_some e
  rw [Bool.and_eq_true] at c0
  refine hr _ _ _ _ h1 (hk _ _ _ _ h2 ⟨Nat.eq_of_beq_eq_true c0.1, Nat.eq_of_beq_eq_true c0.2, ?_⟩)
  rw [h3]
  cases g : F as with
  | none => rw [g] at e; cases e
  | some o =>
    rw [g] at e
    cases o with
    | ex x as' => cases e
    | ok v as' =>
      cases e
      refine ⟨nodupB_nd c, v, as', g, ?_⟩
      cases v <;> exact q
theorem ad_callKV {F : Fn} {R S : WPA} {r k : FPA} {n m : Nat} {is : List Nat} (hr : Ad R r) (hk : Ad S k) : Ad (wCallK (noX (sFX F)) R S n m is) (fCallK F r k n m is) := fun Γ Q z Γ' e q => by
  obtain ⟨os, Γ1, h1, e⟩ := bnd_some e
  obtain ⟨os2, Γ2, h2, e⟩ := bnd_some e
  obtain ⟨c0, e⟩ := chk_some e
  obtain ⟨as, h3, e⟩ := onO_some e
  obtain ⟨c, e⟩ := chk_some e
  rw [Bool.and_eq_true] at c0
  refine hr _ _ _ _ h1 (hk _ _ _ _ h2 ⟨Nat.eq_of_beq_eq_true c0.1, Nat.eq_of_beq_eq_true c0.2, ?_⟩)
  rw [h3]
  cases g : F as with
  | none => rw [g] at e; cases e
  | some o =>
    rw [g] at e
    cases o with
    | ex x as' => cases e
    | ok v as' =>
      cases e
      refine ⟨nodupB_nd c, noX_sFX.mpr ⟨v, as', g, ?_⟩⟩
      cases v <;> exact q
@[simp] def fCallN (F : Fn) (a : FAs) : FE := fun Γ => bnd (a Γ) fun ds Γ1 => outN Γ1 (F [.par ds])
theorem ad_callN {F : Fn} {A : WA} {a : FAs} (ha : Ad A a) : Ad (wCallN (sF F) A) (fCallN F a) := fun Γ Q z Γ' e q => by
  obtain ⟨ds, Γ1, h1, e⟩ := bnd_some e
  refine ha _ _ _ _ h1 ?_
  cases g : F [.par ds] with
  | none => rw [g] at e; cases e
  | some o =>
    rw [g] at e
    cases o with
    | ex x as' => cases e
    | ok v as' =>
      cases e
      refine ⟨v, as', g, ?_⟩
      cases v <;> exact q
@[simp] def fCallX (F : Fn) (r : FPA) : FEX := fun Γ => bnd (r Γ) fun os Γ1 => onO (argsOf Γ1 os) fun as => chk (nodupB (varsOf os)) (outX Γ1 os (F as))
theorem ad_callX {F : Fn} {R : WPA} {r : FPA} (hr : Ad R r) : AdX (wCallX (sFX F) R) (fCallX F r) := fun Γ Q QX => by
  cases e : fCallX F r Γ with
  | none => trivial
  | some v =>
    obtain ⟨os, Γ1, h1, e⟩ := bnd_some e
    obtain ⟨as, h2, e⟩ := onO_some e
    obtain ⟨c, e⟩ := chk_some e
    cases g : F as with
    | none => rw [g] at e; cases e
    | some o =>
      rw [g] at e
      cases o with
      | ex x as' =>
        cases e
        intro q
        refine hr _ _ _ _ h1 ?_
        rw [h2]
        refine ⟨nodupB_nd c, ?_⟩
        unfold sFX
        rw [g]
        exact q
      | ok u as' =>
        cases e
        intro q
        refine hr _ _ _ _ h1 ?_
        rw [h2]
        refine ⟨nodupB_nd c, ?_⟩
        unfold sFX
        rw [g]
        cases u <;> exact q

/-! ## targets, walks -/
@[simp] def fgName (i : Nat) : FG := fun d Γ => some (Γ.set i (.dat d))
@[simp] def fgNil : FGs := fun ds Γ => match ds with
  | [] => some Γ
  | _ => none
@[simp] def fgCons (g : FG) (gs : FGs) : FGs := fun ds Γ => match ds with
  | d :: r => onO (g d Γ) fun Γ1 => gs r Γ1
  | [] => none
@[simp] def fgTup (n : Nat) (gs : FGs) : FG := fun d Γ => match d with
  | .tuple ds => chk (Nat.beq ds.length n) (gs ds Γ)
  | _ => none
theorem ad_gname (i : Nat) : AdG (wgName i) (fgName i) := fun d Γ Q Γ' e q => by cases e; exact q
theorem ad_gnil : AdGs wgNil fgNil := fun ds Γ Q Γ' e q => by
  cases ds with
  | nil => cases e; exact q
  | cons _ _ => cases e
theorem ad_gcons {W : WG} {Ws : WGs} {g : FG} {gs : FGs} (h : AdG W g) (hs : AdGs Ws gs) : AdGs (wgCons W Ws) (fgCons g gs) := fun ds Γ Q Γ' e q => by
  cases ds with
  | nil => cases e
  | cons d r =>
    obtain ⟨Γ1, h1, e⟩ := onO_some e
    exact h _ _ _ _ h1 (hs _ _ _ _ e q)
theorem ad_gtup (n : Nat) {Ws : WGs} {gs : FGs} (hs : AdGs Ws gs) : AdG (wgTup n Ws) (fgTup n gs) := fun d Γ Q Γ' e q => by
  cases d <;> first
    | (obtain ⟨c, e⟩ := chk_some e; exact ⟨Nat.eq_of_beq_eq_true c, hs _ _ _ _ e q⟩)
    | cases e
@[simp] def strItems (z : Str) : List PyData := z.cps.toList.map sign
@[simp] def itemsF : PyData → Option (List PyData)
  | .list ds => some ds
  | .tuple ds => some ds
  | .str z => some (strItems z)
  | _ => none
@[simp] def fSeqI (a : FE) : FAs := fun Γ => bnd (a Γ) fun d Γ1 => onO (itemsF d) fun ds => some (ds, Γ1)
theorem itemsF_eq (d : PyData) : itemsF d = seqD d := by cases d <;> rfl
theorem ad_seqI {A : WE} {a : FE} (ha : Ad A a) : Ad (wSeqI A) (fSeqI a) := fun Γ Q z Γ' e q => by
  obtain ⟨d, Γ1, h1, e⟩ := bnd_some e
  obtain ⟨ds, h2, e⟩ := onO_some e
  cases e
  refine ha _ _ _ _ h1 ?_
  rw [itemsF_eq] at h2
  rw [h2]
  exact q
def rngOk (n : Int) : Bool := Nat.blt n.natAbs 4611686018427387904
theorem rngOk_lt {n : Int} (h : rngOk n = true) : n < 2 ^ 62 ∧ -(2 ^ 62) ≤ n := by
  unfold rngOk Nat.blt at h
  have := Nat.le_of_ble_eq_true h
  omega
def upF (lo : Int) : Nat → List PyData
  | 0 => []
  | n + 1 => .int lo :: upF (lo + 1) n
theorem upF_eq : ∀ (n : Nat) (lo : Int), upF lo n = rng lo n
  | 0, lo => rfl
  | n + 1, lo => by
    unfold upF
    rw [upF_eq n (lo + 1)]
    unfold rng
    rw [List.range_succ_eq_map, List.map_cons, List.map_map]
    congr 1
    · simp
    · refine List.map_congr_left fun i _ => ?_
      simp [Function.comp]
      omega
@[simp] def fRng1 (a : FE) : FAs := fun Γ => bnd (a Γ) fun d Γ1 => onO (intF d) fun n => chk (rngOk n) (some (upF 0 n.toNat, Γ1))
theorem ad_rng1 {A : WE} {a : FE} (ha : Ad A a) : Ad (wRng1 A) (fRng1 a) := fun Γ Q z Γ' e q => by
  obtain ⟨d, Γ1, h1, e⟩ := bnd_some e
  obtain ⟨n, h2, e⟩ := onO_some e
  have e : chk (rngOk n) (some (upF 0 n.toNat, Γ1)) = some (z, Γ') := e
  obtain ⟨c, f⟩ := chk_some e
  have := intF_some h2
  subst this
  have f := Option.some.inj f
  rw [Prod.mk.injEq] at f
  obtain ⟨e1, e2⟩ := f
  rw [← e1, ← e2, upF_eq] at q
  exact ha _ _ _ _ h1 ⟨(rngOk_lt c).1, (rngOk_lt c).2, q⟩
@[simp] def fRng2 (a b : FE) : FAs := fun Γ => bnd (a Γ) fun d Γ1 => bnd (b Γ1) fun e Γ2 => onO (intF d) fun i => onO (intF e) fun j => chk (rngOk i && rngOk j) (some (upF i (j - i).toNat, Γ2))
theorem ad_rng2 {A B : WE} {a b : FE} (ha : Ad A a) (hb : Ad B b) : Ad (wRng2 A B) (fRng2 a b) := fun Γ Q z Γ' e q => by
  obtain ⟨d, Γ1, h1, e⟩ := bnd_some e
  obtain ⟨y, Γ2, h2, e⟩ := bnd_some e
  obtain ⟨i, h3, e⟩ := onO_some e
  obtain ⟨j, h4, e⟩ := onO_some e
  have e : chk (rngOk i && rngOk j) (some (upF i (j - i).toNat, Γ2)) = some (z, Γ') := e
  obtain ⟨c, f⟩ := chk_some e
  have := intF_some h3
  subst this
  have := intF_some h4
  subst this
  have f := Option.some.inj f
  rw [Prod.mk.injEq] at f
  obtain ⟨e1, e2⟩ := f
  rw [← e1, ← e2, upF_eq] at q
  rw [Bool.and_eq_true] at c
  have c1 := rngOk_lt c.1
  have c2 := rngOk_lt c.2
  exact ha _ _ _ _ h1 (hb _ _ _ _ h2 ⟨⟨c1.2, c1.1, c2.2, c2.1⟩, q⟩)
def downF : Nat → List PyData
  | 0 => []
  | n + 1 => .int (n : Nat) :: downF n
theorem downF_eq : ∀ n : Nat, downF n = rngD n
  | 0 => rfl
  | n + 1 => by
    unfold downF
    rw [downF_eq n]
    unfold rngD
    rw [List.range_succ_eq_map, List.map_cons, List.map_map]
    congr 1
    refine List.map_congr_left fun i hi => ?_
    simp only [Function.comp]
    congr 1
    have := List.mem_range.mp hi
    omega
@[simp] def fRngD (a : FE) : FAs := fun Γ => bnd (a Γ) fun d Γ1 => onO (intF d) fun n => chk (rngOk n) (some (downF n.toNat, Γ1))
theorem ad_rngD {A : WE} {a : FE} (ha : Ad A a) : Ad (wRngD A) (fRngD a) := fun Γ Q z Γ' e q => by
  obtain ⟨d, Γ1, h1, e⟩ := bnd_some e
  obtain ⟨n, h2, e⟩ := onO_some e
  have e : chk (rngOk n) (some (downF n.toNat, Γ1)) = some (z, Γ') := e
  obtain ⟨c, f⟩ := chk_some e
  have := intF_some h2
  subst this
  have f := Option.some.inj f
  rw [Prod.mk.injEq] at f
  obtain ⟨e1, e2⟩ := f
  rw [← e1, ← e2, downF_eq] at q
  exact ha _ _ _ _ h1 ⟨(rngOk_lt c).1, (rngOk_lt c).2, q⟩
@[simp] def fEnum (a : FE) : FAs := fun Γ => bnd (a Γ) fun d Γ1 => onO (itemsF d) fun ds => some (enumFrom 0 ds, Γ1)
theorem ad_enum {A : WE} {a : FE} (ha : Ad A a) : Ad (wEnum A) (fEnum a) := fun Γ Q z Γ' e q => by
  obtain ⟨d, Γ1, h1, e⟩ := bnd_some e
  obtain ⟨ds, h2, e⟩ := onO_some e
  cases e
  refine ha _ _ _ _ h1 ?_
  cases d <;> first
    | (cases h2; exact q)
    | cases h2
@[simp] def fZip (a b : FE) : FAs := fun Γ => bnd (a Γ) fun d Γ1 => bnd (b Γ1) fun e Γ2 => match d, e with
  | .list ds, .list es => some (zipD ds es, Γ2)
  | .tuple ds, .tuple es => some (zipD ds es, Γ2)
  | _, _ => none
theorem ad_zip {A B : WE} {a b : FE} (ha : Ad A a) (hb : Ad B b) : Ad (wZip A B) (fZip a b) := fun Γ Q z Γ' e q => by
  obtain ⟨d, Γ1, h1, e⟩ := bnd_some e
  obtain ⟨y, Γ2, h2, e⟩ := bnd_some e
  refine ha _ _ _ _ h1 (hb _ _ _ _ h2 ?_)
  cases d <;> cases y <;> first
    | (cases e; exact q)
    | cases e

/-! ## comprehensions -/
@[simp] def noOwnB (Γ : Gam) (vs : List Nat) : Bool := vs.all fun v => (ownAt Γ v).isNone
def lcF (g : FG) (t : FT) (b : FE) (vs : List Nat) : List PyData → List PyData → Gam → Option (List PyData × Gam)
  | [], acc, Γ => some (acc.reverse, Γ)
  | d :: ds, acc, Γ => onO (g d (wipeG Γ vs)) fun Γ1 => bnd (t Γ1) fun c Γ2 => if c = true then bnd (b Γ2) fun x Γ3 => chk (fits acc.length.succ) (lcF g t b vs ds (x :: acc) (restG Γ Γ3 vs)) else lcF g t b vs ds acc (restG Γ Γ2 vs)
@[simp] def fLc (i : FAs) (g : FG) (t : FT) (b : FE) (vs : List Nat) : FAs := fun Γ => bnd (i Γ) fun ds Γ1 => chk (noOwnB Γ1 vs) (lcF g t b vs ds [] Γ1)
theorem lcF_ad {Wg : WG} {Wt : WT} {We : WE} {g : FG} {t : FT} {b : FE} {vs : List Nat} (hg : AdG Wg g) (ht : Ad Wt t) (hb : Ad We b) : ∀ (ds acc : List PyData) (Γ : Gam) (Q : List PyData → Gam → Prop) (z : List PyData) (Γ' : Gam), lcF g t b vs ds acc Γ = some (z, Γ') → Q z Γ' → lcD Wg Wt We vs Q ds acc.reverse Γ
  | [], acc, Γ, Q, z, Γ', e, q => by
    unfold lcF at e
    cases e
    exact q
  | d :: ds, acc, Γ, Q, z, Γ', e, q => by
    unfold lcF at e
    obtain ⟨Γ1, h1, e⟩ := onO_some e
    obtain ⟨c, Γ2, h2, e⟩ := bnd_some e
    unfold lcD
    refine hg _ _ _ _ h1 (ht _ _ _ _ h2 ?_)
    cases c with
    | true =>
      rw [if_pos rfl] at e
      obtain ⟨x, Γ3, h3, e⟩ := bnd_some e
      obtain ⟨c, e⟩ := chk_some e
      rw [if_pos rfl]
      refine hb _ _ _ _ h3 ⟨by rw [List.length_reverse]; exact fits_le c, ?_⟩
      have := lcF_ad hg ht hb ds (x :: acc) _ Q z Γ' e q
      rw [List.reverse_cons] at this
      exact this
    | false =>
      rw [if_neg (by decide)] at e
      rw [if_neg (by decide)]
      exact lcF_ad hg ht hb ds acc _ Q z Γ' e q
theorem ad_lc {I : WI} {i : FAs} {Wg : WG} {Wt : WT} {We : WE} {g : FG} {t : FT} {b : FE} {vs : List Nat} (hi : Ad I i) (hg : AdG Wg g) (ht : Ad Wt t) (hb : Ad We b) : Ad (wLc I Wg Wt We vs) (fLc i g t b vs) := fun Γ Q z Γ' e q => by
  obtain ⟨ds, Γ1, h1, e⟩ := bnd_some e
  obtain ⟨c, e⟩ := chk_some e
  exact hi _ _ _ _ h1 ⟨c, lcF_ad hg ht hb ds [] Γ1 Q z Γ' e q⟩
@[simp] def fYes : FT := fun Γ => some (true, Γ)
theorem ad_yes : Ad wYes fYes := fun Γ Q z Γ' e q => by cases e; exact q
end DL

namespace DL
open PySem PySem.Spec PyProof.Rows L2
/-! ## statements -/
/-- on with the next statement -/
def thenF (r : Option Flow) (k : Gam → Option Flow) : Option Flow := match r with
  | some (.nx Γ) => k Γ
  | r => r
@[simp] theorem thenF_nx (Γ : Gam) (k : Gam → Option Flow) : thenF (some (.nx Γ)) k = k Γ := rfl
@[simp] theorem thenF_rt (r : Rs) (Γ : Gam) (k : Gam → Option Flow) : thenF (some (.rt r Γ)) k = some (.rt r Γ) := rfl
@[simp] theorem thenF_bk (Γ : Gam) (k : Gam → Option Flow) : thenF (some (.bk Γ)) k = some (.bk Γ) := rfl
@[simp] theorem thenF_ct (Γ : Gam) (k : Gam → Option Flow) : thenF (some (.ct Γ)) k = some (.ct Γ) := rfl
@[simp] theorem thenF_ex (x : Exn) (Γ : Gam) (k : Gam → Option Flow) : thenF (some (.ex x Γ)) k = some (.ex x Γ) := rfl
@[simp] theorem thenF_none (k : Gam → Option Flow) : thenF none k = none := rfl
@[simp] def fNext : FS := fun Γ => some (.nx Γ)
@[simp] def fSeq (a b : FS) : FS := fun Γ => thenF (a Γ) b
theorem ad_next : AdS wNext fNext := fun D Γ f e q => by cases e; exact q
theorem ad_seq {A B : WS} {a b : FS} (ha : AdS A a) (hb : AdS B b) : AdS (wSeq A B) (fSeq a b) := fun D Γ f e q => by
  cases g : a Γ with
  | none =>
    have e : thenF (a Γ) b = some f := e
    rw [g] at e
    cases e
  | some r =>
    have e : thenF (a Γ) b = some f := e
    rw [g] at e
    refine ha _ _ _ g ?_
    cases r with
    | nx Γ1 => exact hb _ _ _ e q
    | _ => cases e; exact q
@[simp] def fBreak : FS := fun Γ => some (.bk Γ)
@[simp] def fCont : FS := fun Γ => some (.ct Γ)
theorem ad_break : AdS wBreak fBreak := fun D Γ f e q => by cases e; exact q
theorem ad_cont : AdS wCont fCont := fun D Γ f e q => by cases e; exact q
@[simp] def fDrop (a : FE) : FS := fun Γ => bnd (a Γ) fun _ Γ1 => some (.nx Γ1)
@[simp] def fRet (a : FE) : FS := fun Γ => bnd (a Γ) fun d Γ1 => some (.rt (.dat d) Γ1)
@[simp] def fRetN : FS := fun Γ => some (.rt (.dat .none) Γ)
@[simp] def fRetL (a : FAs) : FS := fun Γ => bnd (a Γ) fun ds Γ1 => some (.rt (.new ds) Γ1)
@[simp] def fRetO (j : Nat) : FS := fun Γ => match Γ[j]? with
  | some (.own ds) => some (.rt (.new ds) Γ)
  | _ => none
theorem ad_drop {A : WE} {a : FE} (h : Ad A a) : AdS (wDrop A) (fDrop a) := fun D Γ f e q => by
  obtain ⟨d, Γ1, h1, e⟩ := bnd_some e
  cases e
  exact h _ _ _ _ h1 q
theorem ad_ret {A : WE} {a : FE} (h : Ad A a) : AdS (wRet A) (fRet a) := fun D Γ f e q => by
  obtain ⟨d, Γ1, h1, e⟩ := bnd_some e
  cases e
  exact h _ _ _ _ h1 q
theorem ad_retN : AdS wRetN fRetN := fun D Γ f e q => by cases e; exact q
theorem ad_retL {A : WA} {a : FAs} (h : Ad A a) : AdS (wRetL A) (fRetL a) := fun D Γ f e q => by
  obtain ⟨d, Γ1, h1, e⟩ := bnd_some e
  cases e
  exact h _ _ _ _ h1 q
theorem ad_retO (j : Nat) : AdS (wRetO j) (fRetO j) := fun D Γ f e q => by
  unfold wRetO
  unfold fRetO at e
  cases g : Γ[j]? with
  | none => rw [g] at e; cases e
  | some s =>
    rw [g] at e
    cases s with
    | own ds => cases e; exact q
    | _ => cases e
@[simp] def fIfS (t : FT) (a b : FS) : FS := fun Γ => bnd (t Γ) fun x Γ1 => if x = true then a Γ1 else b Γ1
theorem ad_ifS {T : WT} {A B : WS} {t : FT} {a b : FS} (ht : Ad T t) (ha : AdS A a) (hb : AdS B b) : AdS (wIfS T A B) (fIfS t a b) := fun D Γ f e q => by
  obtain ⟨x, Γ1, h1, e⟩ := bnd_some e
  refine ht _ _ _ _ h1 ?_
  cases x with
  | true => exact ha _ _ _ e q
  | false => exact hb _ _ _ e q
@[simp] def fAsg (i : Nat) (a : FE) : FS := fun Γ => bnd (a Γ) fun d Γ1 => some (.nx (Γ1.set i (.dat d)))
@[simp] def fAsgL (i : Nat) (a : FAs) : FS := fun Γ => bnd (a Γ) fun ds Γ1 => some (.nx (Γ1.set i (.own ds)))
theorem ad_asg (i : Nat) {A : WE} {a : FE} (h : Ad A a) : AdS (wAsg i A) (fAsg i a) := fun D Γ f e q => by
  obtain ⟨d, Γ1, h1, e⟩ := bnd_some e
  cases e
  exact h _ _ _ _ h1 q
theorem ad_asgL (i : Nat) {A : WA} {a : FAs} (h : Ad A a) : AdS (wAsgL i A) (fAsgL i a) := fun D Γ f e q => by
  obtain ⟨d, Γ1, h1, e⟩ := bnd_some e
  cases e
  exact h _ _ _ _ h1 q
@[simp] def fAug (i : Nat) (g : Int → Int → Int) (a : FE) : FS := fun Γ => match Γ[i]? with
  | some (.dat (.int x)) => bnd (a Γ) fun d Γ1 => onO (intF d) fun y => some (.nx (Γ1.set i (.dat (.int (g x y)))))
  | _ => none
theorem ad_aug (i : Nat) (g : Int → Int → Int) {A : WE} {a : FE} (h : Ad A a) : AdS (wAug i g A) (fAug i g a) := fun D Γ f e q => by
  unfold wAug
  unfold fAug at e
  cases g1 : Γ[i]? with
  | none => rw [g1] at e; cases e
  | some s =>
    rw [g1] at e
    cases s with
    | dat d =>
      cases d with
      | int x =>
        obtain ⟨d, Γ1, h1, e⟩ := bnd_some e
        obtain ⟨y, h2, f1⟩ := onO_some e
        cases f1
        refine h _ _ _ _ h1 ?_
        rw [intF_some h2]
        exact q
      | _ => cases e
    | _ => cases e
@[simp] def fApp (j : Nat) (a : FE) : FS := fun Γ => onO (ownAt Γ j) fun _ => bnd (a Γ) fun d Γ1 => onO (ownAt Γ1 j) fun ds => chk (fits ds.length.succ) (some (.nx (setOwn Γ1 j (ds ++ [d]))))
theorem ad_app (j : Nat) {A : WE} {a : FE} (h : Ad A a) : AdS (wApp j A) (fApp j a) := fun D Γ f e q => by
  obtain ⟨_, h0, e⟩ := onO_some e
  obtain ⟨d, Γ1, h1, e⟩ := bnd_some e
  obtain ⟨ds, h2, e⟩ := onO_some e
  obtain ⟨c, f1⟩ := chk_some e
  cases f1
  refine ⟨by rw [h0]; rfl, h _ _ _ _ h1 ?_⟩
  rw [h2]
  exact ⟨fits_le c, q⟩
@[simp] def fSetI (j : Nat) (i a : FE) : FS := fun Γ => bnd (a Γ) fun d Γ1 => onO (ownAt Γ1 j) fun _ => bnd (i Γ1) fun n Γ2 => onO (intF n) fun n => onO (ownAt Γ2 j) fun ds => onO (ixN ds.length n) fun k => some (.nx (setOwn Γ2 j (ds.set k d)))
theorem ad_setI (j : Nat) {I A : WE} {i a : FE} (hi : Ad I i) (h : Ad A a) : AdS (wSetI j I A) (fSetI j i a) := fun D Γ f e q => by
  obtain ⟨d, Γ1, h1, e⟩ := bnd_some e
  obtain ⟨_, h0, e⟩ := onO_some e
  obtain ⟨n, Γ2, h2, e⟩ := bnd_some e
  obtain ⟨m, h3, e1⟩ := onO_some e
  obtain ⟨ds, h4, e1⟩ := onO_some e1
  obtain ⟨k, h5, e1⟩ := onO_some e1
  cases e1
  refine h _ _ _ _ h1 ⟨by rw [h0]; rfl, hi _ _ _ _ h2 ?_⟩
  rw [intF_some h3, h4]
  exact ⟨k, h5, q⟩
@[simp] def fAsgG (g : FG) (a : FE) : FS := fun Γ => bnd (a Γ) fun d Γ1 => onO (g d Γ1) fun Γ2 => some (.nx Γ2)
theorem ad_asgG {G : WG} {A : WE} {g : FG} {a : FE} (hg : AdG G g) (h : Ad A a) : AdS (wAsgG G A) (fAsgG g a) := fun D Γ f e q => by
  obtain ⟨d, Γ1, h1, e⟩ := bnd_some e
  obtain ⟨Γ2, h2, e⟩ := onO_some e
  cases e
  exact h _ _ _ _ h1 (hg _ _ _ _ h2 q)
@[simp] def fPar (i j : Nat) (a b : FE) : FS := fun Γ => bnd (a Γ) fun x Γ1 => bnd (b Γ1) fun y Γ2 => some (.nx ((Γ2.set i (.dat x)).set j (.dat y)))
theorem ad_par (i j : Nat) {A B : WE} {a b : FE} (ha : Ad A a) (hb : Ad B b) : AdS (wPar i j A B) (fPar i j a b) := fun D Γ f e q => by
  obtain ⟨x, Γ1, h1, e⟩ := bnd_some e
  obtain ⟨y, Γ2, h2, e⟩ := bnd_some e
  cases e
  exact ha _ _ _ _ h1 (hb _ _ _ _ h2 q)
@[simp] def fPar3 (i j l : Nat) (a b c : FE) : FS := fun Γ => bnd (a Γ) fun x Γ1 => bnd (b Γ1) fun y Γ2 => bnd (c Γ2) fun z Γ3 => some (.nx (((Γ3.set i (.dat x)).set j (.dat y)).set l (.dat z)))
theorem ad_par3 (i j l : Nat) {A B C : WE} {a b c : FE} (ha : Ad A a) (hb : Ad B b) (hc : Ad C c) : AdS (wPar3 i j l A B C) (fPar3 i j l a b c) := fun D Γ f e q => by
  obtain ⟨x, Γ1, h1, e⟩ := bnd_some e
  obtain ⟨y, Γ2, h2, e⟩ := bnd_some e
  obtain ⟨z, Γ3, h3, e⟩ := bnd_some e
  cases e
  exact ha _ _ _ _ h1 (hb _ _ _ _ h2 (hc _ _ _ _ h3 q))
/-! loops -/
def forF (g : FG) (b : FS) : List PyData → Gam → Option Flow
  | [], Γ => some (.nx Γ)
  | d :: ds, Γ => onO (g d Γ) fun Γ1 => match b Γ1 with
    | some (.nx Γ2) => forF g b ds Γ2
    | some (.ct Γ2) => forF g b ds Γ2
    | some (.bk Γ2) => some (.nx Γ2)
    | r => r
@[simp] def fFor (i : FAs) (g : FG) (b : FS) : FS := fun Γ => bnd (i Γ) fun ds Γ1 => forF g b ds Γ1
theorem forF_ad {G : WG} {B : WS} {g : FG} {b : FS} (hg : AdG G g) (hb : AdS B b) (D : EndsD) : ∀ (ds : List PyData) (Γ : Gam) (f : Flow), forF g b ds Γ = some f → f.ok D → forW G B D ds Γ
  | [], Γ, f, e, q => by
    unfold forF at e
    cases e
    exact q
  | d :: ds, Γ, f, e, q => by
    unfold forF at e
    obtain ⟨Γ1, h1, e⟩ := onO_some e
    unfold forW
    refine hg _ _ _ _ h1 ?_
    cases h2 : b Γ1 with
    | none => rw [h2] at e; cases e
    | some r =>
      rw [h2] at e
      refine hb _ _ _ h2 ?_
      cases r with
      | nx Γ2 => exact forF_ad hg hb D ds Γ2 f e q
      | ct Γ2 => exact forF_ad hg hb D ds Γ2 f e q
      | bk Γ2 => cases e; exact q
      | rt r Γ2 => cases e; exact q
      | ex x Γ2 => cases e; exact q
theorem ad_for {I : WI} {i : FAs} {G : WG} {B : WS} {g : FG} {b : FS} (hi : Ad I i) (hg : AdG G g) (hb : AdS B b) : AdS (wFor I G B) (fFor i g b) := fun D Γ f e q => by
  obtain ⟨ds, Γ1, h1, e⟩ := bnd_some e
  exact hi _ _ _ _ h1 (forF_ad hg hb D ds Γ1 f e q)
def whileF (c : FT) (b : FS) : Nat → Gam → Option Flow
  | 0, _ => none
  | n + 1, Γ => bnd (c Γ) fun x Γ1 => if x = true then (match b Γ1 with
      | some (.nx Γ2) => whileF c b n Γ2
      | some (.ct Γ2) => whileF c b n Γ2
      | some (.bk Γ2) => some (.nx Γ2)
      | r => r) else some (.nx Γ1)
/-- as many turns as may be asked for -/
def turnsF : Nat := 1099511627776
@[simp] def fWhile (c : FT) (b : FS) : FS := fun Γ => whileF c b turnsF Γ
theorem whileF_ad {C : WT} {B : WS} {c : FT} {b : FS} (hc : Ad C c) (hb : AdS B b) (D : EndsD) : ∀ (n : Nat) (Γ : Gam) (f : Flow), whileF c b n Γ = some f → f.ok D → whileW C B D n Γ
  | 0, Γ, f, e, q => by
    unfold whileF at e
    cases e
  | n + 1, Γ, f, e, q => by
    unfold whileF at e
    obtain ⟨x, Γ1, h1, e⟩ := bnd_some e
    unfold whileW
    refine hc _ _ _ _ h1 ?_
    cases x with
    | false => cases e; exact q
    | true =>
      rw [if_pos rfl] at e
      rw [if_pos rfl]
      cases h2 : b Γ1 with
      | none => rw [h2] at e; cases e
      | some r =>
        rw [h2] at e
        refine hb _ _ _ h2 ?_
        cases r with
        | nx Γ2 => exact whileF_ad hc hb D n Γ2 f e q
        | ct Γ2 => exact whileF_ad hc hb D n Γ2 f e q
        | bk Γ2 => cases e; exact q
        | rt r Γ2 => cases e; exact q
        | ex x Γ2 => cases e; exact q
theorem ad_while {C : WT} {B : WS} {c : FT} {b : FS} (hc : Ad C c) (hb : AdS B b) : AdS (wWhile C B) (fWhile c b) := fun D Γ f e q =>
  ⟨turnsF, whileF_ad hc hb D turnsF Γ f e q⟩
/-! frozen, forgotten -/
@[simp] def fFrz (j : Nat) (a : FS) : FS := fun Γ => match Γ[j]? with
  | some (.own ds) => a (Γ.set j (.dat (.list ds)))
  | _ => none
theorem ad_frz (j : Nat) {A : WS} {a : FS} (h : AdS A a) : AdS (wFrz j A) (fFrz j a) := fun D Γ f e q => by
  unfold wFrz
  unfold fFrz at e
  cases g : Γ[j]? with
  | none => rw [g] at e; cases e
  | some s =>
    rw [g] at e
    cases s with
    | own ds => exact h _ _ _ e q
    | _ => cases e
theorem En.drops {K : PySem.W.Frag} {B : Bs} {σ : L2.St} {H G : Hp} {Γ : Gam} (E : En K B σ H G Γ) : ∀ vs : List Nat, En K B σ H G (wipeG Γ vs)
  | [] => E
  | v :: vs => (E.drops vs).drop v
@[simp] def wWipe (vs : List Nat) (W : WS) : WS := fun D Γ => W D (wipeG Γ vs)
@[simp] def fWipe (vs : List Nat) (a : FS) : FS := fun Γ => a (wipeG Γ vs)
theorem dss_wipe {X : Cx} {st : List Stmt} {W : WS} (vs : List Nat) (h : DSs X st W) : DSs X st (wWipe vs W) := by
  obtain ⟨t, p, r⟩ := h.ex
  exact ⟨t, p, fun B Γ σ H G D D' E w l => r B _ σ H G D D' (E.drops vs) w l⟩
theorem ad_wipe (vs : List Nat) {A : WS} {a : FS} (h : AdS A a) : AdS (wWipe vs A) (fWipe vs a) := fun D Γ f e q => h _ _ _ e q
def Flow.wipe (vs : List Nat) : Flow → Flow
  | .nx Γ => .nx (wipeG Γ vs)
  | .ct Γ => .ct (wipeG Γ vs)
  | f => f
@[simp] def wTidy (vs : List Nat) (W : WS) : WS := fun D Γ => W { D with nx := fun Γ1 => D.nx (wipeG Γ1 vs), ct := fun Γ1 => D.ct (wipeG Γ1 vs) } Γ
/-- behind a turn some slots are forgotten -/
def tidy (vs : List Nat) : Option Flow → Option Flow
  | some (.nx Γ) => some (.nx (wipeG Γ vs))
  | some (.ct Γ) => some (.ct (wipeG Γ vs))
  | r => r
@[simp] theorem tidy_nx (vs : List Nat) (Γ : Gam) : tidy vs (some (.nx Γ)) = some (.nx (wipeG Γ vs)) := rfl
@[simp] theorem tidy_ct (vs : List Nat) (Γ : Gam) : tidy vs (some (.ct Γ)) = some (.ct (wipeG Γ vs)) := rfl
@[simp] theorem tidy_bk (vs : List Nat) (Γ : Gam) : tidy vs (some (.bk Γ)) = some (.bk Γ) := rfl
@[simp] theorem tidy_rt (vs : List Nat) (r : Rs) (Γ : Gam) : tidy vs (some (.rt r Γ)) = some (.rt r Γ) := rfl
@[simp] theorem tidy_ex (vs : List Nat) (x : Exn) (Γ : Gam) : tidy vs (some (.ex x Γ)) = some (.ex x Γ) := rfl
@[simp] theorem tidy_none (vs : List Nat) : tidy vs none = none := rfl
@[simp] def fTidy (vs : List Nat) (a : FS) : FS := fun Γ => tidy vs (a Γ)
theorem dss_tidy {X : Cx} {st : List Stmt} {W : WS} (vs : List Nat) (h : DSs X st W) : DSs X st (wTidy vs W) := by
  obtain ⟨t, p, r⟩ := h.ex
  exact ⟨t, p, fun B Γ σ H G D D' E w l => r B _ σ H G _ D' E w ⟨fun σ H' G' Γ' E1 s1 q => l.nx σ H' G' _ (E1.drops vs) s1 q, l.bk, fun σ H' G' Γ' E1 s1 q => l.ct σ H' G' _ (E1.drops vs) s1 q, l.rt, l.nb, l.ex⟩⟩
theorem ad_tidy (vs : List Nat) {A : WS} {a : FS} (h : AdS A a) : AdS (wTidy vs A) (fTidy vs a) := fun D Γ f e q => by
  have e : tidy vs (a Γ) = some f := e
  cases g : a Γ with
  | none => rw [g] at e; cases e
  | some r =>
    rw [g] at e
    refine h _ _ _ g ?_
    cases r with
    | nx Γ1 => cases e; exact q
    | ct Γ1 => cases e; exact q
    | _ => cases e; exact q
/-! ends by an error -/
@[simp] def fSetX (i : Nat) (a : FEX) : FS := fun Γ => match a Γ with
  | some (.ok d Γ1) => some (.nx (Γ1.set i (.dat d)))
  | some (.ex x Γ1) => some (.ex x Γ1)
  | none => none
@[simp] def fRetX (a : FEX) : FS := fun Γ => match a Γ with
  | some (.ok d Γ1) => some (.rt (.dat d) Γ1)
  | some (.ex x Γ1) => some (.ex x Γ1)
  | none => none
@[simp] def fDropX (a : FEX) : FS := fun Γ => match a Γ with
  | some (.ok _ Γ1) => some (.nx Γ1)
  | some (.ex x Γ1) => some (.ex x Γ1)
  | none => none
theorem ad_setX (i : Nat) {A : WEX} {a : FEX} (h : AdX A a) : AdS (wSetX i A) (fSetX i a) := fun D Γ f e q => by
  have h := h Γ (fun d Γ1 => D.nx (Γ1.set i (.dat d))) fun x Γ1 => D.ex x Γ1
  unfold fSetX at e
  cases g : a Γ with
  | none => rw [g] at e; cases e
  | some r =>
    rw [g] at e h
    cases r <;> (cases e; exact h q)
theorem ad_retX {A : WEX} {a : FEX} (h : AdX A a) : AdS (wRetX A) (fRetX a) := fun D Γ f e q => by
  have h := h Γ (fun d Γ1 => D.rt (.dat d) Γ1) fun x Γ1 => D.ex x Γ1
  unfold fRetX at e
  cases g : a Γ with
  | none => rw [g] at e; cases e
  | some r =>
    rw [g] at e h
    cases r <;> (cases e; exact h q)
theorem ad_dropX {A : WEX} {a : FEX} (h : AdX A a) : AdS (wDropX A) (fDropX a) := fun D Γ f e q => by
  have h := h Γ (fun _ Γ1 => D.nx Γ1) fun x Γ1 => D.ex x Γ1
  unfold fDropX at e
  cases g : a Γ with
  | none => rw [g] at e; cases e
  | some r =>
    rw [g] at e h
    cases r <;> (cases e; exact h q)
/-! a def as a function -/
def endF (as : List Sl) : Option Flow → Option Out
  | some (.rt r Γ) => onO (parO as Γ) fun as' => some (.ok r as')
  | some (.nx Γ) => onO (parO as Γ) fun as' => some (.ok (.dat .none) as')
  | some (.ex x Γ) => onO (parO as Γ) fun as' => some (.ex x as')
  | _ => none
@[simp] theorem endF_rt (as : List Sl) (r : Rs) (Γ : Gam) : endF as (some (.rt r Γ)) = onO (parO as Γ) fun as' => some (.ok r as') := rfl
@[simp] theorem endF_nx (as : List Sl) (Γ : Gam) : endF as (some (.nx Γ)) = onO (parO as Γ) fun as' => some (.ok (.dat .none) as') := rfl
@[simp] theorem endF_ex (as : List Sl) (x : Exn) (Γ : Gam) : endF as (some (.ex x Γ)) = onO (parO as Γ) fun as' => some (.ex x as') := rfl
/-- n slots, the first m of them the arguments -/
def fnF (m n : Nat) (b : FS) : Fn := fun as => chk (Nat.beq as.length m) (endF as (b (as ++ List.replicate (n - m) .un)))
theorem fnF_len {m n : Nat} {b : FS} {as : List Sl} {o : Out} (h : fnF m n b as = some o) : as.length = m := by
  obtain ⟨c, _⟩ := chk_some h
  exact Nat.eq_of_beq_eq_true c
theorem fnF_ad {N ps : List Str} {m n : Nat} {b : FS} {W : WS} (hb : AdS W b) (hm : ps.length = m) (hn : N.length = n) {as : List Sl} {R : Rs → List Sl → Prop} (h : sF (fnF m n b) as R) : W (endsF as R) (startG N as) := by
  obtain ⟨r, as', e, hR⟩ := h
  have hl := fnF_len e
  obtain ⟨c, e⟩ := chk_some e
  unfold startG
  rw [hn, hl]
  cases g : b (as ++ List.replicate (n - m) .un) with
  | none => rw [g] at e; cases e
  | some f =>
    rw [g] at e
    refine hb _ _ _ g ?_
    cases f with
    | bk Γ => cases e
    | ct Γ => cases e
    | ex x Γ =>
      obtain ⟨a, h1, e⟩ := onO_some e
      cases e
    | nx Γ =>
      obtain ⟨a, h1, e⟩ := onO_some e
      cases e
      unfold Flow.ok endsF
      dsimp only
      rw [h1]
      exact hR
    | rt v Γ =>
      obtain ⟨a, h1, e⟩ := onO_some e
      cases e
      unfold Flow.ok endsF
      dsimp only
      rw [h1]
      exact hR
theorem fnF_adX {N ps : List Str} {m n : Nat} {b : FS} {W : WS} (hb : AdS W b) (hm : ps.length = m) (hn : N.length = n) {as : List Sl} {R : Rs → List Sl → Prop} {RX : Exn → List Sl → Prop} (h : sFX (fnF m n b) as R RX) : W (endsX as R RX) (startG N as) := by
  unfold sFX at h
  cases e : fnF m n b as with
  | none => rw [e] at h; exact h.elim
  | some o =>
    rw [e] at h
    have hl := fnF_len e
    obtain ⟨c, e⟩ := chk_some e
    unfold startG
    rw [hn, hl]
    cases g : b (as ++ List.replicate (n - m) .un) with
    | none => rw [g] at e; cases e
    | some f =>
      rw [g] at e
      refine hb _ _ _ g ?_
      cases f with
      | bk Γ => cases e
      | ct Γ => cases e
      | ex x Γ =>
        obtain ⟨a, h1, e⟩ := onO_some e
        cases e
        unfold Flow.ok endsX
        dsimp only
        rw [h1]
        exact h
      | nx Γ =>
        obtain ⟨a, h1, e⟩ := onO_some e
        cases e
        unfold Flow.ok endsX endsF
        dsimp only
        rw [h1]
        exact h
      | rt v Γ =>
        obtain ⟨a, h1, e⟩ := onO_some e
        cases e
        unfold Flow.ok endsX endsF
        dsimp only
        rw [h1]
        exact h
end DL

namespace DL
open PySem PySem.Spec PyProof.Rows L2
theorem ad_cs {x y : Str} (h : x = y) : Ad (wC (.str x)) (fC (.str y)) := by subst h; exact ad_c _
theorem ad_cd {x y : PyData} (h : x = y) : Ad (wC x) (fC y) := by subst h; exact ad_c _
@[simp] def fSortKeys (a : FE) : FAs := fun Γ => bnd (a Γ) fun d Γ1 => match d with
  | .list ds => chk (setOkB ds) (some (asSetD ds, Γ1))
  | _ => none
theorem ad_sortKeys {A : WE} {a : FE} (ha : Ad A a) : Ad (wSortKeys A) (fSortKeys a) := fun Γ Q z Γ' e q => by
  obtain ⟨d, Γ1, h1, e⟩ := bnd_some e
  refine ha _ _ _ _ h1 ?_
  cases d with
  | list ds =>
    obtain ⟨c, f⟩ := chk_some e
    cases f
    exact ⟨ds, rfl, c, q⟩
  | _ => cases e
@[simp] def fChain (f g : F2F) (a b c : FE) : FE := fun Γ => bnd (a Γ) fun x Γ1 => bnd (b Γ1) fun y Γ2 => onO (f x y) fun z => onO (boolF z) fun k => if k = true then bnd (c Γ2) fun u Γ3 => onO (g y u) fun z' => some (z', Γ3) else some (.bool false, Γ2)
theorem ad_chain {f g : F2} {f' g' : F2F} {A B C : WE} {a b c : FE} (hf : Ad2 f f') (hg : Ad2 g g') (ha : Ad A a) (hb : Ad B b) (hc : Ad C c) : Ad (wChain f g A B C) (fChain f' g' a b c) := fun Γ Q z Γ' e q => by
  obtain ⟨x, Γ1, h1, e⟩ := bnd_some e
  obtain ⟨y, Γ2, h2, e⟩ := bnd_some e
  obtain ⟨u, h3, e⟩ := onO_some e
  obtain ⟨k, h4, e⟩ := onO_some e
  refine ha _ _ _ _ h1 (hb _ _ _ _ h2 (hf _ _ _ _ h3 ?_))
  rw [boolF_some h4]
  cases k with
  | true =>
    rw [if_pos rfl] at e
    obtain ⟨v, Γ3, h5, e⟩ := bnd_some e
    obtain ⟨y', h6, e⟩ := onO_some e
    cases e
    exact hc _ _ _ _ h5 (hg _ _ _ _ h6 q)
  | false => cases e; exact q
@[simp] def fExt (j : Nat) (a : FE) : FS := fun Γ => onO (ownAt Γ j) fun _ => bnd (a Γ) fun d Γ1 => match d with
  | .list es => onO (ownAt Γ1 j) fun ds => chk (fits (ds.length + es.length)) (some (.nx (setOwn Γ1 j (ds ++ es))))
  | _ => none
theorem ad_ext (j : Nat) {A : WE} {a : FE} (h : Ad A a) : AdS (wExt j A) (fExt j a) := fun D Γ f e q => by
  obtain ⟨_, h0, e⟩ := onO_some e
  obtain ⟨d, Γ1, h1, e⟩ := bnd_some e
  refine ⟨by rw [h0]; rfl, h _ _ _ _ h1 ?_⟩
  cases d with
  | list es =>
    obtain ⟨ds, h2, e⟩ := onO_some e
    obtain ⟨c, f1⟩ := chk_some e
    cases f1
    rw [h2]
    exact ⟨fits_le c, q⟩
  | _ => cases e
@[simp] def fPop (j : Nat) : FE := fun Γ => onO (ownAt Γ j) fun ds => onO (lastD ds) fun d => some (d, setOwn Γ j ds.dropLast)
theorem ad_pop (j : Nat) : Ad (wPop j) (fPop j) := fun Γ Q z Γ' e q => by
  obtain ⟨ds, h1, e⟩ := onO_some e
  obtain ⟨d, h2, e⟩ := onO_some e
  cases e
  unfold wPop
  rw [h1]
  exact ⟨_, h2, q⟩
/-- a def whose one argument is given away -/
abbrev FnGv := List PyData → Option Rs
def endG : Option Flow → Option Rs
  | some (.rt r _) => some r
  | some (.nx _) => some (.dat .none)
  | _ => none
@[simp] theorem endG_rt (r : Rs) (Γ : Gam) : endG (some (.rt r Γ)) = some r := rfl
@[simp] theorem endG_nx (Γ : Gam) : endG (some (.nx Γ)) = some (.dat .none) := rfl
def fnG (n : Nat) (b : FS) : FnGv := fun ds => endG (b (.own ds :: List.replicate (n - 1) .un))
def sG (F : FnGv) : List PyData → (Rs → Prop) → Prop := fun ds R => ∃ r, F ds = some r ∧ R r
theorem fnG_ad {N : List Str} {n : Nat} {b : FS} {W : WS} (hb : AdS W b) (hn : N.length = n) {ds : List PyData} {R : Rs → Prop} (h : sG (fnG n b) ds R) : W (endsG R) (.own ds :: List.replicate (N.length - 1) .un) := by
  obtain ⟨r, e, hR⟩ := h
  subst hn
  cases g : b (.own ds :: List.replicate (N.length - 1) .un) with
  | none => unfold fnG at e; rw [g] at e; cases e
  | some f =>
    unfold fnG at e
    rw [g] at e
    refine hb _ _ _ g ?_
    cases f with
    | nx Γ => cases e; exact hR
    | rt v Γ => cases e; exact hR
    | _ => cases e
@[simp] def fCallG (F : FnGv) (a : FAs) : FE := fun Γ => bnd (a Γ) fun ds Γ1 => onO (F ds) fun r => some (rsD r, Γ1)
theorem ad_callG {F : FnGv} {A : WA} {a : FAs} (ha : Ad A a) : Ad (wCallG (sG F) A) (fCallG F a) := fun Γ Q z Γ' e q => by
  obtain ⟨ds, Γ1, h1, e⟩ := bnd_some e
  obtain ⟨r, h2, e⟩ := onO_some e
  cases e
  refine ha _ _ _ _ h1 ⟨r, h2, ?_⟩
  cases r <;> exact q
/-- a promise that is stronger serves -/
theorem fn_weak {P : Program} {w : World} {K : PySem.W.Frag} {mg : Str → Option Value} {base : Heap} {k : Nat} {f : Addr} {fd : FuncData} {ps : List Str} {S S' : PSp} (h : FnOk P w K mg base CX0 k f fd ps (spS K S)) (hs : ∀ as R, S' as R → S as R) : FnOk P w K mg base CX0 k f fd ps (spS K S') :=
  h.imp fun vs H Q E ⟨G, as, R, g, a, q, r⟩ => ⟨G, as, R, g, a, hs as R q, r⟩
theorem fn_none {P : Program} {w : World} {K : PySem.W.Frag} {mg : Str → Option Value} {base : Heap} {k : Nat} {f : Addr} {fd : FuncData} {ps : List Str} : FnOk P w K mg base CX0 k f fd ps (spS K (sF fun _ => none)) :=
  fn_weak fn_no fun as R h => by
    obtain ⟨r, as', e, _⟩ := h
    cases e
mutual
/-- how much a thing weighs, at most: counted up to a limit -/
def wgtF : PyData → Nat
  | .none => 1
  | .bool _ => 1
  | .int _ => 1
  | .str _ => 1
  | .dict _ => 1
  | .list xs => wgtFs xs + 1
  | .tuple xs => wgtFs xs + 1
def wgtFs : List PyData → Nat
  | [] => 0
  | x :: xs => wgtF x + wgtFs xs
end
/-- frozen: lists become tuples -/
def F_frozen : Fn := fun as => match as with
  | [.dat d] => chk (fits (wgt d)) (some (.ok (.dat (froz d)) [.dat d]))
  | _ => none
theorem frozen_of {as : List Sl} {R : Rs → List Sl → Prop} (h : sF F_frozen as R) : S_frozen as R := by
  obtain ⟨r, as', e, hR⟩ := h
  match as, e with
  | [.dat d], e =>
    obtain ⟨c, e⟩ := chk_some e
    cases e
    exact ⟨d, rfl, fits_le c, hR⟩
  | [], e => cases e
  | [.un], e => cases e
  | [.own _], e => cases e
  | [.par _], e => cases e
  | [.scr _], e => cases e
  | .dat _ :: _ :: _, e => cases e
  | .un :: _ :: _, e => cases e
  | .own _ :: _ :: _, e => cases e
  | .par _ :: _ :: _, e => cases e
  | .scr _ :: _ :: _, e => cases e
/-- the law: True at every list of at most 63 numbers -/
theorem law_of {F : Fn} (h : ∀ ns : List Int, ns.length ≤ 63 → ∃ as', F [.scr (ns.map PyData.int)] = some (.ok (.dat (.bool true)) as')) {as : List Sl} {R : Rs → List Sl → Prop} (q : sLaw as R) : sF F as R := by
  obtain ⟨ns, hl, rfl, hR⟩ := q
  obtain ⟨as', e⟩ := h ns hl
  exact ⟨_, as', e, hR as'⟩
end DL

namespace DL
open PySem PySem.Spec PyProof.Rows L2
theorem r72 {k : Nat} {A : Around} (h : Room k A) : A.units + 72 < cLine := by have := h.un; omega
section
variable {X : Cx} {K : PySem.W.Frag} {a b : Expr} {Wb : WE} {pos : Pos}
/-- what an operand reads as, as a datum of the deeper kind -/
theorem opd_dp {B : Bs} {σ : L2.St} {H G : Hp} {Γ : Gam} {v : V} {o : Opd} {d : PyData} (E : En K B σ H G Γ) (h : OpV K σ G v o) (e : o.rd Γ = some d) : Dp K H v d := by
  cases o with
  | dat x =>
    cases e
    exact (Dd.mono E.gh h).dp
  | var j =>
    cases q : ownAt Γ j with
    | none =>
      have e : (ownAt Γ j).map PyData.list = some d := e
      rw [q] at e; cases e
    | some ds =>
      have e : (ownAt Γ j).map PyData.list = some d := e
      rw [q] at e
      cases e
      obtain ⟨p, vs, h1, h2, h3, h4, _⟩ := E.mine j ds (own_of q)
      have h : σ[j]? = some (some v) := h
      rw [h1] at h
      cases h
      exact .lst (SqL.of h3) (h4.mono E.gh).dp
@[simp] def wEqO (Wo : WP) (Wb : WE) : WE := fun Γ Q => Wo Γ fun o Γ1 => Wb Γ1 fun y Γ2 => match o.rd Γ2 with
  | some x => SeqAt.shaped x = true ∧ SeqAt.shaped y = true ∧ Q (.bool (PyData.eqv x y)) Γ2
  | none => False
@[simp] def wNeO (Wo : WP) (Wb : WE) : WE := fun Γ Q => Wo Γ fun o Γ1 => Wb Γ1 fun y Γ2 => match o.rd Γ2 with
  | some x => SeqAt.shaped x = true ∧ SeqAt.shaped y = true ∧ Q (.bool (!PyData.eqv x y)) Γ2
  | none => False
theorem opV_mono {σ : L2.St} {G G' : Hp} {v : V} {o : Opd} (s : Same G G') (h : OpV K σ G v o) : OpV K σ G' v o := by
  cases o with
  | dat d => exact Dd.mono s h
  | var j => exact h
theorem re_eqO {t u : TE} {Wo : WP} (ha : RP K t Wo) (hb : RE K u Wb) : RE K (tOp (rEqD K) t u) (wEqO Wo Wb) := by
  intro B Γ σ H G Q Q' E w k
  refine ha B Γ σ H G _ _ E w fun v H1 G1 o Γ1 E1 s1 k1 o1 w1 => ?_
  refine hb B Γ1 σ H1 G1 _ _ E1 w1 fun y H2 G2 d Γ2 E2 s2 k2 d2 w2 => ?_
  cases e : o.rd Γ2 with
  | none => rw [e] at w2; exact w2.elim
  | some x =>
    rw [e] at w2
    exact ⟨x, d, opd_dp E2 (opV_mono s2 o1) e, (d2.mono E2.gh).dp, w2.1, w2.2.1, k _ H2 G2 _ Γ2 E2 (s1.trans s2) (k1.trans k2) (.bl _) w2.2.2⟩
theorem re_neO {t u : TE} {Wo : WP} (ha : RP K t Wo) (hb : RE K u Wb) : RE K (tOp (rNeD K) t u) (wNeO Wo Wb) := by
  intro B Γ σ H G Q Q' E w k
  refine ha B Γ σ H G _ _ E w fun v H1 G1 o Γ1 E1 s1 k1 o1 w1 => ?_
  refine hb B Γ1 σ H1 G1 _ _ E1 w1 fun y H2 G2 d Γ2 E2 s2 k2 d2 w2 => ?_
  cases e : o.rd Γ2 with
  | none => rw [e] at w2; exact w2.elim
  | some x =>
    rw [e] at w2
    exact ⟨x, d, opd_dp E2 (opV_mono s2 o1) e, (d2.mono E2.gh).dp, w2.1, w2.2.1, k _ H2 G2 _ Γ2 E2 (s1.trans s2) (k1.trans k2) (.bl _) w2.2.2⟩
theorem de_eqO {Wo : WP} (hu : X.A.units + 64 < cLine) (ha : DP X a Wo) (hb : DE X b Wb) : DE X (.Compare a [.Eq] [b] pos) (wEqO Wo Wb) := by
  obtain ⟨ta, pa, ra⟩ := ha.ex
  obtain ⟨tb, pb, rb⟩ := hb.ex
  exact ⟨_, pe_cmpR (op_eqD hu) pa pb (nomark _), re_eqO ra rb⟩
theorem de_neO {Wo : WP} (hu : X.A.units + 64 < cLine) (ha : DP X a Wo) (hb : DE X b Wb) : DE X (.Compare a [.NotEq] [b] pos) (wNeO Wo Wb) := by
  obtain ⟨ta, pa, ra⟩ := ha.ex
  obtain ⟨tb, pb, rb⟩ := hb.ex
  exact ⟨_, pe_cmpR (op_neD hu) pa pb (nomark _), re_neO ra rb⟩
theorem dt_eqO {Wo : WP} (hu : X.A.units + 64 < cLine) (ha : DP X a Wo) (hb : DE X b Wb) : DT X (.Compare a [.Eq] [b] pos) (wB (wEqO Wo Wb)) := by
  obtain ⟨ta, pa, ra⟩ := ha.ex
  obtain ⟨tb, pb, rb⟩ := hb.ex
  exact ⟨_, pt_cmpR (op_eqD hu) pa pb (nomark _), rt_test (re_eqO ra rb)⟩
theorem dt_neO {Wo : WP} (hu : X.A.units + 64 < cLine) (ha : DP X a Wo) (hb : DE X b Wb) : DT X (.Compare a [.NotEq] [b] pos) (wB (wNeO Wo Wb)) := by
  obtain ⟨ta, pa, ra⟩ := ha.ex
  obtain ⟨tb, pb, rb⟩ := hb.ex
  exact ⟨_, pt_cmpR (op_neD hu) pa pb (nomark _), rt_test (re_neO ra rb)⟩
end
@[simp] def fEqO (o : FP) (b : FE) : FE := fun Γ => bnd (o Γ) fun o Γ1 => bnd (b Γ1) fun y Γ2 => onO (o.rd Γ2) fun x => onO (eqF x y) fun z => some (z, Γ2)
@[simp] def fNeO (o : FP) (b : FE) : FE := fun Γ => bnd (o Γ) fun o Γ1 => bnd (b Γ1) fun y Γ2 => onO (o.rd Γ2) fun x => onO (neF x y) fun z => some (z, Γ2)
theorem ad_eqO {O : WP} {B : WE} {o : FP} {b : FE} (ho : Ad O o) (hb : Ad B b) : Ad (wEqO O B) (fEqO o b) := fun Γ Q z Γ' e q => by
  obtain ⟨o, Γ1, h1, e⟩ := bnd_some e
  obtain ⟨y, Γ2, h2, e⟩ := bnd_some e
  obtain ⟨x, h3, e⟩ := onO_some e
  obtain ⟨u, h4, e⟩ := onO_some e
  cases e
  obtain ⟨c, h4⟩ := chk_some h4
  cases h4
  rw [Bool.and_eq_true] at c
  refine ho _ _ _ _ h1 (hb _ _ _ _ h2 ?_)
  rw [h3]
  exact ⟨c.1, c.2, q⟩
theorem ad_neO {O : WP} {B : WE} {o : FP} {b : FE} (ho : Ad O o) (hb : Ad B b) : Ad (wNeO O B) (fNeO o b) := fun Γ Q z Γ' e q => by
  obtain ⟨o, Γ1, h1, e⟩ := bnd_some e
  obtain ⟨y, Γ2, h2, e⟩ := bnd_some e
  obtain ⟨x, h3, e⟩ := onO_some e
  obtain ⟨u, h4, e⟩ := onO_some e
  cases e
  obtain ⟨c, h4⟩ := chk_some h4
  cases h4
  rw [Bool.and_eq_true] at c
  refine ho _ _ _ _ h1 (hb _ _ _ _ h2 ?_)
  rw [h3]
  exact ⟨c.1, c.2, q⟩
end DL

namespace LB
open PySem DL L2
def B_take : FS :=
  (fSeq (fIfS (fB (fOp gtF (fIxO (fOw 0) (fC (.int 0))) (fC (.int 0)))) (fSeq (fAsg 2 (fOp modF (fCB intTF (fCons (fIxO (fOw 0) (fC (.int 0))) fNil)) (fVar 1))) (fSeq (fSetI 0 (fC (.int 0)) (fOp fdivF (fIxO (fOw 0) (fC (.int 0))) (fVar 1))) (fRet (fVar 2)))) fNext) (fSeq (fSetI 0 (fC (.int 2)) (fOp addF (fIxO (fOw 0) (fC (.int 2))) (fC (.int 1)))) (fSeq (fAsg 3 (fOp modF (fCB intTF (fCons (fOp mulF (fOp addF (fIxO (fOw 0) (fC (.int 1))) (fOp mulF (fC (.int 48271)) (fIxO (fOw 0) (fC (.int 2))))) (fOp addF (fC (.int 39373)) (fIxO (fOw 0) (fC (.int 2))))) fNil)) (fC (.int 2147483647)))) (fSeq (fAsg 4 (fOp addF (fOp modF (fCB intTF (fCons (fVar 3) fNil)) (fC (.int 40009))) (fC (.int 7)))) (fSeq (fAsg 5 (fOp modF (fCB intTF (fCons (fOp mulF (fOp addF (fOp addF (fVar 3) (fIxO (fOw 0) (fC (.int 2)))) (fOp fdivF (fIxO (fOw 0) (fC (.int 1))) (fC (.int 1000003)))) (fVar 4)) fNil)) (fC (.int 2147483629)))) (fRet (fOp modF (fCB intTF (fCons (fOp fdivF (fOp modF (fCB intTF (fCons (fOp addF (fOp mulF (fVar 5) (fC (.int 48271))) (fVar 3)) fNil)) (fC (.int 2147483587))) (fC (.int 64))) fNil)) (fVar 1))))))))
def F_take : Fn := fnF 2 6 B_take
/-- a source of draws from which k may be taken yet -/
def BoxOk (k : Int) (bs : List PyData) : Prop := ∃ a b c : Int, bs = [.int a, .int b, .int c] ∧ 0 ≤ a ∧ 0 ≤ c ∧ c + k ≤ 1152921504606846976
theorem BoxOk.less {k k' : Int} {bs : List PyData} (h : BoxOk k bs) (hk : k' ≤ k) : BoxOk k' bs := by
  obtain ⟨a, b, c, e, h1, h2, h3⟩ := h
  exact ⟨a, b, c, e, h1, h2, by omega⟩
theorem ix0 (a b c : PyData) : atI [a, b, c] 0 = some a := rfl
theorem ix1 (a b c : PyData) : atI [a, b, c] 1 = some b := rfl
theorem ix2 (a b c : PyData) : atI [a, b, c] 2 = some c := rfl
theorem xn0 : ixN 3 0 = some 0 := rfl
theorem xn2 : ixN 3 2 = some 2 := rfl
theorem mulOk_r {i j : Int} (h : -(2 ^ 64) < j ∧ j < 2 ^ 64) : mulOk i j = true := by
  unfold mulOk
  rw [Bool.or_eq_true]
  right
  exact Nat.ble_eq_true_of_le (by omega)
theorem mulOk_l {i j : Int} (h : -(2 ^ 64) < i ∧ i < 2 ^ 64) : mulOk i j = true := by
  unfold mulOk
  rw [Bool.or_eq_true]
  left
  exact Nat.ble_eq_true_of_le (by omega)
/-- the mixed number behind count c -/
def once (b c : Int) : Int := ((b + 48271 * c) * (39373 + c)).fmod 2147483647
def again (b c : Int) : Int := ((once b c + c + b.fdiv 1000003) * ((once b c).fmod 40009 + 7)).fmod 2147483629
def mixed (b c : Int) : Int := ((again b c * 48271 + once b c).fmod 2147483587).fdiv 64
theorem take_ok {k n : Int} {bs : List PyData} (h : BoxOk (k + 1) bs) (h1 : 1 ≤ n) (h2 : n < 1073741824) (hk : 0 ≤ k) :
    ∃ d bs', F_take [.par bs, .dat (.int n)] = some (.ok (.dat (.int d)) [.par bs', .dat (.int n)]) ∧ 0 ≤ d ∧ d < n ∧ BoxOk k bs' := by
  obtain ⟨a, b, c, rfl, ha, hc, hb⟩ := h
  have n0 : (n != 0) = true := by simp; omega
  have nb : Nat.blt n.natAbs 1073741824 = true := Nat.ble_eq_true_of_le (by omega)
  by_cases ha0 : 0 < a
  · refine ⟨a.fmod n, [.int (a.fdiv n), .int b, .int c], ?_, Int.fmod_nonneg_of_pos _ (by omega), Int.fmod_lt_of_pos _ (by omega), _, _, _, rfl, Int.fdiv_nonneg ha (by omega), hc, by omega⟩
    simp [F_take, fnF, B_take, ix0, ha0, chk_pos n0, chk_pos nb, n0, nb, xn0]
  · have m1 : ∀ x : Int, mulOk x (39373 + (c + 1)) = true := fun x => mulOk_r (by omega)
    have m2 : ∀ x : Int, mulOk 48271 x = true := fun x => mulOk_l (by omega)
    have m3 : ∀ x : Int, mulOk x 48271 = true := fun x => mulOk_r (by omega)
    have m4 : ∀ x y : Int, mulOk x (y.fmod 40009 + 7) = true := fun x y => by
      have h1 := Int.fmod_nonneg_of_pos y (b := 40009) (by omega)
      have h2 := Int.fmod_lt_of_pos y (b := 40009) (by omega)
      exact mulOk_r (by omega)
    refine ⟨(mixed b (c + 1)).fmod n, [.int a, .int b, .int (c + 1)], ?_, Int.fmod_nonneg_of_pos _ (by omega), Int.fmod_lt_of_pos _ (by omega), _, _, _, rfl, ha, by omega, by omega⟩
    have d1 : Nat.blt 1000003 1073741824 = true := rfl
    have d2 : Nat.blt 64 1073741824 = true := rfl
    simp [F_take, fnF, B_take, ix0, ix1, ix2, ha0, n0, nb, xn2, m1, m2, m3, m4, mixed, again, once, d1, d2]
end LB

/-! ## loops by an invariant -/
namespace DL
open PySem PySem.Spec PyProof.Rows L2
/-- a loop that runs to its end: I says what holds with these items ahead -/
theorem forF_ok {g : FG} {b : FS} (I : List PyData → Gam → Prop) (step : ∀ d ds Γ, I (d :: ds) Γ → ∃ Γ1 Γ2, g d Γ = some Γ1 ∧ b Γ1 = some (.nx Γ2) ∧ I ds Γ2) :
    ∀ (ds : List PyData) (Γ : Gam), I ds Γ → ∃ Γ', forF g b ds Γ = some (.nx Γ') ∧ I [] Γ'
  | [], Γ, h => ⟨Γ, rfl, h⟩
  | d :: ds, Γ, h => by
    obtain ⟨Γ1, Γ2, h1, h2, h3⟩ := step d ds Γ h
    obtain ⟨Γ', h4, h5⟩ := forF_ok I step ds Γ2 h3
    refine ⟨Γ', ?_, h5⟩
    unfold forF
    rw [h1, onO_mk, h2]
    exact h4
/-- a loop that may hand back early -/
theorem forF_ret {g : FG} {b : FS} (I : List PyData → Gam → Prop) (R : Rs → Gam → Prop)
    (step : ∀ d ds Γ, I (d :: ds) Γ → ∃ Γ1, g d Γ = some Γ1 ∧ ((∃ Γ2, (b Γ1 = some (.nx Γ2) ∨ b Γ1 = some (.ct Γ2)) ∧ I ds Γ2) ∨ (∃ Γ2, b Γ1 = some (.bk Γ2) ∧ I [] Γ2) ∨ ∃ r Γ2, b Γ1 = some (.rt r Γ2) ∧ R r Γ2)) :
    ∀ (ds : List PyData) (Γ : Gam), I ds Γ → (∃ Γ', forF g b ds Γ = some (.nx Γ') ∧ I [] Γ') ∨ ∃ r Γ', forF g b ds Γ = some (.rt r Γ') ∧ R r Γ'
  | [], Γ, h => .inl ⟨Γ, rfl, h⟩
  | d :: ds, Γ, h => by
    obtain ⟨Γ1, h1, h2⟩ := step d ds Γ h
    unfold forF
    rw [h1, onO_mk]
    rcases h2 with ⟨Γ2, h2 | h2, h3⟩ | ⟨Γ2, h2, h3⟩ | ⟨r, Γ2, h2, h3⟩
    · rw [h2]; exact forF_ret I R step ds Γ2 h3
    · rw [h2]; exact forF_ret I R step ds Γ2 h3
    · rw [h2]; exact .inl ⟨Γ2, rfl, h3⟩
    · rw [h2]; exact .inr ⟨r, Γ2, rfl, h3⟩
/-- a comprehension: what is kept of these items, the slots as they were -/
theorem lcF_map {g : FG} {t : FT} {b : FE} {vs : List Nat} {Γ : Gam} (f : PyData → PyData) (p : PyData → Bool) : ∀ (ds acc : List PyData),
    (∀ d ∈ ds, ∃ Γ1 Γ2, g d (wipeG Γ vs) = some Γ1 ∧ t Γ1 = some (p d, Γ2) ∧ restG Γ Γ2 vs = Γ ∧ (p d = true → ∃ Γ3, b Γ2 = some (f d, Γ3) ∧ restG Γ Γ3 vs = Γ)) → ds.length + acc.length ≤ 16777216 →
    lcF g t b vs ds acc Γ = some (acc.reverse ++ (ds.filter p).map f, Γ)
  | [], acc, _, _ => by simp [lcF]
  | d :: ds, acc, h, hl => by
    obtain ⟨Γ1, Γ2, h1, h2, h3, h4⟩ := h d (by simp)
    have ht := fun e he => h e (List.mem_cons_of_mem _ he)
    simp only [List.length_cons] at hl
    unfold lcF
    rw [h1, onO_mk, h2, bnd_mk]
    cases c : p d with
    | true =>
      obtain ⟨Γ3, h5, h6⟩ := h4 c
      rw [if_pos rfl, h5, bnd_mk, chk_pos (fits_of (by omega)), h6, lcF_map f p ds (f d :: acc) ht (by simp only [List.length_cons]; omega)]
      simp [c]
    | false =>
      rw [if_neg (by decide), h3, lcF_map f p ds acc ht (by omega)]
      simp [c]
/-- a comprehension whose items change the slots: an invariant over what is ahead and what is got -/
theorem lcF_ok {g : FG} {t : FT} {b : FE} {vs : List Nat} (I : List PyData → List PyData → Gam → Prop)
    (step : ∀ d ds acc Γ, I (d :: ds) acc Γ → ∃ Γ1 Γ2, g d (wipeG Γ vs) = some Γ1 ∧ ((t Γ1 = some (false, Γ2) ∧ I ds acc (restG Γ Γ2 vs)) ∨ (t Γ1 = some (true, Γ2) ∧ ∃ x Γ3, b Γ2 = some (x, Γ3) ∧ acc.length + 1 ≤ 16777216 ∧ I ds (acc ++ [x]) (restG Γ Γ3 vs)))) :
    ∀ (ds acc : List PyData) (Γ : Gam), I ds acc.reverse Γ → ∃ res Γ', lcF g t b vs ds acc Γ = some (res, Γ') ∧ I [] res Γ'
  | [], acc, Γ, h => ⟨_, _, rfl, h⟩
  | d :: ds, acc, Γ, h => by
    obtain ⟨Γ1, Γ2, h1, h2⟩ := step d ds _ Γ h
    unfold lcF
    rw [h1, onO_mk]
    rcases h2 with ⟨h2, h3⟩ | ⟨h2, x, Γ3, h3, h4, h5⟩
    · rw [h2, bnd_mk, if_neg (by decide)]
      exact lcF_ok I step ds acc _ h3
    · rw [h2, bnd_mk, if_pos rfl, h3, bnd_mk, chk_pos (fits_of (by simpa using h4))]
      refine lcF_ok I step ds (x :: acc) _ ?_
      rw [List.reverse_cons]
      exact h5
/-- while, by a measure -/
theorem whileF_ok {c : FT} {b : FS} (I : Nat → Gam → Prop) (step : ∀ m Γ, I m Γ → ∃ Γ1, (c Γ = some (false, Γ1) ∧ I 0 Γ1) ∨ (c Γ = some (true, Γ1) ∧ ∃ Γ2 m', (b Γ1 = some (.nx Γ2) ∨ b Γ1 = some (.ct Γ2)) ∧ m' < m ∧ I m' Γ2)) :
    ∀ (n m : Nat) (Γ : Gam), I m Γ → m < n → ∃ Γ', whileF c b n Γ = some (.nx Γ') ∧ I 0 Γ'
  | 0, m, Γ, _, hn => by omega
  | n + 1, m, Γ, h, hn => by
    obtain ⟨Γ1, h1⟩ := step m Γ h
    unfold whileF
    rcases h1 with ⟨h1, h2⟩ | ⟨h1, Γ2, m', h2, h3, h4⟩
    · rw [h1, bnd_mk, if_neg (by decide)]
      exact ⟨Γ1, rfl, h2⟩
    · rw [h1, bnd_mk, if_pos rfl]
      rcases h2 with h2 | h2
      · rw [h2]
        exact whileF_ok I step n m' Γ2 h4 (by omega)
      · rw [h2]
        exact whileF_ok I step n m' Γ2 h4 (by omega)
@[simp] theorem fits_eq (n : Nat) : fits n = decide (n ≤ 16777216) := by
  unfold fits
  cases h : Nat.ble n 16777216 with
  | true => exact (decide_eq_true (Nat.le_of_ble_eq_true h)).symm
  | false => exact (decide_eq_false fun z => by rw [Nat.ble_eq_true_of_le z] at h; cases h).symm
@[simp] theorem blt_eq (m n : Nat) : Nat.blt m n = decide (m < n) := by
  unfold Nat.blt
  cases h : Nat.ble (m + 1) n with
  | true => exact (decide_eq_true (Nat.le_of_ble_eq_true h)).symm
  | false => exact (decide_eq_false fun z => by rw [Nat.ble_eq_true_of_le z] at h; cases h).symm
theorem upF_len : ∀ (n : Nat) (lo : Int), (upF lo n).length = n
  | 0, _ => rfl
  | n + 1, lo => by simp [upF, upF_len n]
end DL

namespace LB
open PySem DL L2
/-! ## the source of draws -/
def B_box (n : Int) : FS :=
  (fSeq (fAsg 2 (fIf (fB (fOp ltF (fVar 1) (fCB lenF (fCons (fVar 0) fNil)))) (fOp ixF (fVar 0) (fVar 1)) (fC (.int 0)))) (fRetL (fLst (fCons (fOp mulF (fCB absF (fCons (fVar 2) fNil)) (fCB intTF (fCons (fOp geF (fCB absF (fCons (fVar 2) fNil)) (fOp powF (fC (.int 10)) (fC (.int 18)))) fNil))) (fCons (fOp addF (fOp addF (fOp modF (fCB intTF (fCons (fVar 2) fNil)) (fC (.int 2305843009213693951))) (fOp mulF (fC (.int 39373)) (fVar 1))) (fC (.int n))) (fCons (fC (.int 0)) fNil))))))
theorem atI_ints {ms : List Int} {i : Nat} (h : i < ms.length) : atI (ms.map PyData.int) (i : Int) = some (.int ms[i]) := atI_nat (by simp [h])
theorem pow18 : powF (.int 10) (.int 18) = some (.int 1000000000000000000) := rfl
theorem box_ok (n : Int) {ms : List Int} {i : Nat} (hi : i < ms.length) (hl : ms.length ≤ 63) :
    ∃ bs, fnF 2 3 (B_box n) [.dat (.list (ms.map PyData.int)), .dat (.int i)] = some (.ok (.new bs) [.dat (.list (ms.map PyData.int)), .dat (.int i)]) ∧ BoxOk 1152921504606846976 bs := by
  have h1 : (i : Int) < (ms.length : Int) := by omega
  have m1 : ∀ x : Int, mulOk 39373 x = true := fun x => mulOk_l (by omega)
  have e := atI_ints hi
  generalize ms[i] = x at e
  have m2 : ∀ c : Bool, mulOk (if x < 0 then -x else x) (if c = true then 1 else 0) = true := fun c => mulOk_r (by cases c <;> decide)
  refine ⟨[.int ((if x < 0 then -x else x) * (if decide ((1000000000000000000 : Int) ≤ (if x < 0 then -x else x)) = true then 1 else 0)), .int (x.fmod 2305843009213693951 + 39373 * (i : Int) + n), .int 0], ?_, _, _, _, rfl, ?_, Int.le_refl _, by omega⟩
  · have m3 := m2 (decide ((1000000000000000000 : Int) ≤ (if x < 0 then -x else x)))
    have m3' := m3
    simp only [decide_eq_true_eq] at m3'
    have z1 : ((2305843009213693951 : Int) != 0) = true := by decide
    have pw : ∀ Γ : Gam, fOp powF (fC (.int 10)) (fC (.int 18)) Γ = some (.int 1000000000000000000, Γ) := fun Γ => by
      show bnd _ _ = _
      rw [fC, bnd_mk, fC, bnd_mk, pow18, onO_mk]
    unfold B_box
    generalize fOp powF (fC (.int 10)) (fC (.int 18)) = pf at pw
    simp [fnF, h1, e, m1, z1, m3', pw]
  · exact Int.mul_nonneg (by split <;> omega) (by split <;> omega)
/-! ## one of some -/
def B_of (F : Fn) : FS := (fRet (fOp ixF (fVar 1) (fCall F (fPCons (fOw 0) (fPCons (fD (fCB lenF (fCons (fVar 1) fNil))) fPNil)))))
theorem of_ok {k : Int} {bs : List PyData} {gs : List PyData} (h : BoxOk (k + 1) bs) (h1 : 1 ≤ gs.length) (h2 : gs.length < 1073741824) (hk : 0 ≤ k) :
    ∃ g bs', fnF 2 2 (B_of F_take) [.par bs, .dat (.list gs)] = some (.ok (.dat g) [.par bs', .dat (.list gs)]) ∧ g ∈ gs ∧ BoxOk k bs' := by
  obtain ⟨d, bs', e, h3, h4, h5⟩ := take_ok (n := gs.length) h (by omega) (by omega) hk
  obtain ⟨m, rfl⟩ : ∃ m : Nat, d = (m : Int) := ⟨d.toNat, by omega⟩
  have hd : m < gs.length := by omega
  have ea : atI gs (m : Int) = some gs[m] := atI_nat (by simp [hd])
  refine ⟨gs[m], bs', ?_, List.getElem_mem hd, h5⟩
  simp [fnF, B_of, e, ea]
/-! ## the numbers -/
theorem sIx_nn {n d : Nat} {i : Int} (h : 0 ≤ i) : HT.sIx n d (some i) = min i.toNat n := by
  unfold HT.sIx
  simp only
  split <;> omega
def B_cells : FS :=
  (fSeq (fAsgL 2 (fOrL (fListO (fD (fSlS 0 fNone (fSome (fVar 1))))) (fLst (fCons (fC (.int 0)) fNil)))) (fSeq (fFor (fEnum (fSlS 0 (fSome (fVar 1)) (fSome (fC (.int 63))))) (fgTup 2 (fgCons (fgName 3) (fgCons (fgName 4) fgNil))) (fTidy [5, 3, 4] (fSeq (fAsg 5 (fOp modF (fCB intTF (fCons (fVar 3) fNil)) (fVar 1))) (fSetI 2 (fVar 5) (fOp addF (fIxO (fOw 2) (fVar 5)) (fOp mulF (fVar 4) (fOp addF (fVar 3) (fC (.int 2))))))))) (fRetO 2)))
theorem enum_mem : ∀ (ds : List PyData) (k : Nat) (d : PyData), d ∈ enumFrom k ds → ∃ (i : Nat) (x : PyData), d = .tuple [.int (i : Int), x] ∧ x ∈ ds ∧ i < k + ds.length
  | [], _, _, h => by cases h
  | x :: ds, k, d, h => by
    rcases List.mem_cons.mp h with e | h
    · exact ⟨k, x, e, by simp, by simp⟩
    · obtain ⟨i, y, e, m, l⟩ := enum_mem ds (k + 1) d h
      exact ⟨i, y, e, by simp [m], by simp only [List.length_cons]; omega⟩
theorem cells_ok {ns : List Int} (hl : ns.length ≤ 63) {t : Nat} (h1 : 1 ≤ t) (h2 : t ≤ 60) :
    ∃ ms : List Int, fnF 2 6 B_cells [.scr (ns.map PyData.int), .dat (.int t)] = some (.ok (.new (ms.map PyData.int)) [.scr (ns.map PyData.int), .dat (.int t)]) ∧ 1 ≤ ms.length ∧ ms.length ≤ t := by
  -- the first numbers
  have c1 : cutD (ns.map PyData.int) none (some (t : Int)) = (ns.take t).map PyData.int := by
    unfold cutD
    rw [sIx_nn (by omega)]
    show List.take (min t (ns.map PyData.int).length - 0) (List.drop 0 (ns.map PyData.int)) = _
    rw [List.drop_zero, Nat.sub_zero, List.map_take, List.length_map]
    rcases Nat.le_total t ns.length with z | z
    · rw [Nat.min_eq_left z]
    · rw [Nat.min_eq_right z, List.take_of_length_le (by simp), List.take_of_length_le (by simpa using z)]
  obtain ⟨ms0, e0, l1, l2, l3⟩ : ∃ ms0 : List Int, (if ((ns.take t).map PyData.int).isEmpty = true then [PyData.int 0] else (ns.take t).map PyData.int) = ms0.map PyData.int ∧ 1 ≤ ms0.length ∧ ms0.length ≤ t ∧ (t < ns.length → ms0.length = t) := by
    cases e : ns.take t with
    | nil =>
      refine ⟨[0], rfl, Nat.le_refl _, h1, fun h => ?_⟩
      have := congrArg List.length e
      rw [List.length_take, List.length_nil] at this
      omega
    | cons x xs =>
      refine ⟨x :: xs, rfl, by simp, ?_, fun h => ?_⟩
      · have := congrArg List.length e
        simp only [List.length_take, List.length_cons] at this ⊢
        omega
      · have := congrArg List.length e
        simp only [List.length_take, List.length_cons] at this ⊢
        omega
  -- the later ones
  have c2 : ∀ x ∈ cutD (ns.map PyData.int) (some (t : Int)) (some 63), ∃ i, x = .int i := fun x hx => by
    unfold cutD at hx
    have := List.mem_of_mem_drop (List.mem_of_mem_take hx)
    obtain ⟨i, _, rfl⟩ := List.mem_map.mp this
    exact ⟨i, rfl⟩
  have c3 : cutD (ns.map PyData.int) (some (t : Int)) (some 63) ≠ [] → t < ns.length := fun h => by
    rcases Nat.lt_or_ge t ns.length with z | z
    · exact z
    · refine absurd ?_ h
      unfold cutD
      rw [sIx_nn (by omega), List.drop_eq_nil_of_le (by rw [List.length_map]; show ns.length ≤ min ((t : Int)).toNat ns.length; omega)]
      simp
  have c4 : (cutD (ns.map PyData.int) (some (t : Int)) (some 63)).length ≤ 63 := by
    unfold cutD
    simp only [List.length_take, List.length_drop, List.length_map]
    omega
  let S := Sl.scr (ns.map PyData.int)
  let I : List PyData → Gam → Prop := fun ds Γ => ∃ ms : List Int, Γ = [S, .dat (.int t), .own (ms.map PyData.int), .un, .un, .un] ∧ 1 ≤ ms.length ∧ ms.length ≤ t ∧ (ds ≠ [] → ms.length = t) ∧ ∀ d ∈ ds, ∃ (i : Nat) (x : Int), d = .tuple [.int (i : Int), .int x] ∧ i < 64
  have loop := forF_ok (g := fgTup 2 (fgCons (fgName 3) (fgCons (fgName 4) fgNil))) (b := (fTidy [5, 3, 4] (fSeq (fAsg 5 (fOp modF (fCB intTF (fCons (fVar 3) fNil)) (fVar 1))) (fSetI 2 (fVar 5) (fOp addF (fIxO (fOw 2) (fVar 5)) (fOp mulF (fVar 4) (fOp addF (fVar 3) (fC (.int 2))))))))) I ?step (enumFrom 0 (cutD (ns.map PyData.int) (some (t : Int)) (some 63))) [S, .dat (.int t), .own (ms0.map PyData.int), .un, .un, .un] ?start
  case start =>
    refine ⟨ms0, rfl, l1, l2, fun h => l3 (c3 fun z => h (by rw [z]; rfl)), fun d hd => ?_⟩
    obtain ⟨i, x, e, m, l⟩ := enum_mem _ _ _ hd
    obtain ⟨y, ey⟩ := c2 x m
    exact ⟨i, y, by rw [e, ey], by omega⟩
  case step =>
    rintro d ds Γ ⟨ms, rfl, q1, q2, q3, q4⟩
    have q3 := q3 (by simp)
    obtain ⟨i, x, rfl, q5⟩ := q4 d (by simp)
    refine ⟨_, [S, .dat (.int t), .own ((ms.set ((i : Int).fmod t).toNat (ms[((i : Int).fmod t).toNat]! + x * ((i : Int) + 2))).map PyData.int), .un, .un, .un], rfl, ?_, ?_⟩
    · have t0 : ((t : Int) != 0) = true := by simp; omega
      have r1 := Int.fmod_nonneg_of_pos (i : Int) (b := (t : Int)) (by omega)
      have r2 := Int.fmod_lt_of_pos (i : Int) (b := (t : Int)) (by omega)
      obtain ⟨r, hr⟩ : ∃ r : Nat, (i : Int).fmod (t : Int) = (r : Int) := ⟨((i : Int).fmod (t : Int)).toNat, by omega⟩
      rw [hr] at r1 r2
      have hn : r < ms.length := by omega
      have ea : atI (ms.map PyData.int) (r : Int) = some (.int ms[r]) := atI_ints hn
      have ex : ixN ms.length (r : Int) = some r := by
        unfold ixN
        rw [if_pos r1, if_pos (by omega)]
        simp
      have em : mulOk x ((i : Int) + 2) = true := mulOk_r (by omega)
      have eg : ms[r]! = ms[r] := by simp [hn]
      simp [S, hr, t0, ea, ex, em, eg, List.map_set]
    · refine ⟨_, rfl, ?_, ?_, fun _ => ?_, fun d hd => q4 d (by simp [hd])⟩ <;> simp only [List.length_set] <;> omega
  obtain ⟨Γ', f1, ms, f2, f3, f4, _, _⟩ := loop
  subst f2
  refine ⟨ms, ?_, f3, f4⟩
  simp only [S] at f1
  simp only [fnF, B_cells, List.length_cons, List.length_nil, Nat.zero_add, Nat.reduceAdd, Nat.reduceBEq, chk_true, fSeq, fAsgL, fOrL, fListO, fD, fSlS, fNone, fSome, fVar, fLst, fCons, fC, fNil, List.getElem?_cons_zero, List.getElem?_cons_succ, List.cons_append, List.nil_append, Nat.reduceSub, List.replicate_succ, List.replicate_zero, bnd_mk, onO_mk, intF, c1, Opd.rd, seqOf, fits_of (show 1 ≤ 16777216 by omega)]
  have e1 : (bnd (if ((ns.take t).map PyData.int).isEmpty = true then (some ([PyData.int 0], ([Sl.scr (ns.map PyData.int), Sl.dat (.int t), .un, .un, .un, .un] : Gam)) : Option (List PyData × Gam)) else some ((ns.take t).map PyData.int, [Sl.scr (ns.map PyData.int), Sl.dat (.int t), .un, .un, .un, .un])) fun ds Γ1 => some (Flow.nx (Γ1.set 2 (.own ds)))) = some (.nx [Sl.scr (ns.map PyData.int), Sl.dat (.int t), .own (ms0.map PyData.int), .un, .un, .un]) := by
    rw [← e0]
    split <;> rfl
  rw [e1]
  simp only [thenF_nx, fSeq, fFor, fEnum, bnd_mk, itemsF, onO_mk, List.getElem?_cons_zero, List.getElem?_cons_succ, intF, fSlS, fSome, fVar, fC] at f1 ⊢
  rw [f1]
  simp [endF]
end LB

namespace LB
open PySem DL L2
/-! ## the same at every depth -/
def B_same (F : Fn) : FS :=
  (fSeq (fIfS (fB (fIsi2 .list .tuple (fVar 1))) (fSeq (fIfS (fB (fOp neF (fIsi .list (fVar 0)) (fIsi .list (fVar 1)))) (fRet (fC (.bool false))) fNext) (fSeq (fIfS (fB (fOp neF (fIsi .tuple (fVar 0)) (fIsi .tuple (fVar 1)))) (fRet (fC (.bool false))) fNext) (fRet (fAndV (fOp eqF (fCB lenF (fCons (fVar 0) fNil)) (fCB lenF (fCons (fVar 1) fNil))) (fCB allF (fCons (fL (fLc (fZip (fVar 0) (fVar 1)) (fgTup 2 (fgCons (fgName 2) (fgCons (fgName 3) fgNil))) fYes (fCall F (fPCons (fD (fVar 2)) (fPCons (fD (fVar 3)) fPNil))) [2, 3])) fNil)))))) fNext) (fSeq (fIfS (fOr (fB (fOp isNF (fVar 1) (fC .none))) (fB (fIsi2 .bool .str (fVar 1)))) (fRet (fAndV (fOp eqF (fVar 0) (fVar 1)) (fAndV (fOp eqF (fIsi .bool (fVar 0)) (fIsi .bool (fVar 1))) (fOp eqF (fOp isNF (fVar 0) (fC .none)) (fOp isNF (fVar 1) (fC .none)))))) fNext) (fRet (fAndV (fIsi .int (fVar 0)) (fAndV (fNotV (fIsi .bool (fVar 0))) (fOp eqF (fVar 0) (fVar 1)))))))
def R_same : Nat → Fn
  | 0 => fun _ => none
  | d + 1 => fnF 2 4 (B_same (R_same d))
mutual
/-- what can be compared, at most n deep -/
def okD : Nat → PyData → Bool
  | _, .none => true
  | _, .bool _ => true
  | _, .int _ => true
  | _, .str s => SeqAt.shaped (.str s)
  | 0, .list _ => false
  | 0, .tuple _ => false
  | n + 1, .list xs => decide (xs.length ≤ 16777216) && okDs n xs
  | n + 1, .tuple xs => decide (xs.length ≤ 16777216) && okDs n xs
  | _, .dict _ => false
def okDs : Nat → List PyData → Bool
  | _, [] => true
  | n, x :: xs => okD n x && okDs n xs
end
theorem okDs_mem : ∀ {xs : List PyData} {n : Nat}, okDs n xs = true → ∀ x ∈ xs, okD n x = true
  | [], _, _, _, m => by cases m
  | y :: ys, n, h, x, m => by
    unfold okDs at h
    rw [Bool.and_eq_true] at h
    rcases List.mem_cons.mp m with e | m
    · rw [e]; exact h.1
    · exact okDs_mem h.2 x m
theorem okDs_of : ∀ {xs : List PyData} {n : Nat}, (∀ x ∈ xs, okD n x = true) → okDs n xs = true
  | [], _, _ => by simp [okDs]
  | y :: ys, n, h => by
    unfold okDs
    rw [h y (by simp), okDs_of fun x m => h x (by simp [m])]
    rfl
mutual
theorem okD_mono : ∀ (d : PyData) (n m : Nat), okD n d = true → n ≤ m → okD m d = true
  | .none, _, _, _, _ => by simp [okD]
  | .bool _, _, _, _, _ => by simp [okD]
  | .int _, _, _, _, _ => by simp [okD]
  | .str _, n, m, h, _ => by simpa [okD] using h
  | .dict _, n, m, h, _ => by simp [okD] at h
  | .list xs, 0, m, h, _ => by simp [okD] at h
  | .tuple xs, 0, m, h, _ => by simp [okD] at h
  | .list xs, n + 1, 0, h, hm => by omega
  | .tuple xs, n + 1, 0, h, hm => by omega
  | .list xs, n + 1, m + 1, h, hm => by
    simp only [okD, Bool.and_eq_true] at h ⊢
    exact ⟨h.1, okDs_mono xs n m h.2 (by omega)⟩
  | .tuple xs, n + 1, m + 1, h, hm => by
    simp only [okD, Bool.and_eq_true] at h ⊢
    exact ⟨h.1, okDs_mono xs n m h.2 (by omega)⟩
theorem okDs_mono : ∀ (xs : List PyData) (n m : Nat), okDs n xs = true → n ≤ m → okDs m xs = true
  | [], _, _, _, _ => by simp [okDs]
  | x :: xs, n, m, h, hm => by
    simp only [okDs, Bool.and_eq_true] at h ⊢
    exact ⟨okD_mono x n m h.1 hm, okDs_mono xs n m h.2 hm⟩
end
theorem zip_self : ∀ xs : List PyData, zipD xs xs = xs.map fun x => .tuple [x, x]
  | [] => rfl
  | x :: xs => by simp [zipD, zip_self xs]
theorem bools_true : ∀ n : Nat, boolsD (List.replicate n (.bool true)) = some (List.replicate n true)
  | 0 => rfl
  | n + 1 => by simp [List.replicate_succ, boolsD, bools_true n]
theorem eqv_nn : PyData.eqv .none .none = true := by simp only [PyData.eqv]
theorem eqv_bb (a b : Bool) : PyData.eqv (.bool a) (.bool b) = (a == b) := by simp only [PyData.eqv]
theorem eqv_ii (a b : Int) : PyData.eqv (.int a) (.int b) = (a == b) := by simp only [PyData.eqv]
theorem eqv_ss (a b : Str) : PyData.eqv (.str a) (.str b) = (a == b) := by simp only [PyData.eqv]
theorem eqv_tt (a b : List PyData) : PyData.eqv (.tuple a) (.tuple b) = PyData.eqvAll a b := by simp only [PyData.eqv]
theorem eqv_ll (a b : List PyData) : PyData.eqv (.list a) (.list b) = PyData.eqvAll a b := by simp only [PyData.eqv]
theorem sh_int (i : Int) : SeqAt.shaped (.int i) = true := by simp [SeqAt.shaped, PyData.canLay0, PyData.depth]
theorem sh_bool (i : Bool) : SeqAt.shaped (.bool i) = true := by simp [SeqAt.shaped, PyData.canLay0, PyData.depth]
theorem sh_none : SeqAt.shaped .none = true := by simp [SeqAt.shaped, PyData.canLay0, PyData.depth]
theorem same_items {n : Nat} {xs : List PyData} {a b : PyData} (ih : ∀ d, okD n d = true → R_same (n + 1) [.dat d, .dat d] = some (.ok (.dat (.bool true)) [.dat d, .dat d])) (h : okDs n xs = true) (hl : xs.length ≤ 16777216) :
    lcF (fgTup 2 (fgCons (fgName 2) (fgCons (fgName 3) fgNil))) fYes (fCall (R_same (n + 1)) (fPCons (fD (fVar 2)) (fPCons (fD (fVar 3)) fPNil))) [2, 3] (zipD xs xs) [] [.dat a, .dat b, .un, .un] = some (List.replicate xs.length (.bool true), [.dat a, .dat b, .un, .un]) := by
  rw [zip_self, lcF_map (fun _ => .bool true) (fun _ => true)]
  · congr 2
    rw [List.reverse_nil, List.nil_append, List.filter_eq_self.mpr (fun _ _ => rfl), List.eq_replicate_iff]
    refine ⟨by simp, fun x hx => ?_⟩
    obtain ⟨y, _, rfl⟩ := List.mem_map.mp hx
    rfl
  · intro d hd
    obtain ⟨x, hx, rfl⟩ := List.mem_map.mp hd
    have e := ih x (okDs_mem h x hx)
    refine ⟨_, _, rfl, rfl, by simp, fun _ => ⟨[.dat a, .dat b, .dat x, .dat x], ?_, ?_⟩⟩
    · simp [e]
    · simp
  · simpa using hl
theorem same_leaf (n : Nat) (d : PyData) (h : okD 0 d = true) : R_same (n + 1) [.dat d, .dat d] = some (.ok (.dat (.bool true)) [.dat d, .dat d]) := by
  cases d with
  | none => simp [R_same, fnF, B_same, sh_none, sh_bool, eqv_nn, eqv_bb, eqv_ii, eqv_ss]
  | bool b => simp [R_same, fnF, B_same, sh_bool, eqv_nn, eqv_bb, eqv_ii, eqv_ss]
  | int b => simp [R_same, fnF, B_same, sh_int, sh_bool, eqv_nn, eqv_bb, eqv_ii, eqv_ss]
  | str s =>
    have h : SeqAt.shaped (.str s) = true := by simpa [okD] using h
    simp [R_same, fnF, B_same, h, sh_bool, eqv_nn, eqv_bb, eqv_ii, eqv_ss]
  | _ => simp [okD] at h
theorem same_list (n : Nat) (ih : ∀ d, okD n d = true → R_same (n + 1) [.dat d, .dat d] = some (.ok (.dat (.bool true)) [.dat d, .dat d])) (xs : List PyData) (h : okDs n xs = true) (hl : xs.length ≤ 16777216) : R_same (n + 2) [.dat (.list xs), .dat (.list xs)] = some (.ok (.dat (.bool true)) [.dat (.list xs), .dat (.list xs)]) := by
  have it := same_items (a := .list xs) (b := .list xs) ih h hl
  show fnF 2 4 (B_same (R_same (n + 1))) _ = _
  generalize R_same (n + 1) = F at it
  simp [fnF, B_same, sh_bool, sh_int, eqv_nn, eqv_bb, eqv_ii, eqv_ss, it, bools_true]
theorem same_tuple (n : Nat) (ih : ∀ d, okD n d = true → R_same (n + 1) [.dat d, .dat d] = some (.ok (.dat (.bool true)) [.dat d, .dat d])) (xs : List PyData) (h : okDs n xs = true) (hl : xs.length ≤ 16777216) : R_same (n + 2) [.dat (.tuple xs), .dat (.tuple xs)] = some (.ok (.dat (.bool true)) [.dat (.tuple xs), .dat (.tuple xs)]) := by
  have it := same_items (a := .tuple xs) (b := .tuple xs) ih h hl
  show fnF 2 4 (B_same (R_same (n + 1))) _ = _
  generalize R_same (n + 1) = F at it
  simp [fnF, B_same, sh_bool, sh_int, eqv_nn, eqv_bb, eqv_ii, eqv_ss, it, bools_true]
theorem same_ok (n : Nat) : ∀ d : PyData, okD n d = true → R_same (n + 1) [.dat d, .dat d] = some (.ok (.dat (.bool true)) [.dat d, .dat d]) := by
  induction n with
  | zero =>
    intro d h
    exact same_leaf 0 d h
  | succ n ih =>
    intro d h
    cases d with
    | list xs =>
      simp only [okD, Bool.and_eq_true, decide_eq_true_eq] at h
      exact same_list n ih xs h.2 h.1
    | tuple xs =>
      simp only [okD, Bool.and_eq_true, decide_eq_true_eq] at h
      exact same_tuple n ih xs h.2 h.1
    | none => exact same_leaf _ _ (by simp [okD])
    | bool _ => exact same_leaf _ _ (by simp [okD])
    | int _ => exact same_leaf _ _ (by simp [okD])
    | str s => exact same_leaf _ _ (by simpa [okD] using h)
    | dict _ => simp [okD] at h
end LB

namespace LB
open PySem DL L2
/-! ## a law of the common shape: by hand, then from each number -/
def B_lawN (t : Int) (F__law_cells : Fn) (F__law_by_hand_right : Fn) (F__law_right : Fn) (F__law_box : Fn) : FS :=
  (fSeq (fAsg 1 (fCall F__law_cells (fPCons (fOs 0) (fPCons (fD (fC (.int t))) fPNil)))) (fSeq (fIfS (fNot (fB (fCall F__law_by_hand_right fPNil))) (fRet (fC (.bool false))) fNext) (fRet (fCB allF (fCons (fL (fLc (fRng1 (fCB lenF (fCons (fVar 1) fNil))) (fgName 2) fYes (fCallN F__law_right (fCallL F__law_box (fPCons (fD (fVar 1)) (fPCons (fD (fVar 2)) fPNil)))) [2])) fNil)))))
theorem upF_mem : ∀ (n : Nat) (lo : Int) (d : PyData), d ∈ upF lo n → ∃ i : Nat, i < n ∧ d = .int (lo + i)
  | 0, _, _, m => by cases m
  | n + 1, lo, d, m => by
    rcases List.mem_cons.mp m with e | m
    · exact ⟨0, by omega, by rw [e]; simp⟩
    · obtain ⟨i, h1, h2⟩ := upF_mem n (lo + 1) d m
      exact ⟨i + 1, by omega, by rw [h2]; congr 1; omega⟩
theorem all_upF (n : Nat) : boolsD (((upF 0 n).filter fun _ => true).map fun _ => PyData.bool true) = some (List.replicate n true) := by
  have : (((upF 0 n).filter fun _ => true).map fun _ => PyData.bool true) = List.replicate n (.bool true) := by
    rw [List.filter_eq_self.mpr fun _ _ => rfl, List.eq_replicate_iff]
    refine ⟨by rw [List.length_map, upF_len], fun x m => ?_⟩
    obtain ⟨_, _, e⟩ := List.mem_map.mp m
    exact e.symm
  rw [this, bools_true]
theorem lawN_ok {t : Nat} (h1 : 1 ≤ t) (h2 : t ≤ 60) (n : Int) {Fh Fr : Fn} (hand : ∃ as', Fh [] = some (.ok (.dat (.bool true)) as')) (right : ∀ bs, BoxOk 1152921504606846976 bs → ∃ as', Fr [.par bs] = some (.ok (.dat (.bool true)) as'))
    (ns : List Int) (hl : ns.length ≤ 63) : ∃ as', fnF 1 3 (B_lawN t (fnF 2 6 B_cells) Fh Fr (fnF 2 3 (B_box n))) [.scr (ns.map PyData.int)] = some (.ok (.dat (.bool true)) as') := by
  obtain ⟨ms, e1, m1, m2⟩ := cells_ok hl (t := t) (by omega) (by omega)
  obtain ⟨as2, e2⟩ := hand
  refine ⟨[.scr (ns.map PyData.int)], ?_⟩
  have box : ∀ d ∈ upF 0 ms.length, fCallN Fr (fCallL (fnF 2 3 (B_box n)) (fPCons (fD (fVar 1)) (fPCons (fD (fVar 2)) fPNil))) [.scr (ns.map PyData.int), .dat (.list (ms.map PyData.int)), .dat d] = some (.bool true, [.scr (ns.map PyData.int), .dat (.list (ms.map PyData.int)), .dat d]) := fun d hd => by
    obtain ⟨i, hi, rfl⟩ := upF_mem _ _ _ hd
    obtain ⟨bs, e3, hb⟩ := box_ok n hi (by omega)
    obtain ⟨as4, e4⟩ := right bs hb
    rw [Int.zero_add]
    generalize fnF 2 3 (B_box n) = Fb at e3
    simp [e3, e4]
  have lc := lcF_map (g := fgName 2) (t := fYes) (b := fCallN Fr (fCallL (fnF 2 3 (B_box n)) (fPCons (fD (fVar 1)) (fPCons (fD (fVar 2)) fPNil)))) (vs := [2]) (Γ := [.scr (ns.map PyData.int), .dat (.list (ms.map PyData.int)), .un]) (fun _ => .bool true) (fun _ => true) (upF 0 ms.length) [] (fun d hd => ⟨[.scr (ns.map PyData.int), .dat (.list (ms.map PyData.int)), .dat d], _, rfl, rfl, rfl, fun _ => ⟨_, box d hd, rfl⟩⟩) (by rw [upF_len]; simp; omega)
  have a := all_upF ms.length
  have r : rngOk (ms.length : Int) = true := by
    unfold rngOk
    exact Nat.ble_eq_true_of_le (by omega)
  unfold B_lawN
  simp only [fnF, List.length_cons, List.length_nil, Nat.zero_add, Nat.reduceAdd, Nat.reduceBEq, chk_true, List.cons_append, List.nil_append, Nat.reduceSub, List.replicate_succ, List.replicate_zero] at e1 lc ⊢
  rw [fSeq]
  have s1 : fAsg 1 (fCall (fnF 2 6 B_cells) (fPCons (fOs 0) (fPCons (fD (fC (.int t))) fPNil))) [.scr (ns.map PyData.int), .un, .un] = some (.nx [.scr (ns.map PyData.int), .dat (.list (ms.map PyData.int)), .un]) := by
    have e1 : fnF 2 6 B_cells [.scr (ns.map PyData.int), .dat (.int t)] = some (.ok (.new (ms.map PyData.int)) [.scr (ns.map PyData.int), .dat (.int t)]) := by
      simp only [fnF, List.length_cons, List.length_nil, Nat.zero_add, Nat.reduceAdd, Nat.reduceBEq, chk_true, List.cons_append, List.nil_append, Nat.reduceSub, List.replicate_succ, List.replicate_zero]
      exact e1
    generalize fnF 2 6 B_cells = Fc at e1
    simp [e1, outD]
  rw [s1, thenF_nx, fSeq]
  rw [show fIfS (fNot (fB (fCall Fh fPNil))) (fRet (fC (.bool false))) fNext [.scr (ns.map PyData.int), .dat (.list (ms.map PyData.int)), .un] = some (.nx [.scr (ns.map PyData.int), .dat (.list (ms.map PyData.int)), .un]) by simp [e2, outD, argsOf, putB]]
  rw [thenF_nx, fRet, fCB, fCons, fL, fLc]
  rw [show fRng1 (fCB lenF (fCons (fVar 1) fNil)) [.scr (ns.map PyData.int), .dat (.list (ms.map PyData.int)), .un] = some (upF 0 ms.length, [.scr (ns.map PyData.int), .dat (.list (ms.map PyData.int)), .un]) by simp [r]]
  rw [bnd_mk]
  rw [show noOwnB [.scr (ns.map PyData.int), .dat (.list (ms.map PyData.int)), .un] [2] = true from rfl, chk_true, lc]
  simp [a]
end LB

namespace LB
open PySem DL L2
/-! ## drawn values -/
def t_cell : Str := ⟨#[99, 101, 108, 108]⟩
def t_number : Str := ⟨#[110, 117, 109, 98, 101, 114]⟩
def t_sum : Str := ⟨#[115, 117, 109]⟩
def t_gap : Str := ⟨#[103, 97, 112]⟩
def t_times : Str := ⟨#[116, 105, 109, 101, 115]⟩
inductive Val where
  | cell (c : Str)
  | num (i : Int)
  | op (w : Str) (x y : Val)
def Val.toD : Val → PyData
  | .cell c => .tuple [.str t_cell, .str c]
  | .num i => .tuple [.str t_number, .int i]
  | .op w x y => .tuple [.str w, x.toD, y.toD]
/-- drawn with these cells, at most so deep -/
def Val.In (cs : List Str) : Nat → Val → Prop
  | _, .cell c => c ∈ cs
  | _, .num i => 0 ≤ i ∧ i < 10
  | 0, .op _ _ _ => False
  | n + 1, .op w x y => (w = t_sum ∨ w = t_gap ∨ w = t_times) ∧ x.In cs n ∧ y.In cs n
def B_value (F__law_take : Fn) (F__law_of : Fn) (F__law_value : Fn) : FS :=
  (fSeq (fIfS (fOr (fB (fOp eqF (fVar 1) (fC (.int 0)))) (fB (fOp eqF (fCall F__law_take (fPCons (fOw 0) (fPCons (fD (fC (.int 3))) fPNil))) (fC (.int 0))))) (fSeq (fIfS (fAnd (fB (fOp neF (fVar 2) (fL (fLst fNil)))) (fB (fOp eqF (fCall F__law_take (fPCons (fOw 0) (fPCons (fD (fC (.int 2))) fPNil))) (fC (.int 0))))) (fRet (fTup (fCons (fC (.str t_cell)) (fCons (fCall F__law_of (fPCons (fOw 0) (fPCons (fD (fVar 2)) fPNil))) fNil)))) fNext) (fRet (fTup (fCons (fC (.str t_number)) (fCons (fCall F__law_take (fPCons (fOw 0) (fPCons (fD (fC (.int 10))) fPNil))) fNil))))) fNext) (fSeq (fAsg 3 (fCall F__law_of (fPCons (fOw 0) (fPCons (fD (fL (fLst (fCons (fC (.str t_sum)) (fCons (fC (.str t_gap)) (fCons (fC (.str t_times)) fNil)))))) fPNil)))) (fSeq (fAsg 4 (fCall F__law_value (fPCons (fOw 0) (fPCons (fD (fOp subF (fVar 1) (fC (.int 1)))) (fPCons (fD (fVar 2)) fPNil))))) (fRet (fTup (fCons (fVar 3) (fCons (fVar 4) (fCons (fCall F__law_value (fPCons (fOw 0) (fPCons (fD (fOp subF (fVar 1) (fC (.int 1)))) (fPCons (fD (fVar 2)) fPNil)))) fNil))))))))
def F_of : Fn := fnF 2 2 (B_of F_take)
def R_value : Nat → Fn
  | 0 => fun _ => none
  | d + 1 => fnF 3 5 (B_value F_take F_of (R_value d))
/-- so many draws at most -/
def takesV : Nat → Int
  | 0 => 2
  | d + 1 => 2 + 2 * takesV d
theorem takesV_pos : ∀ d, 2 ≤ takesV d
  | 0 => by simp [takesV]
  | d + 1 => by have := takesV_pos d; simp only [takesV]; omega
theorem of_ok' {k : Int} {bs gs : List PyData} (h : BoxOk (k + 1) bs) (h1 : 1 ≤ gs.length) (h2 : gs.length < 1073741824) (hk : 0 ≤ k) : ∃ g bs', F_of [.par bs, .dat (.list gs)] = some (.ok (.dat g) [.par bs', .dat (.list gs)]) ∧ g ∈ gs ∧ BoxOk k bs' := of_ok h h1 h2 hk
theorem sh_nil : SeqAt.shaped (.list []) = true := by simp [SeqAt.shaped, PyData.canLay0, PyData.depth, PyData.canLayAll0, PyData.depthAll]
theorem eqv_nil (xs : List PyData) : PyData.eqv (.list xs) (.list []) = xs.isEmpty := by
  rw [eqv_ll]
  cases xs <;> simp [PyData.eqvAll]
/-- the leaf of a drawn value -/
theorem value_leaf {k : Int} {cs : List Str} (hs : SeqAt.shaped (.list (cs.map PyData.str)) = true) (hl : cs.length < 1000) {bs : List PyData} {x : PyData} (h : BoxOk (k + 2) bs) (hk : 0 ≤ k) :
    ∃ (v : Val) (bs' : List PyData), (∀ n, v.In cs n) ∧ BoxOk k bs' ∧ (fSeq (fIfS (fAnd (fB (fOp neF (fVar 2) (fL (fLst fNil)))) (fB (fOp eqF (fCall F_take (fPCons (fOw 0) (fPCons (fD (fC (.int 2))) fPNil))) (fC (.int 0))))) (fRet (fTup (fCons (fC (.str t_cell)) (fCons (fCall F_of (fPCons (fOw 0) (fPCons (fD (fVar 2)) fPNil))) fNil)))) fNext) (fRet (fTup (fCons (fC (.str t_number)) (fCons (fCall F_take (fPCons (fOw 0) (fPCons (fD (fC (.int 10))) fPNil))) fNil)))))
      [.par bs, .dat x, .dat (.list (cs.map PyData.str)), .un, .un] = some (.rt (.dat v.toD) [.par bs', .dat x, .dat (.list (cs.map PyData.str)), .un, .un]) := by
  cases hc : cs with
  | nil =>
    subst hc
    obtain ⟨d, b1, e1, d1, d2, h1⟩ := take_ok (k := k) (n := 10) (h.less (by omega)) (by omega) (by omega) hk
    refine ⟨.num d, b1, fun n => by cases n <;> exact ⟨d1, d2⟩, h1, ?_⟩
    simp [hs, sh_nil, eqv_nil, e1, Val.toD]
  | cons c cs' =>
    rw [← hc]
    have ne : (cs.map PyData.str).isEmpty = false := by rw [hc]; rfl
    obtain ⟨d, b1, e1, d1, d2, h1⟩ := take_ok (k := k + 1) (n := 2) (h.less (by omega)) (by omega) (by omega) (by omega)
    by_cases z : d = 0
    · subst z
      obtain ⟨g, b2, e2, m2, h2⟩ := of_ok' (k := k) (gs := cs.map PyData.str) h1 (by rw [hc]; simp) (by simp; omega) hk
      obtain ⟨c', mc, rfl⟩ := List.mem_map.mp m2
      refine ⟨.cell c', b2, fun n => by cases n <;> exact mc, h2, ?_⟩
      simp [hs, sh_nil, sh_int, eqv_ii, eqv_nil, ne, e1, e2, Val.toD]
    · obtain ⟨d', b2, e2, d3, d4, h2⟩ := take_ok (k := k) (n := 10) (h1.less (by omega)) (by omega) (by omega) hk
      refine ⟨.num d', b2, fun n => by cases n <;> exact ⟨d3, d4⟩, h2, ?_⟩
      simp [hs, sh_nil, sh_int, eqv_ii, eqv_nil, ne, e1, e2, z, Val.toD]
theorem value_ok {cs : List Str} (hs : SeqAt.shaped (.list (cs.map PyData.str)) = true) (hl : cs.length < 1000) : ∀ (d fuel : Nat) (k : Int) (bs : List PyData), d < fuel → BoxOk (k + takesV d) bs → 0 ≤ k →
    ∃ (v : Val) (bs' : List PyData), R_value fuel [.par bs, .dat (.int d), .dat (.list (cs.map PyData.str))] = some (.ok (.dat v.toD) [.par bs', .dat (.int d), .dat (.list (cs.map PyData.str))]) ∧ v.In cs d ∧ BoxOk k bs'
  | 0, 0, _, _, hf, _, _ => by omega
  | 0, f + 1, k, bs, _, h, hk => by
    obtain ⟨v, b1, hv, h1, e⟩ := value_leaf (x := .int (0 : Nat)) hs hl h hk
    refine ⟨v, b1, ?_, hv 0, h1⟩
    unfold R_value B_value
    simp only [fnF, List.length_cons, List.length_nil, Nat.zero_add, Nat.reduceAdd, Nat.reduceBEq, chk_true, List.cons_append, List.nil_append, Nat.reduceSub, List.replicate_succ, List.replicate_zero]
    rw [fSeq, fIfS]
    have t : fOr (fB (fOp eqF (fVar 1) (fC (.int 0)))) (fB (fOp eqF (fCall F_take (fPCons (fOw 0) (fPCons (fD (fC (.int 3))) fPNil))) (fC (.int 0)))) [.par bs, .dat (.int (0 : Nat)), .dat (.list (cs.map PyData.str)), .un, .un] = some (true, [.par bs, .dat (.int (0 : Nat)), .dat (.list (cs.map PyData.str)), .un, .un]) := by
      simp [sh_int, eqv_ii]
    rw [t, bnd_mk, if_pos rfl, e]
    simp
  | d + 1, 0, _, _, hf, _, _ => by omega
  | d + 1, f + 1, k, bs, hf, h, hk => by
    have tp := takesV_pos d
    have ht : takesV (d + 1) = 2 + 2 * takesV d := rfl
    obtain ⟨n, b1, e1, n1, n2, h1⟩ := take_ok (k := k + 1 + 2 * takesV d) (n := 3) (h.less (by omega)) (by omega) (by omega) (by omega)
    have nd : ¬ ((d : Int) + 1 = 0) := by omega
    by_cases z : n = 0
    · subst z
      obtain ⟨v, b2, hv, h2, e⟩ := value_leaf (x := .int ((d + 1 : Nat) : Int)) hs hl (h1.less (k' := k + 2) (by omega)) hk
      refine ⟨v, b2, ?_, hv _, h2⟩
      unfold R_value B_value
      simp only [fnF, List.length_cons, List.length_nil, Nat.zero_add, Nat.reduceAdd, Nat.reduceBEq, chk_true, List.cons_append, List.nil_append, Nat.reduceSub, List.replicate_succ, List.replicate_zero]
      rw [fSeq, fIfS]
      have t : fOr (fB (fOp eqF (fVar 1) (fC (.int 0)))) (fB (fOp eqF (fCall F_take (fPCons (fOw 0) (fPCons (fD (fC (.int 3))) fPNil))) (fC (.int 0)))) [.par bs, .dat (.int ((d + 1 : Nat) : Int)), .dat (.list (cs.map PyData.str)), .un, .un] = some (true, [.par b1, .dat (.int ((d + 1 : Nat) : Int)), .dat (.list (cs.map PyData.str)), .un, .un]) := by
        simp [sh_int, eqv_ii, nd, e1]
      rw [t, bnd_mk, if_pos rfl, e]
      simp
    · obtain ⟨g, b2, e2, m2, h2⟩ := of_ok' (k := k + 2 * takesV d) (gs := [.str t_sum, .str t_gap, .str t_times]) (h1.less (by omega)) (by simp) (by simp) (by omega)
      obtain ⟨x, b3, e3, x1, h3⟩ := value_ok hs hl d f (k + takesV d) b2 (by omega) (h2.less (by omega)) (by omega)
      obtain ⟨y, b4, e4, y1, h4⟩ := value_ok hs hl d f k b3 (by omega) h3 hk
      obtain ⟨w, ew, hw⟩ : ∃ w, g = .str w ∧ (w = t_sum ∨ w = t_gap ∨ w = t_times) := by
        simp only [List.mem_cons, List.not_mem_nil, or_false] at m2
        rcases m2 with m | m | m
        · exact ⟨_, m, .inl rfl⟩
        · exact ⟨_, m, .inr (.inl rfl)⟩
        · exact ⟨_, m, .inr (.inr rfl)⟩
      subst ew
      refine ⟨.op w x y, b4, ?_, ⟨hw, x1, y1⟩, h4⟩
      show fnF 3 5 (B_value F_take F_of (R_value f)) _ = _
      generalize R_value f = F at e3 e4
      have es : ((d : Int) + 1 - 1) = d := by omega
      simp [fnF, B_value, sh_int, eqv_ii, nd, e1, e2, z, es, e3, e4, Val.toD]
end LB

namespace LB
open PySem DL L2
/-! ## drawn tests -/
def t_not : Str := ⟨#[110, 111, 116]⟩
def t_and : Str := ⟨#[97, 110, 100]⟩
def t_or : Str := ⟨#[111, 114]⟩
def t_empty : Str := ⟨#[101, 109, 112, 116, 121]⟩
def t_full : Str := ⟨#[102, 117, 108, 108]⟩
def t_stands : Str := ⟨#[115, 116, 97, 110, 100, 115]⟩
def t_same : Str := ⟨#[115, 97, 109, 101]⟩
def t_less : Str := ⟨#[108, 101, 115, 115]⟩
inductive Tst where
  | neg (t : Tst)
  | bin (w : Str) (t u : Tst)
  | look (w q : Str)
  | stand (p l : Str)
  | cmp (w : Str) (x y : Val)
def Tst.toD : Tst → PyData
  | .neg t => .tuple [.str t_not, t.toD]
  | .bin w t u => .tuple [.str w, t.toD, u.toD]
  | .look w q => .tuple [.str w, .str q]
  | .stand p l => .tuple [.str t_stands, .str p, .str l]
  | .cmp w x y => .tuple [.str w, x.toD, y.toD]
def Tst.In (cs ls : List Str) (ms : List (Str × Str)) : Nat → Tst → Prop
  | 0, .neg _ => False
  | 0, .bin _ _ _ => False
  | n + 1, .neg t => t.In cs ls ms n
  | n + 1, .bin w t u => (w = t_and ∨ w = t_or) ∧ t.In cs ls ms n ∧ u.In cs ls ms n
  | _, .look w q => (w = t_empty ∨ w = t_full) ∧ q ∈ ls
  | _, .stand p l => (p, l) ∈ ms
  | _, .cmp w x y => (w = t_same ∨ w = t_less) ∧ x.In cs 1 ∧ y.In cs 1
def markD (m : Str × Str) : PyData := .tuple [.str m.1, .str m.2]
def B_test (F__law_take : Fn) (F__law_test : Fn) (F__law_of : Fn) (F__law_value : Fn) : FS :=
  (fSeq (fAsg 5 (fIf (fB (fOp gtF (fVar 1) (fC (.int 0)))) (fCall F__law_take (fPCons (fOw 0) (fPCons (fD (fC (.int 6))) fPNil))) (fOp addF (fC (.int 3)) (fCall F__law_take (fPCons (fOw 0) (fPCons (fD (fC (.int 3))) fPNil)))))) (fSeq (fIfS (fB (fOp eqF (fVar 5) (fC (.int 0)))) (fRet (fTup (fCons (fC (.str t_not)) (fCons (fCall F__law_test (fPCons (fOw 0) (fPCons (fD (fOp subF (fVar 1) (fC (.int 1)))) (fPCons (fD (fVar 2)) (fPCons (fD (fVar 3)) (fPCons (fD (fVar 4)) fPNil)))))) fNil)))) fNext) (fSeq (fIfS (fB (fOp ltF (fVar 5) (fC (.int 3)))) (fSeq (fAsg 6 (fCall F__law_test (fPCons (fOw 0) (fPCons (fD (fOp subF (fVar 1) (fC (.int 1)))) (fPCons (fD (fVar 2)) (fPCons (fD (fVar 3)) (fPCons (fD (fVar 4)) fPNil))))))) (fRet (fTup (fCons (fOp ixF (fL (fLst (fCons (fC (.str t_and)) (fCons (fC (.str t_or)) fNil)))) (fOp subF (fVar 5) (fC (.int 1)))) (fCons (fVar 6) (fCons (fCall F__law_test (fPCons (fOw 0) (fPCons (fD (fOp subF (fVar 1) (fC (.int 1)))) (fPCons (fD (fVar 2)) (fPCons (fD (fVar 3)) (fPCons (fD (fVar 4)) fPNil)))))) fNil)))))) fNext) (fSeq (fIfS (fAnd (fB (fOp eqF (fVar 5) (fC (.int 3)))) (fB (fOp neF (fVar 3) (fL (fLst fNil))))) (fRet (fTup (fCons (fCall F__law_of (fPCons (fOw 0) (fPCons (fD (fL (fLst (fCons (fC (.str t_empty)) (fCons (fC (.str t_full)) fNil))))) fPNil))) (fCons (fCall F__law_of (fPCons (fOw 0) (fPCons (fD (fVar 3)) fPNil))) fNil)))) fNext) (fSeq (fIfS (fAnd (fB (fOp eqF (fVar 5) (fC (.int 4)))) (fB (fOp neF (fVar 4) (fL (fLst fNil))))) (fRet (fOp addF (fTup (fCons (fC (.str t_stands)) fNil)) (fCall F__law_of (fPCons (fOw 0) (fPCons (fD (fVar 4)) fPNil))))) fNext) (fSeq (fPar 7 6 (fCall F__law_of (fPCons (fOw 0) (fPCons (fD (fL (fLst (fCons (fC (.str t_same)) (fCons (fC (.str t_less)) fNil))))) fPNil))) (fCall F__law_value (fPCons (fOw 0) (fPCons (fD (fC (.int 1))) (fPCons (fD (fVar 2)) fPNil))))) (fRet (fTup (fCons (fVar 7) (fCons (fVar 6) (fCons (fCall F__law_value (fPCons (fOw 0) (fPCons (fD (fC (.int 1))) (fPCons (fD (fVar 2)) fPNil)))) fNil)))))))))))
def R_test (F_value : Fn) : Nat → Fn
  | 0 => fun _ => none
  | d + 1 => fnF 5 8 (B_test F_take (R_test F_value d) F_of F_value)
/-- so many draws at most -/
def takesT : Nat → Int
  | 0 => 14
  | d + 1 => 14 + 2 * takesT d
theorem takesT_pos : ∀ d, 14 ≤ takesT d
  | 0 => by simp [takesT]
  | d + 1 => by have := takesT_pos d; simp only [takesT]; omega
theorem two_of {k : Int} {bs : List PyData} {a b : Str} (h : BoxOk (k + 1) bs) (hk : 0 ≤ k) : ∃ (w : Str) (bs' : List PyData), F_of [.par bs, .dat (.list [.str a, .str b])] = some (.ok (.dat (.str w)) [.par bs', .dat (.list [.str a, .str b])]) ∧ (w = a ∨ w = b) ∧ BoxOk k bs' := by
  obtain ⟨g, b2, e2, m2, h2⟩ := of_ok' (k := k) (gs := [.str a, .str b]) h (by simp) (by simp) hk
  simp only [List.mem_cons, List.not_mem_nil, or_false] at m2
  rcases m2 with m | m
  · exact ⟨a, b2, by rw [e2, m], .inl rfl, h2⟩
  · exact ⟨b, b2, by rw [e2, m], .inr rfl, h2⟩
section
variable {cs ls : List Str} {ms : List (Str × Str)} {F_value : Fn}
/-- what the drawing of values promises -/
def ValueOk (F_value : Fn) (cs : List Str) : Prop := ∀ (k : Int) (bs : List PyData), BoxOk (k + 6) bs → 0 ≤ k → ∃ (v : Val) (bs' : List PyData), F_value [.par bs, .dat (.int 1), .dat (.list (cs.map PyData.str))] = some (.ok (.dat v.toD) [.par bs', .dat (.int 1), .dat (.list (cs.map PyData.str))]) ∧ v.In cs 1 ∧ BoxOk k bs'
/-- the tail of a drawn test: what is asked least -/
theorem test_leaf (hv : ValueOk F_value cs) (hs2 : SeqAt.shaped (.list (ls.map PyData.str)) = true) (hs3 : SeqAt.shaped (.list (ms.map markD)) = true) (h2 : ls.length < 1000) (h3 : ms.length < 1000) {k n : Int} {bs : List PyData} {x y : PyData} (h : BoxOk (k + 13) bs) (hk : 0 ≤ k) (hn : 3 ≤ n) :
    ∃ (t : Tst) (bs' : List PyData) (s6 s7 : Sl), (∀ i, t.In cs ls ms i) ∧ BoxOk k bs' ∧ (fSeq (fIfS (fAnd (fB (fOp eqF (fVar 5) (fC (.int 3)))) (fB (fOp neF (fVar 3) (fL (fLst fNil))))) (fRet (fTup (fCons (fCall F_of (fPCons (fOw 0) (fPCons (fD (fL (fLst (fCons (fC (.str t_empty)) (fCons (fC (.str t_full)) fNil))))) fPNil))) (fCons (fCall F_of (fPCons (fOw 0) (fPCons (fD (fVar 3)) fPNil))) fNil)))) fNext) (fSeq (fIfS (fAnd (fB (fOp eqF (fVar 5) (fC (.int 4)))) (fB (fOp neF (fVar 4) (fL (fLst fNil))))) (fRet (fOp addF (fTup (fCons (fC (.str t_stands)) fNil)) (fCall F_of (fPCons (fOw 0) (fPCons (fD (fVar 4)) fPNil))))) fNext) (fSeq (fPar 7 6 (fCall F_of (fPCons (fOw 0) (fPCons (fD (fL (fLst (fCons (fC (.str t_same)) (fCons (fC (.str t_less)) fNil))))) fPNil))) (fCall F_value (fPCons (fOw 0) (fPCons (fD (fC (.int 1))) (fPCons (fD (fVar 2)) fPNil))))) (fRet (fTup (fCons (fVar 7) (fCons (fVar 6) (fCons (fCall F_value (fPCons (fOw 0) (fPCons (fD (fC (.int 1))) (fPCons (fD (fVar 2)) fPNil)))) fNil))))))))
      [.par bs, .dat x, .dat (.list (cs.map PyData.str)), .dat (.list (ls.map PyData.str)), .dat (.list (ms.map markD)), .dat (.int n), .un, .un] = some (.rt (.dat t.toD) [.par bs', .dat x, .dat (.list (cs.map PyData.str)), .dat (.list (ls.map PyData.str)), .dat (.list (ms.map markD)), .dat (.int n), s6, s7]) := by
  have cmp : ∃ (w : Str) (u v : Val) (b1 b2 b3 : List PyData), F_of [.par bs, .dat (.list [.str t_same, .str t_less])] = some (.ok (.dat (.str w)) [.par b1, .dat (.list [.str t_same, .str t_less])]) ∧ (w = t_same ∨ w = t_less) ∧ F_value [.par b1, .dat (.int 1), .dat (.list (cs.map PyData.str))] = some (.ok (.dat u.toD) [.par b2, .dat (.int 1), .dat (.list (cs.map PyData.str))]) ∧ F_value [.par b2, .dat (.int 1), .dat (.list (cs.map PyData.str))] = some (.ok (.dat v.toD) [.par b3, .dat (.int 1), .dat (.list (cs.map PyData.str))]) ∧ u.In cs 1 ∧ v.In cs 1 ∧ BoxOk k b3 := by
    obtain ⟨w, b1, e1, hw, g1⟩ := two_of (k := k + 12) (a := t_same) (b := t_less) (h.less (by omega)) (by omega)
    obtain ⟨u, b2, e2, hu, g2⟩ := hv (k + 6) b1 (g1.less (by omega)) (by omega)
    obtain ⟨v, b3, e3, hv', g3⟩ := hv k b2 g2 hk
    exact ⟨w, u, v, b1, b2, b3, e1, hw, e2, e3, hu, hv', g3⟩
  obtain ⟨w, u, v, c1, c2, c3, f1, hw, f2, f3, hu, hv', g3⟩ := cmp
  have inC : ∀ i, (Tst.cmp w u v).In cs ls ms i := fun i => by cases i <;> exact ⟨hw, hu, hv'⟩
  by_cases n3 : n = 3
  · subst n3
    by_cases e : ls = []
    · subst e
      refine ⟨.cmp w u v, c3, .dat u.toD, .dat (.str w), inC, g3, ?_⟩
      simp [sh_int, eqv_ii, sh_nil, eqv_nil, f1, f2, f3, Tst.toD]
    · have ne : (ls.map PyData.str).isEmpty = false := by cases ls with
        | nil => exact absurd rfl e
        | cons _ _ => rfl
      obtain ⟨w2, b1, e1, hw2, k1⟩ := two_of (k := k + 1) (a := t_empty) (b := t_full) (h.less (by omega)) (by omega)
      obtain ⟨g, b2, e2, m2, k2⟩ := of_ok' (k := k) (gs := ls.map PyData.str) k1 (by cases ls with
        | nil => exact absurd rfl e
        | cons _ _ => simp) (by simp; omega) hk
      obtain ⟨q, mq, rfl⟩ := List.mem_map.mp m2
      refine ⟨.look w2 q, b2, .un, .un, fun i => by cases i <;> exact ⟨hw2, mq⟩, k2, ?_⟩
      simp [sh_int, eqv_ii, sh_nil, hs2, eqv_nil, ne, e1, e2, Tst.toD]
  · by_cases c4 : n = 4 ∧ ms ≠ []
    · obtain ⟨n4, e⟩ := c4
      subst n4
      have ne : (ms.map markD).isEmpty = false := by cases ms with
        | nil => exact absurd rfl e
        | cons _ _ => rfl
      obtain ⟨g, b2, e2, m2, k2⟩ := of_ok' (k := k) (gs := ms.map markD) (h.less (by omega)) (by cases ms with
        | nil => exact absurd rfl e
        | cons _ _ => simp) (by simp; omega) hk
      obtain ⟨⟨p, l⟩, mq, rfl⟩ := List.mem_map.mp m2
      refine ⟨.stand p l, b2, .un, .un, fun i => by cases i <;> exact mq, k2, ?_⟩
      simp [sh_int, eqv_ii, sh_nil, hs3, eqv_nil, ne, e2, Tst.toD, markD]
    · refine ⟨.cmp w u v, c3, .dat u.toD, .dat (.str w), inC, g3, ?_⟩
      by_cases n4 : n = 4
      · have e : ms = [] := Classical.byContradiction fun z => c4 ⟨n4, z⟩
        subst e n4
        simp [sh_int, eqv_ii, sh_nil, eqv_nil, f1, f2, f3, Tst.toD]
      · simp [sh_int, eqv_ii, sh_nil, eqv_nil, n3, n4, f1, f2, f3, Tst.toD]
theorem test_ok (hv : ValueOk F_value cs) (hs2 : SeqAt.shaped (.list (ls.map PyData.str)) = true) (hs3 : SeqAt.shaped (.list (ms.map markD)) = true) (h2 : ls.length < 1000) (h3 : ms.length < 1000) : ∀ (d fuel : Nat) (k : Int) (bs : List PyData), d < fuel → BoxOk (k + takesT d) bs → 0 ≤ k →
    ∃ (t : Tst) (bs' : List PyData), R_test F_value fuel [.par bs, .dat (.int d), .dat (.list (cs.map PyData.str)), .dat (.list (ls.map PyData.str)), .dat (.list (ms.map markD))] = some (.ok (.dat t.toD) [.par bs', .dat (.int d), .dat (.list (cs.map PyData.str)), .dat (.list (ls.map PyData.str)), .dat (.list (ms.map markD))]) ∧ t.In cs ls ms d ∧ BoxOk k bs'
  | 0, 0, _, _, hf, _, _ => by omega
  | d + 1, 0, _, _, hf, _, _ => by omega
  | 0, f + 1, k, bs, _, h, hk => by
    obtain ⟨n, b1, e1, n1, n2, g1⟩ := take_ok (k := k + 13) (n := 3) (h.less (by simp only [takesT]; omega)) (by omega) (by omega) (by omega)
    obtain ⟨t, b2, s6, s7, ht, g2, e⟩ := test_leaf (x := .int (0 : Nat)) (y := .none) hv hs2 hs3 h2 h3 g1 hk (show 3 ≤ 3 + n by omega)
    refine ⟨t, b2, ?_, ht 0, g2⟩
    unfold R_test B_test
    have z1 : ¬ ((3 : Int) + n = 0) := by omega
    have z2 : ¬ ((3 : Int) + n < 3) := by omega
    simp only [fnF, List.length_cons, List.length_nil, Nat.zero_add, Nat.reduceAdd, Nat.reduceBEq, chk_true, List.cons_append, List.nil_append, Nat.reduceSub, List.replicate_succ, List.replicate_zero]
    rw [fSeq]
    have s1 : fAsg 5 (fIf (fB (fOp gtF (fVar 1) (fC (.int 0)))) (fCall F_take (fPCons (fOw 0) (fPCons (fD (fC (.int 6))) fPNil))) (fOp addF (fC (.int 3)) (fCall F_take (fPCons (fOw 0) (fPCons (fD (fC (.int 3))) fPNil))))) [.par bs, .dat (.int (0 : Nat)), .dat (.list (cs.map PyData.str)), .dat (.list (ls.map PyData.str)), .dat (.list (ms.map markD)), .un, .un, .un] = some (.nx [.par b1, .dat (.int (0 : Nat)), .dat (.list (cs.map PyData.str)), .dat (.list (ls.map PyData.str)), .dat (.list (ms.map markD)), .dat (.int (3 + n)), .un, .un]) := by
      simp [e1]
    rw [s1, thenF_nx, fSeq]
    rw [show fIfS (fB (fOp eqF (fVar 5) (fC (.int 0)))) (fRet (fTup (fCons (fC (.str t_not)) (fCons (fCall (R_test F_value f) (fPCons (fOw 0) (fPCons (fD (fOp subF (fVar 1) (fC (.int 1)))) (fPCons (fD (fVar 2)) (fPCons (fD (fVar 3)) (fPCons (fD (fVar 4)) fPNil)))))) fNil)))) fNext [.par b1, .dat (.int (0 : Nat)), .dat (.list (cs.map PyData.str)), .dat (.list (ls.map PyData.str)), .dat (.list (ms.map markD)), .dat (.int (3 + n)), .un, .un] = some (.nx [.par b1, .dat (.int (0 : Nat)), .dat (.list (cs.map PyData.str)), .dat (.list (ls.map PyData.str)), .dat (.list (ms.map markD)), .dat (.int (3 + n)), .un, .un]) by simp [sh_int, eqv_ii, z1]]
    rw [thenF_nx, fSeq, fIfS]
    rw [show fB (fOp ltF (fVar 5) (fC (.int 3))) [.par b1, .dat (.int (0 : Nat)), .dat (.list (cs.map PyData.str)), .dat (.list (ls.map PyData.str)), .dat (.list (ms.map markD)), .dat (.int (3 + n)), .un, .un] = some (false, [.par b1, .dat (.int (0 : Nat)), .dat (.list (cs.map PyData.str)), .dat (.list (ls.map PyData.str)), .dat (.list (ms.map markD)), .dat (.int (3 + n)), .un, .un]) by simp [z2]]
    rw [bnd_mk, if_neg (by decide), fNext, thenF_nx, e]
    simp
  | d + 1, f + 1, k, bs, hf, h, hk => by
    have tp := takesT_pos d
    have tt : takesT (d + 1) = 14 + 2 * takesT d := rfl
    obtain ⟨n, b1, e1, n1, n2, g1⟩ := take_ok (k := k + 13 + 2 * takesT d) (n := 6) (h.less (by omega)) (by omega) (by omega) (by omega)
    have dp : (0 : Int) < (d : Int) + 1 := by omega
    have es : ((d : Int) + 1 - 1) = d := by omega
    by_cases c0 : n = 0
    · subst c0
      obtain ⟨t, b2, e2, ht, g2⟩ := test_ok hv hs2 hs3 h2 h3 d f k b1 (by omega) (g1.less (by omega)) hk
      refine ⟨.neg t, b2, ?_, ht, g2⟩
      show fnF 5 8 (B_test F_take (R_test F_value f) F_of F_value) _ = _
      generalize R_test F_value f = F at e2
      simp [fnF, B_test, dp, e1, sh_int, eqv_ii, es, e2, Tst.toD]
    · by_cases c3 : n < 3
      · obtain ⟨t, b2, e2, ht, g2⟩ := test_ok hv hs2 hs3 h2 h3 d f (k + takesT d) b1 (by omega) (g1.less (by omega)) (by omega)
        obtain ⟨u, b3, e3, hu, g3⟩ := test_ok hv hs2 hs3 h2 h3 d f k b2 (by omega) g2 hk
        rcases (show n = 1 ∨ n = 2 by omega) with c | c
        · subst c
          refine ⟨.bin t_and t u, b3, ?_, ⟨.inl rfl, ht, hu⟩, g3⟩
          show fnF 5 8 (B_test F_take (R_test F_value f) F_of F_value) _ = _
          generalize R_test F_value f = F at e2 e3
          have a0 : atI [PyData.str t_and, PyData.str t_or] 0 = some (.str t_and) := rfl
          simp [fnF, B_test, dp, e1, sh_int, eqv_ii, es, e2, e3, a0, Tst.toD]
        · subst c
          refine ⟨.bin t_or t u, b3, ?_, ⟨.inr rfl, ht, hu⟩, g3⟩
          show fnF 5 8 (B_test F_take (R_test F_value f) F_of F_value) _ = _
          generalize R_test F_value f = F at e2 e3
          have a0 : atI [PyData.str t_and, PyData.str t_or] 1 = some (.str t_or) := rfl
          simp [fnF, B_test, dp, e1, sh_int, eqv_ii, es, e2, e3, a0, Tst.toD]
      · obtain ⟨t, b2, s6, s7, ht, g2, e⟩ := test_leaf (x := .int ((d + 1 : Nat) : Int)) (y := .none) hv hs2 hs3 h2 h3 (g1.less (k' := k + 13) (by omega)) hk (show 3 ≤ n by omega)
        refine ⟨t, b2, ?_, ht _, g2⟩
        unfold R_test B_test
        simp only [fnF, List.length_cons, List.length_nil, Nat.zero_add, Nat.reduceAdd, Nat.reduceBEq, chk_true, List.cons_append, List.nil_append, Nat.reduceSub, List.replicate_succ, List.replicate_zero]
        rw [fSeq]
        have s1 : fAsg 5 (fIf (fB (fOp gtF (fVar 1) (fC (.int 0)))) (fCall F_take (fPCons (fOw 0) (fPCons (fD (fC (.int 6))) fPNil))) (fOp addF (fC (.int 3)) (fCall F_take (fPCons (fOw 0) (fPCons (fD (fC (.int 3))) fPNil))))) [.par bs, .dat (.int ((d + 1 : Nat) : Int)), .dat (.list (cs.map PyData.str)), .dat (.list (ls.map PyData.str)), .dat (.list (ms.map markD)), .un, .un, .un] = some (.nx [.par b1, .dat (.int ((d + 1 : Nat) : Int)), .dat (.list (cs.map PyData.str)), .dat (.list (ls.map PyData.str)), .dat (.list (ms.map markD)), .dat (.int n), .un, .un]) := by
          simp [e1, dp]
        rw [s1, thenF_nx, fSeq]
        rw [show fIfS (fB (fOp eqF (fVar 5) (fC (.int 0)))) (fRet (fTup (fCons (fC (.str t_not)) (fCons (fCall (R_test F_value f) (fPCons (fOw 0) (fPCons (fD (fOp subF (fVar 1) (fC (.int 1)))) (fPCons (fD (fVar 2)) (fPCons (fD (fVar 3)) (fPCons (fD (fVar 4)) fPNil)))))) fNil)))) fNext [.par b1, .dat (.int ((d + 1 : Nat) : Int)), .dat (.list (cs.map PyData.str)), .dat (.list (ls.map PyData.str)), .dat (.list (ms.map markD)), .dat (.int n), .un, .un] = some (.nx [.par b1, .dat (.int ((d + 1 : Nat) : Int)), .dat (.list (cs.map PyData.str)), .dat (.list (ls.map PyData.str)), .dat (.list (ms.map markD)), .dat (.int n), .un, .un]) by simp [sh_int, eqv_ii, c0]]
        rw [thenF_nx, fSeq, fIfS]
        rw [show fB (fOp ltF (fVar 5) (fC (.int 3))) [.par b1, .dat (.int ((d + 1 : Nat) : Int)), .dat (.list (cs.map PyData.str)), .dat (.list (ls.map PyData.str)), .dat (.list (ms.map markD)), .dat (.int n), .un, .un] = some (false, [.par b1, .dat (.int ((d + 1 : Nat) : Int)), .dat (.list (cs.map PyData.str)), .dat (.list (ls.map PyData.str)), .dat (.list (ms.map markD)), .dat (.int n), .un, .un]) by simp [c3]]
        rw [bnd_mk, if_neg (by decide), fNext, thenF_nx, e]
        simp
end
end LB

namespace LB
open PySem DL L2
/-! ## values and tests as trees -/
inductive BT where
  | v (x : Val)
  | t (x : Tst)
def BT.toD : BT → PyData
  | .v x => x.toD
  | .t x => x.toD
def BT.kids : BT → List BT
  | .v (.op _ x y) => [.v x, .v y]
  | .v _ => []
  | .t (.neg x) => [.t x]
  | .t (.bin _ x y) => [.t x, .t y]
  | .t (.look _ _) => []
  | .t (.stand _ _) => []
  | .t (.cmp _ x y) => [.v x, .v y]
@[simp] def Val.nodes : Val → List PyData
  | .cell c => [Val.toD (.cell c)]
  | .num i => [Val.toD (.num i)]
  | .op w x y => Val.toD (.op w x y) :: (x.nodes ++ y.nodes)
@[simp] def Tst.nodes : Tst → List PyData
  | .neg t => Tst.toD (.neg t) :: t.nodes
  | .bin w t u => Tst.toD (.bin w t u) :: (t.nodes ++ u.nodes)
  | .look w q => [Tst.toD (.look w q)]
  | .stand p l => [Tst.toD (.stand p l)]
  | .cmp w x y => Tst.toD (.cmp w x y) :: (x.nodes ++ y.nodes)
def BT.nodes : BT → List PyData
  | .v x => x.nodes
  | .t x => x.nodes
theorem nodes_kids (b : BT) : b.nodes = b.toD :: b.kids.flatMap BT.nodes := by
  cases b with
  | v x => cases x <;> simp [BT.toD, BT.kids, BT.nodes]
  | t x => cases x <;> simp [BT.toD, BT.kids, BT.nodes]
theorem nodes_pos (b : BT) : 1 ≤ b.nodes.length := by rw [nodes_kids]; simp
/-- the items behind the first -/
def restD : PyData → List PyData
  | .tuple (_ :: xs) => xs
  | _ => []
def tupB : PyData → Bool
  | .tuple _ => true
  | _ => false
theorem isTy_tup (d : PyData) : isTyF d .tuple = tupB d := by cases d <;> rfl
@[simp] theorem tupB_str (s : Str) : tupB (.str s) = false := rfl
@[simp] theorem tupB_int (s : Int) : tupB (.int s) = false := rfl
theorem tup_val (x : Val) : tupB x.toD = true := by cases x <;> rfl
theorem tup_tst (x : Tst) : tupB x.toD = true := by cases x <;> rfl
theorem kids_rest (b : BT) : (restD b.toD).filter tupB = b.kids.map BT.toD := by
  cases b with
  | v x => cases x <;> simp [restD, Val.toD, List.filter_cons, tup_val, BT.toD, BT.kids]
  | t x => cases x <;> simp [restD, Tst.toD, List.filter_cons, tup_val, tup_tst, BT.toD, BT.kids]
theorem shal_rest_aux {n : Nat} {ds : List PyData} {x : PyData} (h1 : PyData.canLayAll0 ds = true) (h2 : PyData.depthAll ds ≤ n) (m : x ∈ ds) : x.canLay0 = true ∧ x.depth ≤ n := by
  induction ds with
  | nil => cases m
  | cons d ds ih =>
    simp only [PyData.canLayAll0, PyData.depthAll, Bool.and_eq_true] at h1 h2
    rcases List.mem_cons.mp m with e | m
    · rw [e]; exact ⟨h1.1, by omega⟩
    · exact ih h1.2 (by omega) m
theorem slice_rest (b : BT) : slF b.toD (some 1) none = some (.tuple (restD b.toD)) := by
  cases b with
  | v x => cases x <;> rfl
  | t x => cases x <;> rfl
theorem kids_len (b : BT) : (restD b.toD).length ≤ 2 := by
  cases b with
  | v x => cases x <;> simp [restD, Val.toD, BT.toD]
  | t x => cases x <;> simp [restD, Tst.toD, BT.toD]
/-! ## laid out: what may be compared -/
/-- to be laid, at most so deep -/
def Shal (n : Nat) (d : PyData) : Prop := d.canLay0 = true ∧ d.depth ≤ n
theorem shal_all {n : Nat} : ∀ {ds : List PyData}, (∀ d ∈ ds, Shal n d) → PyData.canLayAll0 ds = true ∧ PyData.depthAll ds ≤ n
  | [], _ => by simp [PyData.canLayAll0, PyData.depthAll]
  | d :: ds, h => by
    have h1 := h d (by simp)
    have h2 := shal_all fun e m => h e (List.mem_cons_of_mem _ m)
    simp only [PyData.canLayAll0, PyData.depthAll, Bool.and_eq_true]
    exact ⟨⟨h1.1, h2.1⟩, Nat.max_le.mpr ⟨h1.2, h2.2⟩⟩
theorem Shal.list {n : Nat} {ds : List PyData} (h : ∀ d ∈ ds, Shal n d) : Shal (n + 1) (.list ds) := by
  have := shal_all h
  exact ⟨by simp only [PyData.canLay0]; exact this.1, by simp only [PyData.depth]; omega⟩
theorem Shal.tuple {n : Nat} {ds : List PyData} (h : ∀ d ∈ ds, Shal n d) : Shal (n + 1) (.tuple ds) := by
  have := shal_all h
  exact ⟨by simp only [PyData.canLay0]; exact this.1, by simp only [PyData.depth]; omega⟩
theorem Shal.mono {n m : Nat} {d : PyData} (h : Shal n d) (hm : n ≤ m) : Shal m d := ⟨h.1, Nat.le_trans h.2 hm⟩
theorem Shal.sh {n : Nat} {d : PyData} (h : Shal n d) (hn : n ≤ 64) : SeqAt.shaped d = true := by
  unfold SeqAt.shaped
  rw [Bool.and_eq_true, decide_eq_true_eq]
  exact ⟨h.1, Nat.le_trans h.2 hn⟩
theorem shal_rest {n : Nat} {d x : PyData} (h : Shal n d) (m : x ∈ restD d) : Shal n x := by
  cases d with
  | tuple xs =>
    cases xs with
    | nil => cases m
    | cons y ys =>
      have m : x ∈ y :: ys := List.mem_cons_of_mem _ m
      obtain ⟨h1, h2⟩ := h
      simp only [PyData.canLay0] at h1
      simp only [PyData.depth] at h2
      have := shal_rest_aux h1 (n := n) (by omega) m
      exact this
  | _ => cases m
theorem shal_str {s : Str} (h : SeqAt.shaped (.str s) = true) (n : Nat) : Shal n (.str s) := by
  unfold SeqAt.shaped at h
  rw [Bool.and_eq_true] at h
  exact ⟨h.1, by simp [PyData.depth]⟩
theorem shal_int (i : Int) (n : Nat) : Shal n (.int i) := ⟨by simp [PyData.canLay0], by simp [PyData.depth]⟩
theorem lit_ok : ∀ w ∈ [t_cell, t_number, t_sum, t_gap, t_times, t_not, t_and, t_or, t_empty, t_full, t_stands, t_same, t_less], SeqAt.shaped (.str w) = true := by decide +kernel
section
variable {cs ls : List Str} {ms : List (Str × Str)}
theorem Val.shal (hc : ∀ c ∈ cs, SeqAt.shaped (.str c) = true) : ∀ {x : Val} {d : Nat}, x.In cs d → Shal (d + 1) x.toD
  | .cell c, d, h => by
    have h : c ∈ cs := by cases d <;> exact h
    refine Shal.tuple fun e m => ?_
    simp only [List.mem_cons, List.not_mem_nil, or_false] at m
    rcases m with rfl | rfl
    · exact shal_str (lit_ok _ (by simp)) _
    · exact shal_str (hc _ h) _
  | .num i, d, _ => by
    refine Shal.tuple fun e m => ?_
    simp only [List.mem_cons, List.not_mem_nil, or_false] at m
    rcases m with rfl | rfl
    · exact shal_str (lit_ok _ (by simp)) _
    · exact shal_int _ _
  | .op w x y, 0, h => h.elim
  | .op w x y, d + 1, h => by
    obtain ⟨hw, hx, hy⟩ := h
    refine Shal.tuple fun e m => ?_
    simp only [List.mem_cons, List.not_mem_nil, or_false] at m
    rcases m with rfl | rfl | rfl
    · exact shal_str (lit_ok _ (by rcases hw with rfl | rfl | rfl <;> simp)) _
    · exact Val.shal hc hx
    · exact Val.shal hc hy
theorem Tst.shal (hc : ∀ c ∈ cs, SeqAt.shaped (.str c) = true) (hq : ∀ c ∈ ls, SeqAt.shaped (.str c) = true) (hm : ∀ m ∈ ms, SeqAt.shaped (.str m.1) = true ∧ SeqAt.shaped (.str m.2) = true) : ∀ {x : Tst} {d : Nat}, x.In cs ls ms d → Shal (d + 3) x.toD
  | .neg x, 0, h => h.elim
  | .bin w x y, 0, h => h.elim
  | .neg x, d + 1, h => by
    refine Shal.tuple (n := d + 3) fun e m => ?_
    simp only [List.mem_cons, List.not_mem_nil, or_false] at m
    rcases m with rfl | rfl
    · exact shal_str (lit_ok _ (by simp)) _
    · exact Tst.shal hc hq hm (d := d) h
  | .bin w x y, d + 1, h => by
    obtain ⟨hw, hx, hy⟩ := h
    refine Shal.tuple (n := d + 3) fun e m => ?_
    simp only [List.mem_cons, List.not_mem_nil, or_false] at m
    rcases m with rfl | rfl | rfl
    · exact shal_str (lit_ok _ (by rcases hw with rfl | rfl <;> simp)) _
    · exact Tst.shal hc hq hm hx
    · exact Tst.shal hc hq hm hy
  | .look w q, d, h => by
    have h : (w = t_empty ∨ w = t_full) ∧ q ∈ ls := by cases d <;> exact h
    refine Shal.tuple (n := d + 2) fun e m => ?_
    simp only [List.mem_cons, List.not_mem_nil, or_false] at m
    rcases m with rfl | rfl
    · exact shal_str (lit_ok _ (by rcases h.1 with rfl | rfl <;> simp)) _
    · exact shal_str (hq _ h.2) _
  | .stand p l, d, h => by
    have h : (p, l) ∈ ms := by cases d <;> exact h
    refine Shal.tuple (n := d + 2) fun e m => ?_
    simp only [List.mem_cons, List.not_mem_nil, or_false] at m
    rcases m with rfl | rfl | rfl
    · exact shal_str (lit_ok _ (by simp)) _
    · exact shal_str (hm _ h).1 _
    · exact shal_str (hm _ h).2 _
  | .cmp w x y, d, h => by
    have h : (w = t_same ∨ w = t_less) ∧ x.In cs 1 ∧ y.In cs 1 := by cases d <;> exact h
    obtain ⟨hw, hx, hy⟩ := h
    refine Shal.tuple (n := d + 2) fun e m => ?_
    simp only [List.mem_cons, List.not_mem_nil, or_false] at m
    rcases m with rfl | rfl | rfl
    · exact shal_str (lit_ok _ (by rcases hw with rfl | rfl <;> simp)) _
    · exact (Val.shal hc hx).mono (by omega)
    · exact (Val.shal hc hy).mono (by omega)
/-- how many there are -/
theorem Val.many : ∀ {x : Val} {d : Nat}, x.In cs d → x.nodes.length + 1 ≤ 2 ^ (d + 1)
  | .cell c, d, _ => by
    have : 2 ^ 1 ≤ 2 ^ (d + 1) := Nat.pow_le_pow_right (by omega) (by omega)
    simpa using this
  | .num c, d, _ => by
    have : 2 ^ 1 ≤ 2 ^ (d + 1) := Nat.pow_le_pow_right (by omega) (by omega)
    simpa using this
  | .op w x y, 0, h => h.elim
  | .op w x y, d + 1, h => by
    have h1 := Val.many h.2.1
    have h2 := Val.many h.2.2
    have : 2 ^ (d + 1 + 1) = 2 ^ (d + 1) + 2 ^ (d + 1) := by rw [Nat.pow_succ 2 (d + 1)]; omega
    simp only [Val.nodes, List.length_cons, List.length_append]
    omega
theorem Tst.many : ∀ {x : Tst} {d : Nat}, x.In cs ls ms d → x.nodes.length + 1 ≤ 2 ^ (d + 3)
  | .neg x, 0, h => h.elim
  | .bin w x y, 0, h => h.elim
  | .neg x, d + 1, h => by
    have h1 := Tst.many (d := d) (x := x) h
    have : 2 ^ (d + 1 + 3) = 2 ^ (d + 3) + 2 ^ (d + 3) := by rw [show d + 1 + 3 = (d + 3) + 1 by omega, Nat.pow_succ 2 (d + 3)]; omega
    simp only [Tst.nodes, List.length_cons]
    omega
  | .bin w x y, d + 1, h => by
    have h1 := Tst.many h.2.1
    have h2 := Tst.many h.2.2
    have : 2 ^ (d + 1 + 3) = 2 ^ (d + 3) + 2 ^ (d + 3) := by rw [show d + 1 + 3 = (d + 3) + 1 by omega, Nat.pow_succ 2 (d + 3)]; omega
    simp only [Tst.nodes, List.length_cons, List.length_append]
    omega
  | .look w q, d, h => by
    have : 2 ^ 3 ≤ 2 ^ (d + 3) := Nat.pow_le_pow_right (by omega) (by omega)
    simp only [Tst.nodes, List.length_cons, List.length_nil]
    omega
  | .stand w q, d, h => by
    have : 2 ^ 3 ≤ 2 ^ (d + 3) := Nat.pow_le_pow_right (by omega) (by omega)
    simp only [Tst.nodes, List.length_cons, List.length_nil]
    omega
  | .cmp w x y, d, h => by
    have h : (w = t_same ∨ w = t_less) ∧ x.In cs 1 ∧ y.In cs 1 := by cases d <;> exact h
    have : 2 ^ 3 ≤ 2 ^ (d + 3) := Nat.pow_le_pow_right (by omega) (by omega)
    have h1 := Val.many h.2.1
    have h2 := Val.many h.2.2
    simp only [Tst.nodes, List.length_cons, List.length_append]
    omega
end
/-! ## all there is in it -/
def B_bits : FS :=
  (fSeq (fAsgL 1 (fLst fNil)) (fSeq (fFor (fRng1 (fC (.int 60))) (fgName 2) (fTidy [2, 3] (fIfS (fB (fNeO (fOw 0) (fL (fLst fNil)))) (fSeq (fAsg 3 (fPop 0)) (fSeq (fApp 1 (fVar 3)) (fAsgL 0 (fAddO (fOw 0) (fL (fLc (fSeqI (fSl (fVar 3) (fSome (fC (.int 1))) fNone)) (fgName 4) (fB (fIsi .tuple (fVar 4))) (fVar 4) [4])))))) fNext))) (fRetO 1)))
def F_bits : FnGv := fnG 5 B_bits

/-- the new ones ahead: what is a tuple of these -/
theorem kids_lc (xs : List PyData) (a b c d : Sl) (h : xs.length ≤ 1000) :
    lcF (fgName 4) (fB (fIsi .tuple (fVar 4))) (fVar 4) [4] xs [] [a, b, c, d, .un] = some (xs.filter tupB, [a, b, c, d, .un]) := by
  rw [lcF_map id tupB]
  · simp
  · intro e _
    refine ⟨_, [a, b, c, d, .dat e], rfl, ?_, ?_, fun _ => ⟨[a, b, c, d, .dat e], ?_, ?_⟩⟩
    · simp [-isTyF, isTy_tup]
    · simp
    · simp
    · simp
  · simp; omega
theorem bits_step {N : List PyData} {ts : List BT} {b : BT} {found : List PyData} {i : PyData} (hN : N.length ≤ 1000) (hp : (found ++ (ts ++ [b]).flatMap BT.nodes).Perm N) (hs : SeqAt.shaped (.list ((ts ++ [b]).map BT.toD)) = true) :
    fTidy [2, 3] (fIfS (fB (fNeO (fOw 0) (fL (fLst fNil)))) (fSeq (fAsg 3 (fPop 0)) (fSeq (fApp 1 (fVar 3)) (fAsgL 0 (fAddO (fOw 0) (fL (fLc (fSeqI (fSl (fVar 3) (fSome (fC (.int 1))) fNone)) (fgName 4) (fB (fIsi .tuple (fVar 4))) (fVar 4) [4])))))) fNext)
      [.own ((ts ++ [b]).map BT.toD), .own found, .dat i, .un, .un] = some (.nx [.own ((ts ++ b.kids).map BT.toD), .own (found ++ [b.toD]), .un, .un, .un]) := by
  have hl := hp.length_eq
  have nl : ∀ us : List BT, us.length ≤ (us.flatMap BT.nodes).length := fun us => by
    induction us with
    | nil => simp
    | cons u us ih =>
      have := nodes_pos u
      simp only [List.flatMap_cons, List.length_append, List.length_cons]
      omega
  have hts := nl (ts ++ [b])
  simp only [List.length_append] at hl hts
  have e1 : lastD ((ts ++ [b]).map BT.toD) = some b.toD := by unfold lastD; simp
  have e2 : ((ts ++ [b]).map BT.toD).dropLast = ts.map BT.toD := by simp
  have e3 : PyData.eqv (.list ((ts ++ [b]).map BT.toD)) (.list []) = false := by rw [eqv_nil]; simp
  have kl := kids_len b
  have kk : b.kids.length ≤ 2 := by
    have := congrArg List.length (kids_rest b)
    rw [List.length_map] at this
    have h2 := List.length_filter_le tupB (restD b.toD)
    omega
  rw [fTidy]
  have t : fB (fNeO (fOw 0) (fL (fLst fNil))) [.own ((ts ++ [b]).map BT.toD), .own found, .dat i, .un, .un] = some (true, [.own ((ts ++ [b]).map BT.toD), .own found, .dat i, .un, .un]) := by
    simp [hs, sh_nil, e3, Opd.rd, -List.map_append, -List.map_cons]
  have s1 : fAsg 3 (fPop 0) [.own ((ts ++ [b]).map BT.toD), .own found, .dat i, .un, .un] = some (.nx [.own (ts.map BT.toD), .own found, .dat i, .dat b.toD, .un]) := by
    simp [e1, e2, -List.map_append, -List.map_cons, -List.dropLast_concat]
  have s2 : fApp 1 (fVar 3) [.own (ts.map BT.toD), .own found, .dat i, .dat b.toD, .un] = some (.nx [.own (ts.map BT.toD), .own (found ++ [b.toD]), .dat i, .dat b.toD, .un]) := by
    have : found.length ≤ 16777215 := by omega
    simp [this]
  have s3 : fAsgL 0 (fAddO (fOw 0) (fL (fLc (fSeqI (fSl (fVar 3) (fSome (fC (.int 1))) fNone)) (fgName 4) (fB (fIsi .tuple (fVar 4))) (fVar 4) [4]))) [.own (ts.map BT.toD), .own (found ++ [b.toD]), .dat i, .dat b.toD, .un] = some (.nx [.own ((ts ++ b.kids).map BT.toD), .own (found ++ [b.toD]), .dat i, .dat b.toD, .un]) := by
    have lc := kids_lc (restD b.toD) (.own (ts.map BT.toD)) (.own (found ++ [b.toD])) (.dat i) (.dat b.toD) (by omega)
    rw [kids_rest] at lc
    have : ts.length + b.kids.length ≤ 16777216 := by omega
    have sr := slice_rest b
    generalize BT.toD b = x at *
    have rd : ∀ Γ : Gam, fSl (fVar 3) (fSome (fC (.int 1))) fNone [.own (ts.map BT.toD), .own (found ++ [x]), .dat i, .dat x, .un] = some (.tuple (restD x), [.own (ts.map BT.toD), .own (found ++ [x]), .dat i, .dat x, .un]) := fun Γ => by
      simp only [fSl, fVar, fSome, fNone, fC, List.getElem?_cons_succ, List.getElem?_cons_zero, bnd_mk, intF, onO_mk, sr]
    simp only [fAsgL, fAddO, fL, fLc, fSeqI, rd [], bnd_mk, onO_mk, itemsF, lc, fOw, ownAt, List.getElem?_cons_zero, noOwnB, List.all_cons, List.all_nil, List.getElem?_cons_succ, Bool.and_true, Option.isNone, chk_true]
    simp [Opd.rd, this]
  rw [fIfS, t, bnd_mk, if_pos rfl, fSeq, s1, thenF_nx, fSeq, s2, thenF_nx, s3, tidy_nx]
  simp
theorem bits_ok {b : BT} {n : Nat} (hN : b.nodes.length ≤ 60) (hs : Shal n b.toD) (hn : n ≤ 63) : ∃ found : List PyData, F_bits [b.toD] = some (.new found) ∧ found.Perm b.nodes := by
  let I : List PyData → Gam → Prop := fun ds Γ => ∃ (found : List PyData) (ts : List BT), Γ = [.own (ts.map BT.toD), .own found, .un, .un, .un] ∧ (found ++ ts.flatMap BT.nodes).Perm b.nodes ∧ (ts ≠ [] → b.nodes.length ≤ found.length + ds.length) ∧ ∀ t ∈ ts, Shal n t.toD
  have loop := forF_ok (g := fgName 2) (b := fTidy [2, 3] (fIfS (fB (fNeO (fOw 0) (fL (fLst fNil)))) (fSeq (fAsg 3 (fPop 0)) (fSeq (fApp 1 (fVar 3)) (fAsgL 0 (fAddO (fOw 0) (fL (fLc (fSeqI (fSl (fVar 3) (fSome (fC (.int 1))) fNone)) (fgName 4) (fB (fIsi .tuple (fVar 4))) (fVar 4) [4])))))) fNext)) I ?step (upF 0 60) [.own [b.toD], .own [], .un, .un, .un] ?start
  case start => exact ⟨[], [b], rfl, by simp, fun _ => by rw [upF_len]; simpa using hN, fun t m => by rw [List.mem_singleton.mp m]; exact hs⟩
  case step =>
    rintro d ds Γ ⟨found, ts, rfl, p, l, q⟩
    rcases List.eq_nil_or_concat ts with e | ⟨us, c, e⟩
    · subst e
      refine ⟨_, [.own [], .own found, .un, .un, .un], rfl, ?_, found, [], rfl, p, fun h => absurd rfl h, fun t m => by cases m⟩
      simp [sh_nil, Opd.rd, eqv_nil]
    · rw [List.concat_eq_append] at e
      subst e
      refine ⟨_, _, rfl, bits_step (N := b.nodes) (by omega) p ((Shal.list (n := n) fun x m => ?_).sh (by omega)), found ++ [c.toD], us ++ c.kids, rfl, ?_, fun _ => ?_, ?_⟩
      · obtain ⟨t, m2, rfl⟩ := List.mem_map.mp m
        exact q t m2
      · refine List.Perm.trans ?_ p
        rw [List.flatMap_append, List.flatMap_append, List.flatMap_cons, List.flatMap_nil, List.append_nil, nodes_kids c, List.append_assoc]
        refine List.Perm.append_left _ ?_
        refine List.Perm.trans ?_ (List.perm_middle.symm)
        simp
      · have := l (by simp)
        simp only [List.length_append, List.length_cons, List.length_nil] at this ⊢
        omega
      · intro t m
        rcases List.mem_append.mp m with m | m
        · exact q t (by simp [m])
        · have hc := q c (by simp)
          have : t.toD ∈ c.kids.map BT.toD := List.mem_map.mpr ⟨t, m, rfl⟩
          rw [← kids_rest] at this
          have := (List.mem_filter.mp this).1
          exact shal_rest hc this
  obtain ⟨Γ', f1, found, ts, rfl, f2, f3, f4⟩ := loop
  have ts0 : ts = [] := by
    refine Classical.byContradiction fun z => ?_
    have h1 := f3 z
    have h2 := f2.length_eq
    have h3 : 1 ≤ (ts.flatMap BT.nodes).length := by
      cases ts with
      | nil => exact absurd rfl z
      | cons t ts =>
        have := nodes_pos t
        simp only [List.flatMap_cons, List.length_append]
        omega
    simp only [List.length_append, List.length_nil] at h1 h2
    omega
  subst ts0
  refine ⟨found, ?_, by simpa using f2⟩
  have r60 : rngOk 60 = true := by decide
  unfold F_bits fnG B_bits
  simp only [List.replicate_succ, List.replicate_zero, Nat.reduceSub]
  rw [fSeq]
  rw [show fAsgL 1 (fLst fNil) [Sl.own [b.toD], .un, .un, .un, .un] = some (.nx [Sl.own [b.toD], .own [], .un, .un, .un]) by simp]
  rw [thenF_nx, fSeq, fFor]
  rw [show fRng1 (fC (.int 60)) [Sl.own [b.toD], .own [], .un, .un, .un] = some (upF 0 60, [Sl.own [b.toD], .own [], .un, .un, .un]) by simp [r60]]
  rw [bnd_mk, f1, thenF_nx]
  simp [endG]
end LB

namespace LB
open PySem DL L2
/-! ## what the program reads off them -/
@[simp] theorem sh_cell : SeqAt.shaped (.str t_cell) = true := by decide +kernel
@[simp] theorem sh_number : SeqAt.shaped (.str t_number) = true := by decide +kernel
@[simp] theorem sh_sum : SeqAt.shaped (.str t_sum) = true := by decide +kernel
@[simp] theorem sh_gap : SeqAt.shaped (.str t_gap) = true := by decide +kernel
@[simp] theorem sh_times : SeqAt.shaped (.str t_times) = true := by decide +kernel
@[simp] theorem sh_not : SeqAt.shaped (.str t_not) = true := by decide +kernel
@[simp] theorem sh_and : SeqAt.shaped (.str t_and) = true := by decide +kernel
@[simp] theorem sh_or : SeqAt.shaped (.str t_or) = true := by decide +kernel
@[simp] theorem sh_empty : SeqAt.shaped (.str t_empty) = true := by decide +kernel
@[simp] theorem sh_full : SeqAt.shaped (.str t_full) = true := by decide +kernel
@[simp] theorem sh_stands : SeqAt.shaped (.str t_stands) = true := by decide +kernel
@[simp] theorem sh_same : SeqAt.shaped (.str t_same) = true := by decide +kernel
@[simp] theorem sh_less : SeqAt.shaped (.str t_less) = true := by decide +kernel
@[simp] theorem ne_cell_number : (t_cell == t_number) = false := by decide +kernel
@[simp] theorem ne_cell_sum : (t_cell == t_sum) = false := by decide +kernel
@[simp] theorem ne_cell_gap : (t_cell == t_gap) = false := by decide +kernel
@[simp] theorem ne_cell_times : (t_cell == t_times) = false := by decide +kernel
@[simp] theorem ne_cell_not : (t_cell == t_not) = false := by decide +kernel
@[simp] theorem ne_cell_and : (t_cell == t_and) = false := by decide +kernel
@[simp] theorem ne_cell_or : (t_cell == t_or) = false := by decide +kernel
@[simp] theorem ne_cell_empty : (t_cell == t_empty) = false := by decide +kernel
@[simp] theorem ne_cell_full : (t_cell == t_full) = false := by decide +kernel
@[simp] theorem ne_cell_stands : (t_cell == t_stands) = false := by decide +kernel
@[simp] theorem ne_cell_same : (t_cell == t_same) = false := by decide +kernel
@[simp] theorem ne_cell_less : (t_cell == t_less) = false := by decide +kernel
@[simp] theorem ne_number_cell : (t_number == t_cell) = false := by decide +kernel
@[simp] theorem ne_number_sum : (t_number == t_sum) = false := by decide +kernel
@[simp] theorem ne_number_gap : (t_number == t_gap) = false := by decide +kernel
@[simp] theorem ne_number_times : (t_number == t_times) = false := by decide +kernel
@[simp] theorem ne_number_not : (t_number == t_not) = false := by decide +kernel
@[simp] theorem ne_number_and : (t_number == t_and) = false := by decide +kernel
@[simp] theorem ne_number_or : (t_number == t_or) = false := by decide +kernel
@[simp] theorem ne_number_empty : (t_number == t_empty) = false := by decide +kernel
@[simp] theorem ne_number_full : (t_number == t_full) = false := by decide +kernel
@[simp] theorem ne_number_stands : (t_number == t_stands) = false := by decide +kernel
@[simp] theorem ne_number_same : (t_number == t_same) = false := by decide +kernel
@[simp] theorem ne_number_less : (t_number == t_less) = false := by decide +kernel
@[simp] theorem ne_sum_cell : (t_sum == t_cell) = false := by decide +kernel
@[simp] theorem ne_sum_number : (t_sum == t_number) = false := by decide +kernel
@[simp] theorem ne_sum_gap : (t_sum == t_gap) = false := by decide +kernel
@[simp] theorem ne_sum_times : (t_sum == t_times) = false := by decide +kernel
@[simp] theorem ne_sum_not : (t_sum == t_not) = false := by decide +kernel
@[simp] theorem ne_sum_and : (t_sum == t_and) = false := by decide +kernel
@[simp] theorem ne_sum_or : (t_sum == t_or) = false := by decide +kernel
@[simp] theorem ne_sum_empty : (t_sum == t_empty) = false := by decide +kernel
@[simp] theorem ne_sum_full : (t_sum == t_full) = false := by decide +kernel
@[simp] theorem ne_sum_stands : (t_sum == t_stands) = false := by decide +kernel
@[simp] theorem ne_sum_same : (t_sum == t_same) = false := by decide +kernel
@[simp] theorem ne_sum_less : (t_sum == t_less) = false := by decide +kernel
@[simp] theorem ne_gap_cell : (t_gap == t_cell) = false := by decide +kernel
@[simp] theorem ne_gap_number : (t_gap == t_number) = false := by decide +kernel
@[simp] theorem ne_gap_sum : (t_gap == t_sum) = false := by decide +kernel
@[simp] theorem ne_gap_times : (t_gap == t_times) = false := by decide +kernel
@[simp] theorem ne_gap_not : (t_gap == t_not) = false := by decide +kernel
@[simp] theorem ne_gap_and : (t_gap == t_and) = false := by decide +kernel
@[simp] theorem ne_gap_or : (t_gap == t_or) = false := by decide +kernel
@[simp] theorem ne_gap_empty : (t_gap == t_empty) = false := by decide +kernel
@[simp] theorem ne_gap_full : (t_gap == t_full) = false := by decide +kernel
@[simp] theorem ne_gap_stands : (t_gap == t_stands) = false := by decide +kernel
@[simp] theorem ne_gap_same : (t_gap == t_same) = false := by decide +kernel
@[simp] theorem ne_gap_less : (t_gap == t_less) = false := by decide +kernel
@[simp] theorem ne_times_cell : (t_times == t_cell) = false := by decide +kernel
@[simp] theorem ne_times_number : (t_times == t_number) = false := by decide +kernel
@[simp] theorem ne_times_sum : (t_times == t_sum) = false := by decide +kernel
@[simp] theorem ne_times_gap : (t_times == t_gap) = false := by decide +kernel
@[simp] theorem ne_times_not : (t_times == t_not) = false := by decide +kernel
@[simp] theorem ne_times_and : (t_times == t_and) = false := by decide +kernel
@[simp] theorem ne_times_or : (t_times == t_or) = false := by decide +kernel
@[simp] theorem ne_times_empty : (t_times == t_empty) = false := by decide +kernel
@[simp] theorem ne_times_full : (t_times == t_full) = false := by decide +kernel
@[simp] theorem ne_times_stands : (t_times == t_stands) = false := by decide +kernel
@[simp] theorem ne_times_same : (t_times == t_same) = false := by decide +kernel
@[simp] theorem ne_times_less : (t_times == t_less) = false := by decide +kernel
@[simp] theorem ne_not_cell : (t_not == t_cell) = false := by decide +kernel
@[simp] theorem ne_not_number : (t_not == t_number) = false := by decide +kernel
@[simp] theorem ne_not_sum : (t_not == t_sum) = false := by decide +kernel
@[simp] theorem ne_not_gap : (t_not == t_gap) = false := by decide +kernel
@[simp] theorem ne_not_times : (t_not == t_times) = false := by decide +kernel
@[simp] theorem ne_not_and : (t_not == t_and) = false := by decide +kernel
@[simp] theorem ne_not_or : (t_not == t_or) = false := by decide +kernel
@[simp] theorem ne_not_empty : (t_not == t_empty) = false := by decide +kernel
@[simp] theorem ne_not_full : (t_not == t_full) = false := by decide +kernel
@[simp] theorem ne_not_stands : (t_not == t_stands) = false := by decide +kernel
@[simp] theorem ne_not_same : (t_not == t_same) = false := by decide +kernel
@[simp] theorem ne_not_less : (t_not == t_less) = false := by decide +kernel
@[simp] theorem ne_and_cell : (t_and == t_cell) = false := by decide +kernel
@[simp] theorem ne_and_number : (t_and == t_number) = false := by decide +kernel
@[simp] theorem ne_and_sum : (t_and == t_sum) = false := by decide +kernel
@[simp] theorem ne_and_gap : (t_and == t_gap) = false := by decide +kernel
@[simp] theorem ne_and_times : (t_and == t_times) = false := by decide +kernel
@[simp] theorem ne_and_not : (t_and == t_not) = false := by decide +kernel
@[simp] theorem ne_and_or : (t_and == t_or) = false := by decide +kernel
@[simp] theorem ne_and_empty : (t_and == t_empty) = false := by decide +kernel
@[simp] theorem ne_and_full : (t_and == t_full) = false := by decide +kernel
@[simp] theorem ne_and_stands : (t_and == t_stands) = false := by decide +kernel
@[simp] theorem ne_and_same : (t_and == t_same) = false := by decide +kernel
@[simp] theorem ne_and_less : (t_and == t_less) = false := by decide +kernel
@[simp] theorem ne_or_cell : (t_or == t_cell) = false := by decide +kernel
@[simp] theorem ne_or_number : (t_or == t_number) = false := by decide +kernel
@[simp] theorem ne_or_sum : (t_or == t_sum) = false := by decide +kernel
@[simp] theorem ne_or_gap : (t_or == t_gap) = false := by decide +kernel
@[simp] theorem ne_or_times : (t_or == t_times) = false := by decide +kernel
@[simp] theorem ne_or_not : (t_or == t_not) = false := by decide +kernel
@[simp] theorem ne_or_and : (t_or == t_and) = false := by decide +kernel
@[simp] theorem ne_or_empty : (t_or == t_empty) = false := by decide +kernel
@[simp] theorem ne_or_full : (t_or == t_full) = false := by decide +kernel
@[simp] theorem ne_or_stands : (t_or == t_stands) = false := by decide +kernel
@[simp] theorem ne_or_same : (t_or == t_same) = false := by decide +kernel
@[simp] theorem ne_or_less : (t_or == t_less) = false := by decide +kernel
@[simp] theorem ne_empty_cell : (t_empty == t_cell) = false := by decide +kernel
@[simp] theorem ne_empty_number : (t_empty == t_number) = false := by decide +kernel
@[simp] theorem ne_empty_sum : (t_empty == t_sum) = false := by decide +kernel
@[simp] theorem ne_empty_gap : (t_empty == t_gap) = false := by decide +kernel
@[simp] theorem ne_empty_times : (t_empty == t_times) = false := by decide +kernel
@[simp] theorem ne_empty_not : (t_empty == t_not) = false := by decide +kernel
@[simp] theorem ne_empty_and : (t_empty == t_and) = false := by decide +kernel
@[simp] theorem ne_empty_or : (t_empty == t_or) = false := by decide +kernel
@[simp] theorem ne_empty_full : (t_empty == t_full) = false := by decide +kernel
@[simp] theorem ne_empty_stands : (t_empty == t_stands) = false := by decide +kernel
@[simp] theorem ne_empty_same : (t_empty == t_same) = false := by decide +kernel
@[simp] theorem ne_empty_less : (t_empty == t_less) = false := by decide +kernel
@[simp] theorem ne_full_cell : (t_full == t_cell) = false := by decide +kernel
@[simp] theorem ne_full_number : (t_full == t_number) = false := by decide +kernel
@[simp] theorem ne_full_sum : (t_full == t_sum) = false := by decide +kernel
@[simp] theorem ne_full_gap : (t_full == t_gap) = false := by decide +kernel
@[simp] theorem ne_full_times : (t_full == t_times) = false := by decide +kernel
@[simp] theorem ne_full_not : (t_full == t_not) = false := by decide +kernel
@[simp] theorem ne_full_and : (t_full == t_and) = false := by decide +kernel
@[simp] theorem ne_full_or : (t_full == t_or) = false := by decide +kernel
@[simp] theorem ne_full_empty : (t_full == t_empty) = false := by decide +kernel
@[simp] theorem ne_full_stands : (t_full == t_stands) = false := by decide +kernel
@[simp] theorem ne_full_same : (t_full == t_same) = false := by decide +kernel
@[simp] theorem ne_full_less : (t_full == t_less) = false := by decide +kernel
@[simp] theorem ne_stands_cell : (t_stands == t_cell) = false := by decide +kernel
@[simp] theorem ne_stands_number : (t_stands == t_number) = false := by decide +kernel
@[simp] theorem ne_stands_sum : (t_stands == t_sum) = false := by decide +kernel
@[simp] theorem ne_stands_gap : (t_stands == t_gap) = false := by decide +kernel
@[simp] theorem ne_stands_times : (t_stands == t_times) = false := by decide +kernel
@[simp] theorem ne_stands_not : (t_stands == t_not) = false := by decide +kernel
@[simp] theorem ne_stands_and : (t_stands == t_and) = false := by decide +kernel
@[simp] theorem ne_stands_or : (t_stands == t_or) = false := by decide +kernel
@[simp] theorem ne_stands_empty : (t_stands == t_empty) = false := by decide +kernel
@[simp] theorem ne_stands_full : (t_stands == t_full) = false := by decide +kernel
@[simp] theorem ne_stands_same : (t_stands == t_same) = false := by decide +kernel
@[simp] theorem ne_stands_less : (t_stands == t_less) = false := by decide +kernel
@[simp] theorem ne_same_cell : (t_same == t_cell) = false := by decide +kernel
@[simp] theorem ne_same_number : (t_same == t_number) = false := by decide +kernel
@[simp] theorem ne_same_sum : (t_same == t_sum) = false := by decide +kernel
@[simp] theorem ne_same_gap : (t_same == t_gap) = false := by decide +kernel
@[simp] theorem ne_same_times : (t_same == t_times) = false := by decide +kernel
@[simp] theorem ne_same_not : (t_same == t_not) = false := by decide +kernel
@[simp] theorem ne_same_and : (t_same == t_and) = false := by decide +kernel
@[simp] theorem ne_same_or : (t_same == t_or) = false := by decide +kernel
@[simp] theorem ne_same_empty : (t_same == t_empty) = false := by decide +kernel
@[simp] theorem ne_same_full : (t_same == t_full) = false := by decide +kernel
@[simp] theorem ne_same_stands : (t_same == t_stands) = false := by decide +kernel
@[simp] theorem ne_same_less : (t_same == t_less) = false := by decide +kernel
@[simp] theorem ne_less_cell : (t_less == t_cell) = false := by decide +kernel
@[simp] theorem ne_less_number : (t_less == t_number) = false := by decide +kernel
@[simp] theorem ne_less_sum : (t_less == t_sum) = false := by decide +kernel
@[simp] theorem ne_less_gap : (t_less == t_gap) = false := by decide +kernel
@[simp] theorem ne_less_times : (t_less == t_times) = false := by decide +kernel
@[simp] theorem ne_less_not : (t_less == t_not) = false := by decide +kernel
@[simp] theorem ne_less_and : (t_less == t_and) = false := by decide +kernel
@[simp] theorem ne_less_or : (t_less == t_or) = false := by decide +kernel
@[simp] theorem ne_less_empty : (t_less == t_empty) = false := by decide +kernel
@[simp] theorem ne_less_full : (t_less == t_full) = false := by decide +kernel
@[simp] theorem ne_less_stands : (t_less == t_stands) = false := by decide +kernel
@[simp] theorem ne_less_same : (t_less == t_same) = false := by decide +kernel
def B_cells_of_value (F_cells_of_value : Fn) : FS :=
  (fSeq (fIfS (fB (fOp eqF (fOp ixF (fVar 0) (fC (.int 0))) (fC (.str t_number)))) (fRetL (fLst fNil)) fNext) (fSeq (fIfS (fB (fOp eqF (fOp ixF (fVar 0) (fC (.int 0))) (fC (.str t_cell)))) (fRetL (fLst (fCons (fOp ixF (fVar 0) (fC (.int 1))) fNil))) fNext) (fRet (fOp addF (fCall F_cells_of_value (fPCons (fD (fOp ixF (fVar 0) (fC (.int 1)))) fPNil)) (fCall F_cells_of_value (fPCons (fD (fOp ixF (fVar 0) (fC (.int 2)))) fPNil))))))
def R_cells_of_value : Nat → Fn
  | 0 => fun _ => none
  | d + 1 => fnF 1 1 (B_cells_of_value (R_cells_of_value d))
def B_least_tests (F_least_tests : Fn) : FS :=
  (fSeq (fIfS (fB (fOp eqF (fOp ixF (fVar 0) (fC (.int 0))) (fC (.str t_not)))) (fRet (fCall F_least_tests (fPCons (fD (fOp ixF (fVar 0) (fC (.int 1)))) fPNil))) fNext) (fSeq (fIfS (fB (fOp inF (fOp ixF (fVar 0) (fC (.int 0))) (fTup (fCons (fC (.str t_and)) (fCons (fC (.str t_or)) fNil))))) (fRet (fOp addF (fCall F_least_tests (fPCons (fD (fOp ixF (fVar 0) (fC (.int 1)))) fPNil)) (fCall F_least_tests (fPCons (fD (fOp ixF (fVar 0) (fC (.int 2)))) fPNil)))) fNext) (fRetL (fLst (fCons (fVar 0) fNil)))))
def R_least_tests : Nat → Fn
  | 0 => fun _ => none
  | d + 1 => fnF 1 1 (B_least_tests (R_least_tests d))
def B_cells_of_test (F_least_tests : Fn) (F_cells_of_value : Fn) : FS :=
  (fSeq (fAsgL 1 (fLst fNil)) (fSeq (fFor (fSeqI (fCall F_least_tests (fPCons (fD (fVar 0)) fPNil))) (fgName 2) (fTidy [2] (fIfS (fB (fOp inF (fOp ixF (fVar 2) (fC (.int 0))) (fTup (fCons (fC (.str t_same)) (fCons (fC (.str t_less)) fNil))))) (fSeq (fExt 1 (fCall F_cells_of_value (fPCons (fD (fOp ixF (fVar 2) (fC (.int 1)))) fPNil))) (fExt 1 (fCall F_cells_of_value (fPCons (fD (fOp ixF (fVar 2) (fC (.int 2)))) fPNil)))) fNext))) (fRetO 1)))
def B_queues_of_test (F_least_tests : Fn) : FS :=
  (fRetL (fLc (fSeqI (fCall F_least_tests (fPCons (fD (fVar 0)) fPNil))) (fgName 1) (fB (fOp inF (fOp ixF (fVar 1) (fC (.int 0))) (fTup (fCons (fC (.str t_empty)) (fCons (fC (.str t_full)) fNil))))) (fOp ixF (fVar 1) (fC (.int 1))) [1]))
def B_labels_of_test (F_least_tests : Fn) : FS :=
  (fRetL (fLc (fSeqI (fCall F_least_tests (fPCons (fD (fVar 0)) fPNil))) (fgName 1) (fB (fOp eqF (fOp ixF (fVar 1) (fC (.int 0))) (fC (.str t_stands)))) (fTup (fCons (fOp ixF (fVar 1) (fC (.int 1))) (fCons (fOp ixF (fVar 1) (fC (.int 2))) fNil))) [1]))
@[simp] def Val.cells : Val → List Str
  | .cell c => [c]
  | .num _ => []
  | .op _ x y => x.cells ++ y.cells
@[simp] def Tst.cells : Tst → List Str
  | .neg t => t.cells
  | .bin _ t u => t.cells ++ u.cells
  | .cmp _ x y => x.cells ++ y.cells
  | .look _ _ => []
  | .stand _ _ => []
@[simp] def Tst.queues : Tst → List Str
  | .neg t => t.queues
  | .bin _ t u => t.queues ++ u.queues
  | .cmp _ x y => []
  | .look _ q => [q]
  | .stand _ _ => []
@[simp] def Tst.marks : Tst → List (Str × Str)
  | .neg t => t.marks
  | .bin _ t u => t.marks ++ u.marks
  | .cmp _ x y => []
  | .look _ q => []
  | .stand p l => [(p, l)]
@[simp] def Tst.leasts : Tst → List Tst
  | .neg t => t.leasts
  | .bin _ t u => t.leasts ++ u.leasts
  | .cmp w x y => [.cmp w x y]
  | .look w q => [.look w q]
  | .stand p l => [.stand p l]
theorem val_cells_len : ∀ x : Val, x.cells.length ≤ x.nodes.length
  | .cell c => by simp
  | .num c => by simp
  | .op w x y => by
    have := val_cells_len x
    have := val_cells_len y
    simp only [Val.cells, Val.nodes, List.length_append, List.length_cons]
    omega
theorem tst_cells_len : ∀ x : Tst, x.cells.length ≤ x.nodes.length
  | .neg x => by
    have := tst_cells_len x
    simp only [Tst.cells, Tst.nodes, List.length_append, List.length_cons]
    omega
  | .bin w x y => by
    have := tst_cells_len x
    have := tst_cells_len y
    simp only [Tst.cells, Tst.nodes, List.length_append, List.length_cons]
    omega
  | .cmp w x y => by
    have := val_cells_len x
    have := val_cells_len y
    simp only [Tst.cells, Tst.nodes, List.length_append, List.length_cons]
    omega
  | .look w q => by simp
  | .stand p l => by simp
theorem tst_leasts_len : ∀ x : Tst, x.leasts.length ≤ x.nodes.length
  | .neg x => by
    have := tst_leasts_len x
    simp only [Tst.leasts, Tst.nodes, List.length_append, List.length_cons]
    omega
  | .bin w x y => by
    have := tst_leasts_len x
    have := tst_leasts_len y
    simp only [Tst.leasts, Tst.nodes, List.length_append, List.length_cons]
    omega
  | .cmp w x y => by simp
  | .look w q => by simp
  | .stand p l => by simp
theorem eqv_str (a b : Str) : PyData.eqv (.str a) (.str b) = (a == b) := eqv_ss a b
section
variable {cs ls : List Str} {ms : List (Str × Str)}
theorem atI_two0 (a b : PyData) : atI [a, b] 0 = some a := rfl
theorem atI_two1 (a b : PyData) : atI [a, b] 1 = some b := rfl
theorem cov_ok : ∀ (x : Val) (d fuel : Nat), x.In cs d → d < fuel → x.nodes.length ≤ 16777216 →
    ∃ r, R_cells_of_value fuel [.dat x.toD] = some (.ok r [.dat x.toD]) ∧ rsD r = .list (x.cells.map PyData.str)
  | _, _, 0, _, hf, _ => by omega
  | .cell c, d, f + 1, h, _, _ => by
    refine ⟨.new [.str c], ?_, rfl⟩
    simp [R_cells_of_value, fnF, B_cells_of_value, Val.toD, ix0, ix1, atI_two0, atI_two1, eqv_ss]
  | .num i, d, f + 1, h, _, _ => by
    refine ⟨.new [], ?_, rfl⟩
    simp [R_cells_of_value, fnF, B_cells_of_value, Val.toD, atI_two0, atI_two1, eqv_ss]
  | .op w x y, 0, f + 1, h, _, _ => h.elim
  | .op w x y, d + 1, f + 1, h, hf, hl => by
    obtain ⟨hw, hx, hy⟩ := h
    simp only [Val.nodes, List.length_cons, List.length_append] at hl
    obtain ⟨r1, e1, q1⟩ := cov_ok x d f hx (by omega) (by omega)
    obtain ⟨r2, e2, q2⟩ := cov_ok y d f hy (by omega) (by omega)
    refine ⟨.dat (.list ((x.cells ++ y.cells).map PyData.str)), ?_, rfl⟩
    have l1 := val_cells_len x
    have l2 := val_cells_len y
    have l3 : x.cells.length + y.cells.length ≤ 16777216 := by omega
    show fnF 1 1 (B_cells_of_value (R_cells_of_value f)) _ = _
    generalize R_cells_of_value f = F at e1 e2
    rcases hw with rfl | rfl | rfl <;> simp [-rsD, fnF, B_cells_of_value, Val.toD, ix0, ix1, ix2, eqv_ss, e1, e2, q1, q2, outD, l3]

theorem atI3_0 (a b c : PyData) : atI [a, b, c] 0 = some a := rfl
theorem lt_ok : ∀ (x : Tst) (d fuel : Nat), x.In cs ls ms d → d < fuel → x.nodes.length ≤ 16777216 →
    ∃ r, R_least_tests fuel [.dat x.toD] = some (.ok r [.dat x.toD]) ∧ rsD r = .list (x.leasts.map Tst.toD)
  | _, _, 0, _, hf, _ => by omega
  | .look w q, d, f + 1, h, _, _ => by
    have h : (w = t_empty ∨ w = t_full) ∧ q ∈ ls := by cases d <;> exact h
    refine ⟨.new [Tst.toD (.look w q)], ?_, rfl⟩
    rcases h.1 with rfl | rfl <;> simp [R_least_tests, fnF, B_least_tests, Tst.toD, atI_two0, eqv_ss, flatD]
  | .stand p l, d, f + 1, h, _, _ => by
    refine ⟨.new [Tst.toD (.stand p l)], ?_, rfl⟩
    simp [R_least_tests, fnF, B_least_tests, Tst.toD, atI3_0, eqv_ss, flatD]
  | .cmp w x y, d, f + 1, h, _, _ => by
    have h : (w = t_same ∨ w = t_less) ∧ x.In cs 1 ∧ y.In cs 1 := by cases d <;> exact h
    refine ⟨.new [Tst.toD (.cmp w x y)], ?_, rfl⟩
    rcases h.1 with rfl | rfl <;> simp [R_least_tests, fnF, B_least_tests, Tst.toD, atI3_0, eqv_ss, flatD]
  | .neg x, 0, f + 1, h, _, _ => h.elim
  | .bin w x y, 0, f + 1, h, _, _ => h.elim
  | .neg x, d + 1, f + 1, h, hf, hl => by
    simp only [Tst.nodes, List.length_cons] at hl
    obtain ⟨r1, e1, q1⟩ := lt_ok x d f h (by omega) (by omega)
    refine ⟨.dat (.list (x.leasts.map Tst.toD)), ?_, rfl⟩
    show fnF 1 1 (B_least_tests (R_least_tests f)) _ = _
    generalize R_least_tests f = F at e1
    simp [-rsD, fnF, B_least_tests, Tst.toD, atI_two0, atI_two1, eqv_ss, e1, q1, outD]
  | .bin w x y, d + 1, f + 1, h, hf, hl => by
    obtain ⟨hw, hx, hy⟩ := h
    simp only [Tst.nodes, List.length_cons, List.length_append] at hl
    obtain ⟨r1, e1, q1⟩ := lt_ok x d f hx (by omega) (by omega)
    obtain ⟨r2, e2, q2⟩ := lt_ok y d f hy (by omega) (by omega)
    refine ⟨.dat (.list ((x.leasts ++ y.leasts).map Tst.toD)), ?_, rfl⟩
    have l1 := tst_leasts_len x
    have l2 := tst_leasts_len y
    have l3 : x.leasts.length + y.leasts.length ≤ 16777216 := by omega
    show fnF 1 1 (B_least_tests (R_least_tests f)) _ = _
    generalize R_least_tests f = F at e1 e2
    rcases hw with rfl | rfl <;> simp [-rsD, fnF, B_least_tests, Tst.toD, ix0, ix1, ix2, eqv_ss, e1, e2, q1, q2, outD, l3, flatD]
/-- the least ones are no others -/
theorem leasts_in : ∀ {x : Tst} {d : Nat}, x.In cs ls ms d → ∀ u ∈ x.leasts, u.In cs ls ms 0
  | .look w q, d, h, u, m => by
    rw [show u = Tst.look w q by simpa using m]
    have h : (w = t_empty ∨ w = t_full) ∧ q ∈ ls := by cases d <;> exact h
    exact h
  | .stand p l, d, h, u, m => by
    rw [show u = Tst.stand p l by simpa using m]
    have h : (p, l) ∈ ms := by cases d <;> exact h
    exact h
  | .cmp w x y, d, h, u, m => by
    rw [show u = Tst.cmp w x y by simpa using m]
    have h : (w = t_same ∨ w = t_less) ∧ x.In cs 1 ∧ y.In cs 1 := by cases d <;> exact h
    exact h
  | .neg x, 0, h, _, _ => h.elim
  | .bin w x y, 0, h, _, _ => h.elim
  | .neg x, d + 1, h, u, m => leasts_in (x := x) (d := d) h u (by simpa using m)
  | .bin w x y, d + 1, h, u, m => by
    simp only [Tst.leasts, List.mem_append] at m
    rcases m with m | m
    · exact leasts_in h.2.1 u m
    · exact leasts_in h.2.2 u m
theorem leasts_cells : ∀ x : Tst, x.leasts.flatMap Tst.cells = x.cells
  | .neg x => by simp [leasts_cells x]
  | .bin w x y => by simp [leasts_cells x, leasts_cells y]
  | .cmp w x y => by simp
  | .look w q => by simp
  | .stand p l => by simp
theorem leasts_nodes : ∀ x : Tst, (x.leasts.map fun u => u.nodes.length).sum ≤ x.nodes.length
  | .neg x => by
    have := leasts_nodes x
    simp only [Tst.leasts, Tst.nodes, List.length_cons]
    omega
  | .bin w x y => by
    have := leasts_nodes x
    have := leasts_nodes y
    simp only [Tst.leasts, Tst.nodes, List.length_cons, List.map_append, List.sum_append, List.length_append]
    omega
  | .cmp w x y => by simp
  | .look w q => by simp
  | .stand p l => by simp
theorem cot_ok {F_lt F_cv : Fn} {x : Tst} {d : Nat} (h : x.In cs ls ms d) (hl : x.nodes.length ≤ 16777216)
    (e1 : ∃ r, F_lt [.dat x.toD] = some (.ok r [.dat x.toD]) ∧ rsD r = .list (x.leasts.map Tst.toD))
    (e2 : ∀ v : Val, v.In cs 1 → ∃ r, F_cv [.dat v.toD] = some (.ok r [.dat v.toD]) ∧ rsD r = .list (v.cells.map PyData.str)) :
    fnF 1 3 (B_cells_of_test F_lt F_cv) [.dat x.toD] = some (.ok (.new (x.cells.map PyData.str)) [.dat x.toD]) := by
  obtain ⟨r, e1, q1⟩ := e1
  let I : List PyData → Gam → Prop := fun ds Γ => ∃ (us : List Tst) (acc : List Str), ds = us.map Tst.toD ∧ Γ = [.dat x.toD, .own (acc.map PyData.str), .un] ∧ (∀ u ∈ us, u.In cs ls ms 0) ∧ acc ++ us.flatMap Tst.cells = x.cells
  have loop := forF_ok (g := fgName 2) (b := fTidy [2] (fIfS (fB (fOp inF (fOp ixF (fVar 2) (fC (.int 0))) (fTup (fCons (fC (.str t_same)) (fCons (fC (.str t_less)) fNil))))) (fSeq (fExt 1 (fCall F_cv (fPCons (fD (fOp ixF (fVar 2) (fC (.int 1)))) fPNil))) (fExt 1 (fCall F_cv (fPCons (fD (fOp ixF (fVar 2) (fC (.int 2)))) fPNil)))) fNext)) I ?step (x.leasts.map Tst.toD) [.dat x.toD, .own [], .un] ?start
  case start => exact ⟨x.leasts, [], rfl, rfl, leasts_in h, by rw [leasts_cells]; simp⟩
  case step =>
    rintro dd ds Γ ⟨us, acc, e, rfl, hu, hc⟩
    cases us with
    | nil => cases e
    | cons u us =>
      simp only [List.map_cons, List.cons.injEq] at e
      obtain ⟨rfl, rfl⟩ := e
      have h0 := hu u (by simp)
      have hcl := congrArg List.length hc
      have cl := tst_cells_len x
      cases u with
      | neg _ => exact h0.elim
      | bin _ _ _ => exact h0.elim
      | look w q =>
        have h0 : (w = t_empty ∨ w = t_full) ∧ q ∈ ls := h0
        refine ⟨_, _, rfl, ?_, us, acc, rfl, rfl, fun v m => hu v (by simp [m]), by simpa using hc⟩
        rcases h0.1 with rfl | rfl <;> simp [Tst.toD, atI_two0, eqv_ss, flatD]
      | stand p l =>
        refine ⟨_, _, rfl, ?_, us, acc, rfl, rfl, fun v m => hu v (by simp [m]), by simpa using hc⟩
        simp [Tst.toD, atI3_0, eqv_ss, flatD]
      | cmp w a b =>
        have h0 : (w = t_same ∨ w = t_less) ∧ a.In cs 1 ∧ b.In cs 1 := h0
        obtain ⟨ra, ea, qa⟩ := e2 a h0.2.1
        obtain ⟨rb, eb, qb⟩ := e2 b h0.2.2
        simp only [List.flatMap_cons, Tst.cells, List.length_append] at hcl
        have l1 : acc.length + a.cells.length ≤ 16777216 := by omega
        have l2 : acc.length + (a.cells.length + b.cells.length) ≤ 16777216 := by omega
        have l3 : acc.length + a.cells.length + b.cells.length ≤ 16777216 := by omega
        refine ⟨_, _, rfl, ?_, us, acc ++ (a.cells ++ b.cells), rfl, rfl, fun v m => hu v (by simp [m]), by simpa using hc⟩
        rcases h0.1 with rfl | rfl <;> simp [-rsD, Tst.toD, ix0, ix1, ix2, eqv_ss, flatD, ea, eb, qa, qb, outD, l1, l2, l3]
  obtain ⟨Γ', f1, us, acc, eu, rfl, _, hc⟩ := loop
  have : us = [] := by
    cases us with
    | nil => rfl
    | cons _ _ => cases eu
  subst this
  have hc : acc = x.cells := by simpa using hc
  subst hc
  unfold B_cells_of_test
  simp only [fnF, List.length_cons, List.length_nil, Nat.zero_add, Nat.reduceAdd, Nat.reduceBEq, chk_true, List.cons_append, List.nil_append, Nat.reduceSub, List.replicate_succ, List.replicate_zero]
  rw [fSeq]
  rw [show fAsgL 1 (fLst fNil) [.dat x.toD, .un, .un] = some (.nx [.dat x.toD, .own [], .un]) by simp]
  rw [thenF_nx, fSeq, fFor]
  rw [show fSeqI (fCall F_lt (fPCons (fD (fVar 0)) fPNil)) [.dat x.toD, .own [], .un] = some (x.leasts.map Tst.toD, [.dat x.toD, .own [], .un]) by simp [-rsD, e1, q1, outD]]
  rw [bnd_mk, f1, thenF_nx]
  simp
/-- comprehension over the least ones -/
theorem least_lc {t : FT} {b : FE} {D : PyData} (p : PyData → Bool) (f : PyData → PyData) (us : List Tst) (hu : ∀ u ∈ us, u.In cs ls ms 0) (hl : us.length ≤ 16777216)
    (ht : ∀ u : Tst, u.In cs ls ms 0 → t [.dat D, .dat u.toD] = some (p u.toD, [.dat D, .dat u.toD]) ∧ (p u.toD = true → b [.dat D, .dat u.toD] = some (f u.toD, [.dat D, .dat u.toD]))) :
    lcF (fgName 1) t b [1] (us.map Tst.toD) [] [.dat D, .un] = some (((us.map Tst.toD).filter p).map f, [.dat D, .un]) := by
  rw [lcF_map f p]
  · simp
  · intro e m
    obtain ⟨u, m2, rfl⟩ := List.mem_map.mp m
    obtain ⟨h1, h2⟩ := ht u (hu u m2)
    refine ⟨[.dat D, .dat u.toD], _, rfl, h1, rfl, fun z => ⟨_, h2 z, rfl⟩⟩
  · simpa using hl
/-- the first item -/
def hdIs (w : Str) : PyData → Bool
  | .tuple (.str s :: _) => s == w
  | _ => false
def it1 : PyData → PyData
  | .tuple (_ :: y :: _) => y
  | _ => .none
def it12 : PyData → PyData
  | .tuple (_ :: y :: z :: _) => .tuple [y, z]
  | _ => .none
def looks (d : PyData) : Bool := hdIs t_empty d || hdIs t_full d
theorem looks_of : ∀ us : List Tst, (∀ u ∈ us, u.In cs ls ms 0) → ((us.map Tst.toD).filter looks).map it1 = (us.flatMap Tst.queues).map PyData.str
  | [], _ => rfl
  | u :: us, h => by
    have ih := looks_of us fun v m => h v (by simp [m])
    have h0 := h u (by simp)
    cases u with
    | neg _ => exact h0.elim
    | bin _ _ _ => exact h0.elim
    | look w q =>
      have h0 : (w = t_empty ∨ w = t_full) ∧ q ∈ ls := h0
      rcases h0.1 with rfl | rfl <;> simp [List.filter_cons, looks, hdIs, Tst.toD, it1, ih]
    | stand p l => simp [List.filter_cons, looks, hdIs, Tst.toD, it1, ih]
    | cmp w a b =>
      have h0 : (w = t_same ∨ w = t_less) ∧ a.In cs 1 ∧ b.In cs 1 := h0
      rcases h0.1 with rfl | rfl <;> simp [List.filter_cons, looks, hdIs, Tst.toD, it1, ih]
theorem marks_of : ∀ us : List Tst, (∀ u ∈ us, u.In cs ls ms 0) → ((us.map Tst.toD).filter (hdIs t_stands)).map it12 = (us.flatMap Tst.marks).map markD
  | [], _ => rfl
  | u :: us, h => by
    have ih := marks_of us fun v m => h v (by simp [m])
    have h0 := h u (by simp)
    cases u with
    | neg _ => exact h0.elim
    | bin _ _ _ => exact h0.elim
    | look w q =>
      have h0 : (w = t_empty ∨ w = t_full) ∧ q ∈ ls := h0
      rcases h0.1 with rfl | rfl <;> simp [List.filter_cons, hdIs, Tst.toD, it12, ih]
    | stand p l => simp [List.filter_cons, hdIs, Tst.toD, it12, markD, ih]
    | cmp w a b =>
      have h0 : (w = t_same ∨ w = t_less) ∧ a.In cs 1 ∧ b.In cs 1 := h0
      rcases h0.1 with rfl | rfl <;> simp [List.filter_cons, hdIs, Tst.toD, it12, ih]
theorem leasts_queues : ∀ x : Tst, x.leasts.flatMap Tst.queues = x.queues
  | .neg x => by simp [leasts_queues x]
  | .bin w x y => by simp [leasts_queues x, leasts_queues y]
  | .cmp w x y => by simp
  | .look w q => by simp
  | .stand p l => by simp
theorem leasts_marks : ∀ x : Tst, x.leasts.flatMap Tst.marks = x.marks
  | .neg x => by simp [leasts_marks x]
  | .bin w x y => by simp [leasts_marks x, leasts_marks y]
  | .cmp w x y => by simp
  | .look w q => by simp
  | .stand p l => by simp
theorem qot_ok {F_lt : Fn} {x : Tst} {d : Nat} (h : x.In cs ls ms d) (hl : x.nodes.length ≤ 16777216)
    (e1 : ∃ r, F_lt [.dat x.toD] = some (.ok r [.dat x.toD]) ∧ rsD r = .list (x.leasts.map Tst.toD)) :
    fnF 1 2 (B_queues_of_test F_lt) [.dat x.toD] = some (.ok (.new (x.queues.map PyData.str)) [.dat x.toD]) := by
  obtain ⟨r, e1, q1⟩ := e1
  have ll := tst_leasts_len x
  have lc := least_lc (t := fB (fOp inF (fOp ixF (fVar 1) (fC (.int 0))) (fTup (fCons (fC (.str t_empty)) (fCons (fC (.str t_full)) fNil))))) (b := fOp ixF (fVar 1) (fC (.int 1))) (D := x.toD) looks it1 x.leasts (leasts_in h) (by omega) fun u h0 => by
    cases u with
    | neg _ => exact h0.elim
    | bin _ _ _ => exact h0.elim
    | look w q =>
      have h0 : (w = t_empty ∨ w = t_full) ∧ q ∈ ls := h0
      rcases h0.1 with rfl | rfl <;> simp [looks, hdIs, Tst.toD, it1, atI_two0, atI_two1, eqv_ss, flatD]
    | stand p l => simp [looks, hdIs, Tst.toD, it1, ix0, ix1, eqv_ss, flatD]
    | cmp w a b =>
      have h0 : (w = t_same ∨ w = t_less) ∧ a.In cs 1 ∧ b.In cs 1 := h0
      rcases h0.1 with rfl | rfl <;> simp [looks, hdIs, Tst.toD, it1, ix0, ix1, eqv_ss, flatD]
  rw [looks_of _ (leasts_in h), leasts_queues] at lc
  unfold B_queues_of_test
  simp only [fnF, List.length_cons, List.length_nil, Nat.zero_add, Nat.reduceAdd, Nat.reduceBEq, chk_true, List.cons_append, List.nil_append, Nat.reduceSub, List.replicate_succ, List.replicate_zero]
  rw [fRetL, fLc]
  rw [show fSeqI (fCall F_lt (fPCons (fD (fVar 0)) fPNil)) [.dat x.toD, .un] = some (x.leasts.map Tst.toD, [.dat x.toD, .un]) by simp [-rsD, e1, q1, outD]]
  rw [bnd_mk, lc]
  simp
theorem lot_ok {F_lt : Fn} {x : Tst} {d : Nat} (h : x.In cs ls ms d) (hl : x.nodes.length ≤ 16777216)
    (e1 : ∃ r, F_lt [.dat x.toD] = some (.ok r [.dat x.toD]) ∧ rsD r = .list (x.leasts.map Tst.toD)) :
    fnF 1 2 (B_labels_of_test F_lt) [.dat x.toD] = some (.ok (.new (x.marks.map markD)) [.dat x.toD]) := by
  obtain ⟨r, e1, q1⟩ := e1
  have ll := tst_leasts_len x
  have lc := least_lc (t := fB (fOp eqF (fOp ixF (fVar 1) (fC (.int 0))) (fC (.str t_stands)))) (b := fTup (fCons (fOp ixF (fVar 1) (fC (.int 1))) (fCons (fOp ixF (fVar 1) (fC (.int 2))) fNil))) (D := x.toD) (hdIs t_stands) it12 x.leasts (leasts_in h) (by omega) fun u h0 => by
    cases u with
    | neg _ => exact h0.elim
    | bin _ _ _ => exact h0.elim
    | look w q =>
      have h0 : (w = t_empty ∨ w = t_full) ∧ q ∈ ls := h0
      rcases h0.1 with rfl | rfl <;> simp [hdIs, Tst.toD, it12, atI_two0, atI_two1, eqv_ss]
    | stand p l => simp [hdIs, Tst.toD, it12, ix0, ix1, ix2, eqv_ss]
    | cmp w a b =>
      have h0 : (w = t_same ∨ w = t_less) ∧ a.In cs 1 ∧ b.In cs 1 := h0
      rcases h0.1 with rfl | rfl <;> simp [hdIs, Tst.toD, it12, ix0, ix1, eqv_ss]
  rw [marks_of _ (leasts_in h), leasts_marks] at lc
  unfold B_labels_of_test
  simp only [fnF, List.length_cons, List.length_nil, Nat.zero_add, Nat.reduceAdd, Nat.reduceBEq, chk_true, List.cons_append, List.nil_append, Nat.reduceSub, List.replicate_succ, List.replicate_zero]
  rw [fRetL, fLc]
  rw [show fSeqI (fCall F_lt (fPCons (fD (fVar 0)) fPNil)) [.dat x.toD, .un] = some (x.leasts.map Tst.toD, [.dat x.toD, .un]) by simp [-rsD, e1, q1, outD]]
  rw [bnd_mk, lc]
  simp
end
end LB

namespace LB
open PySem DL L2
/-! ## the same sets -/
def B_set : FS :=
  (fRet (fCB tupTF (fCons (fL (fSortKeys (fVar 0))) fNil)))
theorem setOkB_len {ds : List PyData} (h : setOkB ds = true) : ds.length ≤ 1000 := by
  unfold setOkB at h
  rw [Bool.or_eq_true] at h
  rcases h with h | h
  · unfold textsB at h
    cases e : strsD ds with
    | none => rw [e] at h; cases h
    | some xs =>
      rw [e] at h
      have h := Nat.le_of_ble_eq_true h
      rw [strsD_eq e, List.length_map]
      exact h
  · have := (rowsB_ok h).2.2
    omega
theorem set_ok {ds : List PyData} (h : setOkB ds = true) : fnF 1 1 B_set [.dat (.list ds)] = some (.ok (.dat (.tuple (asSetD ds))) [.dat (.list ds)]) := by
  have := setOkB_len h
  have l := asSetD_len ds
  have l2 : (asSetD ds).length ≤ 16777216 := by omega
  simp [fnF, B_set, h, l2]
theorem strs_all : ∀ {ds : List PyData}, (∀ d ∈ ds, ∃ s, d = .str s) → ∃ xs : List Str, ds = xs.map PyData.str
  | [], _ => ⟨[], rfl⟩
  | d :: ds, h => by
    obtain ⟨s, rfl⟩ := h d (by simp)
    obtain ⟨xs, e⟩ := strs_all fun e m => h e (List.mem_cons_of_mem _ m)
    exact ⟨s :: xs, by rw [e]; rfl⟩
theorem strsD_map : ∀ xs : List Str, strsD (xs.map PyData.str) = some xs
  | [] => rfl
  | x :: xs => by
    show (match strsD (xs.map PyData.str) with | some r => some (x :: r) | none => none) = _
    rw [strsD_map xs]
theorem textsB_map {xs : List Str} (h : xs.length ≤ 1000) : setOkB (xs.map PyData.str) = true := by
  unfold setOkB
  rw [Bool.or_eq_true]
  left
  unfold textsB
  rw [strsD_map]
  exact Nat.ble_eq_true_of_le h
theorem rowsB_map {ms : List (Str × Str)} (h : ms.length < 64) : setOkB (ms.map markD) = true := by
  unfold setOkB
  rw [Bool.or_eq_true]
  right
  unfold rowsB
  rw [Bool.and_eq_true, Bool.and_eq_true, List.all_eq_true, List.all_eq_true]
  refine ⟨fun d m => ?_, fun d m => List.all_eq_true.mpr fun e n => ?_, ?_⟩
  · obtain ⟨x, _, rfl⟩ := List.mem_map.mp m
    rfl
  · obtain ⟨x, _, rfl⟩ := List.mem_map.mp m
    obtain ⟨y, _, rfl⟩ := List.mem_map.mp n
    rfl
  · rw [List.length_map]
    exact Nat.ble_eq_true_of_le h
/-- in another order -/
theorem set_perm_str {ds : List PyData} {xs : List Str} (p : ds.Perm (xs.map PyData.str)) (h : xs.length ≤ 1000) : setOkB ds = true ∧ asSetD ds = asSetD (xs.map PyData.str) := by
  obtain ⟨ys, e⟩ := strs_all (ds := ds) fun d m => by
    obtain ⟨s, _, e⟩ := List.mem_map.mp (p.mem_iff.mp m)
    exact ⟨s, e.symm⟩
  subst e
  have hl := p.length_eq
  rw [List.length_map, List.length_map] at hl
  exact ⟨textsB_map (by omega), asSetD_ext (strs_ok ys) (strs_ok xs) fun x => p.mem_iff⟩
theorem marks_all : ∀ {ds : List PyData}, (∀ d ∈ ds, ∃ s, d = markD s) → ∃ xs : List (Str × Str), ds = xs.map markD
  | [], _ => ⟨[], rfl⟩
  | d :: ds, h => by
    obtain ⟨s, rfl⟩ := h d (by simp)
    obtain ⟨xs, e⟩ := marks_all fun e m => h e (List.mem_cons_of_mem _ m)
    exact ⟨s :: xs, by rw [e]; rfl⟩
theorem set_perm_mark {ds : List PyData} {xs : List (Str × Str)} (p : ds.Perm (xs.map markD)) (h : xs.length < 64) : setOkB ds = true ∧ asSetD ds = asSetD (xs.map markD) := by
  obtain ⟨ys, e⟩ := marks_all (ds := ds) fun d m => by
    obtain ⟨s, _, e⟩ := List.mem_map.mp (p.mem_iff.mp m)
    exact ⟨s, e.symm⟩
  subst e
  have hl := p.length_eq
  rw [List.length_map, List.length_map] at hl
  exact ⟨rowsB_map (by omega), asSetD_ext (setOkB_keys (rowsB_map (by omega))) (setOkB_keys (rowsB_map h)) fun x => p.mem_iff⟩
/-! ## what the pieces of all hold -/
def restT (d : PyData) : PyData := .tuple (restD d)
section
variable {cs ls : List Str} {ms : List (Str × Str)}
theorem val_cells_of : ∀ {x : Val} {d : Nat}, x.In cs d → (x.nodes.filter (hdIs t_cell)).map it1 = x.cells.map PyData.str
  | .cell c, _, _ => by simp [List.filter_cons, hdIs, Val.toD, it1]
  | .num c, _, _ => by simp [List.filter_cons, hdIs, Val.toD, it1]
  | .op w x y, 0, h => h.elim
  | .op w x y, d + 1, h => by
    have h1 := val_cells_of h.2.1
    have h2 := val_cells_of h.2.2
    rcases h.1 with rfl | rfl | rfl <;> simp [List.filter_cons, hdIs, Val.toD, it1, h1, h2]
theorem val_looks_of : ∀ {x : Val} {d : Nat}, x.In cs d → (x.nodes.filter looks).map it1 = []
  | .cell c, _, _ => by simp [List.filter_cons, looks, hdIs, Val.toD, it1]
  | .num c, _, _ => by simp [List.filter_cons, looks, hdIs, Val.toD, it1]
  | .op w x y, 0, h => h.elim
  | .op w x y, d + 1, h => by
    have h1 := val_looks_of h.2.1
    have h2 := val_looks_of h.2.2
    rcases h.1 with rfl | rfl | rfl <;> simp only [Val.nodes, List.filter_cons, List.filter_append, List.map_append, Val.toD] <;> rw [if_neg (by simp [looks, hdIs]), List.map_append, h1, h2] <;> rfl
theorem val_marks_of : ∀ {x : Val} {d : Nat}, x.In cs d → (x.nodes.filter (hdIs t_stands)).map restT = []
  | .cell c, _, _ => by simp [List.filter_cons, looks, hdIs, Val.toD, it1]
  | .num c, _, _ => by simp [List.filter_cons, looks, hdIs, Val.toD, it1]
  | .op w x y, 0, h => h.elim
  | .op w x y, d + 1, h => by
    have h1 := val_marks_of h.2.1
    have h2 := val_marks_of h.2.2
    rcases h.1 with rfl | rfl | rfl <;> simp only [Val.nodes, List.filter_cons, List.filter_append, List.map_append, Val.toD] <;> rw [if_neg (by simp [hdIs]), List.map_append, h1, h2] <;> rfl
theorem tst_cells_of : ∀ {x : Tst} {d : Nat}, x.In cs ls ms d → (x.nodes.filter (hdIs t_cell)).map it1 = x.cells.map PyData.str
  | .look w q, d, h => by
    have h : (w = t_empty ∨ w = t_full) ∧ q ∈ ls := by cases d <;> exact h
    rcases h.1 with rfl | rfl <;> simp [List.filter_cons, hdIs, Tst.toD, it1]
  | .stand p l, _, _ => by simp [List.filter_cons, hdIs, Tst.toD, it1]
  | .cmp w x y, d, h => by
    have h : (w = t_same ∨ w = t_less) ∧ x.In cs 1 ∧ y.In cs 1 := by cases d <;> exact h
    have h1 := val_cells_of h.2.1
    have h2 := val_cells_of h.2.2
    rcases h.1 with rfl | rfl <;> simp [List.filter_cons, hdIs, Tst.toD, it1, h1, h2]
  | .neg x, 0, h => h.elim
  | .bin w x y, 0, h => h.elim
  | .neg x, d + 1, h => by
    have h1 := tst_cells_of (x := x) (d := d) h
    simp [List.filter_cons, hdIs, Tst.toD, it1, h1]
  | .bin w x y, d + 1, h => by
    have h1 := tst_cells_of h.2.1
    have h2 := tst_cells_of h.2.2
    rcases h.1 with rfl | rfl <;> simp [List.filter_cons, hdIs, Tst.toD, it1, h1, h2]
theorem tst_looks_of : ∀ {x : Tst} {d : Nat}, x.In cs ls ms d → (x.nodes.filter looks).map it1 = x.queues.map PyData.str
  | .look w q, d, h => by
    have h : (w = t_empty ∨ w = t_full) ∧ q ∈ ls := by cases d <;> exact h
    rcases h.1 with rfl | rfl <;> simp [List.filter_cons, looks, hdIs, Tst.toD, it1]
  | .stand p l, _, _ => by simp [List.filter_cons, looks, hdIs, Tst.toD, it1]
  | .cmp w x y, d, h => by
    have h : (w = t_same ∨ w = t_less) ∧ x.In cs 1 ∧ y.In cs 1 := by cases d <;> exact h
    have h1 := val_looks_of h.2.1
    have h2 := val_looks_of h.2.2
    rcases h.1 with rfl | rfl <;> simp only [Tst.nodes, Tst.queues, List.filter_cons, List.filter_append, List.map_append, Tst.toD] <;> rw [if_neg (by simp [looks, hdIs]), List.map_append, h1, h2] <;> rfl
  | .neg x, 0, h => h.elim
  | .bin w x y, 0, h => h.elim
  | .neg x, d + 1, h => by
    have h1 := tst_looks_of (x := x) (d := d) h
    simp only [Tst.nodes, Tst.queues, List.filter_cons, Tst.toD]
    rw [if_neg (by simp [looks, hdIs]), h1]
  | .bin w x y, d + 1, h => by
    have h1 := tst_looks_of h.2.1
    have h2 := tst_looks_of h.2.2
    rcases h.1 with rfl | rfl <;> simp only [Tst.nodes, Tst.queues, List.filter_cons, List.filter_append, List.map_append, Tst.toD] <;> rw [if_neg (by simp [looks, hdIs]), List.map_append, h1, h2]
theorem tst_marks_of : ∀ {x : Tst} {d : Nat}, x.In cs ls ms d → (x.nodes.filter (hdIs t_stands)).map restT = x.marks.map markD
  | .look w q, d, h => by
    have h : (w = t_empty ∨ w = t_full) ∧ q ∈ ls := by cases d <;> exact h
    rcases h.1 with rfl | rfl <;> simp [List.filter_cons, hdIs, Tst.toD]
  | .stand p l, _, _ => by simp [List.filter_cons, hdIs, Tst.toD, restT, restD, markD]
  | .cmp w x y, d, h => by
    have h : (w = t_same ∨ w = t_less) ∧ x.In cs 1 ∧ y.In cs 1 := by cases d <;> exact h
    have h1 := val_marks_of h.2.1
    have h2 := val_marks_of h.2.2
    rcases h.1 with rfl | rfl <;> simp only [Tst.nodes, Tst.marks, List.filter_cons, List.filter_append, List.map_append, Tst.toD] <;> rw [if_neg (by simp [hdIs]), List.map_append, h1, h2] <;> rfl
  | .neg x, 0, h => h.elim
  | .bin w x y, 0, h => h.elim
  | .neg x, d + 1, h => by
    have h1 := tst_marks_of (x := x) (d := d) h
    simp only [Tst.nodes, Tst.marks, List.filter_cons, Tst.toD]
    rw [if_neg (by simp [hdIs]), h1]
  | .bin w x y, d + 1, h => by
    have h1 := tst_marks_of h.2.1
    have h2 := tst_marks_of h.2.2
    rcases h.1 with rfl | rfl <;> simp only [Tst.nodes, Tst.marks, List.filter_cons, List.filter_append, List.map_append, Tst.toD] <;> rw [if_neg (by simp [hdIs]), List.map_append, h1, h2]
/-- each piece begins with a word and has another item -/
def NodeOk (d : PyData) : Prop := ∃ (w : Str) (y : PyData) (r : List PyData), d = .tuple (.str w :: y :: r) ∧ SeqAt.shaped (.str w) = true
theorem val_nodes_ok : ∀ {x : Val} {d : Nat}, x.In cs d → ∀ e ∈ x.nodes, NodeOk e
  | .cell c, _, _, e, m => ⟨t_cell, .str c, [], by simpa [Val.toD] using m, by simp⟩
  | .num i, _, _, e, m => ⟨t_number, .int i, [], by simpa [Val.toD] using m, by simp⟩
  | .op w x y, 0, h, _, _ => h.elim
  | .op w x y, d + 1, h, e, m => by
    simp only [Val.nodes, List.mem_cons, List.mem_append] at m
    rcases m with m | m | m
    · exact ⟨w, x.toD, [y.toD], m, by rcases h.1 with rfl | rfl | rfl <;> simp⟩
    · exact val_nodes_ok h.2.1 e m
    · exact val_nodes_ok h.2.2 e m
theorem tst_nodes_ok : ∀ {x : Tst} {d : Nat}, x.In cs ls ms d → ∀ e ∈ x.nodes, NodeOk e
  | .look w q, d, h, e, m => by
    have h : (w = t_empty ∨ w = t_full) ∧ q ∈ ls := by cases d <;> exact h
    exact ⟨w, .str q, [], by simpa [Tst.toD] using m, by rcases h.1 with rfl | rfl <;> simp⟩
  | .stand p l, _, _, e, m => ⟨t_stands, .str p, [.str l], by simpa [Tst.toD] using m, by simp⟩
  | .cmp w x y, d, h, e, m => by
    have h : (w = t_same ∨ w = t_less) ∧ x.In cs 1 ∧ y.In cs 1 := by cases d <;> exact h
    simp only [Tst.nodes, List.mem_cons, List.mem_append] at m
    rcases m with m | m | m
    · exact ⟨w, x.toD, [y.toD], m, by rcases h.1 with rfl | rfl <;> simp⟩
    · exact val_nodes_ok h.2.1 e m
    · exact val_nodes_ok h.2.2 e m
  | .neg x, 0, h, _, _ => h.elim
  | .bin w x y, 0, h, _, _ => h.elim
  | .neg x, d + 1, h, e, m => by
    simp only [Tst.nodes, List.mem_cons] at m
    rcases m with m | m
    · exact ⟨t_not, x.toD, [], m, by simp⟩
    · exact tst_nodes_ok (x := x) (d := d) h e m
  | .bin w x y, d + 1, h, e, m => by
    simp only [Tst.nodes, List.mem_cons, List.mem_append] at m
    rcases m with m | m | m
    · exact ⟨w, x.toD, [y.toD], m, by rcases h.1 with rfl | rfl <;> simp⟩
    · exact tst_nodes_ok h.2.1 e m
    · exact tst_nodes_ok h.2.2 e m
/-! ## frozen -/
theorem froz_val : ∀ x : Val, froz x.toD = x.toD ∧ wgt x.toD ≤ 5 * x.nodes.length
  | .cell c => by simp [Val.toD, froz, frozAll, wgt, wgtAll]
  | .num c => by simp [Val.toD, froz, frozAll, wgt, wgtAll]
  | .op w x y => by
    have h1 := froz_val x
    have h2 := froz_val y
    simp only [Val.toD, froz, frozAll, wgt, wgtAll, h1.1, h2.1, Val.nodes, List.length_cons, List.length_append]
    exact ⟨trivial, by omega⟩
theorem froz_tst : ∀ x : Tst, froz x.toD = x.toD ∧ wgt x.toD ≤ 5 * x.nodes.length
  | .look w q => by simp [Tst.toD, froz, frozAll, wgt, wgtAll]
  | .stand w q => by simp [Tst.toD, froz, frozAll, wgt, wgtAll]
  | .neg x => by
    have h1 := froz_tst x
    simp only [Tst.toD, froz, frozAll, wgt, wgtAll, h1.1, Tst.nodes, List.length_cons, List.length_append]
    exact ⟨trivial, by omega⟩
  | .bin w x y => by
    have h1 := froz_tst x
    have h2 := froz_tst y
    simp only [Tst.toD, froz, frozAll, wgt, wgtAll, h1.1, h2.1, Tst.nodes, List.length_cons, List.length_append]
    exact ⟨trivial, by omega⟩
  | .cmp w x y => by
    have h1 := froz_val x
    have h2 := froz_val y
    simp only [Tst.toD, froz, frozAll, wgt, wgtAll, h1.1, h2.1, Tst.nodes, List.length_cons, List.length_append]
    exact ⟨trivial, by omega⟩
theorem frozen_ok {d : PyData} (h1 : froz d = d) (h2 : wgt d ≤ 16777216) : F_frozen [.dat d] = some (.ok (.dat d) [.dat d]) := by
  unfold F_frozen
  simp [h1, h2]
theorem cells_in : ∀ {x : Val} {d : Nat}, x.In cs d → ∀ c ∈ x.cells, c ∈ cs
  | .cell c, d, h, e, m => by
    rw [show e = c by simpa using m]
    cases d <;> exact h
  | .num c, _, _, _, m => by simp at m
  | .op w x y, 0, h, _, _ => h.elim
  | .op w x y, d + 1, h, e, m => by
    simp only [Val.cells, List.mem_append] at m
    rcases m with m | m
    · exact cells_in h.2.1 e m
    · exact cells_in h.2.2 e m
theorem tst_in : ∀ {x : Tst} {d : Nat}, x.In cs ls ms d → (∀ c ∈ x.cells, c ∈ cs) ∧ (∀ c ∈ x.queues, c ∈ ls) ∧ (∀ c ∈ x.marks, c ∈ ms)
  | .look w q, d, h => by
    have h : (w = t_empty ∨ w = t_full) ∧ q ∈ ls := by cases d <;> exact h
    simpa using h.2
  | .stand p l, d, h => by
    have h : (p, l) ∈ ms := by cases d <;> exact h
    simpa using h
  | .cmp w x y, d, h => by
    have h : (w = t_same ∨ w = t_less) ∧ x.In cs 1 ∧ y.In cs 1 := by cases d <;> exact h
    refine ⟨fun c m => ?_, by simp, by simp⟩
    simp only [Tst.cells, List.mem_append] at m
    rcases m with m | m
    · exact cells_in h.2.1 c m
    · exact cells_in h.2.2 c m
  | .neg x, 0, h => h.elim
  | .bin w x y, 0, h => h.elim
  | .neg x, d + 1, h => tst_in (x := x) (d := d) h
  | .bin w x y, d + 1, h => by
    have h1 := tst_in h.2.1
    have h2 := tst_in h.2.2
    refine ⟨fun c m => ?_, fun c m => ?_, fun c m => ?_⟩
    · simp only [Tst.cells, List.mem_append] at m
      exact m.elim (h1.1 c) (h2.1 c)
    · simp only [Tst.queues, List.mem_append] at m
      exact m.elim (h1.2.1 c) (h2.2.1 c)
    · simp only [Tst.marks, List.mem_append] at m
      exact m.elim (h1.2.2 c) (h2.2.2 c)
theorem tst_lens : ∀ x : Tst, x.queues.length ≤ x.nodes.length ∧ x.marks.length ≤ x.nodes.length
  | .look w q => by simp
  | .stand w q => by simp
  | .cmp w x y => by simp
  | .neg x => by
    have h1 := tst_lens x
    simp only [Tst.queues, Tst.marks, Tst.nodes, List.length_cons]
    omega
  | .bin w x y => by
    have h1 := tst_lens x
    have h2 := tst_lens y
    simp only [Tst.queues, Tst.marks, Tst.nodes, List.length_cons, List.length_append]
    omega
end
end LB

namespace K08
open PySem DL
def t_number : Str := ⟨#[110, 117, 109, 98, 101, 114]⟩
theorem qt_number : (Str.ofString "number") = t_number := by decide +kernel
def t_cell : Str := ⟨#[99, 101, 108, 108]⟩
theorem qt_cell : (Str.ofString "cell") = t_cell := by decide +kernel
def t_not : Str := ⟨#[110, 111, 116]⟩
theorem qt_not : (Str.ofString "not") = t_not := by decide +kernel
def t_and : Str := ⟨#[97, 110, 100]⟩
theorem qt_and : (Str.ofString "and") = t_and := by decide +kernel
def t_or : Str := ⟨#[111, 114]⟩
theorem qt_or : (Str.ofString "or") = t_or := by decide +kernel
def t_same : Str := ⟨#[115, 97, 109, 101]⟩
theorem qt_same : (Str.ofString "same") = t_same := by decide +kernel
def t_less : Str := ⟨#[108, 101, 115, 115]⟩
theorem qt_less : (Str.ofString "less") = t_less := by decide +kernel
def t_empty : Str := ⟨#[101, 109, 112, 116, 121]⟩
theorem qt_empty : (Str.ofString "empty") = t_empty := by decide +kernel
def t_full : Str := ⟨#[102, 117, 108, 108]⟩
theorem qt_full : (Str.ofString "full") = t_full := by decide +kernel
def t_stands : Str := ⟨#[115, 116, 97, 110, 100, 115]⟩
theorem qt_stands : (Str.ofString "stands") = t_stands := by decide +kernel
def t_sum : Str := ⟨#[115, 117, 109]⟩
theorem qt_sum : (Str.ofString "sum") = t_sum := by decide +kernel
def t_gap : Str := ⟨#[103, 97, 112]⟩
theorem qt_gap : (Str.ofString "gap") = t_gap := by decide +kernel
def t_times : Str := ⟨#[116, 105, 109, 101, 115]⟩
theorem qt_times : (Str.ofString "times") = t_times := by decide +kernel
def t_x : Str := ⟨#[120]⟩
theorem qt_x : (Str.ofString "x") = t_x := by decide +kernel
def t_y : Str := ⟨#[121]⟩
theorem qt_y : (Str.ofString "y") = t_y := by decide +kernel
def t_a : Str := ⟨#[97]⟩
theorem qt_a : (Str.ofString "a") = t_a := by decide +kernel
def t_q : Str := ⟨#[113]⟩
theorem qt_q : (Str.ofString "q") = t_q := by decide +kernel
def t_p : Str := ⟨#[112]⟩
theorem qt_p : (Str.ofString "p") = t_p := by decide +kernel
def t_b : Str := ⟨#[98]⟩
theorem qt_b : (Str.ofString "b") = t_b := by decide +kernel
def t_l : Str := ⟨#[108]⟩
theorem qt_l : (Str.ofString "l") = t_l := by decide +kernel
def t_m : Str := ⟨#[109]⟩
theorem qt_m : (Str.ofString "m") = t_m := by decide +kernel
def t_z : Str := ⟨#[122]⟩
theorem qt_z : (Str.ofString "z") = t_z := by decide +kernel
def t_k : Str := ⟨#[107]⟩
theorem qt_k : (Str.ofString "k") = t_k := by decide +kernel
def t_zz : Str := ⟨#[122, 122]⟩
theorem qt_zz : (Str.ofString "zz") = t_zz := by decide +kernel
abbrev F_frozen : Fn := DL.F_frozen
def B_as_set : FS :=
  (fRet (fCB tupTF (fCons (fL (fSortKeys (fVar 0))) fNil)))
def F_as_set : Fn := fnF 1 1 (B_as_set)
def B_cells_of_value (F_cells_of_value : Fn) : FS :=
  (fSeq (fIfS (fB (fOp eqF (fOp ixF (fVar 0) (fC (.int 0))) (fC (.str t_number)))) (fRetL (fLst fNil)) fNext) (fSeq (fIfS (fB (fOp eqF (fOp ixF (fVar 0) (fC (.int 0))) (fC (.str t_cell)))) (fRetL (fLst (fCons (fOp ixF (fVar 0) (fC (.int 1))) fNil))) fNext) (fRet (fOp addF (fCall F_cells_of_value (fPCons (fD (fOp ixF (fVar 0) (fC (.int 1)))) fPNil)) (fCall F_cells_of_value (fPCons (fD (fOp ixF (fVar 0) (fC (.int 2)))) fPNil))))))
def R_cells_of_value : Nat → Fn
  | 0 => fun _ => none
  | d + 1 => fnF 1 1 (B_cells_of_value (R_cells_of_value d))
def F_cells_of_value : Fn := R_cells_of_value 12
def B_least_tests (F_least_tests : Fn) : FS :=
  (fSeq (fIfS (fB (fOp eqF (fOp ixF (fVar 0) (fC (.int 0))) (fC (.str t_not)))) (fRet (fCall F_least_tests (fPCons (fD (fOp ixF (fVar 0) (fC (.int 1)))) fPNil))) fNext) (fSeq (fIfS (fB (fOp inF (fOp ixF (fVar 0) (fC (.int 0))) (fTup (fCons (fC (.str t_and)) (fCons (fC (.str t_or)) fNil))))) (fRet (fOp addF (fCall F_least_tests (fPCons (fD (fOp ixF (fVar 0) (fC (.int 1)))) fPNil)) (fCall F_least_tests (fPCons (fD (fOp ixF (fVar 0) (fC (.int 2)))) fPNil)))) fNext) (fRetL (fLst (fCons (fVar 0) fNil)))))
def R_least_tests : Nat → Fn
  | 0 => fun _ => none
  | d + 1 => fnF 1 1 (B_least_tests (R_least_tests d))
def F_least_tests : Fn := R_least_tests 12
def B_cells_of_test (F_least_tests : Fn) (F_cells_of_value : Fn) : FS :=
  (fSeq (fAsgL 1 (fLst fNil)) (fSeq (fFor (fSeqI (fCall F_least_tests (fPCons (fD (fVar 0)) fPNil))) (fgName 2) (fTidy [2] (fIfS (fB (fOp inF (fOp ixF (fVar 2) (fC (.int 0))) (fTup (fCons (fC (.str t_same)) (fCons (fC (.str t_less)) fNil))))) (fSeq (fExt 1 (fCall F_cells_of_value (fPCons (fD (fOp ixF (fVar 2) (fC (.int 1)))) fPNil))) (fExt 1 (fCall F_cells_of_value (fPCons (fD (fOp ixF (fVar 2) (fC (.int 2)))) fPNil)))) fNext))) (fRetO 1)))
def F_cells_of_test : Fn := fnF 1 3 (B_cells_of_test F_least_tests F_cells_of_value)
def B_queues_of_test (F_least_tests : Fn) : FS :=
  (fRetL (fLc (fSeqI (fCall F_least_tests (fPCons (fD (fVar 0)) fPNil))) (fgName 1) (fB (fOp inF (fOp ixF (fVar 1) (fC (.int 0))) (fTup (fCons (fC (.str t_empty)) (fCons (fC (.str t_full)) fNil))))) (fOp ixF (fVar 1) (fC (.int 1))) [1]))
def F_queues_of_test : Fn := fnF 1 2 (B_queues_of_test F_least_tests)
def B_labels_of_test (F_least_tests : Fn) : FS :=
  (fRetL (fLc (fSeqI (fCall F_least_tests (fPCons (fD (fVar 0)) fPNil))) (fgName 1) (fB (fOp eqF (fOp ixF (fVar 1) (fC (.int 0))) (fC (.str t_stands)))) (fTup (fCons (fOp ixF (fVar 1) (fC (.int 1))) (fCons (fOp ixF (fVar 1) (fC (.int 2))) fNil))) [1]))
def F_labels_of_test : Fn := fnF 1 2 (B_labels_of_test F_least_tests)
def B_fitted : FS :=
  (fRet (fOp modF (fVar 0) (fOp addF (fVar 1) (fC (.int 1)))))
def F_fitted : Fn := fnF 2 2 (B_fitted)
def B_value_cells (F_as_set : Fn) (F_cells_of_value : Fn) (F_frozen : Fn) : FS :=
  (fRet (fCall F_as_set (fPCons (fD (fCall F_cells_of_value (fPCons (fD (fCall F_frozen (fPCons (fD (fVar 0)) fPNil))) fPNil))) fPNil)))
def F_value_cells : Fn := fnF 1 1 (B_value_cells F_as_set F_cells_of_value F_frozen)
def B_test_cells (F_as_set : Fn) (F_cells_of_test : Fn) (F_frozen : Fn) : FS :=
  (fRet (fCall F_as_set (fPCons (fD (fCall F_cells_of_test (fPCons (fD (fCall F_frozen (fPCons (fD (fVar 0)) fPNil))) fPNil))) fPNil)))
def F_test_cells : Fn := fnF 1 1 (B_test_cells F_as_set F_cells_of_test F_frozen)
def B_test_queues (F_as_set : Fn) (F_queues_of_test : Fn) (F_frozen : Fn) : FS :=
  (fRet (fCall F_as_set (fPCons (fD (fCall F_queues_of_test (fPCons (fD (fCall F_frozen (fPCons (fD (fVar 0)) fPNil))) fPNil))) fPNil)))
def F_test_queues : Fn := fnF 1 1 (B_test_queues F_as_set F_queues_of_test F_frozen)
def B_test_labels (F_as_set : Fn) (F_labels_of_test : Fn) (F_frozen : Fn) : FS :=
  (fRet (fCall F_as_set (fPCons (fD (fCall F_labels_of_test (fPCons (fD (fCall F_frozen (fPCons (fD (fVar 0)) fPNil))) fPNil))) fPNil)))
def F_test_labels : Fn := fnF 1 1 (B_test_labels F_as_set F_labels_of_test F_frozen)
def B__law_box : FS :=
  (fSeq (fAsg 2 (fIf (fB (fOp ltF (fVar 1) (fCB lenF (fCons (fVar 0) fNil)))) (fOp ixF (fVar 0) (fVar 1)) (fC (.int 0)))) (fRetL (fLst (fCons (fOp mulF (fCB absF (fCons (fVar 2) fNil)) (fCB intTF (fCons (fOp geF (fCB absF (fCons (fVar 2) fNil)) (fOp powF (fC (.int 10)) (fC (.int 18)))) fNil))) (fCons (fOp addF (fOp addF (fOp modF (fCB intTF (fCons (fVar 2) fNil)) (fC (.int 2305843009213693951))) (fOp mulF (fC (.int 39373)) (fVar 1))) (fC (.int 93708))) (fCons (fC (.int 0)) fNil))))))
def F__law_box : Fn := fnF 2 3 (B__law_box)
def B__law_take : FS :=
  (fSeq (fIfS (fB (fOp gtF (fIxO (fOw 0) (fC (.int 0))) (fC (.int 0)))) (fSeq (fAsg 2 (fOp modF (fCB intTF (fCons (fIxO (fOw 0) (fC (.int 0))) fNil)) (fVar 1))) (fSeq (fSetI 0 (fC (.int 0)) (fOp fdivF (fIxO (fOw 0) (fC (.int 0))) (fVar 1))) (fRet (fVar 2)))) fNext) (fSeq (fSetI 0 (fC (.int 2)) (fOp addF (fIxO (fOw 0) (fC (.int 2))) (fC (.int 1)))) (fSeq (fAsg 3 (fOp modF (fCB intTF (fCons (fOp mulF (fOp addF (fIxO (fOw 0) (fC (.int 1))) (fOp mulF (fC (.int 48271)) (fIxO (fOw 0) (fC (.int 2))))) (fOp addF (fC (.int 39373)) (fIxO (fOw 0) (fC (.int 2))))) fNil)) (fC (.int 2147483647)))) (fSeq (fAsg 4 (fOp addF (fOp modF (fCB intTF (fCons (fVar 3) fNil)) (fC (.int 40009))) (fC (.int 7)))) (fSeq (fAsg 5 (fOp modF (fCB intTF (fCons (fOp mulF (fOp addF (fOp addF (fVar 3) (fIxO (fOw 0) (fC (.int 2)))) (fOp fdivF (fIxO (fOw 0) (fC (.int 1))) (fC (.int 1000003)))) (fVar 4)) fNil)) (fC (.int 2147483629)))) (fRet (fOp modF (fCB intTF (fCons (fOp fdivF (fOp modF (fCB intTF (fCons (fOp addF (fOp mulF (fVar 5) (fC (.int 48271))) (fVar 3)) fNil)) (fC (.int 2147483587))) (fC (.int 64))) fNil)) (fVar 1))))))))
def F__law_take : Fn := fnF 2 6 (B__law_take)
def B__law_cells : FS :=
  (fSeq (fAsgL 2 (fOrL (fListO (fD (fSlS 0 fNone (fSome (fVar 1))))) (fLst (fCons (fC (.int 0)) fNil)))) (fSeq (fFor (fEnum (fSlS 0 (fSome (fVar 1)) (fSome (fC (.int 63))))) (fgTup 2 (fgCons (fgName 3) (fgCons (fgName 4) fgNil))) (fTidy [5, 3, 4] (fSeq (fAsg 5 (fOp modF (fCB intTF (fCons (fVar 3) fNil)) (fVar 1))) (fSetI 2 (fVar 5) (fOp addF (fIxO (fOw 2) (fVar 5)) (fOp mulF (fVar 4) (fOp addF (fVar 3) (fC (.int 2))))))))) (fRetO 2)))
def F__law_cells : Fn := fnF 2 6 (B__law_cells)
def B__law_of (F__law_take : Fn) : FS :=
  (fRet (fOp ixF (fVar 1) (fCall F__law_take (fPCons (fOw 0) (fPCons (fD (fCB lenF (fCons (fVar 1) fNil))) fPNil)))))
def F__law_of : Fn := fnF 2 2 (B__law_of F__law_take)
def B__law_same (F__law_same : Fn) : FS :=
  (fSeq (fIfS (fB (fIsi2 .list .tuple (fVar 1))) (fSeq (fIfS (fB (fOp neF (fIsi .list (fVar 0)) (fIsi .list (fVar 1)))) (fRet (fC (.bool false))) fNext) (fSeq (fIfS (fB (fOp neF (fIsi .tuple (fVar 0)) (fIsi .tuple (fVar 1)))) (fRet (fC (.bool false))) fNext) (fRet (fAndV (fOp eqF (fCB lenF (fCons (fVar 0) fNil)) (fCB lenF (fCons (fVar 1) fNil))) (fCB allF (fCons (fL (fLc (fZip (fVar 0) (fVar 1)) (fgTup 2 (fgCons (fgName 2) (fgCons (fgName 3) fgNil))) fYes (fCall F__law_same (fPCons (fD (fVar 2)) (fPCons (fD (fVar 3)) fPNil))) [2, 3])) fNil)))))) fNext) (fSeq (fIfS (fOr (fB (fOp isNF (fVar 1) (fC .none))) (fB (fIsi2 .bool .str (fVar 1)))) (fRet (fAndV (fOp eqF (fVar 0) (fVar 1)) (fAndV (fOp eqF (fIsi .bool (fVar 0)) (fIsi .bool (fVar 1))) (fOp eqF (fOp isNF (fVar 0) (fC .none)) (fOp isNF (fVar 1) (fC .none)))))) fNext) (fRet (fAndV (fIsi .int (fVar 0)) (fAndV (fNotV (fIsi .bool (fVar 0))) (fOp eqF (fVar 0) (fVar 1)))))))
def R__law_same : Nat → Fn
  | 0 => fun _ => none
  | d + 1 => fnF 2 4 (B__law_same (R__law_same d))
def F__law_same : Fn := R__law_same 12
def B__law_lists (F__law_lists : Fn) : FS :=
  (fRet (fIf (fB (fIsi2 .list .tuple (fVar 0))) (fL (fLc (fSeqI (fVar 0)) (fgName 1) fYes (fCall F__law_lists (fPCons (fD (fVar 1)) fPNil)) [1])) (fVar 0)))
def R__law_lists : Nat → Fn
  | 0 => fun _ => none
  | d + 1 => fnF 1 2 (B__law_lists (R__law_lists d))
def F__law_lists : Fn := R__law_lists 12
def B__law_value (F__law_take : Fn) (F__law_of : Fn) (F__law_value : Fn) : FS :=
  (fSeq (fIfS (fOr (fB (fOp eqF (fVar 1) (fC (.int 0)))) (fB (fOp eqF (fCall F__law_take (fPCons (fOw 0) (fPCons (fD (fC (.int 3))) fPNil))) (fC (.int 0))))) (fSeq (fIfS (fAnd (fB (fOp neF (fVar 2) (fL (fLst fNil)))) (fB (fOp eqF (fCall F__law_take (fPCons (fOw 0) (fPCons (fD (fC (.int 2))) fPNil))) (fC (.int 0))))) (fRet (fTup (fCons (fC (.str t_cell)) (fCons (fCall F__law_of (fPCons (fOw 0) (fPCons (fD (fVar 2)) fPNil))) fNil)))) fNext) (fRet (fTup (fCons (fC (.str t_number)) (fCons (fCall F__law_take (fPCons (fOw 0) (fPCons (fD (fC (.int 10))) fPNil))) fNil))))) fNext) (fSeq (fAsg 3 (fCall F__law_of (fPCons (fOw 0) (fPCons (fD (fL (fLst (fCons (fC (.str t_sum)) (fCons (fC (.str t_gap)) (fCons (fC (.str t_times)) fNil)))))) fPNil)))) (fSeq (fAsg 4 (fCall F__law_value (fPCons (fOw 0) (fPCons (fD (fOp subF (fVar 1) (fC (.int 1)))) (fPCons (fD (fVar 2)) fPNil))))) (fRet (fTup (fCons (fVar 3) (fCons (fVar 4) (fCons (fCall F__law_value (fPCons (fOw 0) (fPCons (fD (fOp subF (fVar 1) (fC (.int 1)))) (fPCons (fD (fVar 2)) fPNil)))) fNil))))))))
def R__law_value : Nat → Fn
  | 0 => fun _ => none
  | d + 1 => fnF 3 5 (B__law_value F__law_take F__law_of (R__law_value d))
def F__law_value : Fn := R__law_value 6
def B__law_test (F__law_take : Fn) (F__law_test : Fn) (F__law_of : Fn) (F__law_value : Fn) : FS :=
  (fSeq (fAsg 5 (fIf (fB (fOp gtF (fVar 1) (fC (.int 0)))) (fCall F__law_take (fPCons (fOw 0) (fPCons (fD (fC (.int 6))) fPNil))) (fOp addF (fC (.int 3)) (fCall F__law_take (fPCons (fOw 0) (fPCons (fD (fC (.int 3))) fPNil)))))) (fSeq (fIfS (fB (fOp eqF (fVar 5) (fC (.int 0)))) (fRet (fTup (fCons (fC (.str t_not)) (fCons (fCall F__law_test (fPCons (fOw 0) (fPCons (fD (fOp subF (fVar 1) (fC (.int 1)))) (fPCons (fD (fVar 2)) (fPCons (fD (fVar 3)) (fPCons (fD (fVar 4)) fPNil)))))) fNil)))) fNext) (fSeq (fIfS (fB (fOp ltF (fVar 5) (fC (.int 3)))) (fSeq (fAsg 6 (fCall F__law_test (fPCons (fOw 0) (fPCons (fD (fOp subF (fVar 1) (fC (.int 1)))) (fPCons (fD (fVar 2)) (fPCons (fD (fVar 3)) (fPCons (fD (fVar 4)) fPNil))))))) (fRet (fTup (fCons (fOp ixF (fL (fLst (fCons (fC (.str t_and)) (fCons (fC (.str t_or)) fNil)))) (fOp subF (fVar 5) (fC (.int 1)))) (fCons (fVar 6) (fCons (fCall F__law_test (fPCons (fOw 0) (fPCons (fD (fOp subF (fVar 1) (fC (.int 1)))) (fPCons (fD (fVar 2)) (fPCons (fD (fVar 3)) (fPCons (fD (fVar 4)) fPNil)))))) fNil)))))) fNext) (fSeq (fIfS (fAnd (fB (fOp eqF (fVar 5) (fC (.int 3)))) (fB (fOp neF (fVar 3) (fL (fLst fNil))))) (fRet (fTup (fCons (fCall F__law_of (fPCons (fOw 0) (fPCons (fD (fL (fLst (fCons (fC (.str t_empty)) (fCons (fC (.str t_full)) fNil))))) fPNil))) (fCons (fCall F__law_of (fPCons (fOw 0) (fPCons (fD (fVar 3)) fPNil))) fNil)))) fNext) (fSeq (fIfS (fAnd (fB (fOp eqF (fVar 5) (fC (.int 4)))) (fB (fOp neF (fVar 4) (fL (fLst fNil))))) (fRet (fOp addF (fTup (fCons (fC (.str t_stands)) fNil)) (fCall F__law_of (fPCons (fOw 0) (fPCons (fD (fVar 4)) fPNil))))) fNext) (fSeq (fPar 7 6 (fCall F__law_of (fPCons (fOw 0) (fPCons (fD (fL (fLst (fCons (fC (.str t_same)) (fCons (fC (.str t_less)) fNil))))) fPNil))) (fCall F__law_value (fPCons (fOw 0) (fPCons (fD (fC (.int 1))) (fPCons (fD (fVar 2)) fPNil))))) (fRet (fTup (fCons (fVar 7) (fCons (fVar 6) (fCons (fCall F__law_value (fPCons (fOw 0) (fPCons (fD (fC (.int 1))) (fPCons (fD (fVar 2)) fPNil)))) fNil)))))))))))
def R__law_test : Nat → Fn
  | 0 => fun _ => none
  | d + 1 => fnF 5 8 (B__law_test F__law_take (R__law_test d) F__law_of F__law_value)
def F__law_test : Fn := R__law_test 6
def B__law_bits : FS :=
  (fSeq (fAsgL 1 (fLst fNil)) (fSeq (fFor (fRng1 (fC (.int 60))) (fgName 2) (fTidy [2, 3] (fIfS (fB (fNeO (fOw 0) (fL (fLst fNil)))) (fSeq (fAsg 3 (fPop 0)) (fSeq (fApp 1 (fVar 3)) (fAsgL 0 (fAddO (fOw 0) (fL (fLc (fSeqI (fSl (fVar 3) (fSome (fC (.int 1))) fNone)) (fgName 4) (fB (fIsi .tuple (fVar 4))) (fVar 4) [4])))))) fNext))) (fRetO 1)))
def F__law_bits : FnGv := fnG 5 (B__law_bits)
def B__law_set : FS :=
  (fRet (fCB tupTF (fCons (fL (fSortKeys (fVar 0))) fNil)))
def F__law_set : Fn := fnF 1 1 (B__law_set)
def B__law_by_hand_right (F_fitted : Fn) (F_value_cells : Fn) (F_test_cells : Fn) (F_test_queues : Fn) (F_test_labels : Fn) (F__law_lists : Fn) (F__law_same : Fn) : FS :=
  (fSeq (fAsgG (fgTup 2 (fgCons (fgName 0) (fgCons (fgName 1) fgNil))) (fTup (fCons (fTup (fCons (fC (.str t_cell)) (fCons (fC (.str t_x)) fNil))) (fCons (fTup (fCons (fC (.str t_cell)) (fCons (fC (.str t_y)) fNil))) fNil)))) (fSeq (fAsgL 2 (fLst (fCons (fL (fLc (fSeqI (fTup (fCons (fC (.int 0)) (fCons (fC (.int 3)) (fCons (fC (.int 4)) (fCons (fC (.int 9)) (fCons (fNeg (fC (.int 1))) (fCons (fNeg (fC (.int 4))) (fCons (fNeg (fC (.int 5))) (fCons (fOp powF (fC (.int 10)) (fC (.int 30))) (fCons (fNeg (fOp powF (fC (.int 10)) (fC (.int 30)))) fNil))))))))))) (fgName 10) fYes (fCall F_fitted (fPCons (fD (fVar 10)) (fPCons (fD (fC (.int 3))) fPNil))) [10])) fNil))) (fSeq (fAsgL 2 (fAddO (fOw 2) (fL (fLst (fCons (fL (fLc (fSeqI (fTup (fCons (fC (.int 0)) (fCons (fC (.int 1)) (fCons (fC (.int 2)) (fCons (fNeg (fC (.int 1))) fNil)))))) (fgName 10) fYes (fCall F_fitted (fPCons (fD (fVar 10)) (fPCons (fD (fC (.int 1))) fPNil))) [10])) fNil))))) (fSeq (fAsgL 3 (fLst (fCons (fL (fLst (fCons (fC (.int 0)) (fCons (fC (.int 3)) (fCons (fC (.int 0)) (fCons (fC (.int 1)) (fCons (fC (.int 3)) (fCons (fC (.int 0)) (fCons (fC (.int 3)) (fCons (fC (.int 0)) (fCons (fC (.int 0)) fNil))))))))))) (fCons (fL (fLst (fCons (fC (.int 0)) (fCons (fC (.int 1)) (fCons (fC (.int 0)) (fCons (fC (.int 1)) fNil)))))) fNil)))) (fSeq (fApp 2 (fL (fLc (fSeqI (fTup (fCons (fC (.int 10)) (fCons (fC (.int 19)) (fCons (fNeg (fC (.int 3))) (fCons (fC (.int 81)) fNil)))))) (fgName 10) fYes (fCall F_fitted (fPCons (fD (fVar 10)) (fPCons (fD (fC (.int 9))) fPNil))) [10]))) (fSeq (fApp 3 (fL (fLst (fCons (fC (.int 0)) (fCons (fC (.int 9)) (fCons (fC (.int 7)) (fCons (fC (.int 1)) fNil))))))) (fSeq (fAsgL 4 (fLst (fCons (fTup (fCons (fC (.str t_number)) (fCons (fC (.int 9)) fNil))) (fCons (fVar 0) (fCons (fTup (fCons (fC (.str t_sum)) (fCons (fVar 1) (fCons (fVar 0) fNil)))) (fCons (fTup (fCons (fC (.str t_gap)) (fCons (fTup (fCons (fC (.str t_times)) (fCons (fVar 0) (fCons (fVar 0) fNil)))) (fCons (fTup (fCons (fC (.str t_number)) (fCons (fC (.int 1)) fNil))) fNil)))) fNil)))))) (fSeq (fApp 4 (fTup (fCons (fC (.str t_times)) (fCons (fTup (fCons (fC (.str t_sum)) (fCons (fTup (fCons (fC (.str t_number)) (fCons (fC (.int 1)) fNil))) (fCons (fTup (fCons (fC (.str t_number)) (fCons (fC (.int 2)) fNil))) fNil)))) (fCons (fTup (fCons (fC (.str t_number)) (fCons (fC (.int 3)) fNil))) fNil))))) (fFrz 4 (fSeq (fApp 2 (fL (fLc (fSeqI (fVar 4)) (fgName 10) fYes (fCall F_value_cells (fPCons (fD (fVar 10)) fPNil)) [10]))) (fSeq (fApp 3 (fL (fLst (fCons (fTup fNil) (fCons (fTup (fCons (fC (.str t_x)) fNil)) (fCons (fTup (fCons (fC (.str t_x)) (fCons (fC (.str t_y)) fNil))) (fCons (fTup (fCons (fC (.str t_x)) fNil)) (fCons (fTup fNil) fNil)))))))) (fSeq (fPar 5 6 (fTup (fCons (fC (.str t_same)) (fCons (fVar 1) (fCons (fTup (fCons (fC (.str t_sum)) (fCons (fVar 0) (fCons (fVar 1) fNil)))) fNil)))) (fTup (fCons (fC (.str t_less)) (fCons (fTup (fCons (fC (.str t_number)) (fCons (fC (.int 1)) fNil))) (fCons (fTup (fCons (fC (.str t_cell)) (fCons (fC (.str t_a)) fNil))) fNil))))) (fSeq (fAsg 7 (fL (fLst (fCons (fVar 5) (fCons (fVar 6) (fCons (fTup (fCons (fC (.str t_empty)) (fCons (fC (.str t_q)) fNil))) (fCons (fTup (fCons (fC (.str t_full)) (fCons (fC (.str t_p)) fNil))) (fCons (fTup (fCons (fC (.str t_stands)) (fCons (fC (.str t_b)) (fCons (fC (.str t_l)) fNil)))) fNil)))))))) (fSeq (fAsg 7 (fOp addF (fVar 7) (fL (fLst (fCons (fTup (fCons (fC (.str t_not)) (fCons (fVar 5) fNil))) (fCons (fTup (fCons (fC (.str t_and)) (fCons (fVar 6) (fCons (fVar 5) fNil)))) fNil)))))) (fSeq (fAsg 7 (fOp addF (fVar 7) (fL (fLst (fCons (fTup (fCons (fC (.str t_or)) (fCons (fTup (fCons (fC (.str t_stands)) (fCons (fC (.str t_b)) (fCons (fC (.str t_m)) fNil)))) (fCons (fTup (fCons (fC (.str t_and)) (fCons (fTup (fCons (fC (.str t_stands)) (fCons (fC (.str t_a)) (fCons (fC (.str t_z)) fNil)))) (fCons (fTup (fCons (fC (.str t_stands)) (fCons (fC (.str t_b)) (fCons (fC (.str t_l)) fNil)))) fNil)))) fNil)))) fNil))))) (fSeq (fAsg 7 (fOp addF (fVar 7) (fL (fLst (fCons (fTup (fCons (fC (.str t_not)) (fCons (fTup (fCons (fC (.str t_or)) (fCons (fTup (fCons (fC (.str t_full)) (fCons (fC (.str t_q)) fNil))) (fCons (fTup (fCons (fC (.str t_or)) (fCons (fTup (fCons (fC (.str t_empty)) (fCons (fC (.str t_q)) fNil))) (fCons (fTup (fCons (fC (.str t_full)) (fCons (fC (.str t_k)) fNil))) fNil)))) fNil)))) fNil))) fNil))))) (fSeq (fApp 2 (fL (fLc (fSeqI (fVar 7)) (fgName 10) fYes (fCall F_test_cells (fPCons (fD (fVar 10)) fPNil)) [10]))) (fSeq (fApp 3 (fL (fLst (fCons (fTup (fCons (fC (.str t_x)) (fCons (fC (.str t_y)) fNil))) (fCons (fTup (fCons (fC (.str t_a)) fNil)) (fCons (fTup fNil) (fCons (fTup fNil) (fCons (fTup fNil) (fCons (fTup (fCons (fC (.str t_x)) (fCons (fC (.str t_y)) fNil))) (fCons (fTup (fCons (fC (.str t_a)) (fCons (fC (.str t_x)) (fCons (fC (.str t_y)) fNil)))) (fCons (fTup fNil) (fCons (fTup fNil) fNil)))))))))))) (fSeq (fApp 2 (fL (fLc (fSeqI (fVar 7)) (fgName 10) fYes (fCall F_test_queues (fPCons (fD (fVar 10)) fPNil)) [10]))) (fSeq (fApp 3 (fL (fLst (fCons (fTup fNil) (fCons (fTup fNil) (fCons (fTup (fCons (fC (.str t_q)) fNil)) (fCons (fTup (fCons (fC (.str t_p)) fNil)) (fCons (fTup fNil) (fCons (fTup fNil) (fCons (fTup fNil) (fCons (fTup fNil) (fCons (fTup (fCons (fC (.str t_k)) (fCons (fC (.str t_q)) fNil))) fNil)))))))))))) (fSeq (fApp 2 (fL (fLc (fSeqI (fVar 7)) (fgName 10) fYes (fCall F_test_labels (fPCons (fD (fVar 10)) fPNil)) [10]))) (fSeq (fApp 3 (fL (fLst (fCons (fTup fNil) (fCons (fTup fNil) (fCons (fTup fNil) (fCons (fTup fNil) (fCons (fTup (fCons (fTup (fCons (fC (.str t_b)) (fCons (fC (.str t_l)) fNil))) fNil)) (fCons (fTup fNil) (fCons (fTup fNil) (fCons (fTup (fCons (fTup (fCons (fC (.str t_a)) (fCons (fC (.str t_z)) fNil))) (fCons (fTup (fCons (fC (.str t_b)) (fCons (fC (.str t_l)) fNil))) (fCons (fTup (fCons (fC (.str t_b)) (fCons (fC (.str t_m)) fNil))) fNil)))) (fCons (fTup fNil) fNil)))))))))))) (fSeq (fPar 8 9 (fCall F__law_lists (fPCons (fD (fOp ixF (fVar 7) (fC (.int 7)))) fPNil)) (fCall F__law_lists (fPCons (fD (fVar 5)) fPNil))) (fSeq (fAsgL 2 (fAddO (fOw 2) (fL (fLst (fCons (fCallK F_value_cells fPNil (fPCons (fD (fCall F__law_lists (fPCons (fD (fOp ixF (fVar 4) (fC (.int 2)))) fPNil))) fPNil) 0 1 [0]) (fCons (fCallK F_test_cells fPNil (fPCons (fD (fVar 9)) fPNil) 0 1 [0]) (fCons (fCallK F_test_queues fPNil (fPCons (fD (fVar 8)) fPNil) 0 1 [0]) fNil))))))) (fSeq (fAsgL 2 (fAddO (fOw 2) (fL (fLst (fCons (fCallK F_test_labels fPNil (fPCons (fD (fVar 8)) fPNil) 0 1 [0]) fNil))))) (fSeq (fAsgL 2 (fAddO (fOw 2) (fL (fLst (fCons (fCallK F_fitted fPNil (fPCons (fD (fC (.int 3))) (fPCons (fD (fNeg (fC (.int 6)))) fPNil)) 0 2 [1, 0]) (fCons (fVar 8) (fCons (fVar 9) fNil))))))) (fSeq (fAsgL 3 (fAddO (fOw 3) (fL (fLst (fCons (fTup (fCons (fC (.str t_x)) (fCons (fC (.str t_y)) fNil))) (fCons (fTup (fCons (fC (.str t_x)) (fCons (fC (.str t_y)) fNil))) (fCons (fTup fNil) (fCons (fOp ixF (fIxO (fOw 3) (fNeg (fC (.int 1)))) (fC (.int 7))) (fCons (fC (.int 2)) (fCons (fCall F__law_lists (fPCons (fD (fOp ixF (fVar 7) (fC (.int 7)))) fPNil)) (fCons (fCall F__law_lists (fPCons (fD (fVar 5)) fPNil)) fNil))))))))))) (fFrz 3 (fFrz 2 (fRet (fCall F__law_same (fPCons (fD (fVar 2)) (fPCons (fD (fVar 3)) fPNil)))))))))))))))))))))))))))))))))
def F__law_by_hand_right : Fn := fnF 0 11 (B__law_by_hand_right F_fitted F_value_cells F_test_cells F_test_queues F_test_labels F__law_lists F__law_same)
def B__law_right (F__law_value : Fn) (F__law_same : Fn) (F__law_set : Fn) (F__law_bits : FnGv) (F_value_cells : Fn) (F__law_test : Fn) (F_test_labels : Fn) (F_test_queues : Fn) (F_test_cells : Fn) (F__law_take : Fn) (F_fitted : Fn) : FS :=
  (fSeq (fPar3 1 2 3 (fL (fLst (fCons (fC (.str t_x)) (fCons (fC (.str t_y)) (fCons (fC (.str t_zz)) fNil))))) (fL (fLst (fCons (fC (.str t_p)) (fCons (fC (.str t_q)) fNil)))) (fL (fLst (fCons (fTup (fCons (fC (.str t_a)) (fCons (fC (.str t_l)) fNil))) (fCons (fTup (fCons (fC (.str t_b)) (fCons (fC (.str t_l)) fNil))) (fCons (fTup (fCons (fC (.str t_b)) (fCons (fC (.str t_m)) fNil))) fNil)))))) (fSeq (fAsg 4 (fCall F__law_value (fPCons (fOw 0) (fPCons (fD (fC (.int 3))) (fPCons (fD (fVar 1)) fPNil))))) (fSeq (fIfS (fNot (fB (fCall F__law_same (fPCons (fD (fCall F_value_cells (fPCons (fD (fVar 4)) fPNil))) (fPCons (fD (fCall F__law_set (fPCons (fD (fL (fLc (fSeqI (fCallG F__law_bits (fLst (fCons (fVar 4) fNil)))) (fgName 12) (fB (fOp eqF (fOp ixF (fVar 12) (fC (.int 0))) (fC (.str t_cell)))) (fOp ixF (fVar 12) (fC (.int 1))) [12]))) fPNil))) fPNil))))) (fRet (fC (.bool false))) fNext) (fWipe [4] (fSeq (fFor (fSeqI (fTup (fCons (fC (.int 1)) (fCons (fC (.int 2)) fNil)))) (fgName 5) (fTidy [6, 5, 7, 4] (fSeq (fAsg 4 (fCall F__law_test (fPCons (fOw 0) (fPCons (fD (fVar 5)) (fPCons (fD (fVar 1)) (fPCons (fD (fVar 2)) (fPCons (fD (fVar 3)) fPNil))))))) (fSeq (fAsg 6 (fCallG F__law_bits (fLst (fCons (fVar 4) fNil)))) (fSeq (fAsgL 7 (fLst (fCons (fCall F__law_set (fPCons (fD (fL (fLc (fSeqI (fVar 6)) (fgName 12) (fB (fOp eqF (fOp ixF (fVar 12) (fC (.int 0))) (fC (.str t_cell)))) (fOp ixF (fVar 12) (fC (.int 1))) [12]))) fPNil)) fNil))) (fSeq (fApp 7 (fCall F__law_set (fPCons (fD (fL (fLc (fSeqI (fVar 6)) (fgName 12) (fB (fOp inF (fOp ixF (fVar 12) (fC (.int 0))) (fTup (fCons (fC (.str t_empty)) (fCons (fC (.str t_full)) fNil))))) (fOp ixF (fVar 12) (fC (.int 1))) [12]))) fPNil))) (fSeq (fApp 7 (fCall F__law_set (fPCons (fD (fL (fLc (fSeqI (fVar 6)) (fgName 12) (fB (fOp eqF (fOp ixF (fVar 12) (fC (.int 0))) (fC (.str t_stands)))) (fSl (fVar 12) (fSome (fC (.int 1))) fNone) [12]))) fPNil))) (fFrz 7 (fIfS (fNot (fB (fCall F__law_same (fPCons (fD (fL (fLst (fCons (fCall F_test_cells (fPCons (fD (fVar 4)) fPNil)) (fCons (fCall F_test_queues (fPCons (fD (fVar 4)) fPNil)) (fCons (fCall F_test_labels (fPCons (fD (fVar 4)) fPNil)) fNil)))))) (fPCons (fD (fVar 7)) fPNil))))) (fRet (fC (.bool false))) fNext))))))))) (fSeq (fAsg 8 (fOp addF (fC (.int 1)) (fCall F__law_take (fPCons (fOw 0) (fPCons (fD (fC (.int 9))) fPNil))))) (fSeq (fFor (fRng1 (fC (.int 3))) (fgName 9) (fTidy [10, 9, 11] (fSeq (fAsg 10 (fOp subF (fCall F__law_take (fPCons (fOw 0) (fPCons (fD (fC (.int 200))) fPNil))) (fC (.int 100)))) (fSeq (fAsg 11 (fCall F_fitted (fPCons (fD (fVar 10)) (fPCons (fD (fVar 8)) fPNil)))) (fIfS (fOr (fNot (fB (fIsi .int (fVar 11)))) (fOr (fNot (fB (fChain leF leF (fC (.int 0)) (fVar 11) (fVar 8)))) (fB (fOp neF (fOp modF (fOp subF (fVar 10) (fVar 11)) (fOp addF (fVar 8) (fC (.int 1)))) (fC (.int 0)))))) (fRet (fC (.bool false))) fNext))))) (fRet (fC (.bool true))))))))))
def F__law_right : Fn := fnF 1 13 (B__law_right F__law_value F__law_same F__law_set F__law_bits F_value_cells F__law_test F_test_labels F_test_queues F_test_cells F__law_take F_fitted)
def B_law (F__law_cells : Fn) (F__law_by_hand_right : Fn) (F__law_right : Fn) (F__law_box : Fn) : FS :=
  (fSeq (fAsg 1 (fCall F__law_cells (fPCons (fOs 0) (fPCons (fD (fC (.int 3))) fPNil)))) (fSeq (fIfS (fNot (fB (fCall F__law_by_hand_right fPNil))) (fRet (fC (.bool false))) fNext) (fRet (fCB allF (fCons (fL (fLc (fRng1 (fCB lenF (fCons (fVar 1) fNil))) (fgName 2) fYes (fCallN F__law_right (fCallL F__law_box (fPCons (fD (fVar 1)) (fPCons (fD (fVar 2)) fPNil)))) [2])) fNil)))))
def F_law : Fn := fnF 1 3 (B_law F__law_cells F__law_by_hand_right F__law_right F__law_box)
end K08

namespace K08
open PySem PySem.Spec PyProof.Rows L2 DL
def topS (i : Nat) : Stmt := PySem.Challenge.pw_runclaims_k08_what_values_and_tests_ask.main.body.getD i (.Pass ⟨0, 0, 0, 0⟩)
abbrev s_frozen : Stmt := topS 1
abbrev N_frozen : List Str := ["given", "stack", "source", "built", "item"]
theorem sc_frozen : FnScope N_frozen ["given"] (defScope s_frozen) := ⟨rfl, rfl, rfl, by decide +kernel, rfl, by decide +kernel, by decide +kernel⟩
abbrev s_as_set : Stmt := topS 2
abbrev N_as_set : List Str := ["rows"]
theorem sc_as_set : FnScope N_as_set ["rows"] (defScope s_as_set) := ⟨rfl, rfl, rfl, by decide +kernel, rfl, by decide +kernel, by decide +kernel⟩
abbrev s_cells_of_value : Stmt := topS 4
abbrev N_cells_of_value : List Str := ["value"]
theorem sc_cells_of_value : FnScope N_cells_of_value ["value"] (defScope s_cells_of_value) := ⟨rfl, rfl, rfl, by decide +kernel, rfl, by decide +kernel, by decide +kernel⟩
abbrev s_least_tests : Stmt := topS 5
abbrev N_least_tests : List Str := ["test"]
theorem sc_least_tests : FnScope N_least_tests ["test"] (defScope s_least_tests) := ⟨rfl, rfl, rfl, by decide +kernel, rfl, by decide +kernel, by decide +kernel⟩
abbrev s_cells_of_test : Stmt := topS 6
abbrev N_cells_of_test : List Str := ["test", "found", "least"]
theorem sc_cells_of_test : FnScope N_cells_of_test ["test"] (defScope s_cells_of_test) := ⟨rfl, rfl, rfl, by decide +kernel, rfl, by decide +kernel, by decide +kernel⟩
abbrev s_queues_of_test : Stmt := topS 7
abbrev N_queues_of_test : List Str := ["test", "least"]
theorem sc_queues_of_test : FnScope N_queues_of_test ["test"] (defScope s_queues_of_test) := ⟨rfl, rfl, rfl, by decide +kernel, rfl, by decide +kernel, by decide +kernel⟩
abbrev s_labels_of_test : Stmt := topS 8
abbrev N_labels_of_test : List Str := ["test", "least"]
theorem sc_labels_of_test : FnScope N_labels_of_test ["test"] (defScope s_labels_of_test) := ⟨rfl, rfl, rfl, by decide +kernel, rfl, by decide +kernel, by decide +kernel⟩
abbrev s_fitted : Stmt := topS 10
abbrev N_fitted : List Str := ["number", "top"]
theorem sc_fitted : FnScope N_fitted ["number", "top"] (defScope s_fitted) := ⟨rfl, rfl, rfl, by decide +kernel, rfl, by decide +kernel, by decide +kernel⟩
abbrev s_value_cells : Stmt := topS 11
abbrev N_value_cells : List Str := ["one"]
theorem sc_value_cells : FnScope N_value_cells ["one"] (defScope s_value_cells) := ⟨rfl, rfl, rfl, by decide +kernel, rfl, by decide +kernel, by decide +kernel⟩
abbrev s_test_cells : Stmt := topS 12
abbrev N_test_cells : List Str := ["test"]
theorem sc_test_cells : FnScope N_test_cells ["test"] (defScope s_test_cells) := ⟨rfl, rfl, rfl, by decide +kernel, rfl, by decide +kernel, by decide +kernel⟩
abbrev s_test_queues : Stmt := topS 13
abbrev N_test_queues : List Str := ["test"]
theorem sc_test_queues : FnScope N_test_queues ["test"] (defScope s_test_queues) := ⟨rfl, rfl, rfl, by decide +kernel, rfl, by decide +kernel, by decide +kernel⟩
abbrev s_test_labels : Stmt := topS 14
abbrev N_test_labels : List Str := ["test"]
theorem sc_test_labels : FnScope N_test_labels ["test"] (defScope s_test_labels) := ⟨rfl, rfl, rfl, by decide +kernel, rfl, by decide +kernel, by decide +kernel⟩
abbrev s__law_box : Stmt := topS 16
abbrev N__law_box : List Str := ["script", "k", "seed_so"]
theorem sc__law_box : FnScope N__law_box ["script", "k"] (defScope s__law_box) := ⟨rfl, rfl, rfl, by decide +kernel, rfl, by decide +kernel, by decide +kernel⟩
abbrev s__law_take : Stmt := topS 17
abbrev N__law_take : List Str := ["box", "size_so", "drawn_so", "once", "far", "again"]
theorem sc__law_take : FnScope N__law_take ["box", "size_so"] (defScope s__law_take) := ⟨rfl, rfl, rfl, by decide +kernel, rfl, by decide +kernel, by decide +kernel⟩
abbrev s__law_cells : Stmt := topS 18
abbrev N__law_cells : List Str := ["script", "top_so", "cells_so", "k", "seed_so", "at_so"]
theorem sc__law_cells : FnScope N__law_cells ["script", "top_so"] (defScope s__law_cells) := ⟨rfl, rfl, rfl, by decide +kernel, rfl, by decide +kernel, by decide +kernel⟩
abbrev s__law_of : Stmt := topS 19
abbrev N__law_of : List Str := ["box", "goods_so"]
theorem sc__law_of : FnScope N__law_of ["box", "goods_so"] (defScope s__law_of) := ⟨rfl, rfl, rfl, by decide +kernel, rfl, by decide +kernel, by decide +kernel⟩
abbrev s__law_same : Stmt := topS 20
abbrev N__law_same : List Str := ["got", "due", "a_so", "b_so"]
theorem sc__law_same : FnScope N__law_same ["got", "due"] (defScope s__law_same) := ⟨rfl, rfl, rfl, by decide +kernel, rfl, by decide +kernel, by decide +kernel⟩
abbrev s__law_lists : Stmt := topS 21
abbrev N__law_lists : List Str := ["matter", "bit"]
theorem sc__law_lists : FnScope N__law_lists ["matter"] (defScope s__law_lists) := ⟨rfl, rfl, rfl, by decide +kernel, rfl, by decide +kernel, by decide +kernel⟩
abbrev s__law_value : Stmt := topS 22
abbrev N__law_value : List Str := ["box", "deep", "cells_so", "word_so", "near_so"]
theorem sc__law_value : FnScope N__law_value ["box", "deep", "cells_so"] (defScope s__law_value) := ⟨rfl, rfl, rfl, by decide +kernel, rfl, by decide +kernel, by decide +kernel⟩
abbrev s__law_test : Stmt := topS 23
abbrev N__law_test : List Str := ["box", "deep", "cells_so", "lanes_so", "marks_so", "pick_so", "near_so", "word_so"]
theorem sc__law_test : FnScope N__law_test ["box", "deep", "cells_so", "lanes_so", "marks_so"] (defScope s__law_test) := ⟨rfl, rfl, rfl, by decide +kernel, rfl, by decide +kernel, by decide +kernel⟩
abbrev s__law_bits : Stmt := topS 24
abbrev N__law_bits : List Str := ["edge", "found", "lap", "own", "bit"]
theorem sc__law_bits : FnScope N__law_bits ["edge"] (defScope s__law_bits) := ⟨rfl, rfl, rfl, by decide +kernel, rfl, by decide +kernel, by decide +kernel⟩
abbrev s__law_set : Stmt := topS 25
abbrev N__law_set : List Str := ["some"]
theorem sc__law_set : FnScope N__law_set ["some"] (defScope s__law_set) := ⟨rfl, rfl, rfl, by decide +kernel, rfl, by decide +kernel, by decide +kernel⟩
abbrev s__law_by_hand_right : Stmt := topS 26
abbrev N__law_by_hand_right : List Str := ["x_so", "y_so", "got", "due", "some", "one_so", "two_so", "tests_so", "soft", "last", "own"]
theorem sc__law_by_hand_right : FnScope N__law_by_hand_right [] (defScope s__law_by_hand_right) := ⟨rfl, rfl, rfl, by decide +kernel, rfl, by decide +kernel, by decide +kernel⟩
abbrev s__law_right : Stmt := topS 27
abbrev N__law_right : List Str := ["box", "cells_so", "lanes_so", "marks_so", "own", "deep", "bits_so", "due", "high_so", "lap", "drawn_so", "told", "bit"]
theorem sc__law_right : FnScope N__law_right ["box"] (defScope s__law_right) := ⟨rfl, rfl, rfl, by decide +kernel, rfl, by decide +kernel, by decide +kernel⟩
abbrev s_law : Stmt := topS 28
abbrev N_law : List Str := ["script", "cells_so", "k"]
theorem sc_law : FnScope N_law ["script"] (defScope s_law) := ⟨rfl, rfl, rfl, by decide +kernel, rfl, by decide +kernel, by decide +kernel⟩
structure Txt (K : PySem.W.Frag) (mg : Str → Option Value) : Prop where
  z_abs : mg "abs" = none
  z_all : mg "all" = none
  z_bool : mg "bool" = none
  z_enumerate : mg "enumerate" = none
  z_int : mg "int" = none
  z_isinstance : mg "isinstance" = none
  z_len : mg "len" = none
  z_list : mg "list" = none
  z_range : mg "range" = none
  z_set : mg "set" = none
  z_sorted : mg "sorted" = none
  z_str : mg "str" = none
  z_tuple : mg "tuple" = none
  z_zip : mg "zip" = none

theorem d_frozen {P : Program} {w : World} {K : PySem.W.Frag} {mg : Str → Option Value} {base : Heap} {k : Nat} (T : Txt K mg) {f : Addr} {cdv : Value} {A : Around} {outer : List Env} {s : Shared} {H : Hp} {E : XK} (hr : Room k (A.deeper (envOfC "frozen" (defScope s_frozen) s.heap.objs.size f cdv))) :
    PSs (cxOf CX0 P w K mg base N_frozen "frozen" (defScope s_frozen) f cdv A outer s H E).nox (defBody s_frozen) (Tfz K) :=
  (pss_cons (ps_if (pt_not (pt_val (pe_callB call_isiT (by rfl) T.z_isinstance DL.boot_isinstance (pa_cons (pv 0) (pa_cons (pe_tup (pa_cons (pe_ty (T := "list") (by rfl) T.z_list (by decide +kernel)) (pa_cons (pe_ty (T := "tuple") (by rfl) T.z_tuple (by decide +kernel)) pa_nil))) pa_nil)) (by decide) (by decide)) (by intro _; rfl))) (pss_one (ps_ret (pv 0))) pss_nil)
    (pss_cons (ps_set (i := 1) sc_frozen.nd rfl (by first | exact Or.inl rfl | exact Or.inr rfl) (pe_lst (pa_cons (pe_tup (pa_cons (pv 0) (pa_cons (pe_lst pa_nil) pa_nil))) pa_nil)))
    (pss_one (ps_while PassesOwn.never (pt_val pe_bl (by intro _; rfl))
      (pss_cons (ps_asg (pe_ix ix_seq (pv 1) (pe_un un_neg pe_int) (fun _ _ => rfl)) (pg_tup rfl (pgs_cons (pg_name (i := 2) sc_frozen.nd rfl (by first | exact Or.inl rfl | exact Or.inr rfl)) (pgs_cons (pg_name (i := 3) sc_frozen.nd rfl (by first | exact Or.inl rfl | exact Or.inr rfl)) pgs_nil))))
      (pss_one (ps_if (pt_cmpR op_lt (pe_callB call_len_seq (by rfl) T.z_len PySem.boot_len (pa_cons (pv 3) pa_nil)) (pe_callB call_len_seq (by rfl) T.z_len PySem.boot_len (pa_cons (pv 2) pa_nil)) (nomark _))
        (pss_cons (ps_set (i := 4) sc_frozen.nd rfl (by first | exact Or.inl rfl | exact Or.inr rfl) (pe_ix ix_seq (pv 2) (pe_callB call_len_seq (by rfl) T.z_len PySem.boot_len (pa_cons (pv 3) pa_nil)) (fun _ _ => rfl)))
        (pss_one (ps_if (pt_val (pe_callB call_isiT (by rfl) T.z_isinstance DL.boot_isinstance (pa_cons (pv 4) (pa_cons (pe_tup (pa_cons (pe_ty (T := "list") (by rfl) T.z_list (by decide +kernel)) (pa_cons (pe_ty (T := "tuple") (by rfl) T.z_tuple (by decide +kernel)) pa_nil))) pa_nil)) (by decide) (by decide)) (by intro _; rfl)) (pss_one (ps_expr (pe_bm PySem.F.plainAttrs_list PySem.F.slot_list_append PySem.F.type_list_append mt_append (pv 1) (pa_cons (pe_tup (pa_cons (pv 4) (pa_cons (pe_lst pa_nil) pa_nil))) pa_nil)))) (pss_one (ps_expr (pe_bm PySem.F.plainAttrs_list PySem.F.slot_list_append PySem.F.type_list_append mt_append (pv 3) (pa_cons (pv 4) pa_nil)))))))
        (pss_cons (ps_expr (pe_bm0 PySem.F.plainAttrs_list PySem.F.slot_list_pop PySem.F.type_list_pop mt_pop (pv 1)))
        (pss_cons (ps_if (pt_not (pt_truth (pv 1) (by intro _; rfl))) (pss_one (ps_ret (pe_callTy call_tuple_of (by rfl) T.z_tuple (by decide +kernel) (pa_cons (pv 3) pa_nil) (by decide) (by decide)))) pss_nil)
        (pss_one (ps_expr (pe_bm PySem.F.plainAttrs_list PySem.F.slot_list_append PySem.F.type_list_append mt_append (pe_ix ix_seq (pe_ix ix_seq (pv 1) (pe_un un_neg pe_int) (fun _ _ => rfl)) pe_int (fun _ _ => rfl)) (pa_cons (pe_callTy call_tuple_of (by rfl) T.z_tuple (by decide +kernel) (pa_cons (pv 3) pa_nil) (by decide) (by decide)) pa_nil)))))))))))))
def W_as_set : WS :=
  (wRet (wCB tupT (wCons (wL (wSortKeys (wVar 0))) wNil)))
theorem d_as_set {P : Program} {w : World} {K : PySem.W.Frag} {mg : Str → Option Value} {base : Heap} {k : Nat} (T : Txt K mg) {f : Addr} {cdv : Value} {A : Around} {outer : List Env} {s : Shared} {H : Hp} {E : XK} (hr : Room k (A.deeper (envOfC "as_set" (defScope s_as_set) s.heap.objs.size f cdv))) :
    DSs (cxOf CX0 P w K mg base N_as_set "as_set" (defScope s_as_set) f cdv A outer s H E).nox (defBody s_as_set) (W_as_set) :=
  (dss_one (ds_ret (de_tupT (by rfl) T.z_tuple (DN.de (dn_sortKeys rfl (r72 hr) (by rfl) T.z_sorted (by rfl) T.z_set (de_var 0 (pv 0)))))))
theorem A_as_set : AdS (W_as_set) (B_as_set) :=
  (ad_ret (ad_cb ad_tupT (ad_cons (ad_l (ad_sortKeys (ad_var 0))) ad_nil)))
def W_cells_of_value (S_cells_of_value : PSp) : WS :=
  (wSeq (wIfS (wB (wOp eqD (wOp ixD (wVar 0) (wC (.int 0))) (wC (.str "number")))) (wRetL (wLst wNil)) wNext)
    (wSeq (wIfS (wB (wOp eqD (wOp ixD (wVar 0) (wC (.int 0))) (wC (.str "cell")))) (wRetL (wLst (wCons (wOp ixD (wVar 0) (wC (.int 1))) wNil))) wNext)
    (wRet (wOp addD (wCall S_cells_of_value (wPCons (wD (wOp ixD (wVar 0) (wC (.int 1)))) wPNil)) (wCall S_cells_of_value (wPCons (wD (wOp ixD (wVar 0) (wC (.int 2)))) wPNil))))))
theorem d_cells_of_value {P : Program} {w : World} {K : PySem.W.Frag} {mg : Str → Option Value} {base : Heap} {k : Nat} {S_cells_of_value : PSp} (T : Txt K mg) (C_cells_of_value : Cal P w K mg base "cells_of_value" ["value"] k S_cells_of_value) {f : Addr} {cdv : Value} {A : Around} {outer : List Env} {s : Shared} {H : Hp} {E : XK} (hr : Room k (A.deeper (envOfC "cells_of_value" (defScope s_cells_of_value) s.heap.objs.size f cdv))) :
    DSs (cxOf CX0 P w K mg base N_cells_of_value "cells_of_value" (defScope s_cells_of_value) f cdv A outer s H E).nox (defBody s_cells_of_value) (W_cells_of_value S_cells_of_value) :=
  (dss_cons (ds_if (dt_eq hr.units (de_ix (de_var 0 (pv 0)) de_int) de_str) (dss_one (ds_retL (dn_lst da_nil))) dss_nil)
    (dss_cons (ds_if (dt_eq hr.units (de_ix (de_var 0 (pv 0)) de_int) de_str) (dss_one (ds_retL (dn_lst (da_cons (de_ix (de_var 0 (pv 0)) de_int) da_nil)))) dss_nil)
    (dss_one (ds_ret (de_add (de_callC C_cells_of_value hr (by rfl) (dpa_cons (DE.dp (de_ix (de_var 0 (pv 0)) de_int)) dpa_nil)) (de_callC C_cells_of_value hr (by rfl) (dpa_cons (DE.dp (de_ix (de_var 0 (pv 0)) de_int)) dpa_nil)))))))
theorem A_cells_of_value (F_cells_of_value : Fn) : AdS (W_cells_of_value (sF F_cells_of_value)) (B_cells_of_value F_cells_of_value) :=
  (ad_seq (ad_ifS (ad_b (ad_op ad_eq (ad_op ad_ix (ad_var 0) (ad_c _)) (ad_cs qt_number))) (ad_retL (ad_lst ad_nil)) ad_next) (ad_seq (ad_ifS (ad_b (ad_op ad_eq (ad_op ad_ix (ad_var 0) (ad_c _)) (ad_cs qt_cell))) (ad_retL (ad_lst (ad_cons (ad_op ad_ix (ad_var 0) (ad_c _)) ad_nil))) ad_next) (ad_ret (ad_op ad_add (ad_call (ad_pcons (ad_d (ad_op ad_ix (ad_var 0) (ad_c _))) ad_pnil)) (ad_call (ad_pcons (ad_d (ad_op ad_ix (ad_var 0) (ad_c _))) ad_pnil))))))
def W_least_tests (S_least_tests : PSp) : WS :=
  (wSeq (wIfS (wB (wOp eqD (wOp ixD (wVar 0) (wC (.int 0))) (wC (.str "not")))) (wRet (wCall S_least_tests (wPCons (wD (wOp ixD (wVar 0) (wC (.int 1)))) wPNil))) wNext)
    (wSeq (wIfS (wB (wOp inD (wOp ixD (wVar 0) (wC (.int 0))) (wTup (wCons (wC (.str "and")) (wCons (wC (.str "or")) wNil))))) (wRet (wOp addD (wCall S_least_tests (wPCons (wD (wOp ixD (wVar 0) (wC (.int 1)))) wPNil)) (wCall S_least_tests (wPCons (wD (wOp ixD (wVar 0) (wC (.int 2)))) wPNil)))) wNext)
    (wRetL (wLst (wCons (wVar 0) wNil)))))
theorem d_least_tests {P : Program} {w : World} {K : PySem.W.Frag} {mg : Str → Option Value} {base : Heap} {k : Nat} {S_least_tests : PSp} (T : Txt K mg) (C_least_tests : Cal P w K mg base "least_tests" ["test"] k S_least_tests) {f : Addr} {cdv : Value} {A : Around} {outer : List Env} {s : Shared} {H : Hp} {E : XK} (hr : Room k (A.deeper (envOfC "least_tests" (defScope s_least_tests) s.heap.objs.size f cdv))) :
    DSs (cxOf CX0 P w K mg base N_least_tests "least_tests" (defScope s_least_tests) f cdv A outer s H E).nox (defBody s_least_tests) (W_least_tests S_least_tests) :=
  (dss_cons (ds_if (dt_eq hr.units (de_ix (de_var 0 (pv 0)) de_int) de_str) (dss_one (ds_ret (de_callC C_least_tests hr (by rfl) (dpa_cons (DE.dp (de_ix (de_var 0 (pv 0)) de_int)) dpa_nil)))) dss_nil)
    (dss_cons (ds_if (dt_in (de_ix (de_var 0 (pv 0)) de_int) (de_tup (da_cons de_str (da_cons de_str da_nil)))) (dss_one (ds_ret (de_add (de_callC C_least_tests hr (by rfl) (dpa_cons (DE.dp (de_ix (de_var 0 (pv 0)) de_int)) dpa_nil)) (de_callC C_least_tests hr (by rfl) (dpa_cons (DE.dp (de_ix (de_var 0 (pv 0)) de_int)) dpa_nil))))) dss_nil)
    (dss_one (ds_retL (dn_lst (da_cons (de_var 0 (pv 0)) da_nil))))))
theorem A_least_tests (F_least_tests : Fn) : AdS (W_least_tests (sF F_least_tests)) (B_least_tests F_least_tests) :=
  (ad_seq (ad_ifS (ad_b (ad_op ad_eq (ad_op ad_ix (ad_var 0) (ad_c _)) (ad_cs qt_not))) (ad_ret (ad_call (ad_pcons (ad_d (ad_op ad_ix (ad_var 0) (ad_c _))) ad_pnil))) ad_next) (ad_seq (ad_ifS (ad_b (ad_op ad_in (ad_op ad_ix (ad_var 0) (ad_c _)) (ad_tup (ad_cons (ad_cs qt_and) (ad_cons (ad_cs qt_or) ad_nil))))) (ad_ret (ad_op ad_add (ad_call (ad_pcons (ad_d (ad_op ad_ix (ad_var 0) (ad_c _))) ad_pnil)) (ad_call (ad_pcons (ad_d (ad_op ad_ix (ad_var 0) (ad_c _))) ad_pnil)))) ad_next) (ad_retL (ad_lst (ad_cons (ad_var 0) ad_nil)))))
def W_cells_of_test (S_least_tests : PSp) (S_cells_of_value : PSp) : WS :=
  (wSeq (wAsgL 1 (wLst wNil))
    (wSeq (wFor (wSeqI (wCall S_least_tests (wPCons (wD (wVar 0)) wPNil))) (wgName 2) (wTidy [2] (wIfS (wB (wOp inD (wOp ixD (wVar 2) (wC (.int 0))) (wTup (wCons (wC (.str "same")) (wCons (wC (.str "less")) wNil))))) (wSeq (wExt 1 (wCall S_cells_of_value (wPCons (wD (wOp ixD (wVar 2) (wC (.int 1)))) wPNil)))
    (wExt 1 (wCall S_cells_of_value (wPCons (wD (wOp ixD (wVar 2) (wC (.int 2)))) wPNil)))) wNext)))
    (wRetO 1)))
theorem d_cells_of_test {P : Program} {w : World} {K : PySem.W.Frag} {mg : Str → Option Value} {base : Heap} {k : Nat} {S_least_tests : PSp} {S_cells_of_value : PSp} (T : Txt K mg) (C_least_tests : Cal P w K mg base "least_tests" ["test"] k S_least_tests) (C_cells_of_value : Cal P w K mg base "cells_of_value" ["value"] k S_cells_of_value) {f : Addr} {cdv : Value} {A : Around} {outer : List Env} {s : Shared} {H : Hp} {E : XK} (hr : Room k (A.deeper (envOfC "cells_of_test" (defScope s_cells_of_test) s.heap.objs.size f cdv))) :
    DSs (cxOf CX0 P w K mg base N_cells_of_test "cells_of_test" (defScope s_cells_of_test) f cdv A outer s H E).nox (defBody s_cells_of_test) (W_cells_of_test S_least_tests S_cells_of_value) :=
  (dss_cons (ds_setL (i := 1) sc_cells_of_test.nd rfl (by first | exact Or.inl rfl | exact Or.inr rfl) (dn_lst da_nil))
    (dss_cons (ds_for PassesOwn.never rfl (di_seq (de_callC C_least_tests hr (by rfl) (dpa_cons (DE.dp (de_var 0 (pv 0))) dpa_nil))) (dg_name (i := 2) sc_cells_of_test.nd rfl (by first | exact Or.inl rfl | exact Or.inr rfl)) (dss_tidy [2] (dss_one (ds_if (dt_in (de_ix (de_var 2 (pv 2)) de_int) (de_tup (da_cons de_str (da_cons de_str da_nil)))) (dss_cons (ds_ext 1 (t0 := tVar 1) (pv 1) (de_callC C_cells_of_value hr (by rfl) (dpa_cons (DE.dp (de_ix (de_var 2 (pv 2)) de_int)) dpa_nil)) (fun pe => pe_bm PySem.F.plainAttrs_list PySem.F.slot_list_extend PySem.F.type_list_extend mt_extend (pv 1) (pa_cons pe pa_nil)))
    (dss_one (ds_ext 1 (t0 := tVar 1) (pv 1) (de_callC C_cells_of_value hr (by rfl) (dpa_cons (DE.dp (de_ix (de_var 2 (pv 2)) de_int)) dpa_nil)) (fun pe => pe_bm PySem.F.plainAttrs_list PySem.F.slot_list_extend PySem.F.type_list_extend mt_extend (pv 1) (pa_cons pe pa_nil))))) dss_nil))))
    (dss_one (ds_retO 1 (pv 1)))))
theorem A_cells_of_test (F_least_tests : Fn) (F_cells_of_value : Fn) : AdS (W_cells_of_test (sF F_least_tests) (sF F_cells_of_value)) (B_cells_of_test F_least_tests F_cells_of_value) :=
  (ad_seq (ad_asgL 1 (ad_lst ad_nil)) (ad_seq (ad_for (ad_seqI (ad_call (ad_pcons (ad_d (ad_var 0)) ad_pnil))) (ad_gname 2) (ad_tidy [2] (ad_ifS (ad_b (ad_op ad_in (ad_op ad_ix (ad_var 2) (ad_c _)) (ad_tup (ad_cons (ad_cs qt_same) (ad_cons (ad_cs qt_less) ad_nil))))) (ad_seq (ad_ext 1 (ad_call (ad_pcons (ad_d (ad_op ad_ix (ad_var 2) (ad_c _))) ad_pnil))) (ad_ext 1 (ad_call (ad_pcons (ad_d (ad_op ad_ix (ad_var 2) (ad_c _))) ad_pnil)))) ad_next))) (ad_retO 1)))
def W_queues_of_test (S_least_tests : PSp) : WS :=
  (wRetL (wLc (wSeqI (wCall S_least_tests (wPCons (wD (wVar 0)) wPNil))) (wgName 1) (wB (wOp inD (wOp ixD (wVar 1) (wC (.int 0))) (wTup (wCons (wC (.str "empty")) (wCons (wC (.str "full")) wNil))))) (wOp ixD (wVar 1) (wC (.int 1))) [1]))
theorem d_queues_of_test {P : Program} {w : World} {K : PySem.W.Frag} {mg : Str → Option Value} {base : Heap} {k : Nat} {S_least_tests : PSp} (T : Txt K mg) (C_least_tests : Cal P w K mg base "least_tests" ["test"] k S_least_tests) {f : Addr} {cdv : Value} {A : Around} {outer : List Env} {s : Shared} {H : Hp} {E : XK} (hr : Room k (A.deeper (envOfC "queues_of_test" (defScope s_queues_of_test) s.heap.objs.size f cdv))) :
    DSs (cxOf CX0 P w K mg base N_queues_of_test "queues_of_test" (defScope s_queues_of_test) f cdv A outer s H E).nox (defBody s_queues_of_test) (W_queues_of_test S_least_tests) :=
  (dss_one (ds_retL (dn_lc rfl sc_queues_of_test.nd (own := [("least", 1)]) (di_seq (de_callC C_least_tests hr (by rfl) (dpa_cons (DE.dp (de_var 0 (pv 0))) dpa_nil))) (blkOk_by (own := [("least", 1)]) (N := N_queues_of_test) (sc := defScope s_queues_of_test) (by decide +kernel)) (fun _ _ _ _ _ => (dg_name (i := 1) sc_queues_of_test.nd rfl (by first | exact Or.inl rfl | exact Or.inr rfl))) (fun _ _ _ _ _ => (dts_one (dt_in (de_ix (de_var 1 (pv 1)) de_int) (de_tup (da_cons de_str (da_cons de_str da_nil)))))) (fun _ _ _ _ _ => (de_ix (de_var 1 (pv 1)) de_int)) (by decide))))
theorem A_queues_of_test (F_least_tests : Fn) : AdS (W_queues_of_test (sF F_least_tests)) (B_queues_of_test F_least_tests) :=
  (ad_retL (ad_lc (ad_seqI (ad_call (ad_pcons (ad_d (ad_var 0)) ad_pnil))) (ad_gname 1) (ad_b (ad_op ad_in (ad_op ad_ix (ad_var 1) (ad_c _)) (ad_tup (ad_cons (ad_cs qt_empty) (ad_cons (ad_cs qt_full) ad_nil))))) (ad_op ad_ix (ad_var 1) (ad_c _))))
def W_labels_of_test (S_least_tests : PSp) : WS :=
  (wRetL (wLc (wSeqI (wCall S_least_tests (wPCons (wD (wVar 0)) wPNil))) (wgName 1) (wB (wOp eqD (wOp ixD (wVar 1) (wC (.int 0))) (wC (.str "stands")))) (wTup (wCons (wOp ixD (wVar 1) (wC (.int 1))) (wCons (wOp ixD (wVar 1) (wC (.int 2))) wNil))) [1]))
theorem d_labels_of_test {P : Program} {w : World} {K : PySem.W.Frag} {mg : Str → Option Value} {base : Heap} {k : Nat} {S_least_tests : PSp} (T : Txt K mg) (C_least_tests : Cal P w K mg base "least_tests" ["test"] k S_least_tests) {f : Addr} {cdv : Value} {A : Around} {outer : List Env} {s : Shared} {H : Hp} {E : XK} (hr : Room k (A.deeper (envOfC "labels_of_test" (defScope s_labels_of_test) s.heap.objs.size f cdv))) :
    DSs (cxOf CX0 P w K mg base N_labels_of_test "labels_of_test" (defScope s_labels_of_test) f cdv A outer s H E).nox (defBody s_labels_of_test) (W_labels_of_test S_least_tests) :=
  (dss_one (ds_retL (dn_lc rfl sc_labels_of_test.nd (own := [("least", 1)]) (di_seq (de_callC C_least_tests hr (by rfl) (dpa_cons (DE.dp (de_var 0 (pv 0))) dpa_nil))) (blkOk_by (own := [("least", 1)]) (N := N_labels_of_test) (sc := defScope s_labels_of_test) (by decide +kernel)) (fun _ _ _ _ _ => (dg_name (i := 1) sc_labels_of_test.nd rfl (by first | exact Or.inl rfl | exact Or.inr rfl))) (fun _ _ _ _ _ => (dts_one (dt_eq hr.units (de_ix (de_var 1 (pv 1)) de_int) de_str))) (fun _ _ _ _ _ => (de_tup (da_cons (de_ix (de_var 1 (pv 1)) de_int) (da_cons (de_ix (de_var 1 (pv 1)) de_int) da_nil)))) (by decide))))
theorem A_labels_of_test (F_least_tests : Fn) : AdS (W_labels_of_test (sF F_least_tests)) (B_labels_of_test F_least_tests) :=
  (ad_retL (ad_lc (ad_seqI (ad_call (ad_pcons (ad_d (ad_var 0)) ad_pnil))) (ad_gname 1) (ad_b (ad_op ad_eq (ad_op ad_ix (ad_var 1) (ad_c _)) (ad_cs qt_stands))) (ad_tup (ad_cons (ad_op ad_ix (ad_var 1) (ad_c _)) (ad_cons (ad_op ad_ix (ad_var 1) (ad_c _)) ad_nil)))))
def W_fitted : WS :=
  (wRet (wOp modD (wVar 0) (wOp addD (wVar 1) (wC (.int 1)))))
theorem d_fitted {P : Program} {w : World} {K : PySem.W.Frag} {mg : Str → Option Value} {base : Heap} {k : Nat} (T : Txt K mg) {f : Addr} {cdv : Value} {A : Around} {outer : List Env} {s : Shared} {H : Hp} {E : XK} (hr : Room k (A.deeper (envOfC "fitted" (defScope s_fitted) s.heap.objs.size f cdv))) :
    DSs (cxOf CX0 P w K mg base N_fitted "fitted" (defScope s_fitted) f cdv A outer s H E).nox (defBody s_fitted) (W_fitted) :=
  (dss_one (ds_ret (de_mod (de_var 0 (pv 0)) (de_add (de_var 1 (pv 1)) de_int))))
theorem A_fitted : AdS (W_fitted) (B_fitted) :=
  (ad_ret (ad_op ad_mod (ad_var 0) (ad_op ad_add (ad_var 1) (ad_c _))))
def W_value_cells (S_as_set : PSp) (S_cells_of_value : PSp) (S_frozen : PSp) : WS :=
  (wRet (wCall S_as_set (wPCons (wD (wCall S_cells_of_value (wPCons (wD (wCall S_frozen (wPCons (wD (wVar 0)) wPNil))) wPNil))) wPNil)))
theorem d_value_cells {P : Program} {w : World} {K : PySem.W.Frag} {mg : Str → Option Value} {base : Heap} {k : Nat} {S_as_set : PSp} {S_cells_of_value : PSp} {S_frozen : PSp} (T : Txt K mg) (C_as_set : Cal P w K mg base "as_set" ["rows"] k S_as_set) (C_cells_of_value : Cal P w K mg base "cells_of_value" ["value"] k S_cells_of_value) (C_frozen : Cal P w K mg base "frozen" ["given"] k S_frozen) {f : Addr} {cdv : Value} {A : Around} {outer : List Env} {s : Shared} {H : Hp} {E : XK} (hr : Room k (A.deeper (envOfC "value_cells" (defScope s_value_cells) s.heap.objs.size f cdv))) :
    DSs (cxOf CX0 P w K mg base N_value_cells "value_cells" (defScope s_value_cells) f cdv A outer s H E).nox (defBody s_value_cells) (W_value_cells S_as_set S_cells_of_value S_frozen) :=
  (dss_one (ds_ret (de_callC C_as_set hr (by rfl) (dpa_cons (DE.dp (de_callC C_cells_of_value hr (by rfl) (dpa_cons (DE.dp (de_callC C_frozen hr (by rfl) (dpa_cons (DE.dp (de_var 0 (pv 0))) dpa_nil))) dpa_nil))) dpa_nil))))
theorem A_value_cells (F_as_set : Fn) (F_cells_of_value : Fn) (F_frozen : Fn) : AdS (W_value_cells (sF F_as_set) (sF F_cells_of_value) (sF F_frozen)) (B_value_cells F_as_set F_cells_of_value F_frozen) :=
  (ad_ret (ad_call (ad_pcons (ad_d (ad_call (ad_pcons (ad_d (ad_call (ad_pcons (ad_d (ad_var 0)) ad_pnil))) ad_pnil))) ad_pnil)))
def W_test_cells (S_as_set : PSp) (S_cells_of_test : PSp) (S_frozen : PSp) : WS :=
  (wRet (wCall S_as_set (wPCons (wD (wCall S_cells_of_test (wPCons (wD (wCall S_frozen (wPCons (wD (wVar 0)) wPNil))) wPNil))) wPNil)))
theorem d_test_cells {P : Program} {w : World} {K : PySem.W.Frag} {mg : Str → Option Value} {base : Heap} {k : Nat} {S_as_set : PSp} {S_cells_of_test : PSp} {S_frozen : PSp} (T : Txt K mg) (C_as_set : Cal P w K mg base "as_set" ["rows"] k S_as_set) (C_cells_of_test : Cal P w K mg base "cells_of_test" ["test"] k S_cells_of_test) (C_frozen : Cal P w K mg base "frozen" ["given"] k S_frozen) {f : Addr} {cdv : Value} {A : Around} {outer : List Env} {s : Shared} {H : Hp} {E : XK} (hr : Room k (A.deeper (envOfC "test_cells" (defScope s_test_cells) s.heap.objs.size f cdv))) :
    DSs (cxOf CX0 P w K mg base N_test_cells "test_cells" (defScope s_test_cells) f cdv A outer s H E).nox (defBody s_test_cells) (W_test_cells S_as_set S_cells_of_test S_frozen) :=
  (dss_one (ds_ret (de_callC C_as_set hr (by rfl) (dpa_cons (DE.dp (de_callC C_cells_of_test hr (by rfl) (dpa_cons (DE.dp (de_callC C_frozen hr (by rfl) (dpa_cons (DE.dp (de_var 0 (pv 0))) dpa_nil))) dpa_nil))) dpa_nil))))
theorem A_test_cells (F_as_set : Fn) (F_cells_of_test : Fn) (F_frozen : Fn) : AdS (W_test_cells (sF F_as_set) (sF F_cells_of_test) (sF F_frozen)) (B_test_cells F_as_set F_cells_of_test F_frozen) :=
  (ad_ret (ad_call (ad_pcons (ad_d (ad_call (ad_pcons (ad_d (ad_call (ad_pcons (ad_d (ad_var 0)) ad_pnil))) ad_pnil))) ad_pnil)))
def W_test_queues (S_as_set : PSp) (S_queues_of_test : PSp) (S_frozen : PSp) : WS :=
  (wRet (wCall S_as_set (wPCons (wD (wCall S_queues_of_test (wPCons (wD (wCall S_frozen (wPCons (wD (wVar 0)) wPNil))) wPNil))) wPNil)))
theorem d_test_queues {P : Program} {w : World} {K : PySem.W.Frag} {mg : Str → Option Value} {base : Heap} {k : Nat} {S_as_set : PSp} {S_queues_of_test : PSp} {S_frozen : PSp} (T : Txt K mg) (C_as_set : Cal P w K mg base "as_set" ["rows"] k S_as_set) (C_queues_of_test : Cal P w K mg base "queues_of_test" ["test"] k S_queues_of_test) (C_frozen : Cal P w K mg base "frozen" ["given"] k S_frozen) {f : Addr} {cdv : Value} {A : Around} {outer : List Env} {s : Shared} {H : Hp} {E : XK} (hr : Room k (A.deeper (envOfC "test_queues" (defScope s_test_queues) s.heap.objs.size f cdv))) :
    DSs (cxOf CX0 P w K mg base N_test_queues "test_queues" (defScope s_test_queues) f cdv A outer s H E).nox (defBody s_test_queues) (W_test_queues S_as_set S_queues_of_test S_frozen) :=
  (dss_one (ds_ret (de_callC C_as_set hr (by rfl) (dpa_cons (DE.dp (de_callC C_queues_of_test hr (by rfl) (dpa_cons (DE.dp (de_callC C_frozen hr (by rfl) (dpa_cons (DE.dp (de_var 0 (pv 0))) dpa_nil))) dpa_nil))) dpa_nil))))
theorem A_test_queues (F_as_set : Fn) (F_queues_of_test : Fn) (F_frozen : Fn) : AdS (W_test_queues (sF F_as_set) (sF F_queues_of_test) (sF F_frozen)) (B_test_queues F_as_set F_queues_of_test F_frozen) :=
  (ad_ret (ad_call (ad_pcons (ad_d (ad_call (ad_pcons (ad_d (ad_call (ad_pcons (ad_d (ad_var 0)) ad_pnil))) ad_pnil))) ad_pnil)))
def W_test_labels (S_as_set : PSp) (S_labels_of_test : PSp) (S_frozen : PSp) : WS :=
  (wRet (wCall S_as_set (wPCons (wD (wCall S_labels_of_test (wPCons (wD (wCall S_frozen (wPCons (wD (wVar 0)) wPNil))) wPNil))) wPNil)))
theorem d_test_labels {P : Program} {w : World} {K : PySem.W.Frag} {mg : Str → Option Value} {base : Heap} {k : Nat} {S_as_set : PSp} {S_labels_of_test : PSp} {S_frozen : PSp} (T : Txt K mg) (C_as_set : Cal P w K mg base "as_set" ["rows"] k S_as_set) (C_labels_of_test : Cal P w K mg base "labels_of_test" ["test"] k S_labels_of_test) (C_frozen : Cal P w K mg base "frozen" ["given"] k S_frozen) {f : Addr} {cdv : Value} {A : Around} {outer : List Env} {s : Shared} {H : Hp} {E : XK} (hr : Room k (A.deeper (envOfC "test_labels" (defScope s_test_labels) s.heap.objs.size f cdv))) :
    DSs (cxOf CX0 P w K mg base N_test_labels "test_labels" (defScope s_test_labels) f cdv A outer s H E).nox (defBody s_test_labels) (W_test_labels S_as_set S_labels_of_test S_frozen) :=
  (dss_one (ds_ret (de_callC C_as_set hr (by rfl) (dpa_cons (DE.dp (de_callC C_labels_of_test hr (by rfl) (dpa_cons (DE.dp (de_callC C_frozen hr (by rfl) (dpa_cons (DE.dp (de_var 0 (pv 0))) dpa_nil))) dpa_nil))) dpa_nil))))
theorem A_test_labels (F_as_set : Fn) (F_labels_of_test : Fn) (F_frozen : Fn) : AdS (W_test_labels (sF F_as_set) (sF F_labels_of_test) (sF F_frozen)) (B_test_labels F_as_set F_labels_of_test F_frozen) :=
  (ad_ret (ad_call (ad_pcons (ad_d (ad_call (ad_pcons (ad_d (ad_call (ad_pcons (ad_d (ad_var 0)) ad_pnil))) ad_pnil))) ad_pnil)))
def W__law_box : WS :=
  (wSeq (wAsg 2 (wIf (wB (wOp ltD (wVar 1) (wCB lenD (wCons (wVar 0) wNil)))) (wOp ixD (wVar 0) (wVar 1)) (wC (.int 0))))
    (wRetL (wLst (wCons (wOp mulD (wCB absD (wCons (wVar 2) wNil)) (wCB intT (wCons (wOp geD (wCB absD (wCons (wVar 2) wNil)) (wOp powD (wC (.int 10)) (wC (.int 18)))) wNil))) (wCons (wOp addD (wOp addD (wOp modD (wCB intT (wCons (wVar 2) wNil)) (wC (.int 2305843009213693951))) (wOp mulD (wC (.int 39373)) (wVar 1))) (wC (.int 93708))) (wCons (wC (.int 0)) wNil))))))
theorem d__law_box {P : Program} {w : World} {K : PySem.W.Frag} {mg : Str → Option Value} {base : Heap} {k : Nat} (T : Txt K mg) {f : Addr} {cdv : Value} {A : Around} {outer : List Env} {s : Shared} {H : Hp} {E : XK} (hr : Room k (A.deeper (envOfC "_law_box" (defScope s__law_box) s.heap.objs.size f cdv))) :
    DSs (cxOf CX0 P w K mg base N__law_box "_law_box" (defScope s__law_box) f cdv A outer s H E).nox (defBody s__law_box) (W__law_box) :=
  (dss_cons (ds_set (i := 2) sc__law_box.nd rfl (by first | exact Or.inl rfl | exact Or.inr rfl) (de_if (dt_lt (de_var 1 (pv 1)) (de_len (by rfl) T.z_len (de_var 0 (pv 0)))) (de_ix (de_var 0 (pv 0)) (de_var 1 (pv 1))) de_int))
    (dss_one (ds_retL (dn_lst (da_cons (de_mul (de_abs (by rfl) T.z_abs (de_var 2 (pv 2))) (de_intT (by rfl) T.z_int (de_ge (de_abs (by rfl) T.z_abs (de_var 2 (pv 2))) (de_pow de_int de_int)))) (da_cons (de_add (de_add (de_mod (de_intT (by rfl) T.z_int (de_var 2 (pv 2))) de_int) (de_mul de_int (de_var 1 (pv 1)))) de_int) (da_cons de_int da_nil)))))))
theorem A__law_box : AdS (W__law_box) (B__law_box) :=
  (ad_seq (ad_asg 2 (ad_if (ad_b (ad_op ad_cmp (ad_var 1) (ad_cb ad_len (ad_cons (ad_var 0) ad_nil)))) (ad_op ad_ix (ad_var 0) (ad_var 1)) (ad_c _))) (ad_retL (ad_lst (ad_cons (ad_op ad_mul (ad_cb ad_abs (ad_cons (ad_var 2) ad_nil)) (ad_cb ad_intT (ad_cons (ad_op ad_cmp (ad_cb ad_abs (ad_cons (ad_var 2) ad_nil)) (ad_op ad_pow (ad_c _) (ad_c _))) ad_nil))) (ad_cons (ad_op ad_add (ad_op ad_add (ad_op ad_mod (ad_cb ad_intT (ad_cons (ad_var 2) ad_nil)) (ad_c _)) (ad_op ad_mul (ad_c _) (ad_var 1))) (ad_c _)) (ad_cons (ad_c _) ad_nil))))))
def W__law_take : WS :=
  (wSeq (wIfS (wB (wOp gtD (wIxO (wO 0) (wC (.int 0))) (wC (.int 0)))) (wSeq (wAsg 2 (wOp modD (wCB intT (wCons (wIxO (wO 0) (wC (.int 0))) wNil)) (wVar 1)))
    (wSeq (wSetI 0 (wC (.int 0)) (wOp fdivD (wIxO (wO 0) (wC (.int 0))) (wVar 1)))
    (wRet (wVar 2)))) wNext)
    (wSeq (wSetI 0 (wC (.int 2)) (wOp addD (wIxO (wO 0) (wC (.int 2))) (wC (.int 1))))
    (wSeq (wAsg 3 (wOp modD (wCB intT (wCons (wOp mulD (wOp addD (wIxO (wO 0) (wC (.int 1))) (wOp mulD (wC (.int 48271)) (wIxO (wO 0) (wC (.int 2))))) (wOp addD (wC (.int 39373)) (wIxO (wO 0) (wC (.int 2))))) wNil)) (wC (.int 2147483647))))
    (wSeq (wAsg 4 (wOp addD (wOp modD (wCB intT (wCons (wVar 3) wNil)) (wC (.int 40009))) (wC (.int 7))))
    (wSeq (wAsg 5 (wOp modD (wCB intT (wCons (wOp mulD (wOp addD (wOp addD (wVar 3) (wIxO (wO 0) (wC (.int 2)))) (wOp fdivD (wIxO (wO 0) (wC (.int 1))) (wC (.int 1000003)))) (wVar 4)) wNil)) (wC (.int 2147483629))))
    (wRet (wOp modD (wCB intT (wCons (wOp fdivD (wOp modD (wCB intT (wCons (wOp addD (wOp mulD (wVar 5) (wC (.int 48271))) (wVar 3)) wNil)) (wC (.int 2147483587))) (wC (.int 64))) wNil)) (wVar 1))))))))
theorem d__law_take {P : Program} {w : World} {K : PySem.W.Frag} {mg : Str → Option Value} {base : Heap} {k : Nat} (T : Txt K mg) {f : Addr} {cdv : Value} {A : Around} {outer : List Env} {s : Shared} {H : Hp} {E : XK} (hr : Room k (A.deeper (envOfC "_law_take" (defScope s__law_take) s.heap.objs.size f cdv))) :
    DSs (cxOf CX0 P w K mg base N__law_take "_law_take" (defScope s__law_take) f cdv A outer s H E).nox (defBody s__law_take) (W__law_take) :=
  (dss_cons (ds_if (dt_gt (de_ixO (dp_own 0 (pv 0)) de_int) de_int) (dss_cons (ds_set (i := 2) sc__law_take.nd rfl (by first | exact Or.inl rfl | exact Or.inr rfl) (de_mod (de_intT (by rfl) T.z_int (de_ixO (dp_own 0 (pv 0)) de_int)) (de_var 1 (pv 1))))
    (dss_cons (ds_setI 0 (pv 0) de_int (de_fdiv (de_ixO (dp_own 0 (pv 0)) de_int) (de_var 1 (pv 1))))
    (dss_one (ds_ret (de_var 2 (pv 2)))))) dss_nil)
    (dss_cons (ds_setI 0 (pv 0) de_int (de_add (de_ixO (dp_own 0 (pv 0)) de_int) de_int))
    (dss_cons (ds_set (i := 3) sc__law_take.nd rfl (by first | exact Or.inl rfl | exact Or.inr rfl) (de_mod (de_intT (by rfl) T.z_int (de_mul (de_add (de_ixO (dp_own 0 (pv 0)) de_int) (de_mul de_int (de_ixO (dp_own 0 (pv 0)) de_int))) (de_add de_int (de_ixO (dp_own 0 (pv 0)) de_int)))) de_int))
    (dss_cons (ds_set (i := 4) sc__law_take.nd rfl (by first | exact Or.inl rfl | exact Or.inr rfl) (de_add (de_mod (de_intT (by rfl) T.z_int (de_var 3 (pv 3))) de_int) de_int))
    (dss_cons (ds_set (i := 5) sc__law_take.nd rfl (by first | exact Or.inl rfl | exact Or.inr rfl) (de_mod (de_intT (by rfl) T.z_int (de_mul (de_add (de_add (de_var 3 (pv 3)) (de_ixO (dp_own 0 (pv 0)) de_int)) (de_fdiv (de_ixO (dp_own 0 (pv 0)) de_int) de_int)) (de_var 4 (pv 4)))) de_int))
    (dss_one (ds_ret (de_mod (de_intT (by rfl) T.z_int (de_fdiv (de_mod (de_intT (by rfl) T.z_int (de_add (de_mul (de_var 5 (pv 5)) de_int) (de_var 3 (pv 3)))) de_int) de_int)) (de_var 1 (pv 1))))))))))
theorem A__law_take : AdS (W__law_take) (B__law_take) :=
  (ad_seq (ad_ifS (ad_b (ad_op ad_cmp (ad_ixO (ad_ow 0) (ad_c _)) (ad_c _))) (ad_seq (ad_asg 2 (ad_op ad_mod (ad_cb ad_intT (ad_cons (ad_ixO (ad_ow 0) (ad_c _)) ad_nil)) (ad_var 1))) (ad_seq (ad_setI 0 (ad_c _) (ad_op ad_fdiv (ad_ixO (ad_ow 0) (ad_c _)) (ad_var 1))) (ad_ret (ad_var 2)))) ad_next) (ad_seq (ad_setI 0 (ad_c _) (ad_op ad_add (ad_ixO (ad_ow 0) (ad_c _)) (ad_c _))) (ad_seq (ad_asg 3 (ad_op ad_mod (ad_cb ad_intT (ad_cons (ad_op ad_mul (ad_op ad_add (ad_ixO (ad_ow 0) (ad_c _)) (ad_op ad_mul (ad_c _) (ad_ixO (ad_ow 0) (ad_c _)))) (ad_op ad_add (ad_c _) (ad_ixO (ad_ow 0) (ad_c _)))) ad_nil)) (ad_c _))) (ad_seq (ad_asg 4 (ad_op ad_add (ad_op ad_mod (ad_cb ad_intT (ad_cons (ad_var 3) ad_nil)) (ad_c _)) (ad_c _))) (ad_seq (ad_asg 5 (ad_op ad_mod (ad_cb ad_intT (ad_cons (ad_op ad_mul (ad_op ad_add (ad_op ad_add (ad_var 3) (ad_ixO (ad_ow 0) (ad_c _))) (ad_op ad_fdiv (ad_ixO (ad_ow 0) (ad_c _)) (ad_c _))) (ad_var 4)) ad_nil)) (ad_c _))) (ad_ret (ad_op ad_mod (ad_cb ad_intT (ad_cons (ad_op ad_fdiv (ad_op ad_mod (ad_cb ad_intT (ad_cons (ad_op ad_add (ad_op ad_mul (ad_var 5) (ad_c _)) (ad_var 3)) ad_nil)) (ad_c _)) (ad_c _)) ad_nil)) (ad_var 1))))))))
def W__law_cells : WS :=
  (wSeq (wAsgL 2 (wOrL (wListO (wD (wSlS 0 wNone (wSome (wVar 1))))) (wLst (wCons (wC (.int 0)) wNil))))
    (wSeq (wFor (wEnum (wSlS 0 (wSome (wVar 1)) (wSome (wC (.int 63))))) (wgTup 2 (wgCons (wgName 3) (wgCons (wgName 4) wgNil))) (wTidy [5, 3, 4] (wSeq (wAsg 5 (wOp modD (wCB intT (wCons (wVar 3) wNil)) (wVar 1)))
    (wSetI 2 (wVar 5) (wOp addD (wIxO (wO 2) (wVar 5)) (wOp mulD (wVar 4) (wOp addD (wVar 3) (wC (.int 2)))))))))
    (wRetO 2)))
theorem d__law_cells {P : Program} {w : World} {K : PySem.W.Frag} {mg : Str → Option Value} {base : Heap} {k : Nat} (T : Txt K mg) {f : Addr} {cdv : Value} {A : Around} {outer : List Env} {s : Shared} {H : Hp} {E : XK} (hr : Room k (A.deeper (envOfC "_law_cells" (defScope s__law_cells) s.heap.objs.size f cdv))) :
    DSs (cxOf CX0 P w K mg base N__law_cells "_law_cells" (defScope s__law_cells) f cdv A outer s H E).nox (defBody s__law_cells) (W__law_cells) :=
  (dss_cons (ds_setL (i := 2) sc__law_cells.nd rfl (by first | exact Or.inl rfl | exact Or.inr rfl) (dn_or (dn_listO (by rfl) T.z_list (DE.dp (de_sliceS 0 (pv 0) do_none (do_some (de_var 1 (pv 1)))))) (dn_lst (da_cons de_int da_nil))))
    (dss_cons (ds_for PassesOwn.never rfl (di_enum (by rfl) T.z_enumerate (de_sliceS 0 (pv 0) (do_some (de_var 1 (pv 1))) (do_some de_int))) (dg_tup rfl (dgs_cons (dg_name (i := 3) sc__law_cells.nd rfl (by first | exact Or.inl rfl | exact Or.inr rfl)) (dgs_cons (dg_name (i := 4) sc__law_cells.nd rfl (by first | exact Or.inl rfl | exact Or.inr rfl)) dgs_nil))) (dss_tidy [5, 3, 4] (dss_cons (ds_set (i := 5) sc__law_cells.nd rfl (by first | exact Or.inl rfl | exact Or.inr rfl) (de_mod (de_intT (by rfl) T.z_int (de_var 3 (pv 3))) (de_var 1 (pv 1))))
    (dss_one (ds_setI 2 (pv 2) (de_var 5 (pv 5)) (de_add (de_ixO (dp_own 2 (pv 2)) (de_var 5 (pv 5))) (de_mul (de_var 4 (pv 4)) (de_add (de_var 3 (pv 3)) de_int))))))))
    (dss_one (ds_retO 2 (pv 2)))))
theorem A__law_cells : AdS (W__law_cells) (B__law_cells) :=
  (ad_seq (ad_asgL 2 (ad_orL (ad_listO (ad_d (ad_slS 0 ad_none (ad_some (ad_var 1))))) (ad_lst (ad_cons (ad_c _) ad_nil)))) (ad_seq (ad_for (ad_enum (ad_slS 0 (ad_some (ad_var 1)) (ad_some (ad_c _)))) (ad_gtup 2 (ad_gcons (ad_gname 3) (ad_gcons (ad_gname 4) ad_gnil))) (ad_tidy [5, 3, 4] (ad_seq (ad_asg 5 (ad_op ad_mod (ad_cb ad_intT (ad_cons (ad_var 3) ad_nil)) (ad_var 1))) (ad_setI 2 (ad_var 5) (ad_op ad_add (ad_ixO (ad_ow 2) (ad_var 5)) (ad_op ad_mul (ad_var 4) (ad_op ad_add (ad_var 3) (ad_c _)))))))) (ad_retO 2)))
def W__law_of (S__law_take : PSp) : WS :=
  (wRet (wOp ixD (wVar 1) (wCall S__law_take (wPCons (wO 0) (wPCons (wD (wCB lenD (wCons (wVar 1) wNil))) wPNil)))))
theorem d__law_of {P : Program} {w : World} {K : PySem.W.Frag} {mg : Str → Option Value} {base : Heap} {k : Nat} {S__law_take : PSp} (T : Txt K mg) (C__law_take : Cal P w K mg base "_law_take" ["box", "size_so"] k S__law_take) {f : Addr} {cdv : Value} {A : Around} {outer : List Env} {s : Shared} {H : Hp} {E : XK} (hr : Room k (A.deeper (envOfC "_law_of" (defScope s__law_of) s.heap.objs.size f cdv))) :
    DSs (cxOf CX0 P w K mg base N__law_of "_law_of" (defScope s__law_of) f cdv A outer s H E).nox (defBody s__law_of) (W__law_of S__law_take) :=
  (dss_one (ds_ret (de_ix (de_var 1 (pv 1)) (de_callC C__law_take hr (by rfl) (dpa_cons (dp_own 0 (pv 0)) (dpa_cons (DE.dp (de_len (by rfl) T.z_len (de_var 1 (pv 1)))) dpa_nil))))))
theorem A__law_of (F__law_take : Fn) : AdS (W__law_of (sF F__law_take)) (B__law_of F__law_take) :=
  (ad_ret (ad_op ad_ix (ad_var 1) (ad_call (ad_pcons (ad_ow 0) (ad_pcons (ad_d (ad_cb ad_len (ad_cons (ad_var 1) ad_nil))) ad_pnil)))))
def W__law_same (S__law_same : PSp) : WS :=
  (wSeq (wIfS (wB (wIsi2 "list" "tuple" (wVar 1))) (wSeq (wIfS (wB (wOp neD (wIsi "list" (wVar 0)) (wIsi "list" (wVar 1)))) (wRet (wC (.bool false))) wNext)
    (wSeq (wIfS (wB (wOp neD (wIsi "tuple" (wVar 0)) (wIsi "tuple" (wVar 1)))) (wRet (wC (.bool false))) wNext)
    (wRet (wAndV (wOp eqD (wCB lenD (wCons (wVar 0) wNil)) (wCB lenD (wCons (wVar 1) wNil))) (wCB allB (wCons (wL (wLc (wZip (wVar 0) (wVar 1)) (wgTup 2 (wgCons (wgName 2) (wgCons (wgName 3) wgNil))) wYes (wCall S__law_same (wPCons (wD (wVar 2)) (wPCons (wD (wVar 3)) wPNil))) [2, 3])) wNil)))))) wNext)
    (wSeq (wIfS (wOr (wB (wOp isND (wVar 1) (wC .none))) (wB (wIsi2 "bool" "str" (wVar 1)))) (wRet (wAndV (wOp eqD (wVar 0) (wVar 1)) (wAndV (wOp eqD (wIsi "bool" (wVar 0)) (wIsi "bool" (wVar 1))) (wOp eqD (wOp isND (wVar 0) (wC .none)) (wOp isND (wVar 1) (wC .none)))))) wNext)
    (wRet (wAndV (wIsi "int" (wVar 0)) (wAndV (wNotV (wIsi "bool" (wVar 0))) (wOp eqD (wVar 0) (wVar 1)))))))
theorem d__law_same {P : Program} {w : World} {K : PySem.W.Frag} {mg : Str → Option Value} {base : Heap} {k : Nat} {S__law_same : PSp} (T : Txt K mg) (C__law_same : Cal P w K mg base "_law_same" ["got", "due"] k S__law_same) {f : Addr} {cdv : Value} {A : Around} {outer : List Env} {s : Shared} {H : Hp} {E : XK} (hr : Room k (A.deeper (envOfC "_law_same" (defScope s__law_same) s.heap.objs.size f cdv))) :
    DSs (cxOf CX0 P w K mg base N__law_same "_law_same" (defScope s__law_same) f cdv A outer s H E).nox (defBody s__law_same) (W__law_same S__law_same) :=
  (dss_cons (ds_if (dt_val (de_isi2 (by rfl) T.z_isinstance kit_list kit_tuple (pe_ty (by rfl) T.z_list (by decide +kernel)) (pe_ty (by rfl) T.z_tuple (by decide +kernel)) (de_var 1 (pv 1)))) (dss_cons (ds_if (dt_ne hr.units (de_isi (by rfl) T.z_isinstance kit_list (pe_ty (by rfl) T.z_list (by decide +kernel)) (de_var 0 (pv 0))) (de_isi (by rfl) T.z_isinstance kit_list (pe_ty (by rfl) T.z_list (by decide +kernel)) (de_var 1 (pv 1)))) (dss_one (ds_ret de_bl)) dss_nil)
    (dss_cons (ds_if (dt_ne hr.units (de_isi (by rfl) T.z_isinstance kit_tuple (pe_ty (by rfl) T.z_tuple (by decide +kernel)) (de_var 0 (pv 0))) (de_isi (by rfl) T.z_isinstance kit_tuple (pe_ty (by rfl) T.z_tuple (by decide +kernel)) (de_var 1 (pv 1)))) (dss_one (ds_ret de_bl)) dss_nil)
    (dss_one (ds_ret (de_and (de_eq hr.units (de_len (by rfl) T.z_len (de_var 0 (pv 0))) (de_len (by rfl) T.z_len (de_var 1 (pv 1)))) (de_one (de_all rfl (by rfl) T.z_all (DN.de (dn_lc rfl sc__law_same.nd (own := [("a_so", 2), ("b_so", 3)]) (di_zip (by rfl) T.z_zip (de_var 0 (pv 0)) (de_var 1 (pv 1))) (blkOk_by (own := [("a_so", 2), ("b_so", 3)]) (N := N__law_same) (sc := defScope s__law_same) (by decide +kernel)) (fun _ _ _ _ _ => (dg_tup rfl (dgs_cons (dg_name (i := 2) sc__law_same.nd rfl (by first | exact Or.inl rfl | exact Or.inr rfl)) (dgs_cons (dg_name (i := 3) sc__law_same.nd rfl (by first | exact Or.inl rfl | exact Or.inr rfl)) dgs_nil)))) (fun _ _ _ _ _ => dts_nil) (fun _ _ _ _ _ => (de_callC C__law_same hr (by rfl) (dpa_cons (DE.dp (de_var 2 (pv 2))) (dpa_cons (DE.dp (de_var 3 (pv 3))) dpa_nil)))) (by decide)))))))))) dss_nil)
    (dss_cons (ds_if (DW.dt (dw_or (dt_isN (de_var 1 (pv 1)) de_non) (dw_or1 (dt_val (de_isi2 (by rfl) T.z_isinstance kit_bool kit_str (pe_ty (by rfl) T.z_bool (by decide +kernel)) (pe_ty (by rfl) T.z_str (by decide +kernel)) (de_var 1 (pv 1))))))) (dss_one (ds_ret (de_and (de_eq hr.units (de_var 0 (pv 0)) (de_var 1 (pv 1))) (de_and (de_eq hr.units (de_isi (by rfl) T.z_isinstance kit_bool (pe_ty (by rfl) T.z_bool (by decide +kernel)) (de_var 0 (pv 0))) (de_isi (by rfl) T.z_isinstance kit_bool (pe_ty (by rfl) T.z_bool (by decide +kernel)) (de_var 1 (pv 1)))) (de_one (de_eq hr.units (de_isN (de_var 0 (pv 0)) de_non) (de_isN (de_var 1 (pv 1)) de_non))))))) dss_nil)
    (dss_one (ds_ret (de_and (de_isi (by rfl) T.z_isinstance kit_int (pe_ty (by rfl) T.z_int (by decide +kernel)) (de_var 0 (pv 0))) (de_and (de_not (de_isi (by rfl) T.z_isinstance kit_bool (pe_ty (by rfl) T.z_bool (by decide +kernel)) (de_var 0 (pv 0)))) (de_one (de_eq hr.units (de_var 0 (pv 0)) (de_var 1 (pv 1))))))))))
theorem A__law_same (F__law_same : Fn) : AdS (W__law_same (sF F__law_same)) (B__law_same F__law_same) :=
  (ad_seq (ad_ifS (ad_b (ad_isi2 .list .tuple (ad_var 1))) (ad_seq (ad_ifS (ad_b (ad_op ad_ne (ad_isi .list (ad_var 0)) (ad_isi .list (ad_var 1)))) (ad_ret (ad_c _)) ad_next) (ad_seq (ad_ifS (ad_b (ad_op ad_ne (ad_isi .tuple (ad_var 0)) (ad_isi .tuple (ad_var 1)))) (ad_ret (ad_c _)) ad_next) (ad_ret (ad_andV (ad_op ad_eq (ad_cb ad_len (ad_cons (ad_var 0) ad_nil)) (ad_cb ad_len (ad_cons (ad_var 1) ad_nil))) (ad_cb ad_all (ad_cons (ad_l (ad_lc (ad_zip (ad_var 0) (ad_var 1)) (ad_gtup 2 (ad_gcons (ad_gname 2) (ad_gcons (ad_gname 3) ad_gnil))) ad_yes (ad_call (ad_pcons (ad_d (ad_var 2)) (ad_pcons (ad_d (ad_var 3)) ad_pnil))))) ad_nil)))))) ad_next) (ad_seq (ad_ifS (ad_or (ad_b (ad_op ad_isN (ad_var 1) (ad_c _))) (ad_b (ad_isi2 .bool .str (ad_var 1)))) (ad_ret (ad_andV (ad_op ad_eq (ad_var 0) (ad_var 1)) (ad_andV (ad_op ad_eq (ad_isi .bool (ad_var 0)) (ad_isi .bool (ad_var 1))) (ad_op ad_eq (ad_op ad_isN (ad_var 0) (ad_c _)) (ad_op ad_isN (ad_var 1) (ad_c _)))))) ad_next) (ad_ret (ad_andV (ad_isi .int (ad_var 0)) (ad_andV (ad_notV (ad_isi .bool (ad_var 0))) (ad_op ad_eq (ad_var 0) (ad_var 1)))))))
def W__law_lists (S__law_lists : PSp) : WS :=
  (wRet (wIf (wB (wIsi2 "list" "tuple" (wVar 0))) (wL (wLc (wSeqI (wVar 0)) (wgName 1) wYes (wCall S__law_lists (wPCons (wD (wVar 1)) wPNil)) [1])) (wVar 0)))
theorem d__law_lists {P : Program} {w : World} {K : PySem.W.Frag} {mg : Str → Option Value} {base : Heap} {k : Nat} {S__law_lists : PSp} (T : Txt K mg) (C__law_lists : Cal P w K mg base "_law_lists" ["matter"] k S__law_lists) {f : Addr} {cdv : Value} {A : Around} {outer : List Env} {s : Shared} {H : Hp} {E : XK} (hr : Room k (A.deeper (envOfC "_law_lists" (defScope s__law_lists) s.heap.objs.size f cdv))) :
    DSs (cxOf CX0 P w K mg base N__law_lists "_law_lists" (defScope s__law_lists) f cdv A outer s H E).nox (defBody s__law_lists) (W__law_lists S__law_lists) :=
  (dss_one (ds_ret (de_if (dt_val (de_isi2 (by rfl) T.z_isinstance kit_list kit_tuple (pe_ty (by rfl) T.z_list (by decide +kernel)) (pe_ty (by rfl) T.z_tuple (by decide +kernel)) (de_var 0 (pv 0)))) (DN.de (dn_lc rfl sc__law_lists.nd (own := [("bit", 1)]) (di_seq (de_var 0 (pv 0))) (blkOk_by (own := [("bit", 1)]) (N := N__law_lists) (sc := defScope s__law_lists) (by decide +kernel)) (fun _ _ _ _ _ => (dg_name (i := 1) sc__law_lists.nd rfl (by first | exact Or.inl rfl | exact Or.inr rfl))) (fun _ _ _ _ _ => dts_nil) (fun _ _ _ _ _ => (de_callC C__law_lists hr (by rfl) (dpa_cons (DE.dp (de_var 1 (pv 1))) dpa_nil))) (by decide))) (de_var 0 (pv 0)))))
theorem A__law_lists (F__law_lists : Fn) : AdS (W__law_lists (sF F__law_lists)) (B__law_lists F__law_lists) :=
  (ad_ret (ad_if (ad_b (ad_isi2 .list .tuple (ad_var 0))) (ad_l (ad_lc (ad_seqI (ad_var 0)) (ad_gname 1) ad_yes (ad_call (ad_pcons (ad_d (ad_var 1)) ad_pnil)))) (ad_var 0)))
def W__law_value (S__law_take : PSp) (S__law_of : PSp) (S__law_value : PSp) : WS :=
  (wSeq (wIfS (wOr (wB (wOp eqD (wVar 1) (wC (.int 0)))) (wB (wOp eqD (wCall S__law_take (wPCons (wO 0) (wPCons (wD (wC (.int 3))) wPNil))) (wC (.int 0))))) (wSeq (wIfS (wAnd (wB (wOp neD (wVar 2) (wL (wLst wNil)))) (wB (wOp eqD (wCall S__law_take (wPCons (wO 0) (wPCons (wD (wC (.int 2))) wPNil))) (wC (.int 0))))) (wRet (wTup (wCons (wC (.str "cell")) (wCons (wCall S__law_of (wPCons (wO 0) (wPCons (wD (wVar 2)) wPNil))) wNil)))) wNext)
    (wRet (wTup (wCons (wC (.str "number")) (wCons (wCall S__law_take (wPCons (wO 0) (wPCons (wD (wC (.int 10))) wPNil))) wNil))))) wNext)
    (wSeq (wAsg 3 (wCall S__law_of (wPCons (wO 0) (wPCons (wD (wL (wLst (wCons (wC (.str "sum")) (wCons (wC (.str "gap")) (wCons (wC (.str "times")) wNil)))))) wPNil))))
    (wSeq (wAsg 4 (wCall S__law_value (wPCons (wO 0) (wPCons (wD (wOp subD (wVar 1) (wC (.int 1)))) (wPCons (wD (wVar 2)) wPNil)))))
    (wRet (wTup (wCons (wVar 3) (wCons (wVar 4) (wCons (wCall S__law_value (wPCons (wO 0) (wPCons (wD (wOp subD (wVar 1) (wC (.int 1)))) (wPCons (wD (wVar 2)) wPNil)))) wNil))))))))
theorem d__law_value {P : Program} {w : World} {K : PySem.W.Frag} {mg : Str → Option Value} {base : Heap} {k : Nat} {S__law_take : PSp} {S__law_of : PSp} {S__law_value : PSp} (T : Txt K mg) (C__law_take : Cal P w K mg base "_law_take" ["box", "size_so"] k S__law_take) (C__law_of : Cal P w K mg base "_law_of" ["box", "goods_so"] k S__law_of) (C__law_value : Cal P w K mg base "_law_value" ["box", "deep", "cells_so"] k S__law_value) {f : Addr} {cdv : Value} {A : Around} {outer : List Env} {s : Shared} {H : Hp} {E : XK} (hr : Room k (A.deeper (envOfC "_law_value" (defScope s__law_value) s.heap.objs.size f cdv))) :
    DSs (cxOf CX0 P w K mg base N__law_value "_law_value" (defScope s__law_value) f cdv A outer s H E).nox (defBody s__law_value) (W__law_value S__law_take S__law_of S__law_value) :=
  (dss_cons (ds_if (DW.dt (dw_or (dt_eq hr.units (de_var 1 (pv 1)) de_int) (dw_or1 (dt_eq hr.units (de_callC C__law_take hr (by rfl) (dpa_cons (dp_own 0 (pv 0)) (dpa_cons (DE.dp de_int) dpa_nil))) de_int)))) (dss_cons (ds_if (DW.dt (dw_and (dt_ne hr.units (de_var 2 (pv 2)) (DN.de (dn_lst da_nil))) (dw_and1 (dt_eq hr.units (de_callC C__law_take hr (by rfl) (dpa_cons (dp_own 0 (pv 0)) (dpa_cons (DE.dp de_int) dpa_nil))) de_int)))) (dss_one (ds_ret (de_tup (da_cons de_str (da_cons (de_callC C__law_of hr (by rfl) (dpa_cons (dp_own 0 (pv 0)) (dpa_cons (DE.dp (de_var 2 (pv 2))) dpa_nil))) da_nil))))) dss_nil)
    (dss_one (ds_ret (de_tup (da_cons de_str (da_cons (de_callC C__law_take hr (by rfl) (dpa_cons (dp_own 0 (pv 0)) (dpa_cons (DE.dp de_int) dpa_nil))) da_nil)))))) dss_nil)
    (dss_cons (ds_set (i := 3) sc__law_value.nd rfl (by first | exact Or.inl rfl | exact Or.inr rfl) (de_callC C__law_of hr (by rfl) (dpa_cons (dp_own 0 (pv 0)) (dpa_cons (DE.dp (DN.de (dn_lst (da_cons de_str (da_cons de_str (da_cons de_str da_nil)))))) dpa_nil))))
    (dss_cons (ds_set (i := 4) sc__law_value.nd rfl (by first | exact Or.inl rfl | exact Or.inr rfl) (de_callC C__law_value hr (by rfl) (dpa_cons (dp_own 0 (pv 0)) (dpa_cons (DE.dp (de_sub (de_var 1 (pv 1)) de_int)) (dpa_cons (DE.dp (de_var 2 (pv 2))) dpa_nil)))))
    (dss_one (ds_ret (de_tup (da_cons (de_var 3 (pv 3)) (da_cons (de_var 4 (pv 4)) (da_cons (de_callC C__law_value hr (by rfl) (dpa_cons (dp_own 0 (pv 0)) (dpa_cons (DE.dp (de_sub (de_var 1 (pv 1)) de_int)) (dpa_cons (DE.dp (de_var 2 (pv 2))) dpa_nil)))) da_nil)))))))))
theorem A__law_value (F__law_take : Fn) (F__law_of : Fn) (F__law_value : Fn) : AdS (W__law_value (sF F__law_take) (sF F__law_of) (sF F__law_value)) (B__law_value F__law_take F__law_of F__law_value) :=
  (ad_seq (ad_ifS (ad_or (ad_b (ad_op ad_eq (ad_var 1) (ad_c _))) (ad_b (ad_op ad_eq (ad_call (ad_pcons (ad_ow 0) (ad_pcons (ad_d (ad_c _)) ad_pnil))) (ad_c _)))) (ad_seq (ad_ifS (ad_and (ad_b (ad_op ad_ne (ad_var 2) (ad_l (ad_lst ad_nil)))) (ad_b (ad_op ad_eq (ad_call (ad_pcons (ad_ow 0) (ad_pcons (ad_d (ad_c _)) ad_pnil))) (ad_c _)))) (ad_ret (ad_tup (ad_cons (ad_cs qt_cell) (ad_cons (ad_call (ad_pcons (ad_ow 0) (ad_pcons (ad_d (ad_var 2)) ad_pnil))) ad_nil)))) ad_next) (ad_ret (ad_tup (ad_cons (ad_cs qt_number) (ad_cons (ad_call (ad_pcons (ad_ow 0) (ad_pcons (ad_d (ad_c _)) ad_pnil))) ad_nil))))) ad_next) (ad_seq (ad_asg 3 (ad_call (ad_pcons (ad_ow 0) (ad_pcons (ad_d (ad_l (ad_lst (ad_cons (ad_cs qt_sum) (ad_cons (ad_cs qt_gap) (ad_cons (ad_cs qt_times) ad_nil)))))) ad_pnil)))) (ad_seq (ad_asg 4 (ad_call (ad_pcons (ad_ow 0) (ad_pcons (ad_d (ad_op ad_sub (ad_var 1) (ad_c _))) (ad_pcons (ad_d (ad_var 2)) ad_pnil))))) (ad_ret (ad_tup (ad_cons (ad_var 3) (ad_cons (ad_var 4) (ad_cons (ad_call (ad_pcons (ad_ow 0) (ad_pcons (ad_d (ad_op ad_sub (ad_var 1) (ad_c _))) (ad_pcons (ad_d (ad_var 2)) ad_pnil)))) ad_nil))))))))
def W__law_test (S__law_take : PSp) (S__law_test : PSp) (S__law_of : PSp) (S__law_value : PSp) : WS :=
  (wSeq (wAsg 5 (wIf (wB (wOp gtD (wVar 1) (wC (.int 0)))) (wCall S__law_take (wPCons (wO 0) (wPCons (wD (wC (.int 6))) wPNil))) (wOp addD (wC (.int 3)) (wCall S__law_take (wPCons (wO 0) (wPCons (wD (wC (.int 3))) wPNil))))))
    (wSeq (wIfS (wB (wOp eqD (wVar 5) (wC (.int 0)))) (wRet (wTup (wCons (wC (.str "not")) (wCons (wCall S__law_test (wPCons (wO 0) (wPCons (wD (wOp subD (wVar 1) (wC (.int 1)))) (wPCons (wD (wVar 2)) (wPCons (wD (wVar 3)) (wPCons (wD (wVar 4)) wPNil)))))) wNil)))) wNext)
    (wSeq (wIfS (wB (wOp ltD (wVar 5) (wC (.int 3)))) (wSeq (wAsg 6 (wCall S__law_test (wPCons (wO 0) (wPCons (wD (wOp subD (wVar 1) (wC (.int 1)))) (wPCons (wD (wVar 2)) (wPCons (wD (wVar 3)) (wPCons (wD (wVar 4)) wPNil)))))))
    (wRet (wTup (wCons (wOp ixD (wL (wLst (wCons (wC (.str "and")) (wCons (wC (.str "or")) wNil)))) (wOp subD (wVar 5) (wC (.int 1)))) (wCons (wVar 6) (wCons (wCall S__law_test (wPCons (wO 0) (wPCons (wD (wOp subD (wVar 1) (wC (.int 1)))) (wPCons (wD (wVar 2)) (wPCons (wD (wVar 3)) (wPCons (wD (wVar 4)) wPNil)))))) wNil)))))) wNext)
    (wSeq (wIfS (wAnd (wB (wOp eqD (wVar 5) (wC (.int 3)))) (wB (wOp neD (wVar 3) (wL (wLst wNil))))) (wRet (wTup (wCons (wCall S__law_of (wPCons (wO 0) (wPCons (wD (wL (wLst (wCons (wC (.str "empty")) (wCons (wC (.str "full")) wNil))))) wPNil))) (wCons (wCall S__law_of (wPCons (wO 0) (wPCons (wD (wVar 3)) wPNil))) wNil)))) wNext)
    (wSeq (wIfS (wAnd (wB (wOp eqD (wVar 5) (wC (.int 4)))) (wB (wOp neD (wVar 4) (wL (wLst wNil))))) (wRet (wOp addD (wTup (wCons (wC (.str "stands")) wNil)) (wCall S__law_of (wPCons (wO 0) (wPCons (wD (wVar 4)) wPNil))))) wNext)
    (wSeq (wPar 7 6 (wCall S__law_of (wPCons (wO 0) (wPCons (wD (wL (wLst (wCons (wC (.str "same")) (wCons (wC (.str "less")) wNil))))) wPNil))) (wCall S__law_value (wPCons (wO 0) (wPCons (wD (wC (.int 1))) (wPCons (wD (wVar 2)) wPNil)))))
    (wRet (wTup (wCons (wVar 7) (wCons (wVar 6) (wCons (wCall S__law_value (wPCons (wO 0) (wPCons (wD (wC (.int 1))) (wPCons (wD (wVar 2)) wPNil)))) wNil)))))))))))
theorem d__law_test {P : Program} {w : World} {K : PySem.W.Frag} {mg : Str → Option Value} {base : Heap} {k : Nat} {S__law_take : PSp} {S__law_test : PSp} {S__law_of : PSp} {S__law_value : PSp} (T : Txt K mg) (C__law_take : Cal P w K mg base "_law_take" ["box", "size_so"] k S__law_take) (C__law_test : Cal P w K mg base "_law_test" ["box", "deep", "cells_so", "lanes_so", "marks_so"] k S__law_test) (C__law_of : Cal P w K mg base "_law_of" ["box", "goods_so"] k S__law_of) (C__law_value : Cal P w K mg base "_law_value" ["box", "deep", "cells_so"] k S__law_value) {f : Addr} {cdv : Value} {A : Around} {outer : List Env} {s : Shared} {H : Hp} {E : XK} (hr : Room k (A.deeper (envOfC "_law_test" (defScope s__law_test) s.heap.objs.size f cdv))) :
    DSs (cxOf CX0 P w K mg base N__law_test "_law_test" (defScope s__law_test) f cdv A outer s H E).nox (defBody s__law_test) (W__law_test S__law_take S__law_test S__law_of S__law_value) :=
  (dss_cons (ds_set (i := 5) sc__law_test.nd rfl (by first | exact Or.inl rfl | exact Or.inr rfl) (de_if (dt_gt (de_var 1 (pv 1)) de_int) (de_callC C__law_take hr (by rfl) (dpa_cons (dp_own 0 (pv 0)) (dpa_cons (DE.dp de_int) dpa_nil))) (de_add de_int (de_callC C__law_take hr (by rfl) (dpa_cons (dp_own 0 (pv 0)) (dpa_cons (DE.dp de_int) dpa_nil))))))
    (dss_cons (ds_if (dt_eq hr.units (de_var 5 (pv 5)) de_int) (dss_one (ds_ret (de_tup (da_cons de_str (da_cons (de_callC C__law_test hr (by rfl) (dpa_cons (dp_own 0 (pv 0)) (dpa_cons (DE.dp (de_sub (de_var 1 (pv 1)) de_int)) (dpa_cons (DE.dp (de_var 2 (pv 2))) (dpa_cons (DE.dp (de_var 3 (pv 3))) (dpa_cons (DE.dp (de_var 4 (pv 4))) dpa_nil)))))) da_nil))))) dss_nil)
    (dss_cons (ds_if (dt_lt (de_var 5 (pv 5)) de_int) (dss_cons (ds_set (i := 6) sc__law_test.nd rfl (by first | exact Or.inl rfl | exact Or.inr rfl) (de_callC C__law_test hr (by rfl) (dpa_cons (dp_own 0 (pv 0)) (dpa_cons (DE.dp (de_sub (de_var 1 (pv 1)) de_int)) (dpa_cons (DE.dp (de_var 2 (pv 2))) (dpa_cons (DE.dp (de_var 3 (pv 3))) (dpa_cons (DE.dp (de_var 4 (pv 4))) dpa_nil)))))))
    (dss_one (ds_ret (de_tup (da_cons (de_ix (DN.de (dn_lst (da_cons de_str (da_cons de_str da_nil)))) (de_sub (de_var 5 (pv 5)) de_int)) (da_cons (de_var 6 (pv 6)) (da_cons (de_callC C__law_test hr (by rfl) (dpa_cons (dp_own 0 (pv 0)) (dpa_cons (DE.dp (de_sub (de_var 1 (pv 1)) de_int)) (dpa_cons (DE.dp (de_var 2 (pv 2))) (dpa_cons (DE.dp (de_var 3 (pv 3))) (dpa_cons (DE.dp (de_var 4 (pv 4))) dpa_nil)))))) da_nil))))))) dss_nil)
    (dss_cons (ds_if (DW.dt (dw_and (dt_eq hr.units (de_var 5 (pv 5)) de_int) (dw_and1 (dt_ne hr.units (de_var 3 (pv 3)) (DN.de (dn_lst da_nil)))))) (dss_one (ds_ret (de_tup (da_cons (de_callC C__law_of hr (by rfl) (dpa_cons (dp_own 0 (pv 0)) (dpa_cons (DE.dp (DN.de (dn_lst (da_cons de_str (da_cons de_str da_nil))))) dpa_nil))) (da_cons (de_callC C__law_of hr (by rfl) (dpa_cons (dp_own 0 (pv 0)) (dpa_cons (DE.dp (de_var 3 (pv 3))) dpa_nil))) da_nil))))) dss_nil)
    (dss_cons (ds_if (DW.dt (dw_and (dt_eq hr.units (de_var 5 (pv 5)) de_int) (dw_and1 (dt_ne hr.units (de_var 4 (pv 4)) (DN.de (dn_lst da_nil)))))) (dss_one (ds_ret (de_add (de_tup (da_cons de_str da_nil)) (de_callC C__law_of hr (by rfl) (dpa_cons (dp_own 0 (pv 0)) (dpa_cons (DE.dp (de_var 4 (pv 4))) dpa_nil)))))) dss_nil)
    (dss_cons (ds_par (i := 7) (j := 6) rfl sc__law_test.nd rfl rfl (by decide) rfl rfl (de_callC C__law_of hr (by rfl) (dpa_cons (dp_own 0 (pv 0)) (dpa_cons (DE.dp (DN.de (dn_lst (da_cons de_str (da_cons de_str da_nil))))) dpa_nil))) (de_callC C__law_value hr (by rfl) (dpa_cons (dp_own 0 (pv 0)) (dpa_cons (DE.dp de_int) (dpa_cons (DE.dp (de_var 2 (pv 2))) dpa_nil)))) (by rfl))
    (dss_one (ds_ret (de_tup (da_cons (de_var 7 (pv 7)) (da_cons (de_var 6 (pv 6)) (da_cons (de_callC C__law_value hr (by rfl) (dpa_cons (dp_own 0 (pv 0)) (dpa_cons (DE.dp de_int) (dpa_cons (DE.dp (de_var 2 (pv 2))) dpa_nil)))) da_nil))))))))))))
theorem A__law_test (F__law_take : Fn) (F__law_test : Fn) (F__law_of : Fn) (F__law_value : Fn) : AdS (W__law_test (sF F__law_take) (sF F__law_test) (sF F__law_of) (sF F__law_value)) (B__law_test F__law_take F__law_test F__law_of F__law_value) :=
  (ad_seq (ad_asg 5 (ad_if (ad_b (ad_op ad_cmp (ad_var 1) (ad_c _))) (ad_call (ad_pcons (ad_ow 0) (ad_pcons (ad_d (ad_c _)) ad_pnil))) (ad_op ad_add (ad_c _) (ad_call (ad_pcons (ad_ow 0) (ad_pcons (ad_d (ad_c _)) ad_pnil)))))) (ad_seq (ad_ifS (ad_b (ad_op ad_eq (ad_var 5) (ad_c _))) (ad_ret (ad_tup (ad_cons (ad_cs qt_not) (ad_cons (ad_call (ad_pcons (ad_ow 0) (ad_pcons (ad_d (ad_op ad_sub (ad_var 1) (ad_c _))) (ad_pcons (ad_d (ad_var 2)) (ad_pcons (ad_d (ad_var 3)) (ad_pcons (ad_d (ad_var 4)) ad_pnil)))))) ad_nil)))) ad_next) (ad_seq (ad_ifS (ad_b (ad_op ad_cmp (ad_var 5) (ad_c _))) (ad_seq (ad_asg 6 (ad_call (ad_pcons (ad_ow 0) (ad_pcons (ad_d (ad_op ad_sub (ad_var 1) (ad_c _))) (ad_pcons (ad_d (ad_var 2)) (ad_pcons (ad_d (ad_var 3)) (ad_pcons (ad_d (ad_var 4)) ad_pnil))))))) (ad_ret (ad_tup (ad_cons (ad_op ad_ix (ad_l (ad_lst (ad_cons (ad_cs qt_and) (ad_cons (ad_cs qt_or) ad_nil)))) (ad_op ad_sub (ad_var 5) (ad_c _))) (ad_cons (ad_var 6) (ad_cons (ad_call (ad_pcons (ad_ow 0) (ad_pcons (ad_d (ad_op ad_sub (ad_var 1) (ad_c _))) (ad_pcons (ad_d (ad_var 2)) (ad_pcons (ad_d (ad_var 3)) (ad_pcons (ad_d (ad_var 4)) ad_pnil)))))) ad_nil)))))) ad_next) (ad_seq (ad_ifS (ad_and (ad_b (ad_op ad_eq (ad_var 5) (ad_c _))) (ad_b (ad_op ad_ne (ad_var 3) (ad_l (ad_lst ad_nil))))) (ad_ret (ad_tup (ad_cons (ad_call (ad_pcons (ad_ow 0) (ad_pcons (ad_d (ad_l (ad_lst (ad_cons (ad_cs qt_empty) (ad_cons (ad_cs qt_full) ad_nil))))) ad_pnil))) (ad_cons (ad_call (ad_pcons (ad_ow 0) (ad_pcons (ad_d (ad_var 3)) ad_pnil))) ad_nil)))) ad_next) (ad_seq (ad_ifS (ad_and (ad_b (ad_op ad_eq (ad_var 5) (ad_c _))) (ad_b (ad_op ad_ne (ad_var 4) (ad_l (ad_lst ad_nil))))) (ad_ret (ad_op ad_add (ad_tup (ad_cons (ad_cs qt_stands) ad_nil)) (ad_call (ad_pcons (ad_ow 0) (ad_pcons (ad_d (ad_var 4)) ad_pnil))))) ad_next) (ad_seq (ad_par 7 6 (ad_call (ad_pcons (ad_ow 0) (ad_pcons (ad_d (ad_l (ad_lst (ad_cons (ad_cs qt_same) (ad_cons (ad_cs qt_less) ad_nil))))) ad_pnil))) (ad_call (ad_pcons (ad_ow 0) (ad_pcons (ad_d (ad_c _)) (ad_pcons (ad_d (ad_var 2)) ad_pnil))))) (ad_ret (ad_tup (ad_cons (ad_var 7) (ad_cons (ad_var 6) (ad_cons (ad_call (ad_pcons (ad_ow 0) (ad_pcons (ad_d (ad_c _)) (ad_pcons (ad_d (ad_var 2)) ad_pnil)))) ad_nil)))))))))))
def W__law_bits : WS :=
  (wSeq (wAsgL 1 (wLst wNil))
    (wSeq (wFor (wRng1 (wC (.int 60))) (wgName 2) (wTidy [2, 3] (wIfS (wB (wNeO (wO 0) (wL (wLst wNil)))) (wSeq (wAsg 3 (wPop 0))
    (wSeq (wApp 1 (wVar 3))
    (wAsgL 0 (wAddO (wO 0) (wL (wLc (wSeqI (wSl (wVar 3) (wSome (wC (.int 1))) wNone)) (wgName 4) (wB (wIsi "tuple" (wVar 4))) (wVar 4) [4])))))) wNext)))
    (wRetO 1)))
theorem d__law_bits {P : Program} {w : World} {K : PySem.W.Frag} {mg : Str → Option Value} {base : Heap} {k : Nat} (T : Txt K mg) {f : Addr} {cdv : Value} {A : Around} {outer : List Env} {s : Shared} {H : Hp} {E : XK} (hr : Room k (A.deeper (envOfC "_law_bits" (defScope s__law_bits) s.heap.objs.size f cdv))) :
    DSs (cxOf CX0 P w K mg base N__law_bits "_law_bits" (defScope s__law_bits) f cdv A outer s H E).nox (defBody s__law_bits) (W__law_bits) :=
  (dss_cons (ds_setL (i := 1) sc__law_bits.nd rfl (by first | exact Or.inl rfl | exact Or.inr rfl) (dn_lst da_nil))
    (dss_cons (ds_for PassesOwn.never rfl (di_range1 (by rfl) T.z_range de_int) (dg_name (i := 2) sc__law_bits.nd rfl (by first | exact Or.inl rfl | exact Or.inr rfl)) (dss_tidy [2, 3] (dss_one (ds_if (dt_neO hr.units (dp_own 0 (pv 0)) (DN.de (dn_lst da_nil))) (dss_cons (ds_set (i := 3) sc__law_bits.nd rfl (by first | exact Or.inl rfl | exact Or.inr rfl) (de_pop 0 (pv 0) (pe_bm0 PySem.F.plainAttrs_list PySem.F.slot_list_pop PySem.F.type_list_pop mt_pop (pv 0))))
    (dss_cons (ds_app 1 (t0 := tVar 1) (pv 1) (de_var 3 (pv 3)) (fun pe => pe_bm PySem.F.plainAttrs_list PySem.F.slot_list_append PySem.F.type_list_append mt_append (pv 1) (pa_cons pe pa_nil)))
    (dss_one (ds_setL (i := 0) sc__law_bits.nd rfl (by first | exact Or.inl rfl | exact Or.inr rfl) (dn_addO (dp_own 0 (pv 0)) (DN.de (dn_lc rfl sc__law_bits.nd (own := [("bit", 4)]) (di_seq (de_slice (de_var 3 (pv 3)) (do_some de_int) do_none)) (blkOk_by (own := [("bit", 4)]) (N := N__law_bits) (sc := defScope s__law_bits) (by decide +kernel)) (fun _ _ _ _ _ => (dg_name (i := 4) sc__law_bits.nd rfl (by first | exact Or.inl rfl | exact Or.inr rfl))) (fun _ _ _ _ _ => (dts_one (dt_val (de_isi (by rfl) T.z_isinstance kit_tuple (pe_ty (by rfl) T.z_tuple (by decide +kernel)) (de_var 4 (pv 4)))))) (fun _ _ _ _ _ => (de_var 4 (pv 4))) (by decide)))))))) dss_nil))))
    (dss_one (ds_retO 1 (pv 1)))))
theorem A__law_bits : AdS (W__law_bits) (B__law_bits) :=
  (ad_seq (ad_asgL 1 (ad_lst ad_nil)) (ad_seq (ad_for (ad_rng1 (ad_c _)) (ad_gname 2) (ad_tidy [2, 3] (ad_ifS (ad_b (ad_neO (ad_ow 0) (ad_l (ad_lst ad_nil)))) (ad_seq (ad_asg 3 (ad_pop 0)) (ad_seq (ad_app 1 (ad_var 3)) (ad_asgL 0 (ad_addO (ad_ow 0) (ad_l (ad_lc (ad_seqI (ad_sl (ad_var 3) (ad_some (ad_c _)) ad_none)) (ad_gname 4) (ad_b (ad_isi .tuple (ad_var 4))) (ad_var 4))))))) ad_next))) (ad_retO 1)))
def W__law_set : WS :=
  (wRet (wCB tupT (wCons (wL (wSortKeys (wVar 0))) wNil)))
theorem d__law_set {P : Program} {w : World} {K : PySem.W.Frag} {mg : Str → Option Value} {base : Heap} {k : Nat} (T : Txt K mg) {f : Addr} {cdv : Value} {A : Around} {outer : List Env} {s : Shared} {H : Hp} {E : XK} (hr : Room k (A.deeper (envOfC "_law_set" (defScope s__law_set) s.heap.objs.size f cdv))) :
    DSs (cxOf CX0 P w K mg base N__law_set "_law_set" (defScope s__law_set) f cdv A outer s H E).nox (defBody s__law_set) (W__law_set) :=
  (dss_one (ds_ret (de_tupT (by rfl) T.z_tuple (DN.de (dn_sortKeys rfl (r72 hr) (by rfl) T.z_sorted (by rfl) T.z_set (de_var 0 (pv 0)))))))
theorem A__law_set : AdS (W__law_set) (B__law_set) :=
  (ad_ret (ad_cb ad_tupT (ad_cons (ad_l (ad_sortKeys (ad_var 0))) ad_nil)))
def W__law_by_hand_right (S_fitted : PSp) (S_value_cells : PSp) (S_test_cells : PSp) (S_test_queues : PSp) (S_test_labels : PSp) (S__law_lists : PSp) (S__law_same : PSp) : WS :=
  (wSeq (wAsgG (wgTup 2 (wgCons (wgName 0) (wgCons (wgName 1) wgNil))) (wTup (wCons (wTup (wCons (wC (.str "cell")) (wCons (wC (.str "x")) wNil))) (wCons (wTup (wCons (wC (.str "cell")) (wCons (wC (.str "y")) wNil))) wNil))))
    (wSeq (wAsgL 2 (wLst (wCons (wL (wLc (wSeqI (wTup (wCons (wC (.int 0)) (wCons (wC (.int 3)) (wCons (wC (.int 4)) (wCons (wC (.int 9)) (wCons (wNeg (wC (.int 1))) (wCons (wNeg (wC (.int 4))) (wCons (wNeg (wC (.int 5))) (wCons (wOp powD (wC (.int 10)) (wC (.int 30))) (wCons (wNeg (wOp powD (wC (.int 10)) (wC (.int 30)))) wNil))))))))))) (wgName 10) wYes (wCall S_fitted (wPCons (wD (wVar 10)) (wPCons (wD (wC (.int 3))) wPNil))) [10])) wNil)))
    (wSeq (wAsgL 2 (wAddO (wO 2) (wL (wLst (wCons (wL (wLc (wSeqI (wTup (wCons (wC (.int 0)) (wCons (wC (.int 1)) (wCons (wC (.int 2)) (wCons (wNeg (wC (.int 1))) wNil)))))) (wgName 10) wYes (wCall S_fitted (wPCons (wD (wVar 10)) (wPCons (wD (wC (.int 1))) wPNil))) [10])) wNil)))))
    (wSeq (wAsgL 3 (wLst (wCons (wL (wLst (wCons (wC (.int 0)) (wCons (wC (.int 3)) (wCons (wC (.int 0)) (wCons (wC (.int 1)) (wCons (wC (.int 3)) (wCons (wC (.int 0)) (wCons (wC (.int 3)) (wCons (wC (.int 0)) (wCons (wC (.int 0)) wNil))))))))))) (wCons (wL (wLst (wCons (wC (.int 0)) (wCons (wC (.int 1)) (wCons (wC (.int 0)) (wCons (wC (.int 1)) wNil)))))) wNil))))
    (wSeq (wApp 2 (wL (wLc (wSeqI (wTup (wCons (wC (.int 10)) (wCons (wC (.int 19)) (wCons (wNeg (wC (.int 3))) (wCons (wC (.int 81)) wNil)))))) (wgName 10) wYes (wCall S_fitted (wPCons (wD (wVar 10)) (wPCons (wD (wC (.int 9))) wPNil))) [10])))
    (wSeq (wApp 3 (wL (wLst (wCons (wC (.int 0)) (wCons (wC (.int 9)) (wCons (wC (.int 7)) (wCons (wC (.int 1)) wNil)))))))
    (wSeq (wAsgL 4 (wLst (wCons (wTup (wCons (wC (.str "number")) (wCons (wC (.int 9)) wNil))) (wCons (wVar 0) (wCons (wTup (wCons (wC (.str "sum")) (wCons (wVar 1) (wCons (wVar 0) wNil)))) (wCons (wTup (wCons (wC (.str "gap")) (wCons (wTup (wCons (wC (.str "times")) (wCons (wVar 0) (wCons (wVar 0) wNil)))) (wCons (wTup (wCons (wC (.str "number")) (wCons (wC (.int 1)) wNil))) wNil)))) wNil))))))
    (wSeq (wApp 4 (wTup (wCons (wC (.str "times")) (wCons (wTup (wCons (wC (.str "sum")) (wCons (wTup (wCons (wC (.str "number")) (wCons (wC (.int 1)) wNil))) (wCons (wTup (wCons (wC (.str "number")) (wCons (wC (.int 2)) wNil))) wNil)))) (wCons (wTup (wCons (wC (.str "number")) (wCons (wC (.int 3)) wNil))) wNil)))))
    (wFrz 4 (wSeq (wApp 2 (wL (wLc (wSeqI (wVar 4)) (wgName 10) wYes (wCall S_value_cells (wPCons (wD (wVar 10)) wPNil)) [10])))
    (wSeq (wApp 3 (wL (wLst (wCons (wTup wNil) (wCons (wTup (wCons (wC (.str "x")) wNil)) (wCons (wTup (wCons (wC (.str "x")) (wCons (wC (.str "y")) wNil))) (wCons (wTup (wCons (wC (.str "x")) wNil)) (wCons (wTup wNil) wNil))))))))
    (wSeq (wPar 5 6 (wTup (wCons (wC (.str "same")) (wCons (wVar 1) (wCons (wTup (wCons (wC (.str "sum")) (wCons (wVar 0) (wCons (wVar 1) wNil)))) wNil)))) (wTup (wCons (wC (.str "less")) (wCons (wTup (wCons (wC (.str "number")) (wCons (wC (.int 1)) wNil))) (wCons (wTup (wCons (wC (.str "cell")) (wCons (wC (.str "a")) wNil))) wNil)))))
    (wSeq (wAsg 7 (wL (wLst (wCons (wVar 5) (wCons (wVar 6) (wCons (wTup (wCons (wC (.str "empty")) (wCons (wC (.str "q")) wNil))) (wCons (wTup (wCons (wC (.str "full")) (wCons (wC (.str "p")) wNil))) (wCons (wTup (wCons (wC (.str "stands")) (wCons (wC (.str "b")) (wCons (wC (.str "l")) wNil)))) wNil))))))))
    (wSeq (wAsg 7 (wOp addD (wVar 7) (wL (wLst (wCons (wTup (wCons (wC (.str "not")) (wCons (wVar 5) wNil))) (wCons (wTup (wCons (wC (.str "and")) (wCons (wVar 6) (wCons (wVar 5) wNil)))) wNil))))))
    (wSeq (wAsg 7 (wOp addD (wVar 7) (wL (wLst (wCons (wTup (wCons (wC (.str "or")) (wCons (wTup (wCons (wC (.str "stands")) (wCons (wC (.str "b")) (wCons (wC (.str "m")) wNil)))) (wCons (wTup (wCons (wC (.str "and")) (wCons (wTup (wCons (wC (.str "stands")) (wCons (wC (.str "a")) (wCons (wC (.str "z")) wNil)))) (wCons (wTup (wCons (wC (.str "stands")) (wCons (wC (.str "b")) (wCons (wC (.str "l")) wNil)))) wNil)))) wNil)))) wNil)))))
    (wSeq (wAsg 7 (wOp addD (wVar 7) (wL (wLst (wCons (wTup (wCons (wC (.str "not")) (wCons (wTup (wCons (wC (.str "or")) (wCons (wTup (wCons (wC (.str "full")) (wCons (wC (.str "q")) wNil))) (wCons (wTup (wCons (wC (.str "or")) (wCons (wTup (wCons (wC (.str "empty")) (wCons (wC (.str "q")) wNil))) (wCons (wTup (wCons (wC (.str "full")) (wCons (wC (.str "k")) wNil))) wNil)))) wNil)))) wNil))) wNil)))))
    (wSeq (wApp 2 (wL (wLc (wSeqI (wVar 7)) (wgName 10) wYes (wCall S_test_cells (wPCons (wD (wVar 10)) wPNil)) [10])))
    (wSeq (wApp 3 (wL (wLst (wCons (wTup (wCons (wC (.str "x")) (wCons (wC (.str "y")) wNil))) (wCons (wTup (wCons (wC (.str "a")) wNil)) (wCons (wTup wNil) (wCons (wTup wNil) (wCons (wTup wNil) (wCons (wTup (wCons (wC (.str "x")) (wCons (wC (.str "y")) wNil))) (wCons (wTup (wCons (wC (.str "a")) (wCons (wC (.str "x")) (wCons (wC (.str "y")) wNil)))) (wCons (wTup wNil) (wCons (wTup wNil) wNil))))))))))))
    (wSeq (wApp 2 (wL (wLc (wSeqI (wVar 7)) (wgName 10) wYes (wCall S_test_queues (wPCons (wD (wVar 10)) wPNil)) [10])))
    (wSeq (wApp 3 (wL (wLst (wCons (wTup wNil) (wCons (wTup wNil) (wCons (wTup (wCons (wC (.str "q")) wNil)) (wCons (wTup (wCons (wC (.str "p")) wNil)) (wCons (wTup wNil) (wCons (wTup wNil) (wCons (wTup wNil) (wCons (wTup wNil) (wCons (wTup (wCons (wC (.str "k")) (wCons (wC (.str "q")) wNil))) wNil))))))))))))
    (wSeq (wApp 2 (wL (wLc (wSeqI (wVar 7)) (wgName 10) wYes (wCall S_test_labels (wPCons (wD (wVar 10)) wPNil)) [10])))
    (wSeq (wApp 3 (wL (wLst (wCons (wTup wNil) (wCons (wTup wNil) (wCons (wTup wNil) (wCons (wTup wNil) (wCons (wTup (wCons (wTup (wCons (wC (.str "b")) (wCons (wC (.str "l")) wNil))) wNil)) (wCons (wTup wNil) (wCons (wTup wNil) (wCons (wTup (wCons (wTup (wCons (wC (.str "a")) (wCons (wC (.str "z")) wNil))) (wCons (wTup (wCons (wC (.str "b")) (wCons (wC (.str "l")) wNil))) (wCons (wTup (wCons (wC (.str "b")) (wCons (wC (.str "m")) wNil))) wNil)))) (wCons (wTup wNil) wNil))))))))))))
    (wSeq (wPar 8 9 (wCall S__law_lists (wPCons (wD (wOp ixD (wVar 7) (wC (.int 7)))) wPNil)) (wCall S__law_lists (wPCons (wD (wVar 5)) wPNil)))
    (wSeq (wAsgL 2 (wAddO (wO 2) (wL (wLst (wCons (wCallK S_value_cells wPNil (wPCons (wD (wCall S__law_lists (wPCons (wD (wOp ixD (wVar 4) (wC (.int 2)))) wPNil))) wPNil) 0 1 [0]) (wCons (wCallK S_test_cells wPNil (wPCons (wD (wVar 9)) wPNil) 0 1 [0]) (wCons (wCallK S_test_queues wPNil (wPCons (wD (wVar 8)) wPNil) 0 1 [0]) wNil)))))))
    (wSeq (wAsgL 2 (wAddO (wO 2) (wL (wLst (wCons (wCallK S_test_labels wPNil (wPCons (wD (wVar 8)) wPNil) 0 1 [0]) wNil)))))
    (wSeq (wAsgL 2 (wAddO (wO 2) (wL (wLst (wCons (wCallK S_fitted wPNil (wPCons (wD (wC (.int 3))) (wPCons (wD (wNeg (wC (.int 6)))) wPNil)) 0 2 [1, 0]) (wCons (wVar 8) (wCons (wVar 9) wNil)))))))
    (wSeq (wAsgL 3 (wAddO (wO 3) (wL (wLst (wCons (wTup (wCons (wC (.str "x")) (wCons (wC (.str "y")) wNil))) (wCons (wTup (wCons (wC (.str "x")) (wCons (wC (.str "y")) wNil))) (wCons (wTup wNil) (wCons (wOp ixD (wIxO (wO 3) (wNeg (wC (.int 1)))) (wC (.int 7))) (wCons (wC (.int 2)) (wCons (wCall S__law_lists (wPCons (wD (wOp ixD (wVar 7) (wC (.int 7)))) wPNil)) (wCons (wCall S__law_lists (wPCons (wD (wVar 5)) wPNil)) wNil)))))))))))
    (wFrz 3 (wFrz 2 (wRet (wCall S__law_same (wPCons (wD (wVar 2)) (wPCons (wD (wVar 3)) wPNil)))))))))))))))))))))))))))))))))
theorem d__law_by_hand_right {P : Program} {w : World} {K : PySem.W.Frag} {mg : Str → Option Value} {base : Heap} {k : Nat} {S_fitted : PSp} {S_value_cells : PSp} {S_test_cells : PSp} {S_test_queues : PSp} {S_test_labels : PSp} {S__law_lists : PSp} {S__law_same : PSp} (T : Txt K mg) (C_fitted : Cal P w K mg base "fitted" ["number", "top"] k S_fitted) (C_value_cells : Cal P w K mg base "value_cells" ["one"] k S_value_cells) (C_test_cells : Cal P w K mg base "test_cells" ["test"] k S_test_cells) (C_test_queues : Cal P w K mg base "test_queues" ["test"] k S_test_queues) (C_test_labels : Cal P w K mg base "test_labels" ["test"] k S_test_labels) (C__law_lists : Cal P w K mg base "_law_lists" ["matter"] k S__law_lists) (C__law_same : Cal P w K mg base "_law_same" ["got", "due"] k S__law_same) (K_test_queues_0_test : CalK P w K mg base "test_queues" ["test"] k S_test_queues 0 ["test"] [0]) (K_test_cells_0_test : CalK P w K mg base "test_cells" ["test"] k S_test_cells 0 ["test"] [0]) (K_value_cells_0_one : CalK P w K mg base "value_cells" ["one"] k S_value_cells 0 ["one"] [0]) (K_test_labels_0_test : CalK P w K mg base "test_labels" ["test"] k S_test_labels 0 ["test"] [0]) (K_fitted_0_top_number : CalK P w K mg base "fitted" ["number", "top"] k S_fitted 0 ["top", "number"] [1, 0]) {f : Addr} {cdv : Value} {A : Around} {outer : List Env} {s : Shared} {H : Hp} {E : XK} (hr : Room k (A.deeper (envOfC "_law_by_hand_right" (defScope s__law_by_hand_right) s.heap.objs.size f cdv))) :
    DSs (cxOf CX0 P w K mg base N__law_by_hand_right "_law_by_hand_right" (defScope s__law_by_hand_right) f cdv A outer s H E).nox (defBody s__law_by_hand_right) (W__law_by_hand_right S_fitted S_value_cells S_test_cells S_test_queues S_test_labels S__law_lists S__law_same) :=
  (dss_cons (ds_asg (de_tup (da_cons (de_tup (da_cons de_str (da_cons de_str da_nil))) (da_cons (de_tup (da_cons de_str (da_cons de_str da_nil))) da_nil))) (dg_tup rfl (dgs_cons (dg_name (i := 0) sc__law_by_hand_right.nd rfl (by first | exact Or.inl rfl | exact Or.inr rfl)) (dgs_cons (dg_name (i := 1) sc__law_by_hand_right.nd rfl (by first | exact Or.inl rfl | exact Or.inr rfl)) dgs_nil))))
    (dss_cons (ds_setL (i := 2) sc__law_by_hand_right.nd rfl (by first | exact Or.inl rfl | exact Or.inr rfl) (dn_lst (da_cons (DN.de (dn_lc rfl sc__law_by_hand_right.nd (own := [("own", 10)]) (di_seq (de_tup (da_cons de_int (da_cons de_int (da_cons de_int (da_cons de_int (da_cons (de_neg de_int) (da_cons (de_neg de_int) (da_cons (de_neg de_int) (da_cons (de_pow de_int de_int) (da_cons (de_neg (de_pow de_int de_int)) da_nil))))))))))) (blkOk_by (own := [("own", 10)]) (N := N__law_by_hand_right) (sc := defScope s__law_by_hand_right) (by decide +kernel)) (fun _ _ _ _ _ => (dg_name (i := 10) sc__law_by_hand_right.nd rfl (by first | exact Or.inl rfl | exact Or.inr rfl))) (fun _ _ _ _ _ => dts_nil) (fun _ _ _ _ _ => (de_callC C_fitted hr (by rfl) (dpa_cons (DE.dp (de_var 10 (pv 10))) (dpa_cons (DE.dp de_int) dpa_nil)))) (by decide))) da_nil)))
    (dss_cons (ds_setL (i := 2) sc__law_by_hand_right.nd rfl (by first | exact Or.inl rfl | exact Or.inr rfl) (dn_addO (dp_own 2 (pv 2)) (DN.de (dn_lst (da_cons (DN.de (dn_lc rfl sc__law_by_hand_right.nd (own := [("own", 10)]) (di_seq (de_tup (da_cons de_int (da_cons de_int (da_cons de_int (da_cons (de_neg de_int) da_nil)))))) (blkOk_by (own := [("own", 10)]) (N := N__law_by_hand_right) (sc := defScope s__law_by_hand_right) (by decide +kernel)) (fun _ _ _ _ _ => (dg_name (i := 10) sc__law_by_hand_right.nd rfl (by first | exact Or.inl rfl | exact Or.inr rfl))) (fun _ _ _ _ _ => dts_nil) (fun _ _ _ _ _ => (de_callC C_fitted hr (by rfl) (dpa_cons (DE.dp (de_var 10 (pv 10))) (dpa_cons (DE.dp de_int) dpa_nil)))) (by decide))) da_nil)))))
    (dss_cons (ds_setL (i := 3) sc__law_by_hand_right.nd rfl (by first | exact Or.inl rfl | exact Or.inr rfl) (dn_lst (da_cons (DN.de (dn_lst (da_cons de_int (da_cons de_int (da_cons de_int (da_cons de_int (da_cons de_int (da_cons de_int (da_cons de_int (da_cons de_int (da_cons de_int da_nil))))))))))) (da_cons (DN.de (dn_lst (da_cons de_int (da_cons de_int (da_cons de_int (da_cons de_int da_nil)))))) da_nil))))
    (dss_cons (ds_app 2 (t0 := tVar 2) (pv 2) (DN.de (dn_lc rfl sc__law_by_hand_right.nd (own := [("own", 10)]) (di_seq (de_tup (da_cons de_int (da_cons de_int (da_cons (de_neg de_int) (da_cons de_int da_nil)))))) (blkOk_by (own := [("own", 10)]) (N := N__law_by_hand_right) (sc := defScope s__law_by_hand_right) (by decide +kernel)) (fun _ _ _ _ _ => (dg_name (i := 10) sc__law_by_hand_right.nd rfl (by first | exact Or.inl rfl | exact Or.inr rfl))) (fun _ _ _ _ _ => dts_nil) (fun _ _ _ _ _ => (de_callC C_fitted hr (by rfl) (dpa_cons (DE.dp (de_var 10 (pv 10))) (dpa_cons (DE.dp de_int) dpa_nil)))) (by decide))) (fun pe => pe_bm PySem.F.plainAttrs_list PySem.F.slot_list_append PySem.F.type_list_append mt_append (pv 2) (pa_cons pe pa_nil)))
    (dss_cons (ds_app 3 (t0 := tVar 3) (pv 3) (DN.de (dn_lst (da_cons de_int (da_cons de_int (da_cons de_int (da_cons de_int da_nil)))))) (fun pe => pe_bm PySem.F.plainAttrs_list PySem.F.slot_list_append PySem.F.type_list_append mt_append (pv 3) (pa_cons pe pa_nil)))
    (dss_cons (ds_setL (i := 4) sc__law_by_hand_right.nd rfl (by first | exact Or.inl rfl | exact Or.inr rfl) (dn_lst (da_cons (de_tup (da_cons de_str (da_cons de_int da_nil))) (da_cons (de_var 0 (pv 0)) (da_cons (de_tup (da_cons de_str (da_cons (de_var 1 (pv 1)) (da_cons (de_var 0 (pv 0)) da_nil)))) (da_cons (de_tup (da_cons de_str (da_cons (de_tup (da_cons de_str (da_cons (de_var 0 (pv 0)) (da_cons (de_var 0 (pv 0)) da_nil)))) (da_cons (de_tup (da_cons de_str (da_cons de_int da_nil))) da_nil)))) da_nil))))))
    (dss_cons (ds_app 4 (t0 := tVar 4) (pv 4) (de_tup (da_cons de_str (da_cons (de_tup (da_cons de_str (da_cons (de_tup (da_cons de_str (da_cons de_int da_nil))) (da_cons (de_tup (da_cons de_str (da_cons de_int da_nil))) da_nil)))) (da_cons (de_tup (da_cons de_str (da_cons de_int da_nil))) da_nil)))) (fun pe => pe_bm PySem.F.plainAttrs_list PySem.F.slot_list_append PySem.F.type_list_append mt_append (pv 4) (pa_cons pe pa_nil)))
    (dss_frz 4 (dss_cons (ds_app 2 (t0 := tVar 2) (pv 2) (DN.de (dn_lc rfl sc__law_by_hand_right.nd (own := [("own", 10)]) (di_seq (de_var 4 (pv 4))) (blkOk_by (own := [("own", 10)]) (N := N__law_by_hand_right) (sc := defScope s__law_by_hand_right) (by decide +kernel)) (fun _ _ _ _ _ => (dg_name (i := 10) sc__law_by_hand_right.nd rfl (by first | exact Or.inl rfl | exact Or.inr rfl))) (fun _ _ _ _ _ => dts_nil) (fun _ _ _ _ _ => (de_callC C_value_cells hr (by rfl) (dpa_cons (DE.dp (de_var 10 (pv 10))) dpa_nil))) (by decide))) (fun pe => pe_bm PySem.F.plainAttrs_list PySem.F.slot_list_append PySem.F.type_list_append mt_append (pv 2) (pa_cons pe pa_nil)))
    (dss_cons (ds_app 3 (t0 := tVar 3) (pv 3) (DN.de (dn_lst (da_cons (de_tup da_nil) (da_cons (de_tup (da_cons de_str da_nil)) (da_cons (de_tup (da_cons de_str (da_cons de_str da_nil))) (da_cons (de_tup (da_cons de_str da_nil)) (da_cons (de_tup da_nil) da_nil))))))) (fun pe => pe_bm PySem.F.plainAttrs_list PySem.F.slot_list_append PySem.F.type_list_append mt_append (pv 3) (pa_cons pe pa_nil)))
    (dss_cons (ds_par (i := 5) (j := 6) rfl sc__law_by_hand_right.nd rfl rfl (by decide) rfl rfl (de_tup (da_cons de_str (da_cons (de_var 1 (pv 1)) (da_cons (de_tup (da_cons de_str (da_cons (de_var 0 (pv 0)) (da_cons (de_var 1 (pv 1)) da_nil)))) da_nil)))) (de_tup (da_cons de_str (da_cons (de_tup (da_cons de_str (da_cons de_int da_nil))) (da_cons (de_tup (da_cons de_str (da_cons de_str da_nil))) da_nil)))) (by rfl))
    (dss_cons (ds_set (i := 7) sc__law_by_hand_right.nd rfl (by first | exact Or.inl rfl | exact Or.inr rfl) (DN.de (dn_lst (da_cons (de_var 5 (pv 5)) (da_cons (de_var 6 (pv 6)) (da_cons (de_tup (da_cons de_str (da_cons de_str da_nil))) (da_cons (de_tup (da_cons de_str (da_cons de_str da_nil))) (da_cons (de_tup (da_cons de_str (da_cons de_str (da_cons de_str da_nil)))) da_nil))))))))
    (dss_cons (ds_set (i := 7) sc__law_by_hand_right.nd rfl (by first | exact Or.inl rfl | exact Or.inr rfl) (de_add (de_var 7 (pv 7)) (DN.de (dn_lst (da_cons (de_tup (da_cons de_str (da_cons (de_var 5 (pv 5)) da_nil))) (da_cons (de_tup (da_cons de_str (da_cons (de_var 6 (pv 6)) (da_cons (de_var 5 (pv 5)) da_nil)))) da_nil))))))
    (dss_cons (ds_set (i := 7) sc__law_by_hand_right.nd rfl (by first | exact Or.inl rfl | exact Or.inr rfl) (de_add (de_var 7 (pv 7)) (DN.de (dn_lst (da_cons (de_tup (da_cons de_str (da_cons (de_tup (da_cons de_str (da_cons de_str (da_cons de_str da_nil)))) (da_cons (de_tup (da_cons de_str (da_cons (de_tup (da_cons de_str (da_cons de_str (da_cons de_str da_nil)))) (da_cons (de_tup (da_cons de_str (da_cons de_str (da_cons de_str da_nil)))) da_nil)))) da_nil)))) da_nil)))))
    (dss_cons (ds_set (i := 7) sc__law_by_hand_right.nd rfl (by first | exact Or.inl rfl | exact Or.inr rfl) (de_add (de_var 7 (pv 7)) (DN.de (dn_lst (da_cons (de_tup (da_cons de_str (da_cons (de_tup (da_cons de_str (da_cons (de_tup (da_cons de_str (da_cons de_str da_nil))) (da_cons (de_tup (da_cons de_str (da_cons (de_tup (da_cons de_str (da_cons de_str da_nil))) (da_cons (de_tup (da_cons de_str (da_cons de_str da_nil))) da_nil)))) da_nil)))) da_nil))) da_nil)))))
    (dss_cons (ds_app 2 (t0 := tVar 2) (pv 2) (DN.de (dn_lc rfl sc__law_by_hand_right.nd (own := [("own", 10)]) (di_seq (de_var 7 (pv 7))) (blkOk_by (own := [("own", 10)]) (N := N__law_by_hand_right) (sc := defScope s__law_by_hand_right) (by decide +kernel)) (fun _ _ _ _ _ => (dg_name (i := 10) sc__law_by_hand_right.nd rfl (by first | exact Or.inl rfl | exact Or.inr rfl))) (fun _ _ _ _ _ => dts_nil) (fun _ _ _ _ _ => (de_callC C_test_cells hr (by rfl) (dpa_cons (DE.dp (de_var 10 (pv 10))) dpa_nil))) (by decide))) (fun pe => pe_bm PySem.F.plainAttrs_list PySem.F.slot_list_append PySem.F.type_list_append mt_append (pv 2) (pa_cons pe pa_nil)))
    (dss_cons (ds_app 3 (t0 := tVar 3) (pv 3) (DN.de (dn_lst (da_cons (de_tup (da_cons de_str (da_cons de_str da_nil))) (da_cons (de_tup (da_cons de_str da_nil)) (da_cons (de_tup da_nil) (da_cons (de_tup da_nil) (da_cons (de_tup da_nil) (da_cons (de_tup (da_cons de_str (da_cons de_str da_nil))) (da_cons (de_tup (da_cons de_str (da_cons de_str (da_cons de_str da_nil)))) (da_cons (de_tup da_nil) (da_cons (de_tup da_nil) da_nil))))))))))) (fun pe => pe_bm PySem.F.plainAttrs_list PySem.F.slot_list_append PySem.F.type_list_append mt_append (pv 3) (pa_cons pe pa_nil)))
    (dss_cons (ds_app 2 (t0 := tVar 2) (pv 2) (DN.de (dn_lc rfl sc__law_by_hand_right.nd (own := [("own", 10)]) (di_seq (de_var 7 (pv 7))) (blkOk_by (own := [("own", 10)]) (N := N__law_by_hand_right) (sc := defScope s__law_by_hand_right) (by decide +kernel)) (fun _ _ _ _ _ => (dg_name (i := 10) sc__law_by_hand_right.nd rfl (by first | exact Or.inl rfl | exact Or.inr rfl))) (fun _ _ _ _ _ => dts_nil) (fun _ _ _ _ _ => (de_callC C_test_queues hr (by rfl) (dpa_cons (DE.dp (de_var 10 (pv 10))) dpa_nil))) (by decide))) (fun pe => pe_bm PySem.F.plainAttrs_list PySem.F.slot_list_append PySem.F.type_list_append mt_append (pv 2) (pa_cons pe pa_nil)))
    (dss_cons (ds_app 3 (t0 := tVar 3) (pv 3) (DN.de (dn_lst (da_cons (de_tup da_nil) (da_cons (de_tup da_nil) (da_cons (de_tup (da_cons de_str da_nil)) (da_cons (de_tup (da_cons de_str da_nil)) (da_cons (de_tup da_nil) (da_cons (de_tup da_nil) (da_cons (de_tup da_nil) (da_cons (de_tup da_nil) (da_cons (de_tup (da_cons de_str (da_cons de_str da_nil))) da_nil))))))))))) (fun pe => pe_bm PySem.F.plainAttrs_list PySem.F.slot_list_append PySem.F.type_list_append mt_append (pv 3) (pa_cons pe pa_nil)))
    (dss_cons (ds_app 2 (t0 := tVar 2) (pv 2) (DN.de (dn_lc rfl sc__law_by_hand_right.nd (own := [("own", 10)]) (di_seq (de_var 7 (pv 7))) (blkOk_by (own := [("own", 10)]) (N := N__law_by_hand_right) (sc := defScope s__law_by_hand_right) (by decide +kernel)) (fun _ _ _ _ _ => (dg_name (i := 10) sc__law_by_hand_right.nd rfl (by first | exact Or.inl rfl | exact Or.inr rfl))) (fun _ _ _ _ _ => dts_nil) (fun _ _ _ _ _ => (de_callC C_test_labels hr (by rfl) (dpa_cons (DE.dp (de_var 10 (pv 10))) dpa_nil))) (by decide))) (fun pe => pe_bm PySem.F.plainAttrs_list PySem.F.slot_list_append PySem.F.type_list_append mt_append (pv 2) (pa_cons pe pa_nil)))
    (dss_cons (ds_app 3 (t0 := tVar 3) (pv 3) (DN.de (dn_lst (da_cons (de_tup da_nil) (da_cons (de_tup da_nil) (da_cons (de_tup da_nil) (da_cons (de_tup da_nil) (da_cons (de_tup (da_cons (de_tup (da_cons de_str (da_cons de_str da_nil))) da_nil)) (da_cons (de_tup da_nil) (da_cons (de_tup da_nil) (da_cons (de_tup (da_cons (de_tup (da_cons de_str (da_cons de_str da_nil))) (da_cons (de_tup (da_cons de_str (da_cons de_str da_nil))) (da_cons (de_tup (da_cons de_str (da_cons de_str da_nil))) da_nil)))) (da_cons (de_tup da_nil) da_nil))))))))))) (fun pe => pe_bm PySem.F.plainAttrs_list PySem.F.slot_list_append PySem.F.type_list_append mt_append (pv 3) (pa_cons pe pa_nil)))
    (dss_cons (ds_par (i := 8) (j := 9) rfl sc__law_by_hand_right.nd rfl rfl (by decide) rfl rfl (de_callC C__law_lists hr (by rfl) (dpa_cons (DE.dp (de_ix (de_var 7 (pv 7)) de_int)) dpa_nil)) (de_callC C__law_lists hr (by rfl) (dpa_cons (DE.dp (de_var 5 (pv 5))) dpa_nil)) (by rfl))
    (dss_cons (ds_setL (i := 2) sc__law_by_hand_right.nd rfl (by first | exact Or.inl rfl | exact Or.inr rfl) (dn_addO (dp_own 2 (pv 2)) (DN.de (dn_lst (da_cons (de_callK0 (ks := ["one"]) (is := [0]) K_value_cells_0_one hr (by rfl) (dpk_cons (DE.dp (de_callC C__law_lists hr (by rfl) (dpa_cons (DE.dp (de_ix (de_var 4 (pv 4)) de_int)) dpa_nil))) dpk_nil)) (da_cons (de_callK0 (ks := ["test"]) (is := [0]) K_test_cells_0_test hr (by rfl) (dpk_cons (DE.dp (de_var 9 (pv 9))) dpk_nil)) (da_cons (de_callK0 (ks := ["test"]) (is := [0]) K_test_queues_0_test hr (by rfl) (dpk_cons (DE.dp (de_var 8 (pv 8))) dpk_nil)) da_nil)))))))
    (dss_cons (ds_setL (i := 2) sc__law_by_hand_right.nd rfl (by first | exact Or.inl rfl | exact Or.inr rfl) (dn_addO (dp_own 2 (pv 2)) (DN.de (dn_lst (da_cons (de_callK0 (ks := ["test"]) (is := [0]) K_test_labels_0_test hr (by rfl) (dpk_cons (DE.dp (de_var 8 (pv 8))) dpk_nil)) da_nil)))))
    (dss_cons (ds_setL (i := 2) sc__law_by_hand_right.nd rfl (by first | exact Or.inl rfl | exact Or.inr rfl) (dn_addO (dp_own 2 (pv 2)) (DN.de (dn_lst (da_cons (de_callK0 (ks := ["top", "number"]) (is := [1, 0]) K_fitted_0_top_number hr (by rfl) (dpk_cons (DE.dp de_int) (dpk_cons (DE.dp (de_neg de_int)) dpk_nil))) (da_cons (de_var 8 (pv 8)) (da_cons (de_var 9 (pv 9)) da_nil)))))))
    (dss_cons (ds_setL (i := 3) sc__law_by_hand_right.nd rfl (by first | exact Or.inl rfl | exact Or.inr rfl) (dn_addO (dp_own 3 (pv 3)) (DN.de (dn_lst (da_cons (de_tup (da_cons de_str (da_cons de_str da_nil))) (da_cons (de_tup (da_cons de_str (da_cons de_str da_nil))) (da_cons (de_tup da_nil) (da_cons (de_ix (de_ixO (dp_own 3 (pv 3)) (de_neg de_int)) de_int) (da_cons de_int (da_cons (de_callC C__law_lists hr (by rfl) (dpa_cons (DE.dp (de_ix (de_var 7 (pv 7)) de_int)) dpa_nil)) (da_cons (de_callC C__law_lists hr (by rfl) (dpa_cons (DE.dp (de_var 5 (pv 5))) dpa_nil)) da_nil)))))))))))
    (dss_frz 3 (dss_frz 2 (dss_one (ds_ret (de_callC C__law_same hr (by rfl) (dpa_cons (DE.dp (de_var 2 (pv 2))) (dpa_cons (DE.dp (de_var 3 (pv 3))) dpa_nil))))))))))))))))))))))))))))))))))
theorem A__law_by_hand_right (F_fitted : Fn) (F_value_cells : Fn) (F_test_cells : Fn) (F_test_queues : Fn) (F_test_labels : Fn) (F__law_lists : Fn) (F__law_same : Fn) : AdS (W__law_by_hand_right (sF F_fitted) (sF F_value_cells) (sF F_test_cells) (sF F_test_queues) (sF F_test_labels) (sF F__law_lists) (sF F__law_same)) (B__law_by_hand_right F_fitted F_value_cells F_test_cells F_test_queues F_test_labels F__law_lists F__law_same) :=
  (ad_seq (ad_asgG (ad_gtup 2 (ad_gcons (ad_gname 0) (ad_gcons (ad_gname 1) ad_gnil))) (ad_tup (ad_cons (ad_tup (ad_cons (ad_cs qt_cell) (ad_cons (ad_cs qt_x) ad_nil))) (ad_cons (ad_tup (ad_cons (ad_cs qt_cell) (ad_cons (ad_cs qt_y) ad_nil))) ad_nil)))) (ad_seq (ad_asgL 2 (ad_lst (ad_cons (ad_l (ad_lc (ad_seqI (ad_tup (ad_cons (ad_c _) (ad_cons (ad_c _) (ad_cons (ad_c _) (ad_cons (ad_c _) (ad_cons (ad_neg (ad_c _)) (ad_cons (ad_neg (ad_c _)) (ad_cons (ad_neg (ad_c _)) (ad_cons (ad_op ad_pow (ad_c _) (ad_c _)) (ad_cons (ad_neg (ad_op ad_pow (ad_c _) (ad_c _))) ad_nil))))))))))) (ad_gname 10) ad_yes (ad_call (ad_pcons (ad_d (ad_var 10)) (ad_pcons (ad_d (ad_c _)) ad_pnil))))) ad_nil))) (ad_seq (ad_asgL 2 (ad_addO (ad_ow 2) (ad_l (ad_lst (ad_cons (ad_l (ad_lc (ad_seqI (ad_tup (ad_cons (ad_c _) (ad_cons (ad_c _) (ad_cons (ad_c _) (ad_cons (ad_neg (ad_c _)) ad_nil)))))) (ad_gname 10) ad_yes (ad_call (ad_pcons (ad_d (ad_var 10)) (ad_pcons (ad_d (ad_c _)) ad_pnil))))) ad_nil))))) (ad_seq (ad_asgL 3 (ad_lst (ad_cons (ad_l (ad_lst (ad_cons (ad_c _) (ad_cons (ad_c _) (ad_cons (ad_c _) (ad_cons (ad_c _) (ad_cons (ad_c _) (ad_cons (ad_c _) (ad_cons (ad_c _) (ad_cons (ad_c _) (ad_cons (ad_c _) ad_nil))))))))))) (ad_cons (ad_l (ad_lst (ad_cons (ad_c _) (ad_cons (ad_c _) (ad_cons (ad_c _) (ad_cons (ad_c _) ad_nil)))))) ad_nil)))) (ad_seq (ad_app 2 (ad_l (ad_lc (ad_seqI (ad_tup (ad_cons (ad_c _) (ad_cons (ad_c _) (ad_cons (ad_neg (ad_c _)) (ad_cons (ad_c _) ad_nil)))))) (ad_gname 10) ad_yes (ad_call (ad_pcons (ad_d (ad_var 10)) (ad_pcons (ad_d (ad_c _)) ad_pnil)))))) (ad_seq (ad_app 3 (ad_l (ad_lst (ad_cons (ad_c _) (ad_cons (ad_c _) (ad_cons (ad_c _) (ad_cons (ad_c _) ad_nil))))))) (ad_seq (ad_asgL 4 (ad_lst (ad_cons (ad_tup (ad_cons (ad_cs qt_number) (ad_cons (ad_c _) ad_nil))) (ad_cons (ad_var 0) (ad_cons (ad_tup (ad_cons (ad_cs qt_sum) (ad_cons (ad_var 1) (ad_cons (ad_var 0) ad_nil)))) (ad_cons (ad_tup (ad_cons (ad_cs qt_gap) (ad_cons (ad_tup (ad_cons (ad_cs qt_times) (ad_cons (ad_var 0) (ad_cons (ad_var 0) ad_nil)))) (ad_cons (ad_tup (ad_cons (ad_cs qt_number) (ad_cons (ad_c _) ad_nil))) ad_nil)))) ad_nil)))))) (ad_seq (ad_app 4 (ad_tup (ad_cons (ad_cs qt_times) (ad_cons (ad_tup (ad_cons (ad_cs qt_sum) (ad_cons (ad_tup (ad_cons (ad_cs qt_number) (ad_cons (ad_c _) ad_nil))) (ad_cons (ad_tup (ad_cons (ad_cs qt_number) (ad_cons (ad_c _) ad_nil))) ad_nil)))) (ad_cons (ad_tup (ad_cons (ad_cs qt_number) (ad_cons (ad_c _) ad_nil))) ad_nil))))) (ad_frz 4 (ad_seq (ad_app 2 (ad_l (ad_lc (ad_seqI (ad_var 4)) (ad_gname 10) ad_yes (ad_call (ad_pcons (ad_d (ad_var 10)) ad_pnil))))) (ad_seq (ad_app 3 (ad_l (ad_lst (ad_cons (ad_tup ad_nil) (ad_cons (ad_tup (ad_cons (ad_cs qt_x) ad_nil)) (ad_cons (ad_tup (ad_cons (ad_cs qt_x) (ad_cons (ad_cs qt_y) ad_nil))) (ad_cons (ad_tup (ad_cons (ad_cs qt_x) ad_nil)) (ad_cons (ad_tup ad_nil) ad_nil)))))))) (ad_seq (ad_par 5 6 (ad_tup (ad_cons (ad_cs qt_same) (ad_cons (ad_var 1) (ad_cons (ad_tup (ad_cons (ad_cs qt_sum) (ad_cons (ad_var 0) (ad_cons (ad_var 1) ad_nil)))) ad_nil)))) (ad_tup (ad_cons (ad_cs qt_less) (ad_cons (ad_tup (ad_cons (ad_cs qt_number) (ad_cons (ad_c _) ad_nil))) (ad_cons (ad_tup (ad_cons (ad_cs qt_cell) (ad_cons (ad_cs qt_a) ad_nil))) ad_nil))))) (ad_seq (ad_asg 7 (ad_l (ad_lst (ad_cons (ad_var 5) (ad_cons (ad_var 6) (ad_cons (ad_tup (ad_cons (ad_cs qt_empty) (ad_cons (ad_cs qt_q) ad_nil))) (ad_cons (ad_tup (ad_cons (ad_cs qt_full) (ad_cons (ad_cs qt_p) ad_nil))) (ad_cons (ad_tup (ad_cons (ad_cs qt_stands) (ad_cons (ad_cs qt_b) (ad_cons (ad_cs qt_l) ad_nil)))) ad_nil)))))))) (ad_seq (ad_asg 7 (ad_op ad_add (ad_var 7) (ad_l (ad_lst (ad_cons (ad_tup (ad_cons (ad_cs qt_not) (ad_cons (ad_var 5) ad_nil))) (ad_cons (ad_tup (ad_cons (ad_cs qt_and) (ad_cons (ad_var 6) (ad_cons (ad_var 5) ad_nil)))) ad_nil)))))) (ad_seq (ad_asg 7 (ad_op ad_add (ad_var 7) (ad_l (ad_lst (ad_cons (ad_tup (ad_cons (ad_cs qt_or) (ad_cons (ad_tup (ad_cons (ad_cs qt_stands) (ad_cons (ad_cs qt_b) (ad_cons (ad_cs qt_m) ad_nil)))) (ad_cons (ad_tup (ad_cons (ad_cs qt_and) (ad_cons (ad_tup (ad_cons (ad_cs qt_stands) (ad_cons (ad_cs qt_a) (ad_cons (ad_cs qt_z) ad_nil)))) (ad_cons (ad_tup (ad_cons (ad_cs qt_stands) (ad_cons (ad_cs qt_b) (ad_cons (ad_cs qt_l) ad_nil)))) ad_nil)))) ad_nil)))) ad_nil))))) (ad_seq (ad_asg 7 (ad_op ad_add (ad_var 7) (ad_l (ad_lst (ad_cons (ad_tup (ad_cons (ad_cs qt_not) (ad_cons (ad_tup (ad_cons (ad_cs qt_or) (ad_cons (ad_tup (ad_cons (ad_cs qt_full) (ad_cons (ad_cs qt_q) ad_nil))) (ad_cons (ad_tup (ad_cons (ad_cs qt_or) (ad_cons (ad_tup (ad_cons (ad_cs qt_empty) (ad_cons (ad_cs qt_q) ad_nil))) (ad_cons (ad_tup (ad_cons (ad_cs qt_full) (ad_cons (ad_cs qt_k) ad_nil))) ad_nil)))) ad_nil)))) ad_nil))) ad_nil))))) (ad_seq (ad_app 2 (ad_l (ad_lc (ad_seqI (ad_var 7)) (ad_gname 10) ad_yes (ad_call (ad_pcons (ad_d (ad_var 10)) ad_pnil))))) (ad_seq (ad_app 3 (ad_l (ad_lst (ad_cons (ad_tup (ad_cons (ad_cs qt_x) (ad_cons (ad_cs qt_y) ad_nil))) (ad_cons (ad_tup (ad_cons (ad_cs qt_a) ad_nil)) (ad_cons (ad_tup ad_nil) (ad_cons (ad_tup ad_nil) (ad_cons (ad_tup ad_nil) (ad_cons (ad_tup (ad_cons (ad_cs qt_x) (ad_cons (ad_cs qt_y) ad_nil))) (ad_cons (ad_tup (ad_cons (ad_cs qt_a) (ad_cons (ad_cs qt_x) (ad_cons (ad_cs qt_y) ad_nil)))) (ad_cons (ad_tup ad_nil) (ad_cons (ad_tup ad_nil) ad_nil)))))))))))) (ad_seq (ad_app 2 (ad_l (ad_lc (ad_seqI (ad_var 7)) (ad_gname 10) ad_yes (ad_call (ad_pcons (ad_d (ad_var 10)) ad_pnil))))) (ad_seq (ad_app 3 (ad_l (ad_lst (ad_cons (ad_tup ad_nil) (ad_cons (ad_tup ad_nil) (ad_cons (ad_tup (ad_cons (ad_cs qt_q) ad_nil)) (ad_cons (ad_tup (ad_cons (ad_cs qt_p) ad_nil)) (ad_cons (ad_tup ad_nil) (ad_cons (ad_tup ad_nil) (ad_cons (ad_tup ad_nil) (ad_cons (ad_tup ad_nil) (ad_cons (ad_tup (ad_cons (ad_cs qt_k) (ad_cons (ad_cs qt_q) ad_nil))) ad_nil)))))))))))) (ad_seq (ad_app 2 (ad_l (ad_lc (ad_seqI (ad_var 7)) (ad_gname 10) ad_yes (ad_call (ad_pcons (ad_d (ad_var 10)) ad_pnil))))) (ad_seq (ad_app 3 (ad_l (ad_lst (ad_cons (ad_tup ad_nil) (ad_cons (ad_tup ad_nil) (ad_cons (ad_tup ad_nil) (ad_cons (ad_tup ad_nil) (ad_cons (ad_tup (ad_cons (ad_tup (ad_cons (ad_cs qt_b) (ad_cons (ad_cs qt_l) ad_nil))) ad_nil)) (ad_cons (ad_tup ad_nil) (ad_cons (ad_tup ad_nil) (ad_cons (ad_tup (ad_cons (ad_tup (ad_cons (ad_cs qt_a) (ad_cons (ad_cs qt_z) ad_nil))) (ad_cons (ad_tup (ad_cons (ad_cs qt_b) (ad_cons (ad_cs qt_l) ad_nil))) (ad_cons (ad_tup (ad_cons (ad_cs qt_b) (ad_cons (ad_cs qt_m) ad_nil))) ad_nil)))) (ad_cons (ad_tup ad_nil) ad_nil)))))))))))) (ad_seq (ad_par 8 9 (ad_call (ad_pcons (ad_d (ad_op ad_ix (ad_var 7) (ad_c _))) ad_pnil)) (ad_call (ad_pcons (ad_d (ad_var 5)) ad_pnil))) (ad_seq (ad_asgL 2 (ad_addO (ad_ow 2) (ad_l (ad_lst (ad_cons (ad_callK ad_pnil (ad_pcons (ad_d (ad_call (ad_pcons (ad_d (ad_op ad_ix (ad_var 4) (ad_c _))) ad_pnil))) ad_pnil)) (ad_cons (ad_callK ad_pnil (ad_pcons (ad_d (ad_var 9)) ad_pnil)) (ad_cons (ad_callK ad_pnil (ad_pcons (ad_d (ad_var 8)) ad_pnil)) ad_nil))))))) (ad_seq (ad_asgL 2 (ad_addO (ad_ow 2) (ad_l (ad_lst (ad_cons (ad_callK ad_pnil (ad_pcons (ad_d (ad_var 8)) ad_pnil)) ad_nil))))) (ad_seq (ad_asgL 2 (ad_addO (ad_ow 2) (ad_l (ad_lst (ad_cons (ad_callK ad_pnil (ad_pcons (ad_d (ad_c _)) (ad_pcons (ad_d (ad_neg (ad_c _))) ad_pnil))) (ad_cons (ad_var 8) (ad_cons (ad_var 9) ad_nil))))))) (ad_seq (ad_asgL 3 (ad_addO (ad_ow 3) (ad_l (ad_lst (ad_cons (ad_tup (ad_cons (ad_cs qt_x) (ad_cons (ad_cs qt_y) ad_nil))) (ad_cons (ad_tup (ad_cons (ad_cs qt_x) (ad_cons (ad_cs qt_y) ad_nil))) (ad_cons (ad_tup ad_nil) (ad_cons (ad_op ad_ix (ad_ixO (ad_ow 3) (ad_neg (ad_c _))) (ad_c _)) (ad_cons (ad_c _) (ad_cons (ad_call (ad_pcons (ad_d (ad_op ad_ix (ad_var 7) (ad_c _))) ad_pnil)) (ad_cons (ad_call (ad_pcons (ad_d (ad_var 5)) ad_pnil)) ad_nil))))))))))) (ad_frz 3 (ad_frz 2 (ad_ret (ad_call (ad_pcons (ad_d (ad_var 2)) (ad_pcons (ad_d (ad_var 3)) ad_pnil)))))))))))))))))))))))))))))))))
def W__law_right (S__law_value : PSp) (S__law_same : PSp) (S__law_set : PSp) (S__law_bits : (List PyData → (Rs → Prop) → Prop)) (S_value_cells : PSp) (S__law_test : PSp) (S_test_labels : PSp) (S_test_queues : PSp) (S_test_cells : PSp) (S__law_take : PSp) (S_fitted : PSp) : WS :=
  (wSeq (wPar3 1 2 3 (wL (wLst (wCons (wC (.str "x")) (wCons (wC (.str "y")) (wCons (wC (.str "zz")) wNil))))) (wL (wLst (wCons (wC (.str "p")) (wCons (wC (.str "q")) wNil)))) (wL (wLst (wCons (wTup (wCons (wC (.str "a")) (wCons (wC (.str "l")) wNil))) (wCons (wTup (wCons (wC (.str "b")) (wCons (wC (.str "l")) wNil))) (wCons (wTup (wCons (wC (.str "b")) (wCons (wC (.str "m")) wNil))) wNil))))))
    (wSeq (wAsg 4 (wCall S__law_value (wPCons (wO 0) (wPCons (wD (wC (.int 3))) (wPCons (wD (wVar 1)) wPNil)))))
    (wSeq (wIfS (wNot (wB (wCall S__law_same (wPCons (wD (wCall S_value_cells (wPCons (wD (wVar 4)) wPNil))) (wPCons (wD (wCall S__law_set (wPCons (wD (wL (wLc (wSeqI (wCallG S__law_bits (wLst (wCons (wVar 4) wNil)))) (wgName 12) (wB (wOp eqD (wOp ixD (wVar 12) (wC (.int 0))) (wC (.str "cell")))) (wOp ixD (wVar 12) (wC (.int 1))) [12]))) wPNil))) wPNil))))) (wRet (wC (.bool false))) wNext)
    (wWipe [4] (wSeq (wFor (wSeqI (wTup (wCons (wC (.int 1)) (wCons (wC (.int 2)) wNil)))) (wgName 5) (wTidy [6, 5, 7, 4] (wSeq (wAsg 4 (wCall S__law_test (wPCons (wO 0) (wPCons (wD (wVar 5)) (wPCons (wD (wVar 1)) (wPCons (wD (wVar 2)) (wPCons (wD (wVar 3)) wPNil)))))))
    (wSeq (wAsg 6 (wCallG S__law_bits (wLst (wCons (wVar 4) wNil))))
    (wSeq (wAsgL 7 (wLst (wCons (wCall S__law_set (wPCons (wD (wL (wLc (wSeqI (wVar 6)) (wgName 12) (wB (wOp eqD (wOp ixD (wVar 12) (wC (.int 0))) (wC (.str "cell")))) (wOp ixD (wVar 12) (wC (.int 1))) [12]))) wPNil)) wNil)))
    (wSeq (wApp 7 (wCall S__law_set (wPCons (wD (wL (wLc (wSeqI (wVar 6)) (wgName 12) (wB (wOp inD (wOp ixD (wVar 12) (wC (.int 0))) (wTup (wCons (wC (.str "empty")) (wCons (wC (.str "full")) wNil))))) (wOp ixD (wVar 12) (wC (.int 1))) [12]))) wPNil)))
    (wSeq (wApp 7 (wCall S__law_set (wPCons (wD (wL (wLc (wSeqI (wVar 6)) (wgName 12) (wB (wOp eqD (wOp ixD (wVar 12) (wC (.int 0))) (wC (.str "stands")))) (wSl (wVar 12) (wSome (wC (.int 1))) wNone) [12]))) wPNil)))
    (wFrz 7 (wIfS (wNot (wB (wCall S__law_same (wPCons (wD (wL (wLst (wCons (wCall S_test_cells (wPCons (wD (wVar 4)) wPNil)) (wCons (wCall S_test_queues (wPCons (wD (wVar 4)) wPNil)) (wCons (wCall S_test_labels (wPCons (wD (wVar 4)) wPNil)) wNil)))))) (wPCons (wD (wVar 7)) wPNil))))) (wRet (wC (.bool false))) wNext)))))))))
    (wSeq (wAsg 8 (wOp addD (wC (.int 1)) (wCall S__law_take (wPCons (wO 0) (wPCons (wD (wC (.int 9))) wPNil)))))
    (wSeq (wFor (wRng1 (wC (.int 3))) (wgName 9) (wTidy [10, 9, 11] (wSeq (wAsg 10 (wOp subD (wCall S__law_take (wPCons (wO 0) (wPCons (wD (wC (.int 200))) wPNil))) (wC (.int 100))))
    (wSeq (wAsg 11 (wCall S_fitted (wPCons (wD (wVar 10)) (wPCons (wD (wVar 8)) wPNil))))
    (wIfS (wOr (wNot (wB (wIsi "int" (wVar 11)))) (wOr (wNot (wB (wChain leD leD (wC (.int 0)) (wVar 11) (wVar 8)))) (wB (wOp neD (wOp modD (wOp subD (wVar 10) (wVar 11)) (wOp addD (wVar 8) (wC (.int 1)))) (wC (.int 0)))))) (wRet (wC (.bool false))) wNext)))))
    (wRet (wC (.bool true))))))))))
theorem d__law_right {P : Program} {w : World} {K : PySem.W.Frag} {mg : Str → Option Value} {base : Heap} {k : Nat} {S__law_value : PSp} {S__law_same : PSp} {S__law_set : PSp} {S__law_bits : (List PyData → (Rs → Prop) → Prop)} {S_value_cells : PSp} {S__law_test : PSp} {S_test_labels : PSp} {S_test_queues : PSp} {S_test_cells : PSp} {S__law_take : PSp} {S_fitted : PSp} (T : Txt K mg) (C__law_value : Cal P w K mg base "_law_value" ["box", "deep", "cells_so"] k S__law_value) (C__law_same : Cal P w K mg base "_law_same" ["got", "due"] k S__law_same) (C__law_set : Cal P w K mg base "_law_set" ["some"] k S__law_set) (C__law_bits : CalG P w K mg base "_law_bits" ["edge"] k S__law_bits) (C_value_cells : Cal P w K mg base "value_cells" ["one"] k S_value_cells) (C__law_test : Cal P w K mg base "_law_test" ["box", "deep", "cells_so", "lanes_so", "marks_so"] k S__law_test) (C_test_labels : Cal P w K mg base "test_labels" ["test"] k S_test_labels) (C_test_queues : Cal P w K mg base "test_queues" ["test"] k S_test_queues) (C_test_cells : Cal P w K mg base "test_cells" ["test"] k S_test_cells) (C__law_take : Cal P w K mg base "_law_take" ["box", "size_so"] k S__law_take) (C_fitted : Cal P w K mg base "fitted" ["number", "top"] k S_fitted) {f : Addr} {cdv : Value} {A : Around} {outer : List Env} {s : Shared} {H : Hp} {E : XK} (hr : Room k (A.deeper (envOfC "_law_right" (defScope s__law_right) s.heap.objs.size f cdv))) :
    DSs (cxOf CX0 P w K mg base N__law_right "_law_right" (defScope s__law_right) f cdv A outer s H E).nox (defBody s__law_right) (W__law_right S__law_value S__law_same S__law_set S__law_bits S_value_cells S__law_test S_test_labels S_test_queues S_test_cells S__law_take S_fitted) :=
  (dss_cons (ds_par3 (i := 1) (j := 2) (l := 3) rfl sc__law_right.nd rfl rfl rfl (by decide) (by decide) (by decide) rfl rfl rfl (DN.de (dn_lst (da_cons de_str (da_cons de_str (da_cons de_str da_nil))))) (DN.de (dn_lst (da_cons de_str (da_cons de_str da_nil)))) (DN.de (dn_lst (da_cons (de_tup (da_cons de_str (da_cons de_str da_nil))) (da_cons (de_tup (da_cons de_str (da_cons de_str da_nil))) (da_cons (de_tup (da_cons de_str (da_cons de_str da_nil))) da_nil))))) (by rfl))
    (dss_cons (ds_set (i := 4) sc__law_right.nd rfl (by first | exact Or.inl rfl | exact Or.inr rfl) (de_callC C__law_value hr (by rfl) (dpa_cons (dp_own 0 (pv 0)) (dpa_cons (DE.dp de_int) (dpa_cons (DE.dp (de_var 1 (pv 1))) dpa_nil)))))
    (dss_cons (ds_if (dt_not (dt_val (de_callC C__law_same hr (by rfl) (dpa_cons (DE.dp (de_callC C_value_cells hr (by rfl) (dpa_cons (DE.dp (de_var 4 (pv 4))) dpa_nil))) (dpa_cons (DE.dp (de_callC C__law_set hr (by rfl) (dpa_cons (DE.dp (DN.de (dn_lc rfl sc__law_right.nd (own := [("bit", 12)]) (di_seq (de_callG C__law_bits hr (by rfl) (dn_lst (da_cons (de_var 4 (pv 4)) da_nil)))) (blkOk_by (own := [("bit", 12)]) (N := N__law_right) (sc := defScope s__law_right) (by decide +kernel)) (fun _ _ _ _ _ => (dg_name (i := 12) sc__law_right.nd rfl (by first | exact Or.inl rfl | exact Or.inr rfl))) (fun _ _ _ _ _ => (dts_one (dt_eq hr.units (de_ix (de_var 12 (pv 12)) de_int) de_str))) (fun _ _ _ _ _ => (de_ix (de_var 12 (pv 12)) de_int)) (by decide)))) dpa_nil))) dpa_nil))))) (dss_one (ds_ret de_bl)) dss_nil)
    (dss_wipe [4] (dss_cons (ds_for PassesOwn.never rfl (di_seq (de_tup (da_cons de_int (da_cons de_int da_nil)))) (dg_name (i := 5) sc__law_right.nd rfl (by first | exact Or.inl rfl | exact Or.inr rfl)) (dss_tidy [6, 5, 7, 4] (dss_cons (ds_set (i := 4) sc__law_right.nd rfl (by first | exact Or.inl rfl | exact Or.inr rfl) (de_callC C__law_test hr (by rfl) (dpa_cons (dp_own 0 (pv 0)) (dpa_cons (DE.dp (de_var 5 (pv 5))) (dpa_cons (DE.dp (de_var 1 (pv 1))) (dpa_cons (DE.dp (de_var 2 (pv 2))) (dpa_cons (DE.dp (de_var 3 (pv 3))) dpa_nil)))))))
    (dss_cons (ds_set (i := 6) sc__law_right.nd rfl (by first | exact Or.inl rfl | exact Or.inr rfl) (de_callG C__law_bits hr (by rfl) (dn_lst (da_cons (de_var 4 (pv 4)) da_nil))))
    (dss_cons (ds_setL (i := 7) sc__law_right.nd rfl (by first | exact Or.inl rfl | exact Or.inr rfl) (dn_lst (da_cons (de_callC C__law_set hr (by rfl) (dpa_cons (DE.dp (DN.de (dn_lc rfl sc__law_right.nd (own := [("bit", 12)]) (di_seq (de_var 6 (pv 6))) (blkOk_by (own := [("bit", 12)]) (N := N__law_right) (sc := defScope s__law_right) (by decide +kernel)) (fun _ _ _ _ _ => (dg_name (i := 12) sc__law_right.nd rfl (by first | exact Or.inl rfl | exact Or.inr rfl))) (fun _ _ _ _ _ => (dts_one (dt_eq hr.units (de_ix (de_var 12 (pv 12)) de_int) de_str))) (fun _ _ _ _ _ => (de_ix (de_var 12 (pv 12)) de_int)) (by decide)))) dpa_nil)) da_nil)))
    (dss_cons (ds_app 7 (t0 := tVar 7) (pv 7) (de_callC C__law_set hr (by rfl) (dpa_cons (DE.dp (DN.de (dn_lc rfl sc__law_right.nd (own := [("bit", 12)]) (di_seq (de_var 6 (pv 6))) (blkOk_by (own := [("bit", 12)]) (N := N__law_right) (sc := defScope s__law_right) (by decide +kernel)) (fun _ _ _ _ _ => (dg_name (i := 12) sc__law_right.nd rfl (by first | exact Or.inl rfl | exact Or.inr rfl))) (fun _ _ _ _ _ => (dts_one (dt_in (de_ix (de_var 12 (pv 12)) de_int) (de_tup (da_cons de_str (da_cons de_str da_nil)))))) (fun _ _ _ _ _ => (de_ix (de_var 12 (pv 12)) de_int)) (by decide)))) dpa_nil)) (fun pe => pe_bm PySem.F.plainAttrs_list PySem.F.slot_list_append PySem.F.type_list_append mt_append (pv 7) (pa_cons pe pa_nil)))
    (dss_cons (ds_app 7 (t0 := tVar 7) (pv 7) (de_callC C__law_set hr (by rfl) (dpa_cons (DE.dp (DN.de (dn_lc rfl sc__law_right.nd (own := [("bit", 12)]) (di_seq (de_var 6 (pv 6))) (blkOk_by (own := [("bit", 12)]) (N := N__law_right) (sc := defScope s__law_right) (by decide +kernel)) (fun _ _ _ _ _ => (dg_name (i := 12) sc__law_right.nd rfl (by first | exact Or.inl rfl | exact Or.inr rfl))) (fun _ _ _ _ _ => (dts_one (dt_eq hr.units (de_ix (de_var 12 (pv 12)) de_int) de_str))) (fun _ _ _ _ _ => (de_slice (de_var 12 (pv 12)) (do_some de_int) do_none)) (by decide)))) dpa_nil)) (fun pe => pe_bm PySem.F.plainAttrs_list PySem.F.slot_list_append PySem.F.type_list_append mt_append (pv 7) (pa_cons pe pa_nil)))
    (dss_frz 7 (dss_one (ds_if (dt_not (dt_val (de_callC C__law_same hr (by rfl) (dpa_cons (DE.dp (DN.de (dn_lst (da_cons (de_callC C_test_cells hr (by rfl) (dpa_cons (DE.dp (de_var 4 (pv 4))) dpa_nil)) (da_cons (de_callC C_test_queues hr (by rfl) (dpa_cons (DE.dp (de_var 4 (pv 4))) dpa_nil)) (da_cons (de_callC C_test_labels hr (by rfl) (dpa_cons (DE.dp (de_var 4 (pv 4))) dpa_nil)) da_nil)))))) (dpa_cons (DE.dp (de_var 7 (pv 7))) dpa_nil))))) (dss_one (ds_ret de_bl)) dss_nil))))))))))
    (dss_cons (ds_set (i := 8) sc__law_right.nd rfl (by first | exact Or.inl rfl | exact Or.inr rfl) (de_add de_int (de_callC C__law_take hr (by rfl) (dpa_cons (dp_own 0 (pv 0)) (dpa_cons (DE.dp de_int) dpa_nil)))))
    (dss_cons (ds_for PassesOwn.never rfl (di_range1 (by rfl) T.z_range de_int) (dg_name (i := 9) sc__law_right.nd rfl (by first | exact Or.inl rfl | exact Or.inr rfl)) (dss_tidy [10, 9, 11] (dss_cons (ds_set (i := 10) sc__law_right.nd rfl (by first | exact Or.inl rfl | exact Or.inr rfl) (de_sub (de_callC C__law_take hr (by rfl) (dpa_cons (dp_own 0 (pv 0)) (dpa_cons (DE.dp de_int) dpa_nil))) de_int))
    (dss_cons (ds_set (i := 11) sc__law_right.nd rfl (by first | exact Or.inl rfl | exact Or.inr rfl) (de_callC C_fitted hr (by rfl) (dpa_cons (DE.dp (de_var 10 (pv 10))) (dpa_cons (DE.dp (de_var 8 (pv 8))) dpa_nil))))
    (dss_one (ds_if (DW.dt (dw_or (dt_not (dt_val (de_isi (by rfl) T.z_isinstance kit_int (pe_ty (by rfl) T.z_int (by decide +kernel)) (de_var 11 (pv 11))))) (dw_or (dt_not (dt_chain op_le rv_cmp op_le rv_cmp de_int (de_var 11 (pv 11)) (de_var 8 (pv 8)))) (dw_or1 (dt_ne hr.units (de_mod (de_sub (de_var 10 (pv 10)) (de_var 11 (pv 11))) (de_add (de_var 8 (pv 8)) de_int)) de_int))))) (dss_one (ds_ret de_bl)) dss_nil))))))
    (dss_one (ds_ret de_bl)))))))))
theorem A__law_right (F__law_value : Fn) (F__law_same : Fn) (F__law_set : Fn) (F__law_bits : FnGv) (F_value_cells : Fn) (F__law_test : Fn) (F_test_labels : Fn) (F_test_queues : Fn) (F_test_cells : Fn) (F__law_take : Fn) (F_fitted : Fn) : AdS (W__law_right (sF F__law_value) (sF F__law_same) (sF F__law_set) (sG F__law_bits) (sF F_value_cells) (sF F__law_test) (sF F_test_labels) (sF F_test_queues) (sF F_test_cells) (sF F__law_take) (sF F_fitted)) (B__law_right F__law_value F__law_same F__law_set F__law_bits F_value_cells F__law_test F_test_labels F_test_queues F_test_cells F__law_take F_fitted) :=
  (ad_seq (ad_par3 1 2 3 (ad_l (ad_lst (ad_cons (ad_cs qt_x) (ad_cons (ad_cs qt_y) (ad_cons (ad_cs qt_zz) ad_nil))))) (ad_l (ad_lst (ad_cons (ad_cs qt_p) (ad_cons (ad_cs qt_q) ad_nil)))) (ad_l (ad_lst (ad_cons (ad_tup (ad_cons (ad_cs qt_a) (ad_cons (ad_cs qt_l) ad_nil))) (ad_cons (ad_tup (ad_cons (ad_cs qt_b) (ad_cons (ad_cs qt_l) ad_nil))) (ad_cons (ad_tup (ad_cons (ad_cs qt_b) (ad_cons (ad_cs qt_m) ad_nil))) ad_nil)))))) (ad_seq (ad_asg 4 (ad_call (ad_pcons (ad_ow 0) (ad_pcons (ad_d (ad_c _)) (ad_pcons (ad_d (ad_var 1)) ad_pnil))))) (ad_seq (ad_ifS (ad_not (ad_b (ad_call (ad_pcons (ad_d (ad_call (ad_pcons (ad_d (ad_var 4)) ad_pnil))) (ad_pcons (ad_d (ad_call (ad_pcons (ad_d (ad_l (ad_lc (ad_seqI (ad_callG (ad_lst (ad_cons (ad_var 4) ad_nil)))) (ad_gname 12) (ad_b (ad_op ad_eq (ad_op ad_ix (ad_var 12) (ad_c _)) (ad_cs qt_cell))) (ad_op ad_ix (ad_var 12) (ad_c _))))) ad_pnil))) ad_pnil))))) (ad_ret (ad_c _)) ad_next) (ad_wipe [4] (ad_seq (ad_for (ad_seqI (ad_tup (ad_cons (ad_c _) (ad_cons (ad_c _) ad_nil)))) (ad_gname 5) (ad_tidy [6, 5, 7, 4] (ad_seq (ad_asg 4 (ad_call (ad_pcons (ad_ow 0) (ad_pcons (ad_d (ad_var 5)) (ad_pcons (ad_d (ad_var 1)) (ad_pcons (ad_d (ad_var 2)) (ad_pcons (ad_d (ad_var 3)) ad_pnil))))))) (ad_seq (ad_asg 6 (ad_callG (ad_lst (ad_cons (ad_var 4) ad_nil)))) (ad_seq (ad_asgL 7 (ad_lst (ad_cons (ad_call (ad_pcons (ad_d (ad_l (ad_lc (ad_seqI (ad_var 6)) (ad_gname 12) (ad_b (ad_op ad_eq (ad_op ad_ix (ad_var 12) (ad_c _)) (ad_cs qt_cell))) (ad_op ad_ix (ad_var 12) (ad_c _))))) ad_pnil)) ad_nil))) (ad_seq (ad_app 7 (ad_call (ad_pcons (ad_d (ad_l (ad_lc (ad_seqI (ad_var 6)) (ad_gname 12) (ad_b (ad_op ad_in (ad_op ad_ix (ad_var 12) (ad_c _)) (ad_tup (ad_cons (ad_cs qt_empty) (ad_cons (ad_cs qt_full) ad_nil))))) (ad_op ad_ix (ad_var 12) (ad_c _))))) ad_pnil))) (ad_seq (ad_app 7 (ad_call (ad_pcons (ad_d (ad_l (ad_lc (ad_seqI (ad_var 6)) (ad_gname 12) (ad_b (ad_op ad_eq (ad_op ad_ix (ad_var 12) (ad_c _)) (ad_cs qt_stands))) (ad_sl (ad_var 12) (ad_some (ad_c _)) ad_none)))) ad_pnil))) (ad_frz 7 (ad_ifS (ad_not (ad_b (ad_call (ad_pcons (ad_d (ad_l (ad_lst (ad_cons (ad_call (ad_pcons (ad_d (ad_var 4)) ad_pnil)) (ad_cons (ad_call (ad_pcons (ad_d (ad_var 4)) ad_pnil)) (ad_cons (ad_call (ad_pcons (ad_d (ad_var 4)) ad_pnil)) ad_nil)))))) (ad_pcons (ad_d (ad_var 7)) ad_pnil))))) (ad_ret (ad_c _)) ad_next))))))))) (ad_seq (ad_asg 8 (ad_op ad_add (ad_c _) (ad_call (ad_pcons (ad_ow 0) (ad_pcons (ad_d (ad_c _)) ad_pnil))))) (ad_seq (ad_for (ad_rng1 (ad_c _)) (ad_gname 9) (ad_tidy [10, 9, 11] (ad_seq (ad_asg 10 (ad_op ad_sub (ad_call (ad_pcons (ad_ow 0) (ad_pcons (ad_d (ad_c _)) ad_pnil))) (ad_c _))) (ad_seq (ad_asg 11 (ad_call (ad_pcons (ad_d (ad_var 10)) (ad_pcons (ad_d (ad_var 8)) ad_pnil)))) (ad_ifS (ad_or (ad_not (ad_b (ad_isi .int (ad_var 11)))) (ad_or (ad_not (ad_b (ad_chain ad_cmp ad_cmp (ad_c _) (ad_var 11) (ad_var 8)))) (ad_b (ad_op ad_ne (ad_op ad_mod (ad_op ad_sub (ad_var 10) (ad_var 11)) (ad_op ad_add (ad_var 8) (ad_c _))) (ad_c _))))) (ad_ret (ad_c _)) ad_next))))) (ad_ret (ad_c _)))))))))
def W_law (S__law_cells : PSp) (S__law_by_hand_right : PSp) (S__law_right : PSp) (S__law_box : PSp) : WS :=
  (wSeq (wAsg 1 (wCall S__law_cells (wPCons (wOs 0) (wPCons (wD (wC (.int 3))) wPNil))))
    (wSeq (wIfS (wNot (wB (wCall S__law_by_hand_right wPNil))) (wRet (wC (.bool false))) wNext)
    (wRet (wCB allB (wCons (wL (wLc (wRng1 (wCB lenD (wCons (wVar 1) wNil))) (wgName 2) wYes (wCallN S__law_right (wCallL S__law_box (wPCons (wD (wVar 1)) (wPCons (wD (wVar 2)) wPNil)))) [2])) wNil)))))
theorem d_law {P : Program} {w : World} {K : PySem.W.Frag} {mg : Str → Option Value} {base : Heap} {k : Nat} {S__law_cells : PSp} {S__law_by_hand_right : PSp} {S__law_right : PSp} {S__law_box : PSp} (T : Txt K mg) (C__law_cells : Cal P w K mg base "_law_cells" ["script", "top_so"] k S__law_cells) (C__law_by_hand_right : Cal P w K mg base "_law_by_hand_right" [] k S__law_by_hand_right) (C__law_right : Cal P w K mg base "_law_right" ["box"] k S__law_right) (C__law_box : Cal P w K mg base "_law_box" ["script", "k"] k S__law_box) {f : Addr} {cdv : Value} {A : Around} {outer : List Env} {s : Shared} {H : Hp} {E : XK} (hr : Room k (A.deeper (envOfC "law" (defScope s_law) s.heap.objs.size f cdv))) :
    DSs (cxOf CX0 P w K mg base N_law "law" (defScope s_law) f cdv A outer s H E).nox (defBody s_law) (W_law S__law_cells S__law_by_hand_right S__law_right S__law_box) :=
  (dss_cons (ds_set (i := 1) sc_law.nd rfl (by first | exact Or.inl rfl | exact Or.inr rfl) (de_callC C__law_cells hr (by rfl) (dpa_cons (dp_scr 0 (pv 0)) (dpa_cons (DE.dp de_int) dpa_nil))))
    (dss_cons (ds_if (dt_not (dt_val (de_callC0 C__law_by_hand_right hr (by rfl)))) (dss_one (ds_ret de_bl)) dss_nil)
    (dss_one (ds_ret (de_all rfl (by rfl) T.z_all (DN.de (dn_lc rfl sc_law.nd (own := [("k", 2)]) (di_range1 (by rfl) T.z_range (de_len (by rfl) T.z_len (de_var 1 (pv 1)))) (blkOk_by (own := [("k", 2)]) (N := N_law) (sc := defScope s_law) (by decide +kernel)) (fun _ _ _ _ _ => (dg_name (i := 2) sc_law.nd rfl (by first | exact Or.inl rfl | exact Or.inr rfl))) (fun _ _ _ _ _ => dts_nil) (fun _ _ _ _ _ => (de_callN C__law_right hr (by rfl) (dn_callC C__law_box hr (by rfl) (dpa_cons (DE.dp (de_var 1 (pv 1))) (dpa_cons (DE.dp (de_var 2 (pv 2))) dpa_nil))))) (by decide))))))))
theorem A_law (F__law_cells : Fn) (F__law_by_hand_right : Fn) (F__law_right : Fn) (F__law_box : Fn) : AdS (W_law (sF F__law_cells) (sF F__law_by_hand_right) (sF F__law_right) (sF F__law_box)) (B_law F__law_cells F__law_by_hand_right F__law_right F__law_box) :=
  (ad_seq (ad_asg 1 (ad_call (ad_pcons (ad_os 0) (ad_pcons (ad_d (ad_c _)) ad_pnil)))) (ad_seq (ad_ifS (ad_not (ad_b (ad_call ad_pnil))) (ad_ret (ad_c _)) ad_next) (ad_ret (ad_cb ad_all (ad_cons (ad_l (ad_lc (ad_rng1 (ad_cb ad_len (ad_cons (ad_var 1) ad_nil))) (ad_gname 2) ad_yes (ad_callN (ad_callL (ad_pcons (ad_d (ad_var 1)) (ad_pcons (ad_d (ad_var 2)) ad_pnil)))))) ad_nil)))))
end K08

namespace K08
open PySem DL L2 LB
/-! ## names: these defs are those of the parts that laws share -/
theorem q_take : F__law_take = LB.F_take := rfl
theorem q_of : F__law_of = LB.F_of := rfl
theorem q_value : ∀ n, R__law_value n = LB.R_value n
  | 0 => rfl
  | n + 1 => by
    show fnF 3 5 (B__law_value F__law_take F__law_of (R__law_value n)) = fnF 3 5 (LB.B_value LB.F_take LB.F_of (LB.R_value n))
    rw [q_value n]
    rfl
theorem q_test : ∀ n, R__law_test n = LB.R_test F__law_value n
  | 0 => rfl
  | n + 1 => by
    show fnF 5 8 (B__law_test F__law_take (R__law_test n) F__law_of F__law_value) = fnF 5 8 (LB.B_test LB.F_take (LB.R_test F__law_value n) LB.F_of F__law_value)
    rw [q_test n]
    rfl
theorem q_same : ∀ n, R__law_same n = LB.R_same n
  | 0 => rfl
  | n + 1 => by
    show fnF 2 4 (B__law_same (R__law_same n)) = fnF 2 4 (LB.B_same (LB.R_same n))
    rw [q_same n]
    rfl
theorem q_cov : ∀ n, R_cells_of_value n = LB.R_cells_of_value n
  | 0 => rfl
  | n + 1 => by
    show fnF 1 1 (B_cells_of_value (R_cells_of_value n)) = fnF 1 1 (LB.B_cells_of_value (LB.R_cells_of_value n))
    rw [q_cov n]
    rfl
theorem q_lt : ∀ n, R_least_tests n = LB.R_least_tests n
  | 0 => rfl
  | n + 1 => by
    show fnF 1 1 (B_least_tests (R_least_tests n)) = fnF 1 1 (LB.B_least_tests (LB.R_least_tests n))
    rw [q_lt n]
    rfl
theorem q_bits : F__law_bits = LB.F_bits := rfl
theorem q_set : F__law_set = fnF 1 1 LB.B_set := rfl
theorem q_as_set : F_as_set = fnF 1 1 LB.B_set := rfl
theorem q_cot : F_cells_of_test = fnF 1 3 (LB.B_cells_of_test F_least_tests F_cells_of_value) := rfl
theorem q_qot : F_queues_of_test = fnF 1 2 (LB.B_queues_of_test F_least_tests) := rfl
theorem q_lot : F_labels_of_test = fnF 1 2 (LB.B_labels_of_test F_least_tests) := rfl
theorem q_cells : F__law_cells = fnF 2 6 LB.B_cells := rfl
theorem q_hd : t_cell = LB.t_cell := rfl
theorem q_stands : t_stands = LB.t_stands := rfl
theorem q_empty : t_empty = LB.t_empty := rfl
theorem q_full : t_full = LB.t_full := rfl
/-! ## names drawn from -/
abbrev cs : List Str := [t_x, t_y, t_zz]
abbrev ls : List Str := [t_p, t_q]
abbrev ms : List (Str × Str) := [(t_a, t_l), (t_b, t_l), (t_b, t_m)]
theorem cs_ok : ∀ c ∈ cs, SeqAt.shaped (.str c) = true := by decide +kernel
theorem ls_ok : ∀ c ∈ ls, SeqAt.shaped (.str c) = true := by decide +kernel
theorem ms_ok : ∀ m ∈ ms, SeqAt.shaped (.str m.1) = true ∧ SeqAt.shaped (.str m.2) = true := by decide +kernel
theorem cs_sh : SeqAt.shaped (.list (cs.map PyData.str)) = true := by decide +kernel
theorem ls_sh : SeqAt.shaped (.list (ls.map PyData.str)) = true := by decide +kernel
theorem ms_sh : SeqAt.shaped (.list (ms.map markD)) = true := by decide +kernel
/-! ## the program -/
theorem rs_dat (d : PyData) : rsD (.dat d) = d := rfl
theorem rs_new (d : List PyData) : rsD (.new d) = .list d := rfl
theorem cv_ok {v : Val} {d : Nat} (h : v.In cs d) (hd : d < 12) (hl : v.nodes.length ≤ 1000) : ∃ r, F_cells_of_value [.dat v.toD] = some (.ok r [.dat v.toD]) ∧ rsD r = .list (v.cells.map PyData.str) := by
  unfold F_cells_of_value
  rw [q_cov]
  exact cov_ok v d 12 h hd (by omega)
theorem value_cells_ok {v : Val} {d : Nat} (h : v.In cs d) (hd : d < 12) (hl : v.nodes.length ≤ 1000) : F_value_cells [.dat v.toD] = some (.ok (.dat (.tuple (asSetD (v.cells.map PyData.str)))) [.dat v.toD]) := by
  obtain ⟨r, e1, q1⟩ := cv_ok h hd hl
  have fz := froz_val v
  have f1 := frozen_ok fz.1 (by omega)
  have l1 := val_cells_len v
  have s1 := set_ok (textsB_map (xs := v.cells) (by omega))
  rw [← q_as_set] at s1
  show fnF 1 1 (B_value_cells F_as_set F_cells_of_value DL.F_frozen) _ = _
  generalize F_as_set = A at s1
  generalize F_cells_of_value = C at e1
  generalize DL.F_frozen = Z at f1
  simp [-rsD, rs_dat, fnF, B_value_cells, f1, e1, q1, s1, outD]
theorem lts_ok {x : Tst} {d : Nat} (h : x.In cs ls ms d) (hd : d < 12) (hl : x.nodes.length ≤ 1000) : ∃ r, F_least_tests [.dat x.toD] = some (.ok r [.dat x.toD]) ∧ rsD r = .list (x.leasts.map Tst.toD) := by
  unfold F_least_tests
  rw [q_lt]
  exact lt_ok x d 12 h hd (by omega)
theorem test_cells_ok {x : Tst} {d : Nat} (h : x.In cs ls ms d) (hd : d < 12) (hl : x.nodes.length ≤ 1000) : F_test_cells [.dat x.toD] = some (.ok (.dat (.tuple (asSetD (x.cells.map PyData.str)))) [.dat x.toD]) := by
  have e1 : F_cells_of_test [.dat x.toD] = _ := cot_ok h (by omega) (lts_ok h hd hl) fun v hv => cv_ok hv (by omega) (by have := Val.many hv; omega)
  have fz := froz_tst x
  have f1 := frozen_ok fz.1 (by omega)
  have l1 := tst_cells_len x
  have s1 := set_ok (textsB_map (xs := x.cells) (by omega))
  rw [← q_as_set] at s1
  show fnF 1 1 (B_test_cells F_as_set F_cells_of_test DL.F_frozen) _ = _
  generalize F_as_set = A at s1
  generalize F_cells_of_test = C at e1
  generalize DL.F_frozen = Z at f1
  simp [fnF, B_test_cells, f1, e1, s1, outD]
theorem test_queues_ok {x : Tst} {d : Nat} (h : x.In cs ls ms d) (hd : d < 12) (hl : x.nodes.length ≤ 1000) : F_test_queues [.dat x.toD] = some (.ok (.dat (.tuple (asSetD (x.queues.map PyData.str)))) [.dat x.toD]) := by
  have e1 : F_queues_of_test [.dat x.toD] = _ := qot_ok h (by omega) (lts_ok h hd hl)
  have fz := froz_tst x
  have f1 := frozen_ok fz.1 (by omega)
  have l1 := tst_lens x
  have s1 := set_ok (textsB_map (xs := x.queues) (by omega))
  rw [← q_as_set] at s1
  show fnF 1 1 (B_test_queues F_as_set F_queues_of_test DL.F_frozen) _ = _
  generalize F_as_set = A at s1
  generalize F_queues_of_test = C at e1
  generalize DL.F_frozen = Z at f1
  simp [fnF, B_test_queues, f1, e1, s1, outD]
theorem test_labels_ok {x : Tst} {d : Nat} (h : x.In cs ls ms d) (hd : d < 12) (hl : x.nodes.length < 64) : F_test_labels [.dat x.toD] = some (.ok (.dat (.tuple (asSetD (x.marks.map markD)))) [.dat x.toD]) := by
  have e1 : F_labels_of_test [.dat x.toD] = _ := lot_ok h (by omega) (lts_ok h hd (by omega))
  have fz := froz_tst x
  have f1 := frozen_ok fz.1 (by omega)
  have l1 := tst_lens x
  have s1 := set_ok (rowsB_map (ms := x.marks) (by omega))
  rw [← q_as_set] at s1
  show fnF 1 1 (B_test_labels F_as_set F_labels_of_test DL.F_frozen) _ = _
  generalize F_as_set = A at s1
  generalize F_labels_of_test = C at e1
  generalize DL.F_frozen = Z at f1
  simp [fnF, B_test_labels, f1, e1, s1, outD]
theorem fitted_ok (x h : Int) (hh : 0 ≤ h) : F_fitted [.dat (.int x), .dat (.int h)] = some (.ok (.dat (.int (x.fmod (h + 1)))) [.dat (.int x), .dat (.int h)]) := by
  have : (h + 1 != 0) = true := by simp; omega
  simp [F_fitted, fnF, B_fitted, this]
end K08

namespace K08
open PySem DL L2 LB
/-! ## the law's turn -/
theorem c0 (x : PyData) (xs : List PyData) : atI (x :: xs) 0 = some x := atI_nat (j := 0) rfl
theorem c1 (x y : PyData) (xs : List PyData) : atI (x :: y :: xs) 1 = some y := atI_nat (j := 1) rfl
abbrev C : Sl := .dat (.list (cs.map PyData.str))
abbrev L : Sl := .dat (.list (ls.map PyData.str))
abbrev M : Sl := .dat (.list (ms.map markD))
section
variable {a0 a1 a2 a3 a4 a5 a6 a7 a8 a9 a10 a11 : Sl}
theorem node_lc {t : FT} {b : FE} (p : PyData → Bool) (f : PyData → PyData) (ds : List PyData) (hl : ds.length ≤ 1000) (hd : ∀ d ∈ ds, t [a0, a1, a2, a3, a4, a5, a6, a7, a8, a9, a10, a11, .dat d] = some (p d, [a0, a1, a2, a3, a4, a5, a6, a7, a8, a9, a10, a11, .dat d]) ∧ b [a0, a1, a2, a3, a4, a5, a6, a7, a8, a9, a10, a11, .dat d] = some (f d, [a0, a1, a2, a3, a4, a5, a6, a7, a8, a9, a10, a11, .dat d])) :
    lcF (fgName 12) t b [12] ds [] [a0, a1, a2, a3, a4, a5, a6, a7, a8, a9, a10, a11, .un] = some ((ds.filter p).map f, [a0, a1, a2, a3, a4, a5, a6, a7, a8, a9, a10, a11, .un]) := by
  rw [lcF_map f p]
  · simp
  · intro e m
    obtain ⟨h1, h2⟩ := hd e m
    exact ⟨[a0, a1, a2, a3, a4, a5, a6, a7, a8, a9, a10, a11, .dat e], _, rfl, h1, rfl, fun _ => ⟨_, h2, rfl⟩⟩
  · simp; omega
theorem cell_lc {ds : List PyData} (hl : ds.length ≤ 1000) (hn : ∀ d ∈ ds, NodeOk d) :
    lcF (fgName 12) (fB (fOp eqF (fOp ixF (fVar 12) (fC (.int 0))) (fC (.str t_cell)))) (fOp ixF (fVar 12) (fC (.int 1))) [12] ds [] [a0, a1, a2, a3, a4, a5, a6, a7, a8, a9, a10, a11, .un] = some ((ds.filter (hdIs LB.t_cell)).map it1, [a0, a1, a2, a3, a4, a5, a6, a7, a8, a9, a10, a11, .un]) :=
  node_lc (hdIs LB.t_cell) it1 ds hl fun d m => by
    obtain ⟨w, y, r, rfl, hw⟩ := hn d m
    exact ⟨by simp [q_hd, c0, hw, eqv_ss, hdIs], by simp [c1, it1]⟩
theorem look_lc {ds : List PyData} (hl : ds.length ≤ 1000) (hn : ∀ d ∈ ds, NodeOk d) :
    lcF (fgName 12) (fB (fOp inF (fOp ixF (fVar 12) (fC (.int 0))) (fTup (fCons (fC (.str t_empty)) (fCons (fC (.str t_full)) fNil))))) (fOp ixF (fVar 12) (fC (.int 1))) [12] ds [] [a0, a1, a2, a3, a4, a5, a6, a7, a8, a9, a10, a11, .un] = some ((ds.filter looks).map it1, [a0, a1, a2, a3, a4, a5, a6, a7, a8, a9, a10, a11, .un]) :=
  node_lc looks it1 ds hl fun d m => by
    obtain ⟨w, y, r, rfl, hw⟩ := hn d m
    refine ⟨?_, by simp [c1, it1]⟩
    have b1 : (LB.t_empty == w) = (w == LB.t_empty) := BEq.comm
    have b2 : (LB.t_full == w) = (w == LB.t_full) := BEq.comm
    simp [q_empty, q_full, c0, eqv_ss, looks, hdIs, flatD, b1, b2]
theorem stand_lc {ds : List PyData} (hl : ds.length ≤ 1000) (hn : ∀ d ∈ ds, NodeOk d) :
    lcF (fgName 12) (fB (fOp eqF (fOp ixF (fVar 12) (fC (.int 0))) (fC (.str t_stands)))) (fSl (fVar 12) (fSome (fC (.int 1))) fNone) [12] ds [] [a0, a1, a2, a3, a4, a5, a6, a7, a8, a9, a10, a11, .un] = some ((ds.filter (hdIs LB.t_stands)).map restT, [a0, a1, a2, a3, a4, a5, a6, a7, a8, a9, a10, a11, .un]) :=
  node_lc (hdIs LB.t_stands) restT ds hl fun d m => by
    obtain ⟨w, y, r, rfl, hw⟩ := hn d m
    have : cutD (PyData.str w :: y :: r) (some 1) none = y :: r := by
      unfold cutD
      rw [sIx_nn (by omega)]
      simp [HT.sIx]
    exact ⟨by simp [q_stands, c0, hw, eqv_ss, hdIs], by simp [this, restT, restD]⟩
end
theorem sameT (d : PyData) (h : okD 3 d = true) : F__law_same [.dat d, .dat d] = some (.ok (.dat (.bool true)) [.dat d, .dat d]) := by
  unfold F__law_same
  rw [q_same]
  exact same_ok 11 d (okD_mono d 3 11 h (by omega))
theorem valT {k : Int} {bs : List PyData} {d : Nat} (hd : d < 6) (h : BoxOk (k + takesV d) bs) (hk : 0 ≤ k) : ∃ (v : Val) (bs' : List PyData), F__law_value [.par bs, .dat (.int d), C] = some (.ok (.dat v.toD) [.par bs', .dat (.int d), C]) ∧ v.In cs d ∧ BoxOk k bs' := by
  have := value_ok cs_sh (by decide) d 6 k bs hd h hk
  rw [← q_value] at this
  exact this
theorem tstT {k : Int} {bs : List PyData} {d : Nat} (hd : d < 6) (h : BoxOk (k + takesT d) bs) (hk : 0 ≤ k) : ∃ (t : Tst) (bs' : List PyData), F__law_test [.par bs, .dat (.int d), C, L, M] = some (.ok (.dat t.toD) [.par bs', .dat (.int d), C, L, M]) ∧ t.In cs ls ms d ∧ BoxOk k bs' := by
  have hv : ValueOk F__law_value cs := fun k bs h hk => valT (d := 1) (by omega) h hk
  have := test_ok hv ls_sh ms_sh (by decide) (by decide) d 6 k bs hd h hk
  rw [← q_test] at this
  exact this
theorem ok_strs {xs : List Str} (h : ∀ c ∈ xs, SeqAt.shaped (.str c) = true) (hl : xs.length ≤ 1000) (n : Nat) : okD (n + 1) (.tuple (asSetD (xs.map PyData.str))) = true := by
  unfold okD
  have l := asSetD_len (xs.map PyData.str)
  rw [List.length_map] at l
  rw [Bool.and_eq_true, decide_eq_true_eq]
  refine ⟨by omega, okDs_of fun x m => ?_⟩
  rw [mem_asSetD (strs_ok xs)] at m
  obtain ⟨c, m2, rfl⟩ := List.mem_map.mp m
  have := h c m2
  cases n <;> simpa [okD] using this
theorem ok_marks {xs : List (Str × Str)} (h : ∀ c ∈ xs, SeqAt.shaped (.str c.1) = true ∧ SeqAt.shaped (.str c.2) = true) (hl : xs.length < 64) (n : Nat) : okD (n + 2) (.tuple (asSetD (xs.map markD))) = true := by
  unfold okD
  have l := asSetD_len (xs.map markD)
  rw [List.length_map] at l
  rw [Bool.and_eq_true, decide_eq_true_eq]
  refine ⟨by omega, okDs_of fun x m => ?_⟩
  rw [mem_asSetD (setOkB_keys (rowsB_map hl))] at m
  obtain ⟨c, m2, rfl⟩ := List.mem_map.mp m
  have := h c m2
  have a1 : okD n (.str c.1) = true := by cases n <;> simpa [okD] using this.1
  have a2 : okD n (.str c.2) = true := by cases n <;> simpa [okD] using this.2
  simp [markD, okD, okDs, a1, a2, this]
/-- the turn over tests -/
def B_turn : FS := fTidy [6, 5, 7, 4] (fSeq (fAsg 4 (fCall F__law_test (fPCons (fOw 0) (fPCons (fD (fVar 5)) (fPCons (fD (fVar 1)) (fPCons (fD (fVar 2)) (fPCons (fD (fVar 3)) fPNil))))))) (fSeq (fAsg 6 (fCallG F__law_bits (fLst (fCons (fVar 4) fNil)))) (fSeq (fAsgL 7 (fLst (fCons (fCall F__law_set (fPCons (fD (fL (fLc (fSeqI (fVar 6)) (fgName 12) (fB (fOp eqF (fOp ixF (fVar 12) (fC (.int 0))) (fC (.str t_cell)))) (fOp ixF (fVar 12) (fC (.int 1))) [12]))) fPNil)) fNil))) (fSeq (fApp 7 (fCall F__law_set (fPCons (fD (fL (fLc (fSeqI (fVar 6)) (fgName 12) (fB (fOp inF (fOp ixF (fVar 12) (fC (.int 0))) (fTup (fCons (fC (.str t_empty)) (fCons (fC (.str t_full)) fNil))))) (fOp ixF (fVar 12) (fC (.int 1))) [12]))) fPNil))) (fSeq (fApp 7 (fCall F__law_set (fPCons (fD (fL (fLc (fSeqI (fVar 6)) (fgName 12) (fB (fOp eqF (fOp ixF (fVar 12) (fC (.int 0))) (fC (.str t_stands)))) (fSl (fVar 12) (fSome (fC (.int 1))) fNone) [12]))) fPNil))) (fFrz 7 (fIfS (fNot (fB (fCall F__law_same (fPCons (fD (fL (fLst (fCons (fCall F_test_cells (fPCons (fD (fVar 4)) fPNil)) (fCons (fCall F_test_queues (fPCons (fD (fVar 4)) fPNil)) (fCons (fCall F_test_labels (fPCons (fD (fVar 4)) fPNil)) fNil)))))) (fPCons (fD (fVar 7)) fPNil))))) (fRet (fC (.bool false))) fNext)))))))
def B_lap : FS := fTidy [10, 9, 11] (fSeq (fAsg 10 (fOp subF (fCall F__law_take (fPCons (fOw 0) (fPCons (fD (fC (.int 200))) fPNil))) (fC (.int 100)))) (fSeq (fAsg 11 (fCall F_fitted (fPCons (fD (fVar 10)) (fPCons (fD (fVar 8)) fPNil)))) (fIfS (fOr (fNot (fB (fIsi .int (fVar 11)))) (fOr (fNot (fB (fChain leF leF (fC (.int 0)) (fVar 11) (fVar 8)))) (fB (fOp neF (fOp modF (fOp subF (fVar 10) (fVar 11)) (fOp addF (fVar 8) (fC (.int 1)))) (fC (.int 0)))))) (fRet (fC (.bool false))) fNext)))
theorem right_body : F__law_right = fnF 1 13 (fSeq (fPar3 1 2 3 (fL (fLst (fCons (fC (.str t_x)) (fCons (fC (.str t_y)) (fCons (fC (.str t_zz)) fNil))))) (fL (fLst (fCons (fC (.str t_p)) (fCons (fC (.str t_q)) fNil)))) (fL (fLst (fCons (fTup (fCons (fC (.str t_a)) (fCons (fC (.str t_l)) fNil))) (fCons (fTup (fCons (fC (.str t_b)) (fCons (fC (.str t_l)) fNil))) (fCons (fTup (fCons (fC (.str t_b)) (fCons (fC (.str t_m)) fNil))) fNil)))))) (fSeq (fAsg 4 (fCall F__law_value (fPCons (fOw 0) (fPCons (fD (fC (.int 3))) (fPCons (fD (fVar 1)) fPNil))))) (fSeq (fIfS (fNot (fB (fCall F__law_same (fPCons (fD (fCall F_value_cells (fPCons (fD (fVar 4)) fPNil))) (fPCons (fD (fCall F__law_set (fPCons (fD (fL (fLc (fSeqI (fCallG F__law_bits (fLst (fCons (fVar 4) fNil)))) (fgName 12) (fB (fOp eqF (fOp ixF (fVar 12) (fC (.int 0))) (fC (.str t_cell)))) (fOp ixF (fVar 12) (fC (.int 1))) [12]))) fPNil))) fPNil))))) (fRet (fC (.bool false))) fNext) (fWipe [4] (fSeq (fFor (fSeqI (fTup (fCons (fC (.int 1)) (fCons (fC (.int 2)) fNil)))) (fgName 5) B_turn) (fSeq (fAsg 8 (fOp addF (fC (.int 1)) (fCall F__law_take (fPCons (fOw 0) (fPCons (fD (fC (.int 9))) fPNil))))) (fSeq (fFor (fRng1 (fC (.int 3))) (fgName 9) B_lap) (fRet (fC (.bool true)))))))))) := rfl
theorem lap_ok {k h : Int} {bs : List PyData} {i : PyData} (hb : BoxOk (k + 1) bs) (hk : 0 ≤ k) (hh : 0 ≤ h) :
    ∃ bs', B_lap [.par bs, C, L, M, .un, .un, .un, .un, .dat (.int h), .dat i, .un, .un, .un] = some (.nx [.par bs', C, L, M, .un, .un, .un, .un, .dat (.int h), .un, .un, .un, .un]) ∧ BoxOk k bs' := by
  obtain ⟨d, b1, e1, d1, d2, h1⟩ := take_ok (n := 200) hb (by omega) (by omega) hk
  have e2 := fitted_ok (d - 100) h hh
  rw [← q_take] at e1
  have n0 : (h + 1 != 0) = true := by simp; omega
  have g1 := Int.fmod_nonneg_of_pos (d - 100) (b := h + 1) (by omega)
  have g2 : (d - 100).fmod (h + 1) ≤ h := by have := Int.fmod_lt_of_pos (d - 100) (b := h + 1) (by omega); omega
  have g3 : (d - 100 - (d - 100).fmod (h + 1)).fmod (h + 1) = 0 := by
    have := Int.mul_fdiv_add_fmod (d - 100) (h + 1)
    have e : d - 100 - (d - 100).fmod (h + 1) = (h + 1) * (d - 100).fdiv (h + 1) := by omega
    rw [e, Int.mul_fmod_right]
  refine ⟨b1, ?_, h1⟩
  unfold B_lap
  generalize F__law_take = T at e1
  generalize F_fitted = Z at e2
  simp [e1, e2, outD, g1, g2, g3, n0, sh_int, eqv_ii]
end K08

namespace K08
open PySem DL L2 LB
theorem bitsT {b : BT} {n : Nat} (hN : b.nodes.length ≤ 60) (hs : Shal n b.toD) (hn : n ≤ 63) : ∃ found : List PyData, F__law_bits [b.toD] = some (.new found) ∧ found.Perm b.nodes := bits_ok hN hs hn
theorem setT {ds : List PyData} (h : setOkB ds = true) : F__law_set [.dat (.list ds)] = some (.ok (.dat (.tuple (asSetD ds))) [.dat (.list ds)]) := set_ok h
theorem turn_ok {k : Int} {bs : List PyData} {d : Nat} (hd : d ≤ 2) (hb : BoxOk (k + takesT d) bs) (hk : 0 ≤ k) :
    ∃ bs', B_turn [.par bs, C, L, M, .un, .dat (.int d), .un, .un, .un, .un, .un, .un, .un] = some (.nx [.par bs', C, L, M, .un, .un, .un, .un, .un, .un, .un, .un, .un]) ∧ BoxOk k bs' := by
  obtain ⟨x, b1, e1, hx, h1⟩ := tstT (show d < 6 by omega) hb hk
  have many := Tst.many hx
  have p5 : 2 ^ (d + 3) ≤ 2 ^ 5 := Nat.pow_le_pow_right (by omega) (by omega)
  have sh := Tst.shal cs_ok ls_ok ms_ok hx
  obtain ⟨found, e2, pm⟩ := bitsT (b := .t x) (n := d + 3) (by show x.nodes.length ≤ 60; omega) sh (by omega)
  have pm : found.Perm x.nodes := pm
  have fl := pm.length_eq
  have nok : ∀ e ∈ found, NodeOk e := fun e m => tst_nodes_ok hx e (pm.mem_iff.mp m)
  have tin := tst_in hx
  have l1 := tst_cells_len x
  have l2 := tst_lens x
  have q1 : ((found.filter (hdIs LB.t_cell)).map it1).Perm (x.cells.map PyData.str) := by rw [← tst_cells_of hx]; exact (pm.filter _).map _
  have q2 : ((found.filter looks).map it1).Perm (x.queues.map PyData.str) := by rw [← tst_looks_of hx]; exact (pm.filter _).map _
  have q3 : ((found.filter (hdIs LB.t_stands)).map restT).Perm (x.marks.map markD) := by rw [← tst_marks_of hx]; exact (pm.filter _).map _
  obtain ⟨o1, w1⟩ := set_perm_str q1 (by omega)
  obtain ⟨o2, w2⟩ := set_perm_str q2 (by omega)
  obtain ⟨o3, w3⟩ := set_perm_mark q3 (by omega)
  have f1 := setT o1
  have f2 := setT o2
  have f3 := setT o3
  rw [w1] at f1
  rw [w2] at f2
  rw [w3] at f3
  have g1 := test_cells_ok hx (by omega) (by omega)
  have g2 := test_queues_ok hx (by omega) (by omega)
  have g3 := test_labels_ok hx (by omega) (by omega)
  have ok : okD 3 (.list [.tuple (asSetD (x.cells.map PyData.str)), .tuple (asSetD (x.queues.map PyData.str)), .tuple (asSetD (x.marks.map markD))]) = true := by
    have a1 := ok_strs (n := 1) (xs := x.cells) (fun c m => cs_ok c (tin.1 c m)) (by omega)
    have a2 := ok_strs (n := 1) (xs := x.queues) (fun c m => ls_ok c (tin.2.1 c m)) (by omega)
    have a3 := ok_marks (n := 0) (xs := x.marks) (fun c m => ms_ok c (tin.2.2 c m)) (by omega)
    rw [okD, Bool.and_eq_true]
    refine ⟨rfl, okDs_of fun y m => ?_⟩
    simp only [List.mem_cons, List.not_mem_nil, or_false] at m
    rcases m with rfl | rfl | rfl
    · exact a1
    · exact a2
    · exact a3
  have g4 := sameT _ ok
  have lf : found.length ≤ 1000 := by omega
  have D1 : ∀ Γ : Gam, True := fun _ => trivial
  refine ⟨b1, ?_, h1⟩
  rw [B_turn, fTidy]
  have s1 : (fAsg 4 (fCall F__law_test (fPCons (fOw 0) (fPCons (fD (fVar 5)) (fPCons (fD (fVar 1)) (fPCons (fD (fVar 2)) (fPCons (fD (fVar 3)) fPNil))))))) [.par bs, C, L, M, .un, .dat (.int d), .un, .un, .un, .un, .un, .un, .un] = some (.nx [.par b1, C, L, M, .dat x.toD, .dat (.int d), .un, .un, .un, .un, .un, .un, .un]) := by
    generalize F__law_test = F at e1
    simp [-List.map_cons, -List.map_nil, e1, outD]
  have s2 : (fAsg 6 (fCallG F__law_bits (fLst (fCons (fVar 4) fNil)))) [.par b1, C, L, M, .dat x.toD, .dat (.int d), .un, .un, .un, .un, .un, .un, .un] = some (.nx [.par b1, C, L, M, .dat x.toD, .dat (.int d), .dat (.list found), .un, .un, .un, .un, .un, .un]) := by
    have e2 : F__law_bits [x.toD] = some (.new found) := e2
    generalize F__law_bits = F at e2
    simp [-List.map_cons, -List.map_nil, e2]
  generalize hX : C = c1 at *
  generalize hY : L = c2 at *
  generalize hZ : M = c3 at *
  have s3 : (fAsgL 7 (fLst (fCons (fCall F__law_set (fPCons (fD (fL (fLc (fSeqI (fVar 6)) (fgName 12) (fB (fOp eqF (fOp ixF (fVar 12) (fC (.int 0))) (fC (.str t_cell)))) (fOp ixF (fVar 12) (fC (.int 1))) [12]))) fPNil)) fNil))) [.par b1, c1, c2, c3, .dat x.toD, .dat (.int d), .dat (.list found), .un, .un, .un, .un, .un, .un] = some (.nx [.par b1, c1, c2, c3, .dat x.toD, .dat (.int d), .dat (.list found), .own [.tuple (asSetD (x.cells.map PyData.str))], .un, .un, .un, .un, .un]) := by
    have lc := cell_lc (a0 := .par b1) (a1 := c1) (a2 := c2) (a3 := c3) (a4 := .dat x.toD) (a5 := .dat (.int d)) (a6 := .dat (.list found)) (a7 := .un) (a8 := .un) (a9 := .un) (a10 := .un) (a11 := .un) lf nok
    generalize F__law_set = F at f1
    have a : fL (fLc (fSeqI (fVar 6)) (fgName 12) (fB (fOp eqF (fOp ixF (fVar 12) (fC (.int 0))) (fC (.str t_cell)))) (fOp ixF (fVar 12) (fC (.int 1))) [12]) [.par b1, c1, c2, c3, .dat x.toD, .dat (.int d), .dat (.list found), .un, .un, .un, .un, .un, .un] = some (.list ((found.filter (hdIs LB.t_cell)).map it1), [.par b1, c1, c2, c3, .dat x.toD, .dat (.int d), .dat (.list found), .un, .un, .un, .un, .un, .un]) := by
      rw [fL, fLc]
      rw [show fSeqI (fVar 6) [.par b1, c1, c2, c3, .dat x.toD, .dat (.int d), .dat (.list found), .un, .un, .un, .un, .un, .un] = some (found, [.par b1, c1, c2, c3, .dat x.toD, .dat (.int d), .dat (.list found), .un, .un, .un, .un, .un, .un]) by simp]
      rw [bnd_mk, lc]
      simp
    generalize fL (fLc _ _ _ _ _) = q at a
    simp [a, f1, outD]
  have s4 : (fApp 7 (fCall F__law_set (fPCons (fD (fL (fLc (fSeqI (fVar 6)) (fgName 12) (fB (fOp inF (fOp ixF (fVar 12) (fC (.int 0))) (fTup (fCons (fC (.str t_empty)) (fCons (fC (.str t_full)) fNil))))) (fOp ixF (fVar 12) (fC (.int 1))) [12]))) fPNil))) [.par b1, c1, c2, c3, .dat x.toD, .dat (.int d), .dat (.list found), .own [.tuple (asSetD (x.cells.map PyData.str))], .un, .un, .un, .un, .un] = some (.nx [.par b1, c1, c2, c3, .dat x.toD, .dat (.int d), .dat (.list found), .own [.tuple (asSetD (x.cells.map PyData.str)), .tuple (asSetD (x.queues.map PyData.str))], .un, .un, .un, .un, .un]) := by
    have lc := look_lc (a0 := .par b1) (a1 := c1) (a2 := c2) (a3 := c3) (a4 := .dat x.toD) (a5 := .dat (.int d)) (a6 := .dat (.list found)) (a7 := .own [.tuple (asSetD (x.cells.map PyData.str))]) (a8 := .un) (a9 := .un) (a10 := .un) (a11 := .un) lf nok
    generalize F__law_set = F at f2
    have a : fL (fLc (fSeqI (fVar 6)) (fgName 12) (fB (fOp inF (fOp ixF (fVar 12) (fC (.int 0))) (fTup (fCons (fC (.str t_empty)) (fCons (fC (.str t_full)) fNil))))) (fOp ixF (fVar 12) (fC (.int 1))) [12]) [.par b1, c1, c2, c3, .dat x.toD, .dat (.int d), .dat (.list found), .own [.tuple (asSetD (x.cells.map PyData.str))], .un, .un, .un, .un, .un] = some (.list ((found.filter looks).map it1), [.par b1, c1, c2, c3, .dat x.toD, .dat (.int d), .dat (.list found), .own [.tuple (asSetD (x.cells.map PyData.str))], .un, .un, .un, .un, .un]) := by
      rw [fL, fLc]
      rw [show fSeqI (fVar 6) [.par b1, c1, c2, c3, .dat x.toD, .dat (.int d), .dat (.list found), .own [.tuple (asSetD (x.cells.map PyData.str))], .un, .un, .un, .un, .un] = some (found, [.par b1, c1, c2, c3, .dat x.toD, .dat (.int d), .dat (.list found), .own [.tuple (asSetD (x.cells.map PyData.str))], .un, .un, .un, .un, .un]) by simp]
      rw [bnd_mk, lc]
      simp
    generalize fL (fLc _ _ _ _ _) = q at a
    simp [a, f2, outD]
  have s5 : (fApp 7 (fCall F__law_set (fPCons (fD (fL (fLc (fSeqI (fVar 6)) (fgName 12) (fB (fOp eqF (fOp ixF (fVar 12) (fC (.int 0))) (fC (.str t_stands)))) (fSl (fVar 12) (fSome (fC (.int 1))) fNone) [12]))) fPNil))) [.par b1, c1, c2, c3, .dat x.toD, .dat (.int d), .dat (.list found), .own [.tuple (asSetD (x.cells.map PyData.str)), .tuple (asSetD (x.queues.map PyData.str))], .un, .un, .un, .un, .un] = some (.nx [.par b1, c1, c2, c3, .dat x.toD, .dat (.int d), .dat (.list found), .own [.tuple (asSetD (x.cells.map PyData.str)), .tuple (asSetD (x.queues.map PyData.str)), .tuple (asSetD (x.marks.map markD))], .un, .un, .un, .un, .un]) := by
    have lc := stand_lc (a0 := .par b1) (a1 := c1) (a2 := c2) (a3 := c3) (a4 := .dat x.toD) (a5 := .dat (.int d)) (a6 := .dat (.list found)) (a7 := .own [.tuple (asSetD (x.cells.map PyData.str)), .tuple (asSetD (x.queues.map PyData.str))]) (a8 := .un) (a9 := .un) (a10 := .un) (a11 := .un) lf nok
    generalize F__law_set = F at f3
    have a : fL (fLc (fSeqI (fVar 6)) (fgName 12) (fB (fOp eqF (fOp ixF (fVar 12) (fC (.int 0))) (fC (.str t_stands)))) (fSl (fVar 12) (fSome (fC (.int 1))) fNone) [12]) [.par b1, c1, c2, c3, .dat x.toD, .dat (.int d), .dat (.list found), .own [.tuple (asSetD (x.cells.map PyData.str)), .tuple (asSetD (x.queues.map PyData.str))], .un, .un, .un, .un, .un] = some (.list ((found.filter (hdIs LB.t_stands)).map restT), [.par b1, c1, c2, c3, .dat x.toD, .dat (.int d), .dat (.list found), .own [.tuple (asSetD (x.cells.map PyData.str)), .tuple (asSetD (x.queues.map PyData.str))], .un, .un, .un, .un, .un]) := by
      rw [fL, fLc]
      rw [show fSeqI (fVar 6) [.par b1, c1, c2, c3, .dat x.toD, .dat (.int d), .dat (.list found), .own [.tuple (asSetD (x.cells.map PyData.str)), .tuple (asSetD (x.queues.map PyData.str))], .un, .un, .un, .un, .un] = some (found, [.par b1, c1, c2, c3, .dat x.toD, .dat (.int d), .dat (.list found), .own [.tuple (asSetD (x.cells.map PyData.str)), .tuple (asSetD (x.queues.map PyData.str))], .un, .un, .un, .un, .un]) by simp]
      rw [bnd_mk, lc]
      simp
    generalize fL (fLc _ _ _ _ _) = q at a
    simp [a, f3, outD]
  rw [fSeq, s1, thenF_nx, fSeq, s2, thenF_nx, fSeq, s3, thenF_nx, fSeq, s4, thenF_nx, fSeq, s5, thenF_nx]
  generalize asSetD (x.cells.map PyData.str) = y1 at *
  generalize asSetD (x.queues.map PyData.str) = y2 at *
  generalize asSetD (x.marks.map markD) = y3 at *
  generalize F__law_same = S at *
  generalize F_test_cells = S1 at *
  generalize F_test_queues = S2 at *
  generalize F_test_labels = S3 at *
  simp [g1, g2, g3, g4, outD]
theorem right_ok {bs : List PyData} (hb : BoxOk 1000 bs) : ∃ as', F__law_right [.par bs] = some (.ok (.dat (.bool true)) as') := by
  obtain ⟨v, b1, e1, hv, h1⟩ := valT (k := 800) (d := 3) (by omega) (hb.less (by decide)) (by omega)
  have many := Val.many hv
  have sh := Val.shal cs_ok hv
  obtain ⟨found, e2, pm⟩ := bitsT (b := .v v) (n := 4) (by show v.nodes.length ≤ 60; omega) sh (by omega)
  have pm : found.Perm v.nodes := pm
  have fl := pm.length_eq
  have nok : ∀ e ∈ found, NodeOk e := fun e m => val_nodes_ok hv e (pm.mem_iff.mp m)
  have l1 := val_cells_len v
  have q1 : ((found.filter (hdIs LB.t_cell)).map it1).Perm (v.cells.map PyData.str) := by rw [← val_cells_of hv]; exact (pm.filter _).map _
  obtain ⟨o1, w1⟩ := set_perm_str q1 (by omega)
  have f1 := setT o1
  rw [w1] at f1
  have g1 := value_cells_ok hv (by omega) (by omega)
  have g4 := sameT (.tuple (asSetD (v.cells.map PyData.str))) (ok_strs (fun c m => cs_ok c (cells_in hv c m)) (by omega) 2)
  obtain ⟨b2, e3, h2⟩ := turn_ok (k := 700) (d := 1) (by omega) (h1.less (by decide)) (by omega)
  obtain ⟨b3, e4, h3⟩ := turn_ok (k := 500) (d := 2) (by omega) (h2.less (by decide)) (by omega)
  obtain ⟨n, b4, e5, n1, n2, h4⟩ := take_ok (k := 400) (n := 9) (h3.less (by decide)) (by omega) (by omega) (by omega)
  obtain ⟨b5, e6, h5⟩ := lap_ok (k := 300) (h := 1 + n) (i := .int 0) (h4.less (by decide)) (by omega) (by omega)
  obtain ⟨b6, e7, h6⟩ := lap_ok (k := 200) (h := 1 + n) (i := .int 1) (h5.less (by decide)) (by omega) (by omega)
  obtain ⟨b7, e8, h7⟩ := lap_ok (k := 100) (h := 1 + n) (i := .int 2) (h6.less (by decide)) (by omega) (by omega)
  refine ⟨[.par b7], ?_⟩
  rw [right_body]
  have r3 : rngOk 3 = true := by decide
  have u3 : upF 0 3 = [.int 0, .int 1, .int 2] := rfl
  have f2 : forF (fgName 5) B_turn [.int 1, .int 2] [.par b1, C, L, M, .un, .un, .un, .un, .un, .un, .un, .un, .un] = some (.nx [.par b3, C, L, M, .un, .un, .un, .un, .un, .un, .un, .un, .un]) := by
    have e3 : B_turn [.par b1, C, L, M, .un, .dat (.int 1), .un, .un, .un, .un, .un, .un, .un] = some (.nx [.par b2, C, L, M, .un, .un, .un, .un, .un, .un, .un, .un, .un]) := e3
    have e4 : B_turn [.par b2, C, L, M, .un, .dat (.int 2), .un, .un, .un, .un, .un, .un, .un] = some (.nx [.par b3, C, L, M, .un, .un, .un, .un, .un, .un, .un, .un, .un]) := e4
    generalize B_turn = T at *
    unfold forF
    rw [fgName, onO_mk, List.set, List.set, List.set, List.set, List.set, List.set, e3]
    unfold forF
    simp only []
    rw [fgName, onO_mk, List.set, List.set, List.set, List.set, List.set, List.set, e4]
    unfold forF
    rfl
  have f3 : forF (fgName 9) B_lap [.int 0, .int 1, .int 2] [.par b4, C, L, M, .un, .un, .un, .un, .dat (.int (1 + n)), .un, .un, .un, .un] = some (.nx [.par b7, C, L, M, .un, .un, .un, .un, .dat (.int (1 + n)), .un, .un, .un, .un]) := by
    generalize B_lap = T at *
    simp only [forF, fgName, onO_mk, List.set, e6, e7, e8]
  rw [← q_take] at e5
  simp only [fnF, List.length_cons, List.length_nil, Nat.zero_add, Nat.reduceAdd, Nat.reduceBEq, chk_true, List.cons_append, List.nil_append, Nat.reduceSub, List.replicate_succ, List.replicate_zero]
  rw [fSeq]
  rw [show (fPar3 1 2 3 (fL (fLst (fCons (fC (.str t_x)) (fCons (fC (.str t_y)) (fCons (fC (.str t_zz)) fNil))))) (fL (fLst (fCons (fC (.str t_p)) (fCons (fC (.str t_q)) fNil)))) (fL (fLst (fCons (fTup (fCons (fC (.str t_a)) (fCons (fC (.str t_l)) fNil))) (fCons (fTup (fCons (fC (.str t_b)) (fCons (fC (.str t_l)) fNil))) (fCons (fTup (fCons (fC (.str t_b)) (fCons (fC (.str t_m)) fNil))) fNil)))))) [.par bs, .un, .un, .un, .un, .un, .un, .un, .un, .un, .un, .un, .un] = some (.nx [.par bs, C, L, M, .un, .un, .un, .un, .un, .un, .un, .un, .un]) by simp [markD]]
  rw [thenF_nx, fSeq]
  rw [show (fAsg 4 (fCall F__law_value (fPCons (fOw 0) (fPCons (fD (fC (.int 3))) (fPCons (fD (fVar 1)) fPNil))))) [.par bs, C, L, M, .un, .un, .un, .un, .un, .un, .un, .un, .un] = some (.nx [.par b1, C, L, M, .dat v.toD, .un, .un, .un, .un, .un, .un, .un, .un]) by
    have e1 : F__law_value [.par bs, .dat (.int 3), C] = some (.ok (.dat v.toD) [.par b1, .dat (.int 3), C]) := e1
    generalize F__law_value = F at e1
    simp [-List.map_cons, -List.map_nil, e1, outD]]
  rw [thenF_nx, fSeq]
  generalize hX : C = c1 at *
  generalize hY : L = c2 at *
  generalize hZ : M = c3 at *
  have lc := cell_lc (a0 := .par b1) (a1 := c1) (a2 := c2) (a3 := c3) (a4 := .dat v.toD) (a5 := .un) (a6 := .un) (a7 := .un) (a8 := .un) (a9 := .un) (a10 := .un) (a11 := .un) (ds := found) (by omega) nok
  have a : fL (fLc (fSeqI (fCallG F__law_bits (fLst (fCons (fVar 4) fNil)))) (fgName 12) (fB (fOp eqF (fOp ixF (fVar 12) (fC (.int 0))) (fC (.str t_cell)))) (fOp ixF (fVar 12) (fC (.int 1))) [12]) [.par b1, c1, c2, c3, .dat v.toD, .un, .un, .un, .un, .un, .un, .un, .un] = some (.list ((found.filter (hdIs LB.t_cell)).map it1), [.par b1, c1, c2, c3, .dat v.toD, .un, .un, .un, .un, .un, .un, .un, .un]) := by
    rw [fL, fLc]
    have e2 : F__law_bits [v.toD] = some (.new found) := e2
    generalize F__law_bits = F at e2
    rw [show fSeqI (fCallG F (fLst (fCons (fVar 4) fNil))) [.par b1, c1, c2, c3, .dat v.toD, .un, .un, .un, .un, .un, .un, .un, .un] = some (found, [.par b1, c1, c2, c3, .dat v.toD, .un, .un, .un, .un, .un, .un, .un, .un]) by simp [e2]]
    rw [bnd_mk, lc]
    simp
  generalize fL (fLc _ _ _ _ _) = q at a
  rw [show (fIfS (fNot (fB (fCall F__law_same (fPCons (fD (fCall F_value_cells (fPCons (fD (fVar 4)) fPNil))) (fPCons (fD (fCall F__law_set (fPCons (fD q) fPNil))) fPNil))))) (fRet (fC (.bool false))) fNext) [.par b1, c1, c2, c3, .dat v.toD, .un, .un, .un, .un, .un, .un, .un, .un] = some (.nx [.par b1, c1, c2, c3, .dat v.toD, .un, .un, .un, .un, .un, .un, .un, .un]) by
    generalize F__law_same = S at *
    generalize F_value_cells = S1 at *
    generalize F__law_set = S2 at *
    simp [a, g1, g4, f1, outD]]
  rw [thenF_nx, fWipe]
  rw [show wipeG [.par b1, c1, c2, c3, .dat v.toD, .un, .un, .un, .un, .un, .un, .un, .un] [4] = [.par b1, c1, c2, c3, .un, .un, .un, .un, .un, .un, .un, .un, .un] from rfl]
  rw [fSeq, fFor]
  rw [show fSeqI (fTup (fCons (fC (.int 1)) (fCons (fC (.int 2)) fNil))) [.par b1, c1, c2, c3, .un, .un, .un, .un, .un, .un, .un, .un, .un] = some ([.int 1, .int 2], [.par b1, c1, c2, c3, .un, .un, .un, .un, .un, .un, .un, .un, .un]) by simp]
  rw [bnd_mk, f2, thenF_nx, fSeq]
  rw [show fAsg 8 (fOp addF (fC (.int 1)) (fCall F__law_take (fPCons (fOw 0) (fPCons (fD (fC (.int 9))) fPNil)))) [.par b3, c1, c2, c3, .un, .un, .un, .un, .un, .un, .un, .un, .un] = some (.nx [.par b4, c1, c2, c3, .un, .un, .un, .un, .dat (.int (1 + n)), .un, .un, .un, .un]) by
    generalize F__law_take = T at e5
    simp [e5, outD]]
  rw [thenF_nx, fSeq, fFor]
  rw [show fRng1 (fC (.int 3)) [.par b4, c1, c2, c3, .un, .un, .un, .un, .dat (.int (1 + n)), .un, .un, .un, .un] = some ([.int 0, .int 1, .int 2], [.par b4, c1, c2, c3, .un, .un, .un, .un, .dat (.int (1 + n)), .un, .un, .un, .un]) by simp [r3]; exact u3]
  rw [bnd_mk, f3, thenF_nx]
  simp
/-! ## the law -/
theorem hand_ok : ∃ as', F__law_by_hand_right [] = some (.ok (.dat (.bool true)) as') := by
  have : (match F__law_by_hand_right [] with | some (.ok (.dat (.bool true)) _) => true | _ => false) = true := by decide +kernel
  cases e : F__law_by_hand_right [] with
  | none => rw [e] at this; cases this
  | some o =>
    rw [e] at this
    cases o with
    | ex x as => cases this
    | ok r as =>
      cases r with
      | new ds => cases this
      | dat d =>
        cases d with
        | bool b =>
          cases b with
          | true => exact ⟨as, rfl⟩
          | false => cases this
        | _ => cases this
theorem law_ok (ns : List Int) (hl : ns.length ≤ 63) : ∃ as', F_law [.scr (ns.map PyData.int)] = some (.ok (.dat (.bool true)) as') :=
  lawN_ok (t := 3) (by omega) (by omega) 93708 hand_ok (fun bs hb => right_ok (hb.less (by decide))) ns hl
end K08

namespace K08
open PySem PySem.Spec PyProof.Rows L2 DL
theorem all_mk {l : PySem.W.OpenLaw} {w : World} {K : PySem.W.Frag} {h : Heap} {mg : Str → Option Value} {fa f0 f1 f2 f3 f4 f5 f6 f7 f8 f9 f10 f11 f12 f13 f14 f15 f16 f17 f18 f19 f20 f21 f22 f23 f24 : Addr} (X : K.In h) (G : h.Ns mainGlobals mg) (hfa : mg "law" = some (.ref fa))
    {od0 an0 : Option Addr} {sl0 : Array (Option Value)} {oc0 kV0 dc0 pm0 cd0 ct0 : Value}
    {od1 an1 : Option Addr} {sl1 : Array (Option Value)} {oc1 kV1 dc1 pm1 cd1 ct1 : Value}
    {od2 an2 : Option Addr} {sl2 : Array (Option Value)} {oc2 kV2 dc2 pm2 cd2 ct2 : Value}
    {od3 an3 : Option Addr} {sl3 : Array (Option Value)} {oc3 kV3 dc3 pm3 cd3 ct3 : Value}
    {od4 an4 : Option Addr} {sl4 : Array (Option Value)} {oc4 kV4 dc4 pm4 cd4 ct4 : Value}
    {od5 an5 : Option Addr} {sl5 : Array (Option Value)} {oc5 kV5 dc5 pm5 cd5 ct5 : Value}
    {od6 an6 : Option Addr} {sl6 : Array (Option Value)} {oc6 kV6 dc6 pm6 cd6 ct6 : Value}
    {od7 an7 : Option Addr} {sl7 : Array (Option Value)} {oc7 kV7 dc7 pm7 cd7 ct7 : Value}
    {od8 an8 : Option Addr} {sl8 : Array (Option Value)} {oc8 kV8 dc8 pm8 cd8 ct8 : Value}
    {od9 an9 : Option Addr} {sl9 : Array (Option Value)} {oc9 kV9 dc9 pm9 cd9 ct9 : Value}
    {od10 an10 : Option Addr} {sl10 : Array (Option Value)} {oc10 kV10 dc10 pm10 cd10 ct10 : Value}
    {od11 an11 : Option Addr} {sl11 : Array (Option Value)} {oc11 kV11 dc11 pm11 cd11 ct11 : Value}
    {od12 an12 : Option Addr} {sl12 : Array (Option Value)} {oc12 kV12 dc12 pm12 cd12 ct12 : Value}
    {od13 an13 : Option Addr} {sl13 : Array (Option Value)} {oc13 kV13 dc13 pm13 cd13 ct13 : Value}
    {od14 an14 : Option Addr} {sl14 : Array (Option Value)} {oc14 kV14 dc14 pm14 cd14 ct14 : Value}
    {od15 an15 : Option Addr} {sl15 : Array (Option Value)} {oc15 kV15 dc15 pm15 cd15 ct15 : Value}
    {od16 an16 : Option Addr} {sl16 : Array (Option Value)} {oc16 kV16 dc16 pm16 cd16 ct16 : Value}
    {od17 an17 : Option Addr} {sl17 : Array (Option Value)} {oc17 kV17 dc17 pm17 cd17 ct17 : Value}
    {od18 an18 : Option Addr} {sl18 : Array (Option Value)} {oc18 kV18 dc18 pm18 cd18 ct18 : Value}
    {od19 an19 : Option Addr} {sl19 : Array (Option Value)} {oc19 kV19 dc19 pm19 cd19 ct19 : Value}
    {od20 an20 : Option Addr} {sl20 : Array (Option Value)} {oc20 kV20 dc20 pm20 cd20 ct20 : Value}
    {od21 an21 : Option Addr} {sl21 : Array (Option Value)} {oc21 kV21 dc21 pm21 cd21 ct21 : Value}
    {od22 an22 : Option Addr} {sl22 : Array (Option Value)} {oc22 kV22 dc22 pm22 cd22 ct22 : Value}
    {od23 an23 : Option Addr} {sl23 : Array (Option Value)} {oc23 kV23 dc23 pm23 cd23 ct23 : Value}
    {od24 an24 : Option Addr} {sl24 : Array (Option Value)} {oc24 kV24 dc24 pm24 cd24 ct24 : Value}
    (a0 : PySem.W.nsIn K mainGlobals "frozen" = some (some (.ref f0))) (l0 : K.lookup f0 = some ⟨oc0, od0, .func (PySem.W.fnOf "frozen" "frozen" (defArgs s_frozen) (defBody s_frozen) (defScope s_frozen) .none kV0 dc0 pm0 an0 cd0 ct0), sl0⟩) (c0 : PySem.W.codeIn K cd0 "frozen" = true) (k0 : PySem.W.keepIn K (.ref f0) = true)
    (a1 : PySem.W.nsIn K mainGlobals "as_set" = some (some (.ref f1))) (l1 : K.lookup f1 = some ⟨oc1, od1, .func (PySem.W.fnOf "as_set" "as_set" (defArgs s_as_set) (defBody s_as_set) (defScope s_as_set) .none kV1 dc1 pm1 an1 cd1 ct1), sl1⟩) (c1 : PySem.W.codeIn K cd1 "as_set" = true) (k1 : PySem.W.keepIn K (.ref f1) = true)
    (a2 : PySem.W.nsIn K mainGlobals "cells_of_value" = some (some (.ref f2))) (l2 : K.lookup f2 = some ⟨oc2, od2, .func (PySem.W.fnOf "cells_of_value" "cells_of_value" (defArgs s_cells_of_value) (defBody s_cells_of_value) (defScope s_cells_of_value) .none kV2 dc2 pm2 an2 cd2 ct2), sl2⟩) (c2 : PySem.W.codeIn K cd2 "cells_of_value" = true) (k2 : PySem.W.keepIn K (.ref f2) = true)
    (a3 : PySem.W.nsIn K mainGlobals "least_tests" = some (some (.ref f3))) (l3 : K.lookup f3 = some ⟨oc3, od3, .func (PySem.W.fnOf "least_tests" "least_tests" (defArgs s_least_tests) (defBody s_least_tests) (defScope s_least_tests) .none kV3 dc3 pm3 an3 cd3 ct3), sl3⟩) (c3 : PySem.W.codeIn K cd3 "least_tests" = true) (k3 : PySem.W.keepIn K (.ref f3) = true)
    (a4 : PySem.W.nsIn K mainGlobals "cells_of_test" = some (some (.ref f4))) (l4 : K.lookup f4 = some ⟨oc4, od4, .func (PySem.W.fnOf "cells_of_test" "cells_of_test" (defArgs s_cells_of_test) (defBody s_cells_of_test) (defScope s_cells_of_test) .none kV4 dc4 pm4 an4 cd4 ct4), sl4⟩) (c4 : PySem.W.codeIn K cd4 "cells_of_test" = true) (k4 : PySem.W.keepIn K (.ref f4) = true)
    (a5 : PySem.W.nsIn K mainGlobals "queues_of_test" = some (some (.ref f5))) (l5 : K.lookup f5 = some ⟨oc5, od5, .func (PySem.W.fnOf "queues_of_test" "queues_of_test" (defArgs s_queues_of_test) (defBody s_queues_of_test) (defScope s_queues_of_test) .none kV5 dc5 pm5 an5 cd5 ct5), sl5⟩) (c5 : PySem.W.codeIn K cd5 "queues_of_test" = true) (k5 : PySem.W.keepIn K (.ref f5) = true)
    (a6 : PySem.W.nsIn K mainGlobals "labels_of_test" = some (some (.ref f6))) (l6 : K.lookup f6 = some ⟨oc6, od6, .func (PySem.W.fnOf "labels_of_test" "labels_of_test" (defArgs s_labels_of_test) (defBody s_labels_of_test) (defScope s_labels_of_test) .none kV6 dc6 pm6 an6 cd6 ct6), sl6⟩) (c6 : PySem.W.codeIn K cd6 "labels_of_test" = true) (k6 : PySem.W.keepIn K (.ref f6) = true)
    (a7 : PySem.W.nsIn K mainGlobals "fitted" = some (some (.ref f7))) (l7 : K.lookup f7 = some ⟨oc7, od7, .func (PySem.W.fnOf "fitted" "fitted" (defArgs s_fitted) (defBody s_fitted) (defScope s_fitted) .none kV7 dc7 pm7 an7 cd7 ct7), sl7⟩) (c7 : PySem.W.codeIn K cd7 "fitted" = true) (k7 : PySem.W.keepIn K (.ref f7) = true)
    (a8 : PySem.W.nsIn K mainGlobals "value_cells" = some (some (.ref f8))) (l8 : K.lookup f8 = some ⟨oc8, od8, .func (PySem.W.fnOf "value_cells" "value_cells" (defArgs s_value_cells) (defBody s_value_cells) (defScope s_value_cells) .none kV8 dc8 pm8 an8 cd8 ct8), sl8⟩) (c8 : PySem.W.codeIn K cd8 "value_cells" = true) (k8 : PySem.W.keepIn K (.ref f8) = true)
    (a9 : PySem.W.nsIn K mainGlobals "test_cells" = some (some (.ref f9))) (l9 : K.lookup f9 = some ⟨oc9, od9, .func (PySem.W.fnOf "test_cells" "test_cells" (defArgs s_test_cells) (defBody s_test_cells) (defScope s_test_cells) .none kV9 dc9 pm9 an9 cd9 ct9), sl9⟩) (c9 : PySem.W.codeIn K cd9 "test_cells" = true) (k9 : PySem.W.keepIn K (.ref f9) = true)
    (a10 : PySem.W.nsIn K mainGlobals "test_queues" = some (some (.ref f10))) (l10 : K.lookup f10 = some ⟨oc10, od10, .func (PySem.W.fnOf "test_queues" "test_queues" (defArgs s_test_queues) (defBody s_test_queues) (defScope s_test_queues) .none kV10 dc10 pm10 an10 cd10 ct10), sl10⟩) (c10 : PySem.W.codeIn K cd10 "test_queues" = true) (k10 : PySem.W.keepIn K (.ref f10) = true)
    (a11 : PySem.W.nsIn K mainGlobals "test_labels" = some (some (.ref f11))) (l11 : K.lookup f11 = some ⟨oc11, od11, .func (PySem.W.fnOf "test_labels" "test_labels" (defArgs s_test_labels) (defBody s_test_labels) (defScope s_test_labels) .none kV11 dc11 pm11 an11 cd11 ct11), sl11⟩) (c11 : PySem.W.codeIn K cd11 "test_labels" = true) (k11 : PySem.W.keepIn K (.ref f11) = true)
    (a12 : PySem.W.nsIn K mainGlobals "_law_box" = some (some (.ref f12))) (l12 : K.lookup f12 = some ⟨oc12, od12, .func (PySem.W.fnOf "_law_box" "_law_box" (defArgs s__law_box) (defBody s__law_box) (defScope s__law_box) .none kV12 dc12 pm12 an12 cd12 ct12), sl12⟩) (c12 : PySem.W.codeIn K cd12 "_law_box" = true) (k12 : PySem.W.keepIn K (.ref f12) = true)
    (a13 : PySem.W.nsIn K mainGlobals "_law_take" = some (some (.ref f13))) (l13 : K.lookup f13 = some ⟨oc13, od13, .func (PySem.W.fnOf "_law_take" "_law_take" (defArgs s__law_take) (defBody s__law_take) (defScope s__law_take) .none kV13 dc13 pm13 an13 cd13 ct13), sl13⟩) (c13 : PySem.W.codeIn K cd13 "_law_take" = true) (k13 : PySem.W.keepIn K (.ref f13) = true)
    (a14 : PySem.W.nsIn K mainGlobals "_law_cells" = some (some (.ref f14))) (l14 : K.lookup f14 = some ⟨oc14, od14, .func (PySem.W.fnOf "_law_cells" "_law_cells" (defArgs s__law_cells) (defBody s__law_cells) (defScope s__law_cells) .none kV14 dc14 pm14 an14 cd14 ct14), sl14⟩) (c14 : PySem.W.codeIn K cd14 "_law_cells" = true) (k14 : PySem.W.keepIn K (.ref f14) = true)
    (a15 : PySem.W.nsIn K mainGlobals "_law_of" = some (some (.ref f15))) (l15 : K.lookup f15 = some ⟨oc15, od15, .func (PySem.W.fnOf "_law_of" "_law_of" (defArgs s__law_of) (defBody s__law_of) (defScope s__law_of) .none kV15 dc15 pm15 an15 cd15 ct15), sl15⟩) (c15 : PySem.W.codeIn K cd15 "_law_of" = true) (k15 : PySem.W.keepIn K (.ref f15) = true)
    (a16 : PySem.W.nsIn K mainGlobals "_law_same" = some (some (.ref f16))) (l16 : K.lookup f16 = some ⟨oc16, od16, .func (PySem.W.fnOf "_law_same" "_law_same" (defArgs s__law_same) (defBody s__law_same) (defScope s__law_same) .none kV16 dc16 pm16 an16 cd16 ct16), sl16⟩) (c16 : PySem.W.codeIn K cd16 "_law_same" = true) (k16 : PySem.W.keepIn K (.ref f16) = true)
    (a17 : PySem.W.nsIn K mainGlobals "_law_lists" = some (some (.ref f17))) (l17 : K.lookup f17 = some ⟨oc17, od17, .func (PySem.W.fnOf "_law_lists" "_law_lists" (defArgs s__law_lists) (defBody s__law_lists) (defScope s__law_lists) .none kV17 dc17 pm17 an17 cd17 ct17), sl17⟩) (c17 : PySem.W.codeIn K cd17 "_law_lists" = true) (k17 : PySem.W.keepIn K (.ref f17) = true)
    (a18 : PySem.W.nsIn K mainGlobals "_law_value" = some (some (.ref f18))) (l18 : K.lookup f18 = some ⟨oc18, od18, .func (PySem.W.fnOf "_law_value" "_law_value" (defArgs s__law_value) (defBody s__law_value) (defScope s__law_value) .none kV18 dc18 pm18 an18 cd18 ct18), sl18⟩) (c18 : PySem.W.codeIn K cd18 "_law_value" = true) (k18 : PySem.W.keepIn K (.ref f18) = true)
    (a19 : PySem.W.nsIn K mainGlobals "_law_test" = some (some (.ref f19))) (l19 : K.lookup f19 = some ⟨oc19, od19, .func (PySem.W.fnOf "_law_test" "_law_test" (defArgs s__law_test) (defBody s__law_test) (defScope s__law_test) .none kV19 dc19 pm19 an19 cd19 ct19), sl19⟩) (c19 : PySem.W.codeIn K cd19 "_law_test" = true) (k19 : PySem.W.keepIn K (.ref f19) = true)
    (a20 : PySem.W.nsIn K mainGlobals "_law_bits" = some (some (.ref f20))) (l20 : K.lookup f20 = some ⟨oc20, od20, .func (PySem.W.fnOf "_law_bits" "_law_bits" (defArgs s__law_bits) (defBody s__law_bits) (defScope s__law_bits) .none kV20 dc20 pm20 an20 cd20 ct20), sl20⟩) (c20 : PySem.W.codeIn K cd20 "_law_bits" = true) (k20 : PySem.W.keepIn K (.ref f20) = true)
    (a21 : PySem.W.nsIn K mainGlobals "_law_set" = some (some (.ref f21))) (l21 : K.lookup f21 = some ⟨oc21, od21, .func (PySem.W.fnOf "_law_set" "_law_set" (defArgs s__law_set) (defBody s__law_set) (defScope s__law_set) .none kV21 dc21 pm21 an21 cd21 ct21), sl21⟩) (c21 : PySem.W.codeIn K cd21 "_law_set" = true) (k21 : PySem.W.keepIn K (.ref f21) = true)
    (a22 : PySem.W.nsIn K mainGlobals "_law_by_hand_right" = some (some (.ref f22))) (l22 : K.lookup f22 = some ⟨oc22, od22, .func (PySem.W.fnOf "_law_by_hand_right" "_law_by_hand_right" (defArgs s__law_by_hand_right) (defBody s__law_by_hand_right) (defScope s__law_by_hand_right) .none kV22 dc22 pm22 an22 cd22 ct22), sl22⟩) (c22 : PySem.W.codeIn K cd22 "_law_by_hand_right" = true) (k22 : PySem.W.keepIn K (.ref f22) = true)
    (a23 : PySem.W.nsIn K mainGlobals "_law_right" = some (some (.ref f23))) (l23 : K.lookup f23 = some ⟨oc23, od23, .func (PySem.W.fnOf "_law_right" "_law_right" (defArgs s__law_right) (defBody s__law_right) (defScope s__law_right) .none kV23 dc23 pm23 an23 cd23 ct23), sl23⟩) (c23 : PySem.W.codeIn K cd23 "_law_right" = true) (k23 : PySem.W.keepIn K (.ref f23) = true)
    (a24 : PySem.W.nsIn K mainGlobals "law" = some (some (.ref f24))) (l24 : K.lookup f24 = some ⟨oc24, od24, .func (PySem.W.fnOf "law" "law" (defArgs s_law) (defBody s_law) (defScope s_law) .none kV24 dc24 pm24 an24 cd24 ct24), sl24⟩) (c24 : PySem.W.codeIn K cd24 "law" = true) (k24 : PySem.W.keepIn K (.ref f24) = true)
    (z0 : PySem.W.nsIn K mainGlobals "abs" = some none)
    (z1 : PySem.W.nsIn K mainGlobals "all" = some none)
    (z2 : PySem.W.nsIn K mainGlobals "bool" = some none)
    (z3 : PySem.W.nsIn K mainGlobals "enumerate" = some none)
    (z4 : PySem.W.nsIn K mainGlobals "int" = some none)
    (z5 : PySem.W.nsIn K mainGlobals "isinstance" = some none)
    (z6 : PySem.W.nsIn K mainGlobals "len" = some none)
    (z7 : PySem.W.nsIn K mainGlobals "list" = some none)
    (z8 : PySem.W.nsIn K mainGlobals "range" = some none)
    (z9 : PySem.W.nsIn K mainGlobals "set" = some none)
    (z10 : PySem.W.nsIn K mainGlobals "sorted" = some none)
    (z11 : PySem.W.nsIn K mainGlobals "str" = some none)
    (z12 : PySem.W.nsIn K mainGlobals "tuple" = some none)
    (z13 : PySem.W.nsIn K mainGlobals "zip" = some none) :
    ∃ fd : FuncData, (∀ (s : Shared) (v : Value), BindsTo s fd ⟨[v], []⟩ [("script", v)]) ∧ ∀ base : Heap, K.In base → base.Ns mainGlobals mg → FnOk l.prog w K mg base CX0 16 fa fd ["script"] (spLaw K) := by
  have e := hfa.symm.trans (PySem.W.mg_of X G a24)
  cases e
  have T : Txt K mg := ⟨PySem.W.mg_none_of X G z0, PySem.W.mg_none_of X G z1, PySem.W.mg_none_of X G z2, PySem.W.mg_none_of X G z3, PySem.W.mg_none_of X G z4, PySem.W.mg_none_of X G z5, PySem.W.mg_none_of X G z6, PySem.W.mg_none_of X G z7, PySem.W.mg_none_of X G z8, PySem.W.mg_none_of X G z9, PySem.W.mg_none_of X G z10, PySem.W.mg_none_of X G z11, PySem.W.mg_none_of X G z12, PySem.W.mg_none_of X G z13⟩
  have F0 := fun_mk (st := s_frozen) l0 c0 k0
  have b0 := F0.binds (ps := ["given"]) fun _ _ _ _ _ _ us hl => match us, hl with | [_], _ => rfl
  have F1 := fun_mk (st := s_as_set) l1 c1 k1
  have b1 := F1.binds (ps := ["rows"]) fun _ _ _ _ _ _ us hl => match us, hl with | [_], _ => rfl
  have F2 := fun_mk (st := s_cells_of_value) l2 c2 k2
  have b2 := F2.binds (ps := ["value"]) fun _ _ _ _ _ _ us hl => match us, hl with | [_], _ => rfl
  have F3 := fun_mk (st := s_least_tests) l3 c3 k3
  have b3 := F3.binds (ps := ["test"]) fun _ _ _ _ _ _ us hl => match us, hl with | [_], _ => rfl
  have F4 := fun_mk (st := s_cells_of_test) l4 c4 k4
  have b4 := F4.binds (ps := ["test"]) fun _ _ _ _ _ _ us hl => match us, hl with | [_], _ => rfl
  have F5 := fun_mk (st := s_queues_of_test) l5 c5 k5
  have b5 := F5.binds (ps := ["test"]) fun _ _ _ _ _ _ us hl => match us, hl with | [_], _ => rfl
  have F6 := fun_mk (st := s_labels_of_test) l6 c6 k6
  have b6 := F6.binds (ps := ["test"]) fun _ _ _ _ _ _ us hl => match us, hl with | [_], _ => rfl
  have F7 := fun_mk (st := s_fitted) l7 c7 k7
  have b7 := F7.binds (ps := ["number", "top"]) fun _ _ _ _ _ _ us hl => match us, hl with | [_, _], _ => rfl
  have F8 := fun_mk (st := s_value_cells) l8 c8 k8
  have b8 := F8.binds (ps := ["one"]) fun _ _ _ _ _ _ us hl => match us, hl with | [_], _ => rfl
  have F9 := fun_mk (st := s_test_cells) l9 c9 k9
  have b9 := F9.binds (ps := ["test"]) fun _ _ _ _ _ _ us hl => match us, hl with | [_], _ => rfl
  have F10 := fun_mk (st := s_test_queues) l10 c10 k10
  have b10 := F10.binds (ps := ["test"]) fun _ _ _ _ _ _ us hl => match us, hl with | [_], _ => rfl
  have F11 := fun_mk (st := s_test_labels) l11 c11 k11
  have b11 := F11.binds (ps := ["test"]) fun _ _ _ _ _ _ us hl => match us, hl with | [_], _ => rfl
  have F12 := fun_mk (st := s__law_box) l12 c12 k12
  have b12 := F12.binds (ps := ["script", "k"]) fun _ _ _ _ _ _ us hl => match us, hl with | [_, _], _ => rfl
  have F13 := fun_mk (st := s__law_take) l13 c13 k13
  have b13 := F13.binds (ps := ["box", "size_so"]) fun _ _ _ _ _ _ us hl => match us, hl with | [_, _], _ => rfl
  have F14 := fun_mk (st := s__law_cells) l14 c14 k14
  have b14 := F14.binds (ps := ["script", "top_so"]) fun _ _ _ _ _ _ us hl => match us, hl with | [_, _], _ => rfl
  have F15 := fun_mk (st := s__law_of) l15 c15 k15
  have b15 := F15.binds (ps := ["box", "goods_so"]) fun _ _ _ _ _ _ us hl => match us, hl with | [_, _], _ => rfl
  have F16 := fun_mk (st := s__law_same) l16 c16 k16
  have b16 := F16.binds (ps := ["got", "due"]) fun _ _ _ _ _ _ us hl => match us, hl with | [_, _], _ => rfl
  have F17 := fun_mk (st := s__law_lists) l17 c17 k17
  have b17 := F17.binds (ps := ["matter"]) fun _ _ _ _ _ _ us hl => match us, hl with | [_], _ => rfl
  have F18 := fun_mk (st := s__law_value) l18 c18 k18
  have b18 := F18.binds (ps := ["box", "deep", "cells_so"]) fun _ _ _ _ _ _ us hl => match us, hl with | [_, _, _], _ => rfl
  have F19 := fun_mk (st := s__law_test) l19 c19 k19
  have b19 := F19.binds (ps := ["box", "deep", "cells_so", "lanes_so", "marks_so"]) fun _ _ _ _ _ _ us hl => match us, hl with | [_, _, _, _, _], _ => rfl
  have F20 := fun_mk (st := s__law_bits) l20 c20 k20
  have b20 := F20.binds (ps := ["edge"]) fun _ _ _ _ _ _ us hl => match us, hl with | [_], _ => rfl
  have F21 := fun_mk (st := s__law_set) l21 c21 k21
  have b21 := F21.binds (ps := ["some"]) fun _ _ _ _ _ _ us hl => match us, hl with | [_], _ => rfl
  have F22 := fun_mk (st := s__law_by_hand_right) l22 c22 k22
  have b22 := F22.binds (ps := []) fun _ _ _ _ _ _ us hl => match us, hl with | [], _ => rfl
  have F23 := fun_mk (st := s__law_right) l23 c23 k23
  have b23 := F23.binds (ps := ["box"]) fun _ _ _ _ _ _ us hl => match us, hl with | [_], _ => rfl
  have F24 := fun_mk (st := s_law) l24 c24 k24
  have b24 := F24.binds (ps := ["script"]) fun _ _ _ _ _ _ us hl => match us, hl with | [_], _ => rfl
  have kb0 : KBn K _ ["test"] 0 ["test"] (fun us ws => pick [0] (us ++ ws)) (fun us ws => pick [0] (us ++ ws)) := kbn_of (is := [0]) F10 fun _ _ _ _ _ _ us ws hl hl2 => match us, ws, hl, hl2 with | [], [_], _, _ => rfl
  have kb1 : KBn K _ ["test"] 0 ["test"] (fun us ws => pick [0] (us ++ ws)) (fun us ws => pick [0] (us ++ ws)) := kbn_of (is := [0]) F9 fun _ _ _ _ _ _ us ws hl hl2 => match us, ws, hl, hl2 with | [], [_], _, _ => rfl
  have kb2 : KBn K _ ["one"] 0 ["one"] (fun us ws => pick [0] (us ++ ws)) (fun us ws => pick [0] (us ++ ws)) := kbn_of (is := [0]) F8 fun _ _ _ _ _ _ us ws hl hl2 => match us, ws, hl, hl2 with | [], [_], _, _ => rfl
  have kb3 : KBn K _ ["test"] 0 ["test"] (fun us ws => pick [0] (us ++ ws)) (fun us ws => pick [0] (us ++ ws)) := kbn_of (is := [0]) F11 fun _ _ _ _ _ _ us ws hl hl2 => match us, ws, hl, hl2 with | [], [_], _, _ => rfl
  have kb4 : KBn K _ ["number", "top"] 0 ["top", "number"] (fun us ws => pick [1, 0] (us ++ ws)) (fun us ws => pick [1, 0] (us ++ ws)) := kbn_of (is := [1, 0]) F7 fun _ _ _ _ _ _ us ws hl hl2 => match us, ws, hl, hl2 with | [], [_, _], _, _ => rfl
  refine ⟨PySem.W.fnOf "law" "law" (defArgs s_law) (defBody s_law) (defScope s_law) .none kV24 dc24 pm24 an24 cd24 ct24, fun s v => .of_eq rfl, fun base _ _ => ?_⟩
  have G0 := fn_frozen (P := l.prog) (w := w) (K := K) (mg := mg) (base := base) (k := 0) F0 sc_frozen (fun cdv A outer s H E hr => d_frozen T hr)
  have G0 : FnOk l.prog w K mg base CX0 1 f0 _ ["given"] (spS K (sF F_frozen)) := fn_weak G0 fun as R h => frozen_of h
  have C0 := fn_cal (PySem.W.mg_of X G a0) F0 b0 G0
  have G1 : FnOk l.prog w K mg base CX0 1 f1 _ ["rows"] (spS K (sF F_as_set)) := fn_ok (k := 0) F1 sc_as_set (fun as R h => by obtain ⟨_, _, e, _⟩ := h; exact fnF_len e) (fun cdv A outer s H E hr => d_as_set T  hr) (fun as R h => fnF_ad (ps := ["rows"]) (A_as_set) rfl rfl h)
  have C1 := fn_cal (PySem.W.mg_of X G a1) F1 b1 G1
  have GI2 : ∀ n : Nat, FnOk l.prog w K mg base CX0 (0 + n) f2 (PySem.W.fnOf "cells_of_value" "cells_of_value" (defArgs s_cells_of_value) (defBody s_cells_of_value) (defScope s_cells_of_value) .none kV2 dc2 pm2 an2 cd2 ct2) ["value"] (spS K (sF (R_cells_of_value n))) := by
    intro n
    induction n with
    | zero => exact fn_none
    | succ n ih => exact fn_ok (k := 0 + n) F2 sc_cells_of_value (fun as R h => by obtain ⟨_, _, e, _⟩ := h; exact fnF_len e) (fun cdv A outer s H E hr => d_cells_of_value T (fn_cal (PySem.W.mg_of X G a2) F2 b2 ih) hr) (fun as R h => fnF_ad (ps := ["value"]) (A_cells_of_value (R_cells_of_value n)) rfl rfl h)
  have G2 : FnOk l.prog w K mg base CX0 12 f2 _ ["value"] (spS K (sF F_cells_of_value)) := GI2 12
  have C2 := fn_cal (PySem.W.mg_of X G a2) F2 b2 G2
  have GI3 : ∀ n : Nat, FnOk l.prog w K mg base CX0 (0 + n) f3 (PySem.W.fnOf "least_tests" "least_tests" (defArgs s_least_tests) (defBody s_least_tests) (defScope s_least_tests) .none kV3 dc3 pm3 an3 cd3 ct3) ["test"] (spS K (sF (R_least_tests n))) := by
    intro n
    induction n with
    | zero => exact fn_none
    | succ n ih => exact fn_ok (k := 0 + n) F3 sc_least_tests (fun as R h => by obtain ⟨_, _, e, _⟩ := h; exact fnF_len e) (fun cdv A outer s H E hr => d_least_tests T (fn_cal (PySem.W.mg_of X G a3) F3 b3 ih) hr) (fun as R h => fnF_ad (ps := ["test"]) (A_least_tests (R_least_tests n)) rfl rfl h)
  have G3 : FnOk l.prog w K mg base CX0 12 f3 _ ["test"] (spS K (sF F_least_tests)) := GI3 12
  have C3 := fn_cal (PySem.W.mg_of X G a3) F3 b3 G3
  have G4 : FnOk l.prog w K mg base CX0 13 f4 _ ["test"] (spS K (sF F_cells_of_test)) := fn_ok (k := 12) F4 sc_cells_of_test (fun as R h => by obtain ⟨_, _, e, _⟩ := h; exact fnF_len e) (fun cdv A outer s H E hr => d_cells_of_test T (C3.mono (by decide)) (C2.mono (by decide)) hr) (fun as R h => fnF_ad (ps := ["test"]) (A_cells_of_test F_least_tests F_cells_of_value) rfl rfl h)
  have C4 := fn_cal (PySem.W.mg_of X G a4) F4 b4 G4
  have G5 : FnOk l.prog w K mg base CX0 13 f5 _ ["test"] (spS K (sF F_queues_of_test)) := fn_ok (k := 12) F5 sc_queues_of_test (fun as R h => by obtain ⟨_, _, e, _⟩ := h; exact fnF_len e) (fun cdv A outer s H E hr => d_queues_of_test T (C3.mono (by decide)) hr) (fun as R h => fnF_ad (ps := ["test"]) (A_queues_of_test F_least_tests) rfl rfl h)
  have C5 := fn_cal (PySem.W.mg_of X G a5) F5 b5 G5
  have G6 : FnOk l.prog w K mg base CX0 13 f6 _ ["test"] (spS K (sF F_labels_of_test)) := fn_ok (k := 12) F6 sc_labels_of_test (fun as R h => by obtain ⟨_, _, e, _⟩ := h; exact fnF_len e) (fun cdv A outer s H E hr => d_labels_of_test T (C3.mono (by decide)) hr) (fun as R h => fnF_ad (ps := ["test"]) (A_labels_of_test F_least_tests) rfl rfl h)
  have C6 := fn_cal (PySem.W.mg_of X G a6) F6 b6 G6
  have G7 : FnOk l.prog w K mg base CX0 1 f7 _ ["number", "top"] (spS K (sF F_fitted)) := fn_ok (k := 0) F7 sc_fitted (fun as R h => by obtain ⟨_, _, e, _⟩ := h; exact fnF_len e) (fun cdv A outer s H E hr => d_fitted T  hr) (fun as R h => fnF_ad (ps := ["number", "top"]) (A_fitted) rfl rfl h)
  have C7 := fn_cal (PySem.W.mg_of X G a7) F7 b7 G7
  have G8 : FnOk l.prog w K mg base CX0 13 f8 _ ["one"] (spS K (sF F_value_cells)) := fn_ok (k := 12) F8 sc_value_cells (fun as R h => by obtain ⟨_, _, e, _⟩ := h; exact fnF_len e) (fun cdv A outer s H E hr => d_value_cells T (C1.mono (by decide)) (C2.mono (by decide)) (C0.mono (by decide)) hr) (fun as R h => fnF_ad (ps := ["one"]) (A_value_cells F_as_set F_cells_of_value F_frozen) rfl rfl h)
  have C8 := fn_cal (PySem.W.mg_of X G a8) F8 b8 G8
  have G9 : FnOk l.prog w K mg base CX0 14 f9 _ ["test"] (spS K (sF F_test_cells)) := fn_ok (k := 13) F9 sc_test_cells (fun as R h => by obtain ⟨_, _, e, _⟩ := h; exact fnF_len e) (fun cdv A outer s H E hr => d_test_cells T (C1.mono (by decide)) (C4.mono (by decide)) (C0.mono (by decide)) hr) (fun as R h => fnF_ad (ps := ["test"]) (A_test_cells F_as_set F_cells_of_test F_frozen) rfl rfl h)
  have C9 := fn_cal (PySem.W.mg_of X G a9) F9 b9 G9
  have G10 : FnOk l.prog w K mg base CX0 14 f10 _ ["test"] (spS K (sF F_test_queues)) := fn_ok (k := 13) F10 sc_test_queues (fun as R h => by obtain ⟨_, _, e, _⟩ := h; exact fnF_len e) (fun cdv A outer s H E hr => d_test_queues T (C1.mono (by decide)) (C5.mono (by decide)) (C0.mono (by decide)) hr) (fun as R h => fnF_ad (ps := ["test"]) (A_test_queues F_as_set F_queues_of_test F_frozen) rfl rfl h)
  have C10 := fn_cal (PySem.W.mg_of X G a10) F10 b10 G10
  have G11 : FnOk l.prog w K mg base CX0 14 f11 _ ["test"] (spS K (sF F_test_labels)) := fn_ok (k := 13) F11 sc_test_labels (fun as R h => by obtain ⟨_, _, e, _⟩ := h; exact fnF_len e) (fun cdv A outer s H E hr => d_test_labels T (C1.mono (by decide)) (C6.mono (by decide)) (C0.mono (by decide)) hr) (fun as R h => fnF_ad (ps := ["test"]) (A_test_labels F_as_set F_labels_of_test F_frozen) rfl rfl h)
  have C11 := fn_cal (PySem.W.mg_of X G a11) F11 b11 G11
  have G12 : FnOk l.prog w K mg base CX0 1 f12 _ ["script", "k"] (spS K (sF F__law_box)) := fn_ok (k := 0) F12 sc__law_box (fun as R h => by obtain ⟨_, _, e, _⟩ := h; exact fnF_len e) (fun cdv A outer s H E hr => d__law_box T  hr) (fun as R h => fnF_ad (ps := ["script", "k"]) (A__law_box) rfl rfl h)
  have C12 := fn_cal (PySem.W.mg_of X G a12) F12 b12 G12
  have G13 : FnOk l.prog w K mg base CX0 1 f13 _ ["box", "size_so"] (spS K (sF F__law_take)) := fn_ok (k := 0) F13 sc__law_take (fun as R h => by obtain ⟨_, _, e, _⟩ := h; exact fnF_len e) (fun cdv A outer s H E hr => d__law_take T  hr) (fun as R h => fnF_ad (ps := ["box", "size_so"]) (A__law_take) rfl rfl h)
  have C13 := fn_cal (PySem.W.mg_of X G a13) F13 b13 G13
  have G14 : FnOk l.prog w K mg base CX0 1 f14 _ ["script", "top_so"] (spS K (sF F__law_cells)) := fn_ok (k := 0) F14 sc__law_cells (fun as R h => by obtain ⟨_, _, e, _⟩ := h; exact fnF_len e) (fun cdv A outer s H E hr => d__law_cells T  hr) (fun as R h => fnF_ad (ps := ["script", "top_so"]) (A__law_cells) rfl rfl h)
  have C14 := fn_cal (PySem.W.mg_of X G a14) F14 b14 G14
  have G15 : FnOk l.prog w K mg base CX0 2 f15 _ ["box", "goods_so"] (spS K (sF F__law_of)) := fn_ok (k := 1) F15 sc__law_of (fun as R h => by obtain ⟨_, _, e, _⟩ := h; exact fnF_len e) (fun cdv A outer s H E hr => d__law_of T (C13.mono (by decide)) hr) (fun as R h => fnF_ad (ps := ["box", "goods_so"]) (A__law_of F__law_take) rfl rfl h)
  have C15 := fn_cal (PySem.W.mg_of X G a15) F15 b15 G15
  have GI16 : ∀ n : Nat, FnOk l.prog w K mg base CX0 (0 + n) f16 (PySem.W.fnOf "_law_same" "_law_same" (defArgs s__law_same) (defBody s__law_same) (defScope s__law_same) .none kV16 dc16 pm16 an16 cd16 ct16) ["got", "due"] (spS K (sF (R__law_same n))) := by
    intro n
    induction n with
    | zero => exact fn_none
    | succ n ih => exact fn_ok (k := 0 + n) F16 sc__law_same (fun as R h => by obtain ⟨_, _, e, _⟩ := h; exact fnF_len e) (fun cdv A outer s H E hr => d__law_same T (fn_cal (PySem.W.mg_of X G a16) F16 b16 ih) hr) (fun as R h => fnF_ad (ps := ["got", "due"]) (A__law_same (R__law_same n)) rfl rfl h)
  have G16 : FnOk l.prog w K mg base CX0 12 f16 _ ["got", "due"] (spS K (sF F__law_same)) := GI16 12
  have C16 := fn_cal (PySem.W.mg_of X G a16) F16 b16 G16
  have GI17 : ∀ n : Nat, FnOk l.prog w K mg base CX0 (0 + n) f17 (PySem.W.fnOf "_law_lists" "_law_lists" (defArgs s__law_lists) (defBody s__law_lists) (defScope s__law_lists) .none kV17 dc17 pm17 an17 cd17 ct17) ["matter"] (spS K (sF (R__law_lists n))) := by
    intro n
    induction n with
    | zero => exact fn_none
    | succ n ih => exact fn_ok (k := 0 + n) F17 sc__law_lists (fun as R h => by obtain ⟨_, _, e, _⟩ := h; exact fnF_len e) (fun cdv A outer s H E hr => d__law_lists T (fn_cal (PySem.W.mg_of X G a17) F17 b17 ih) hr) (fun as R h => fnF_ad (ps := ["matter"]) (A__law_lists (R__law_lists n)) rfl rfl h)
  have G17 : FnOk l.prog w K mg base CX0 12 f17 _ ["matter"] (spS K (sF F__law_lists)) := GI17 12
  have C17 := fn_cal (PySem.W.mg_of X G a17) F17 b17 G17
  have GI18 : ∀ n : Nat, FnOk l.prog w K mg base CX0 (2 + n) f18 (PySem.W.fnOf "_law_value" "_law_value" (defArgs s__law_value) (defBody s__law_value) (defScope s__law_value) .none kV18 dc18 pm18 an18 cd18 ct18) ["box", "deep", "cells_so"] (spS K (sF (R__law_value n))) := by
    intro n
    induction n with
    | zero => exact fn_none
    | succ n ih => exact fn_ok (k := 2 + n) F18 sc__law_value (fun as R h => by obtain ⟨_, _, e, _⟩ := h; exact fnF_len e) (fun cdv A outer s H E hr => d__law_value T (C13.mono (by omega)) (C15.mono (by omega)) (fn_cal (PySem.W.mg_of X G a18) F18 b18 ih) hr) (fun as R h => fnF_ad (ps := ["box", "deep", "cells_so"]) (A__law_value F__law_take F__law_of (R__law_value n)) rfl rfl h)
  have G18 : FnOk l.prog w K mg base CX0 8 f18 _ ["box", "deep", "cells_so"] (spS K (sF F__law_value)) := GI18 6
  have C18 := fn_cal (PySem.W.mg_of X G a18) F18 b18 G18
  have GI19 : ∀ n : Nat, FnOk l.prog w K mg base CX0 (8 + n) f19 (PySem.W.fnOf "_law_test" "_law_test" (defArgs s__law_test) (defBody s__law_test) (defScope s__law_test) .none kV19 dc19 pm19 an19 cd19 ct19) ["box", "deep", "cells_so", "lanes_so", "marks_so"] (spS K (sF (R__law_test n))) := by
    intro n
    induction n with
    | zero => exact fn_none
    | succ n ih => exact fn_ok (k := 8 + n) F19 sc__law_test (fun as R h => by obtain ⟨_, _, e, _⟩ := h; exact fnF_len e) (fun cdv A outer s H E hr => d__law_test T (C13.mono (by omega)) (fn_cal (PySem.W.mg_of X G a19) F19 b19 ih) (C15.mono (by omega)) (C18.mono (by omega)) hr) (fun as R h => fnF_ad (ps := ["box", "deep", "cells_so", "lanes_so", "marks_so"]) (A__law_test F__law_take (R__law_test n) F__law_of F__law_value) rfl rfl h)
  have G19 : FnOk l.prog w K mg base CX0 14 f19 _ ["box", "deep", "cells_so", "lanes_so", "marks_so"] (spS K (sF F__law_test)) := GI19 6
  have C19 := fn_cal (PySem.W.mg_of X G a19) F19 b19 G19
  have G20 : FnOk l.prog w K mg base CX0 1 f20 _ ["edge"] (spG K (sG F__law_bits)) := fn_okG (k := 0) F20 sc__law_bits (by decide) (fun cdv A outer s H E hr => d__law_bits T  hr) (fun ds R h => fnG_ad (A__law_bits) rfl h)
  have C20 := fn_calG (PySem.W.mg_of X G a20) F20 b20 G20
  have G21 : FnOk l.prog w K mg base CX0 1 f21 _ ["some"] (spS K (sF F__law_set)) := fn_ok (k := 0) F21 sc__law_set (fun as R h => by obtain ⟨_, _, e, _⟩ := h; exact fnF_len e) (fun cdv A outer s H E hr => d__law_set T  hr) (fun as R h => fnF_ad (ps := ["some"]) (A__law_set) rfl rfl h)
  have C21 := fn_cal (PySem.W.mg_of X G a21) F21 b21 G21
  have G22 : FnOk l.prog w K mg base CX0 15 f22 _ [] (spS K (sF F__law_by_hand_right)) := fn_ok (k := 14) F22 sc__law_by_hand_right (fun as R h => by obtain ⟨_, _, e, _⟩ := h; exact fnF_len e) (fun cdv A outer s H E hr => d__law_by_hand_right T (C7.mono (by decide)) (C8.mono (by decide)) (C9.mono (by decide)) (C10.mono (by decide)) (C11.mono (by decide)) (C17.mono (by decide)) (C16.mono (by decide)) ⟨_, _, PySem.W.mg_of X G a10, F10.kp, kb0, G10.mono (by decide)⟩ ⟨_, _, PySem.W.mg_of X G a9, F9.kp, kb1, G9.mono (by decide)⟩ ⟨_, _, PySem.W.mg_of X G a8, F8.kp, kb2, G8.mono (by decide)⟩ ⟨_, _, PySem.W.mg_of X G a11, F11.kp, kb3, G11.mono (by decide)⟩ ⟨_, _, PySem.W.mg_of X G a7, F7.kp, kb4, G7.mono (by decide)⟩ hr) (fun as R h => fnF_ad (ps := []) (A__law_by_hand_right F_fitted F_value_cells F_test_cells F_test_queues F_test_labels F__law_lists F__law_same) rfl rfl h)
  have C22 := fn_cal (PySem.W.mg_of X G a22) F22 b22 G22
  have G23 : FnOk l.prog w K mg base CX0 15 f23 _ ["box"] (spS K (sF F__law_right)) := fn_ok (k := 14) F23 sc__law_right (fun as R h => by obtain ⟨_, _, e, _⟩ := h; exact fnF_len e) (fun cdv A outer s H E hr => d__law_right T (C18.mono (by decide)) (C16.mono (by decide)) (C21.mono (by decide)) (C20.mono (by decide)) (C8.mono (by decide)) (C19.mono (by decide)) (C11.mono (by decide)) (C10.mono (by decide)) (C9.mono (by decide)) (C13.mono (by decide)) (C7.mono (by decide)) hr) (fun as R h => fnF_ad (ps := ["box"]) (A__law_right F__law_value F__law_same F__law_set F__law_bits F_value_cells F__law_test F_test_labels F_test_queues F_test_cells F__law_take F_fitted) rfl rfl h)
  have C23 := fn_cal (PySem.W.mg_of X G a23) F23 b23 G23
  have G24 : FnOk l.prog w K mg base CX0 16 fa _ ["script"] (spS K (sF F_law)) := fn_ok (k := 15) F24 sc_law (fun as R h => by obtain ⟨_, _, e, _⟩ := h; exact fnF_len e) (fun cdv A outer s H E hr => d_law T (C14.mono (by decide)) (C22.mono (by decide)) (C23.mono (by decide)) (C12.mono (by decide)) hr) (fun as R h => fnF_ad (ps := ["script"]) (A_law F__law_cells F__law_by_hand_right F__law_right F__law_box) rfl rfl h)
  exact fn_law (fn_weak G24 fun as R h => law_of law_ok h)
end K08

open PySem PySem.W PyProof.Rows
set_option maxHeartbeats 0 in
theorem PySem.Challenge.cw_runclaims_k08_what_values_and_tests_ask_holds : PySem.Challenge.rw_runclaims_k08_what_values_and_tests_ask.Holds := by
  w_on; o_law; k_head; (case hw => w_witness2)
  k_fill
  refine L2.walk_of (l := PySem.Challenge.rw_runclaims_k08_what_values_and_tests_ask) (n := 63) (k := 16) (x := "script") (CX := fun _ => L2.CX0) (sp := fun w => DL.spLaw _) rfl (by decide) rfl ⟨rfl, by decide, by decide⟩ (fun w h Y => PySem.W.kIn_of Y) ?F (fun _ _ a ns hl _ hS => ⟨a, ns, rfl, hS, hl, fun _ => rfl⟩) (fun _ _ _ _ _ h => h)
  case F =>
    intro w mg fa h KX G hmg
    refine' K08.all_mk KX G hmg ?a0 ?l0 ?c0 ?k0 ?a1 ?l1 ?c1 ?k1 ?a2 ?l2 ?c2 ?k2 ?a3 ?l3 ?c3 ?k3 ?a4 ?l4 ?c4 ?k4 ?a5 ?l5 ?c5 ?k5 ?a6 ?l6 ?c6 ?k6 ?a7 ?l7 ?c7 ?k7 ?a8 ?l8 ?c8 ?k8 ?a9 ?l9 ?c9 ?k9 ?a10 ?l10 ?c10 ?k10 ?a11 ?l11 ?c11 ?k11 ?a12 ?l12 ?c12 ?k12 ?a13 ?l13 ?c13 ?k13 ?a14 ?l14 ?c14 ?k14 ?a15 ?l15 ?c15 ?k15 ?a16 ?l16 ?c16 ?k16 ?a17 ?l17 ?c17 ?k17 ?a18 ?l18 ?c18 ?k18 ?a19 ?l19 ?c19 ?k19 ?a20 ?l20 ?c20 ?k20 ?a21 ?l21 ?c21 ?k21 ?a22 ?l22 ?c22 ?k22 ?a23 ?l23 ?c23 ?k23 ?a24 ?l24 ?c24 ?k24 ?z0 ?z1 ?z2 ?z3 ?z4 ?z5 ?z6 ?z7 ?z8 ?z9 ?z10 ?z11 ?z12 ?z13
    (case a0 => k_is); (case l0 => k_is); (case c0 => k_is); (case k0 => k_is); (case a1 => k_is); (case l1 => k_is); (case c1 => k_is); (case k1 => k_is); (case a2 => k_is); (case l2 => k_is); (case c2 => k_is); (case k2 => k_is); (case a3 => k_is); (case l3 => k_is); (case c3 => k_is); (case k3 => k_is); (case a4 => k_is); (case l4 => k_is); (case c4 => k_is); (case k4 => k_is); (case a5 => k_is); (case l5 => k_is); (case c5 => k_is); (case k5 => k_is); (case a6 => k_is); (case l6 => k_is); (case c6 => k_is); (case k6 => k_is); (case a7 => k_is); (case l7 => k_is); (case c7 => k_is); (case k7 => k_is); (case a8 => k_is); (case l8 => k_is); (case c8 => k_is); (case k8 => k_is); (case a9 => k_is); (case l9 => k_is); (case c9 => k_is); (case k9 => k_is); (case a10 => k_is); (case l10 => k_is); (case c10 => k_is); (case k10 => k_is); (case a11 => k_is); (case l11 => k_is); (case c11 => k_is); (case k11 => k_is); (case a12 => k_is); (case l12 => k_is); (case c12 => k_is); (case k12 => k_is); (case a13 => k_is); (case l13 => k_is); (case c13 => k_is); (case k13 => k_is); (case a14 => k_is); (case l14 => k_is); (case c14 => k_is); (case k14 => k_is); (case a15 => k_is); (case l15 => k_is); (case c15 => k_is); (case k15 => k_is); (case a16 => k_is); (case l16 => k_is); (case c16 => k_is); (case k16 => k_is); (case a17 => k_is); (case l17 => k_is); (case c17 => k_is); (case k17 => k_is); (case a18 => k_is); (case l18 => k_is); (case c18 => k_is); (case k18 => k_is); (case a19 => k_is); (case l19 => k_is); (case c19 => k_is); (case k19 => k_is); (case a20 => k_is); (case l20 => k_is); (case c20 => k_is); (case k20 => k_is); (case a21 => k_is); (case l21 => k_is); (case c21 => k_is); (case k21 => k_is); (case a22 => k_is); (case l22 => k_is); (case c22 => k_is); (case k22 => k_is); (case a23 => k_is); (case l23 => k_is); (case c23 => k_is); (case k23 => k_is); (case a24 => k_is); (case l24 => k_is); (case c24 => k_is); (case k24 => k_is); (case z0 => k_is); (case z1 => k_is); (case z2 => k_is); (case z3 => k_is); (case z4 => k_is); (case z5 => k_is); (case z6 => k_is); (case z7 => k_is); (case z8 => k_is); (case z9 => k_is); (case z10 => k_is); (case z11 => k_is); (case z12 => k_is); (case z13 => k_is)
