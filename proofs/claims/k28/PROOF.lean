import PyProof.Rows.All
import Wide.All
import OpenK.AllK
import Wide.FinOn
import PySem.Challenge.RW_runclaims_k28_what_formulas_mean
import HandS.Base
import HandS.Call
import HandS.List
import HandS.Comp
import HandS.Iter
import HandS.Text
import HandS.Words
import HandS.TupAny
import HandS.IsInst
import HandS.Flow
import HandS.Deep
import HandS.Zip
import HandS.Walk
import HandS.Exc
import HandS.ExcOwn
import HandS.WordsExc
import KE.GoesEnum
import HandS.Defaults
import HandS.Dict
import HandS.Star
import HandS.Style
import HandS.ForExc
import KE.KExcIs
import HandS.RevRange
set_option Elab.async false
set_option linter.all false
set_option maxRecDepth 100000
set_option maxHeartbeats 4000000
namespace DL
open PySem PySem.Spec PyProof.Rows L2

/-! ## plain data at values -/
mutual
inductive Dd (K : PySem.W.Frag) (G : Hp) : V → PyData → Prop
  | non : Dd K G .non .none
  | bl (b : Bool) : Dd K G (.bl b) (.bool b)
  | int (i : Int) : Dd K G (.int i) (.int i)
  | str (x : Str) : Dd K G (.str x) (.str x)
  | lst {a : Addr} {xs : List V} {ds : List PyData} : G a = some (.lst xs) → DdAll K G xs ds → Dd K G (.ref a) (.list ds)
  | tup {a : Addr} {xs : List V} {ds : List PyData} : SqT K G a xs → DdAll K G xs ds → Dd K G (.ref a) (.tuple ds)
inductive DdAll (K : PySem.W.Frag) (G : Hp) : List V → List PyData → Prop
  | nil : DdAll K G [] []
  | cons {v : V} {vs : List V} {d : PyData} {ds : List PyData} : Dd K G v d → DdAll K G vs ds → DdAll K G (v :: vs) (d :: ds)
end

section
variable {K : PySem.W.Frag} {G G' H H' : Hp}
theorem rd_same {a : Addr} {u : HO} (e : Same G G') (h : Rd G a u) : Rd G' a u := by
  rcases h with h | ⟨o, h⟩
  · exact Or.inl (e a _ h)
  · exact Or.inr ⟨o, e a _ h⟩
theorem sqL_same {a : Addr} {xs : List V} (e : Same G G') (h : SqL K G a xs) : SqL K G' a xs := by
  rcases h with h | h
  · exact Or.inl (rd_same e h)
  · exact Or.inr h
theorem sqT_same {a : Addr} {xs : List V} (e : Same G G') (h : SqT K G a xs) : SqT K G' a xs := by
  rcases h with h | h
  · exact Or.inl (rd_same e h)
  · exact Or.inr h
mutual
theorem Dd.mono (e : Same G G') : ∀ {v : V} {d : PyData}, Dd K G v d → Dd K G' v d
  | _, _, .non => .non
  | _, _, .bl b => .bl b
  | _, _, .int i => .int i
  | _, _, .str x => .str x
  | _, _, .lst h a => .lst (e _ _ h) (DdAll.mono e a)
  | _, _, .tup h a => .tup (sqT_same e h) (DdAll.mono e a)
theorem DdAll.mono (e : Same G G') : ∀ {vs : List V} {ds : List PyData}, DdAll K G vs ds → DdAll K G' vs ds
  | _, _, .nil => .nil
  | _, _, .cons h a => .cons (Dd.mono e h) (DdAll.mono e a)
end
mutual
theorem Dd.dp : ∀ {v : V} {d : PyData}, Dd K G v d → Dp K G v d
  | _, _, .non => .non
  | _, _, .bl b => .bl b
  | _, _, .int i => .int i
  | _, _, .str x => .str x
  | _, _, .lst h a => .lst (SqL.of h) (DdAll.dp a)
  | _, _, .tup h a => .tup h (DdAll.dp a)
theorem DdAll.dp : ∀ {vs : List V} {ds : List PyData}, DdAll K G vs ds → DpAll K G vs ds
  | _, _, .nil => .nil
  | _, _, .cons h a => .cons (Dd.dp h) (DdAll.dp a)
end
theorem DdAll.length : ∀ {vs : List V} {ds : List PyData}, DdAll K G vs ds → vs.length = ds.length
  | _, _, .nil => rfl
  | _, _, .cons _ a => congrArg Nat.succ (DdAll.length a)
theorem DdAll.get : ∀ {vs : List V} {ds : List PyData} {i : Nat} {d : PyData}, DdAll K G vs ds → ds[i]? = some d → ∃ v, vs[i]? = some v ∧ Dd K G v d
  | _, _, i, d, .nil, h => by simp at h
  | _, _, 0, d, .cons (v := v) h a, e => by
    simp at e; subst e; exact ⟨v, by simp, h⟩
  | _, _, i + 1, d, .cons h a, e => by
    obtain ⟨v, h1, h2⟩ := DdAll.get (i := i) a (by simpa using e)
    exact ⟨v, by simpa using h1, h2⟩
theorem DdAll.getv : ∀ {vs : List V} {ds : List PyData} {i : Nat} {v : V}, DdAll K G vs ds → vs[i]? = some v → ∃ d, ds[i]? = some d ∧ Dd K G v d
  | _, _, i, d, .nil, h => by simp at h
  | _, _, 0, _, .cons (d := d) h a, e => by
    simp at e; subst e; exact ⟨d, by simp, h⟩
  | _, _, i + 1, d, .cons h a, e => by
    obtain ⟨v, h1, h2⟩ := DdAll.getv (i := i) a (by simpa using e)
    exact ⟨v, by simpa using h1, h2⟩
theorem DdAll.app : ∀ {vs us : List V} {ds es : List PyData}, DdAll K G vs ds → DdAll K G us es → DdAll K G (vs ++ us) (ds ++ es)
  | _, _, _, _, .nil, b => b
  | _, _, _, _, .cons h a, b => .cons h (DdAll.app a b)
theorem DdAll.set : ∀ {vs : List V} {ds : List PyData} {v : V} {d : PyData} (i : Nat), DdAll K G vs ds → Dd K G v d → DdAll K G (vs.set i v) (ds.set i d)
  | _, _, _, _, i, .nil, _ => by cases i <;> exact .nil
  | _, _, _, _, 0, .cons h a, b => .cons b a
  | _, _, _, _, i + 1, .cons h a, b => .cons h (DdAll.set i a b)
theorem DdAll.take : ∀ {vs : List V} {ds : List PyData} (n : Nat), DdAll K G vs ds → DdAll K G (vs.take n) (ds.take n)
  | _, _, 0, _ => by simpa using DdAll.nil
  | _, _, n + 1, .nil => by simpa using DdAll.nil
  | _, _, n + 1, .cons h a => .cons h (DdAll.take n a)
theorem DdAll.drop : ∀ {vs : List V} {ds : List PyData} (n : Nat), DdAll K G vs ds → DdAll K G (vs.drop n) (ds.drop n)
  | _, _, 0, a => a
  | _, _, n + 1, .nil => by simpa using DdAll.nil
  | _, _, n + 1, .cons h a => DdAll.drop n a
end

/-! ## the frame: what stands in the slots -/
inductive Sl where
  | un
  | dat (d : PyData)
  | own (ds : List PyData)
  | par (ds : List PyData)
  | scr (ds : List PyData)
abbrev Gam := List Sl
/-- the base: H, G at some time ahead; P may be changed since; N: new for this def -/
structure Bs where
  H : Hp
  G : Hp
  P : Addr → Prop
  N : Addr → Prop
  A : Nat → Addr
/-- slot i holds a list that is one's own, with these items -/
def Own (Γ : Gam) (i : Nat) (ds : List PyData) : Prop := Γ[i]? = some (Sl.own ds) ∨ Γ[i]? = some (Sl.par ds)
structure En (K : PySem.W.Frag) (B : Bs) (σ : L2.St) (H G : Hp) (Γ : Gam) : Prop where
  len : σ.length = Γ.length
  gh : Same G H
  g0 : Same B.G G
  h0 : ∀ q o, B.H q = some o → ¬ B.P q → H q = some o
  bh : ∀ q, B.H q ≠ none → H q ≠ none
  f0 : ∀ q, B.H q ≠ none → B.G q = none → G q = none
  nn : ∀ q, H q = none → B.N q
  dat : ∀ (i : Nat) d, Γ[i]? = some (Sl.dat d) → ∃ v, σ[i]? = some (some v) ∧ Dd K G v d
  mine : ∀ (i : Nat) ds, Own Γ i ds → ∃ p vs, σ[i]? = some (some (V.ref p)) ∧ G p = none ∧ H p = some (.lst vs) ∧ DdAll K G vs ds ∧ (B.P p ∨ B.H p = none)
  new : ∀ (i : Nat) ds, Γ[i]? = some (Sl.own ds) → ∃ p, σ[i]? = some (some (V.ref p)) ∧ B.N p
  par : ∀ (i : Nat) ds, Γ[i]? = some (Sl.par ds) → σ[i]? = some (some (V.ref (B.A i)))
  scr : ∀ (i : Nat) ds, Γ[i]? = some (Sl.scr ds) → ∃ p vs, σ[i]? = some (some (V.ref p)) ∧ SqL K G p vs ∧ DdAll K G vs ds
  inj : ∀ (i j : Nat) p ds es, Own Γ i ds → Own Γ j es → σ[i]? = some (some (V.ref p)) → σ[j]? = some (some (V.ref p)) → i = j
/-- of one kind, slot by slot -/
def KS1 : Sl → Sl → Prop
  | .un, .un => True
  | .dat d, .dat e => d = e
  | .own _, .own _ => True
  | .par _, .par _ => True
  | .scr d, .scr e => d = e
  | _, _ => False
structure KS (Γ Γ' : Gam) : Prop where
  len : Γ.length = Γ'.length
  at' : ∀ (i : Nat) a b, Γ[i]? = some a → Γ'[i]? = some b → KS1 a b
theorem KS1.refl : ∀ a : Sl, KS1 a a
  | .un => trivial
  | .dat _ => rfl
  | .own _ => trivial
  | .par _ => trivial
  | .scr _ => rfl
theorem KS1.trans : ∀ {a b c : Sl}, KS1 a b → KS1 b c → KS1 a c
  | .un, .un, .un, _, _ => trivial
  | .dat _, .dat _, .dat _, h, h' => Eq.trans h h'
  | .own _, .own _, .own _, _, _ => trivial
  | .par _, .par _, .par _, _, _ => trivial
  | .scr _, .scr _, .scr _, h, h' => Eq.trans h h'
theorem KS.refl (Γ : Gam) : KS Γ Γ := ⟨rfl, fun i a b h h' => by rw [h] at h'; cases h'; exact KS1.refl a⟩
theorem KS.trans {a b c : Gam} (h : KS a b) (h' : KS b c) : KS a c := ⟨h.len.trans h'.len, fun i x z hx hz => by
  have li : i < b.length := by
    have := (List.getElem?_eq_some_iff.mp hx).1
    rw [← h.len]; exact this
  have hy : b[i]? = some b[i] := List.getElem?_eq_getElem li
  exact (h.at' i x _ hx hy).trans (h'.at' i _ z hy hz)⟩
theorem KS.ownB {Γ Γ' : Gam} (h : KS Γ Γ') {i : Nat} {ds : List PyData} (o : Γ'[i]? = some (Sl.own ds)) : ∃ es, Γ[i]? = some (Sl.own es) := by
  have li : i < Γ.length := by
    have := (List.getElem?_eq_some_iff.mp o).1
    rw [h.len]; exact this
  have hy : Γ[i]? = some Γ[i] := List.getElem?_eq_getElem li
  have k := h.at' i _ _ hy o
  cases e : Γ[i] with
  | own es => exact ⟨es, by rw [hy, e]⟩
  | un => rw [e] at k; exact k.elim
  | dat _ => rw [e] at k; exact k.elim
  | par _ => rw [e] at k; exact k.elim
  | scr _ => rw [e] at k; exact k.elim
theorem KS.parB {Γ Γ' : Gam} (h : KS Γ Γ') {i : Nat} {ds : List PyData} (o : Γ'[i]? = some (Sl.par ds)) : ∃ es, Γ[i]? = some (Sl.par es) := by
  have li : i < Γ.length := by
    have := (List.getElem?_eq_some_iff.mp o).1
    rw [h.len]; exact this
  have hy : Γ[i]? = some Γ[i] := List.getElem?_eq_getElem li
  have k := h.at' i _ _ hy o
  cases e : Γ[i] with
  | par es => exact ⟨es, by rw [hy, e]⟩
  | un => rw [e] at k; exact k.elim
  | dat _ => rw [e] at k; exact k.elim
  | own _ => rw [e] at k; exact k.elim
  | scr _ => rw [e] at k; exact k.elim
theorem KS.mineB {Γ Γ' : Gam} (h : KS Γ Γ') {i : Nat} {ds : List PyData} (o : Own Γ' i ds) : ∃ es, Own Γ i es := by
  rcases o with o | o
  · obtain ⟨es, e⟩ := h.ownB o; exact ⟨es, .inl e⟩
  · obtain ⟨es, e⟩ := h.parB o; exact ⟨es, .inr e⟩

section
variable {K : PySem.W.Frag} {B : Bs} {σ : L2.St} {H G H' G' : Hp} {Γ Γ' : Gam}
/-- the base moved up to now -/
def rebase (B : Bs) (σ : L2.St) (H G : Hp) (Γ : Gam) : Bs := ⟨H, G, fun p => ∃ (i : Nat) (ds : List PyData), Own Γ i ds ∧ σ[i]? = some (some (V.ref p)), B.N, B.A⟩
theorem En.rebase (e : En K B σ H G Γ) : En K (rebase B σ H G Γ) σ H G Γ where
  len := e.len
  gh := e.gh
  g0 := Same.refl G
  h0 := fun q o h _ => h
  bh := fun q h => h
  f0 := fun q _ h => h
  nn := e.nn
  dat := e.dat
  mine := fun i ds o => by
    obtain ⟨p, vs, h1, h2, h3, h4, _⟩ := e.mine i ds o
    exact ⟨p, vs, h1, h2, h3, h4, .inl ⟨i, ds, o, h1⟩⟩
  new := e.new
  par := e.par
  scr := e.scr
  inj := e.inj
/-- and back -/
theorem En.unbase (e : En K B σ H G Γ) (e' : En K (DL.rebase B σ H G Γ) σ H' G' Γ') (k : KS Γ Γ') : En K B σ H' G' Γ' where
  len := e'.len
  gh := e'.gh
  g0 := e.g0.trans e'.g0
  h0 := fun q o h hp => by
    refine e'.h0 q o (e.h0 q o h hp) ?_
    rintro ⟨i, ds, ow, hs⟩
    obtain ⟨p, vs, h1, h2, h3, h4, h5⟩ := e.mine i ds ow
    rw [hs] at h1
    cases h1
    rcases h5 with h5 | h5
    · exact hp h5
    · rw [h] at h5; cases h5
  bh := fun q h => e'.bh q (e.bh q h)
  f0 := fun q h h' => e'.f0 q (e.bh q h) (e.f0 q h h')
  nn := e'.nn
  dat := e'.dat
  mine := fun i ds o => by
    obtain ⟨es, o0⟩ := k.mineB o
    obtain ⟨p, vs, h1, h2, h3, h4, h5⟩ := e'.mine i ds o
    obtain ⟨p', vs', g1, g2, g3, g4, g5⟩ := e.mine i es o0
    rw [h1] at g1
    cases g1
    exact ⟨p, vs, h1, h2, h3, h4, g5⟩
  new := e'.new
  par := e'.par
  scr := e'.scr
  inj := e'.inj
/-- what stands apart from all that is one's own stays -/
theorem En.stays (e : En K B σ H G Γ) (e' : En K (DL.rebase B σ H G Γ) σ H' G' Γ') {q : Addr} {o : HO} (h : H q = some o) (hn : ∀ (i : Nat) ds, Own Γ i ds → σ[i]? ≠ some (some (V.ref q))) : H' q = some o :=
  e'.h0 q o h fun ⟨i, ds, ow, hs⟩ => hn i ds ow hs
theorem En.scrG (e : En K B σ H G Γ) (s : Same G G') : ∀ (i : Nat) ds, Γ[i]? = some (Sl.scr ds) → ∃ p vs, σ[i]? = some (some (V.ref p)) ∧ SqL K G' p vs ∧ DdAll K G' vs ds := fun i ds h => by
  obtain ⟨p, vs, h1, h2, h3⟩ := e.scr i ds h
  exact ⟨p, vs, h1, sqL_same s h2, h3.mono s⟩
/-- a new thing is laid, frozen -/
theorem En.laid {p : Addr} {o : HO} (e : En K B σ H G Γ) (hp : H p = none) : En K B σ (upd H p o) (upd G p o) Γ := by
  have gp : G p = none := by
    cases q : G p with
    | none => rfl
    | some u => rw [e.gh p u q] at hp; cases hp
  have sH : Same H (upd H p o) := fun b x h => by rw [upd_ne (ne_of_none h hp)]; exact h
  have sG : Same G (upd G p o) := fun b x h => by rw [upd_ne (ne_of_none h gp)]; exact h
  refine ⟨e.len, fun b x h => ?_, e.g0.trans sG, fun q x h h' => sH _ _ (e.h0 q x h h'), fun q h z => ?_, fun q h h' => ?_, fun q h => e.nn q ?_, fun i d h => ?_, fun i ds ow => ?_, e.new, e.par, e.scrG sG, e.inj⟩
  · by_cases hb : b = p
    · subst hb; rw [upd_same] at h ⊢; exact h
    · rw [upd_ne hb] at h ⊢; exact e.gh b x h
  · have := e.bh q h
    cases q1 : H q with
    | none => exact this q1
    | some u => rw [sH q u q1] at z; cases z
  · have hq : q ≠ p := fun z => by
      have := e.bh q h
      rw [z] at this
      exact this hp
    rw [upd_ne hq]
    exact e.f0 q h h'
  · cases q1 : H q with
    | none => rfl
    | some u => rw [sH q u q1] at h; cases h
  · obtain ⟨v, h1, h2⟩ := e.dat i d h
    exact ⟨v, h1, h2.mono sG⟩
  · obtain ⟨q, vs, h1, h2, h3, h4, h5⟩ := e.mine i ds ow
    refine ⟨q, vs, h1, ?_, sH _ _ h3, h4.mono sG, h5⟩
    rw [upd_ne (ne_of_none h3 hp)]
    exact h2
/-- .. not frozen -/
theorem En.laidN {p : Addr} {o : HO} (e : En K B σ H G Γ) (hp : H p = none) : En K B σ (upd H p o) G Γ := by
  have sH : Same H (upd H p o) := fun b x h => by rw [upd_ne (ne_of_none h hp)]; exact h
  refine ⟨e.len, e.gh.trans sH, e.g0, fun q x h h' => sH _ _ (e.h0 q x h h'), fun q h z => ?_, e.f0, fun q h => e.nn q ?_, e.dat, fun i ds ow => ?_, e.new, e.par, e.scr, e.inj⟩
  · have := e.bh q h
    cases q1 : H q with
    | none => exact this q1
    | some u => rw [sH q u q1] at z; cases z
  · cases q1 : H q with
    | none => rfl
    | some u => rw [sH q u q1] at h; cases h
  · obtain ⟨q, vs, h1, h2, h3, h4, h5⟩ := e.mine i ds ow
    exact ⟨q, vs, h1, h2, sH _ _ h3, h4, h5⟩
/-- a list that is nobody's is frozen -/
theorem En.freeze {p : Addr} {o : HO} (e : En K B σ H G Γ) (hp : H p = some o) (gp : G p = none) (bp : B.H p = none) (hn : ∀ (i : Nat) ds, Own Γ i ds → σ[i]? ≠ some (some (V.ref p))) : En K B σ H (upd G p o) Γ := by
  have sG : Same G (upd G p o) := fun b x h => by rw [upd_ne (ne_of_none h gp)]; exact h
  refine ⟨e.len, fun b x h => ?_, e.g0.trans sG, e.h0, e.bh, fun q h h' => ?_, e.nn, fun i d h => ?_, fun i ds ow => ?_, e.new, e.par, e.scrG sG, e.inj⟩
  · by_cases hb : b = p
    · subst hb; rw [upd_same] at h; cases h; exact hp
    · rw [upd_ne hb] at h; exact e.gh b x h
  · have hq : q ≠ p := fun z => by rw [z] at h; exact h bp
    rw [upd_ne hq]
    exact e.f0 q h h'
  · obtain ⟨v, h1, h2⟩ := e.dat i d h
    exact ⟨v, h1, h2.mono sG⟩
  · obtain ⟨q, vs, h1, h2, h3, h4, h5⟩ := e.mine i ds ow
    refine ⟨q, vs, h1, ?_, h3, h4.mono sG, h5⟩
    have hq : q ≠ p := fun z => hn i ds ow (by rw [h1, z])
    rw [upd_ne hq]
    exact h2
end
end DL

namespace DL
open PySem PySem.Spec PyProof.Rows L2

/-! ## readings over data -/
abbrev WE := Gam → (PyData → Gam → Prop) → Prop
abbrev WT := Gam → (Bool → Gam → Prop) → Prop
abbrev WA := Gam → (List PyData → Gam → Prop) → Prop
def RE (K : PySem.W.Frag) (t : TE) (W : WE) : Prop :=
  ∀ (B : Bs) (Γ : Gam) (σ : L2.St) (H G : Hp) (Q : PyData → Gam → Prop) (Q' : VK), En K B σ H G Γ → W Γ Q →
    (∀ v H' G' d Γ', En K B σ H' G' Γ' → Same G G' → KS Γ Γ' → Dd K G' v d → Q d Γ' → Q' v H') → t σ H Q'
/-- a new list, nobody's yet -/
def RN (K : PySem.W.Frag) (t : TE) (W : WA) : Prop :=
  ∀ (B : Bs) (Γ : Gam) (σ : L2.St) (H G : Hp) (Q : List PyData → Gam → Prop) (Q' : VK), En K B σ H G Γ → W Γ Q →
    (∀ p vs H' G' ds Γ', En K B σ H' G' Γ' → Same G G' → KS Γ Γ' → G' p = none → H' p = some (.lst vs) → DdAll K G' vs ds → B.H p = none → B.N p → (∀ (i : Nat) es, Own Γ' i es → σ[i]? ≠ some (some (V.ref p))) → Q ds Γ' → Q' (.ref p) H') → t σ H Q'
def RT (K : PySem.W.Frag) (t : TT) (W : WT) : Prop :=
  ∀ (B : Bs) (Γ : Gam) (σ : L2.St) (H G : Hp) (Q : Bool → Gam → Prop) (Q' : Bool → Hp → Prop), En K B σ H G Γ → W Γ Q →
    (∀ b H' G' Γ', En K B σ H' G' Γ' → Same G G' → KS Γ Γ' → Q b Γ' → Q' b H') → t σ H Q'
def RA (K : PySem.W.Frag) (t : TA) (W : WA) : Prop :=
  ∀ (B : Bs) (Γ : Gam) (σ : L2.St) (H G : Hp) (Q : List PyData → Gam → Prop) (Q' : List V → Hp → Prop), En K B σ H G Γ → W Γ Q →
    (∀ vs H' G' ds Γ', En K B σ H' G' Γ' → Same G G' → KS Γ Γ' → DdAll K G' vs ds → Q ds Γ' → Q' vs H') → t σ H Q'
structure DE (X : Cx) (e : Expr) (W : WE) : Prop where
  ex : ∃ t, PE X e t ∧ RE X.K t W
structure DN (X : Cx) (e : Expr) (W : WA) : Prop where
  ex : ∃ t, PE X e t ∧ RN X.K t W
structure DT (X : Cx) (e : Expr) (W : WT) : Prop where
  ex : ∃ t, PT X e t ∧ RT X.K t W
structure DA (X : Cx) (es : List Expr) (W : WA) : Prop where
  ex : ∃ t, PA X es t ∧ RA X.K t W
/-- a two-place operation by values -/
abbrev F2 := PyData → PyData → (PyData → Prop) → Prop
def RV2 (K : PySem.W.Frag) (r : R2) (f : F2) : Prop :=
  ∀ (B : Bs) (Γ : Gam) (σ : L2.St) (H G : Hp) (x y : V) (dx dy : PyData) (Q : PyData → Prop) (Q' : VK), En K B σ H G Γ → Dd K G x dx → Dd K G y dy → f dx dy Q →
    (∀ v H' G' d, En K B σ H' G' Γ → Same G G' → Dd K G' v d → Q d → Q' v H') → r x y H Q'
abbrev FA := List PyData → (PyData → Prop) → Prop
def RVA (K : PySem.W.Frag) (r : List V → Hp → VK → Prop) (f : FA) : Prop :=
  ∀ (B : Bs) (Γ : Gam) (σ : L2.St) (H G : Hp) (xs : List V) (ds : List PyData) (Q : PyData → Prop) (Q' : VK), En K B σ H G Γ → DdAll K G xs ds → f ds Q →
    (∀ v H' G' d, En K B σ H' G' Γ → Same G G' → Dd K G' v d → Q d → Q' v H') → r xs H Q'

section
variable {X : Cx} {K : PySem.W.Frag} {a b c e : Expr} {es : List Expr} {Wa Wb Wc : WE} {pos : Pos}
/-! ### names, constants -/
@[simp] def wVar (i : Nat) : WE := fun Γ Q => match Γ[i]? with
  | some (.dat d) => Q d Γ
  | _ => False
theorem de_var (i : Nat) {x : Str} {p : Pos} (h : PE X (.Name x p) (tVar i)) : DE X (.Name x p) (wVar i) := ⟨_, h, by
  intro B Γ σ H G Q Q' E w k
  unfold wVar at w
  cases q : Γ[i]? with
  | none => rw [q] at w; exact w.elim
  | some s =>
    rw [q] at w
    cases s with
    | dat d =>
      obtain ⟨v, h1, h2⟩ := E.dat i d q
      exact ⟨v, h1, k v H G d Γ E (Same.refl _) (KS.refl _) h2 w⟩
    | un => exact w.elim
    | own _ => exact w.elim
    | par _ => exact w.elim
    | scr _ => exact w.elim⟩
@[simp] def wC (d : PyData) : WE := fun Γ Q => Q d Γ
theorem re_c {v : V} {d : PyData} (h : ∀ G, Dd K G v d) : RE K (tC v) (wC d) := by
  intro B Γ σ H G Q Q' E w k
  exact k v H G d Γ E (Same.refl _) (KS.refl _) (h G) w
theorem de_int {i : Int} {j p} : DE X (.Constant (.int i) j p) (wC (.int i)) := ⟨_, pe_int, re_c fun _ => .int i⟩
theorem de_bl {v : Bool} {j p} : DE X (.Constant (.bool v) j p) (wC (.bool v)) := ⟨_, pe_bl, re_c fun _ => .bl v⟩
theorem de_non {j p} : DE X (.Constant .none j p) (wC .none) := ⟨_, pe_non, re_c fun _ => .non⟩
theorem de_str {x : Str} {j p} : DE X (.Constant (.str x) j p) (wC (.str x)) := ⟨_, pe_str, re_c fun _ => .str x⟩
/-- a module's text -/
theorem de_gstr {x z : Str} {t : Tok} {p : Pos} (hg : Gl X x) (hm : X.mg x = some (.str z t)) (hd : (x == ("__debug__" : Str)) = false := by decide) : DE X (.Name x p) (wC (.str z)) :=
  ⟨_, pe_glob (v := .str z) hg hm ⟨_, rfl⟩ hd, re_c fun _ => .str z⟩
theorem de_gint {x : Str} {z : Int} {t : Tok} {p : Pos} (hg : Gl X x) (hm : X.mg x = some (.int z t)) (hd : (x == ("__debug__" : Str)) = false := by decide) : DE X (.Name x p) (wC (.int z)) :=
  ⟨_, pe_glob (v := .int z) hg hm ⟨_, rfl⟩ hd, re_c fun _ => .int z⟩

/-! ### operators by values -/
@[simp] def wOp (f : F2) (Wa Wb : WE) : WE := fun Γ Q => Wa Γ fun x Γ1 => Wb Γ1 fun y Γ2 => f x y fun z => Q z Γ2
theorem re_op {r : R2} {f : F2} {ta tb : TE} (hr : RV2 K r f) (ha : RE K ta Wa) (hb : RE K tb Wb) : RE K (tOp r ta tb) (wOp f Wa Wb) := by
  intro B Γ σ H G Q Q' E w k
  refine ha B Γ σ H G _ _ E w fun x H1 G1 dx Γ1 E1 s1 k1 d1 w1 => ?_
  refine hb B Γ1 σ H1 G1 _ _ E1 w1 fun y H2 G2 dy Γ2 E2 s2 k2 d2 w2 => ?_
  refine hr B Γ2 σ H2 G2 x y dx dy _ _ E2 (d1.mono s2) d2 w2 fun v H3 G3 d E3 s3 d3 q => ?_
  exact k v H3 G3 d Γ2 E3 ((s1.trans s2).trans s3) (k1.trans k2) d3 q
theorem de_bin {op : Operator} {r : R2} {f : F2} (ho : OpR X (binaryOp op) r) (hr : RV2 X.K r f) (ha : DE X a Wa) (hb : DE X b Wb) : DE X (.BinOp a op b pos) (wOp f Wa Wb) := by
  obtain ⟨ta, pa, ra⟩ := ha.ex
  obtain ⟨tb, pb, rb⟩ := hb.ex
  exact ⟨_, pe_op ho pa pb, re_op hr ra rb⟩
theorem de_cmp {op : CmpOp} {r : R2} {f : F2} (ho : OpR X (compareOp op) r) (hr : RV2 X.K r f) (ha : DE X a Wa) (hb : DE X b Wb) (hm : behindInMarks op b = false) : DE X (.Compare a [op] [b] pos) (wOp f Wa Wb) := by
  obtain ⟨ta, pa, ra⟩ := ha.ex
  obtain ⟨tb, pb, rb⟩ := hb.ex
  exact ⟨_, pe_cmpR ho pa pb hm, re_op hr ra rb⟩
/-- a value as a test (a bool) -/
@[simp] def wB (W : WE) : WT := fun Γ Q => W Γ fun d Γ1 => match d with
  | .bool b => Q b Γ1
  | _ => False
theorem rt_test {t : TE} {W : WE} (h : RE K t W) : RT K (tTest t) (wB W) := by
  intro B Γ σ H G Q Q' E w k
  refine h B Γ σ H G _ _ E w fun v H1 G1 d Γ1 E1 s1 k1 d1 w1 => ?_
  cases d1 with
  | bl b => exact ⟨b, rfl, k b H1 G1 Γ1 E1 s1 k1 w1⟩
  | _ => exact w1.elim
theorem dt_cmp {op : CmpOp} {r : R2} {f : F2} (ho : OpR X (compareOp op) r) (hr : RV2 X.K r f) (ha : DE X a Wa) (hb : DE X b Wb) (hm : behindInMarks op b = false) : DT X (.Compare a [op] [b] pos) (wB (wOp f Wa Wb)) := by
  obtain ⟨ta, pa, ra⟩ := ha.ex
  obtain ⟨tb, pb, rb⟩ := hb.ex
  exact ⟨_, pt_cmpR ho pa pb hm, rt_test (re_op hr ra rb)⟩
theorem dt_val {W : WE} (h : DE X e W) (he : ∀ whole, isTrue e X.env whole = (do let v ← whole; standAt e.pos; holding [v] (truthy v)) := by intro _; rfl) : DT X e (wB W) := by
  obtain ⟨t, p, r⟩ := h.ex
  exact ⟨_, pt_val p he, rt_test r⟩
/-! ### and, or, not -/
@[simp] def wAnd (A B : WT) : WT := fun Γ Q => A Γ fun b Γ1 => if b = true then B Γ1 Q else Q false Γ1
@[simp] def wOr (A B : WT) : WT := fun Γ Q => A Γ fun b Γ1 => if b = true then Q true Γ1 else B Γ1 Q
@[simp] def wNot (A : WT) : WT := fun Γ Q => A Γ fun b Γ1 => Q (!b) Γ1
structure DW (X : Cx) (e : Expr) (W : WT) : Prop where
  ex : ∃ t, PW X e t ∧ RT X.K t W
variable {WA' WB' : WT} {rest : List Expr}
theorem dw_and1 (h : DT X a WA') : DW X (.BoolOp .And [a] pos) WA' := by
  obtain ⟨t, p, r⟩ := h.ex
  exact ⟨_, pw_and1 p, r⟩
theorem dw_or1 (h : DT X a WA') : DW X (.BoolOp .Or [a] pos) WA' := by
  obtain ⟨t, p, r⟩ := h.ex
  exact ⟨_, pw_or1 p, r⟩
theorem dw_and (h : DT X a WA') (h' : DW X (.BoolOp .And (b :: rest) pos) WB') : DW X (.BoolOp .And (a :: b :: rest) pos) (wAnd WA' WB') := by
  obtain ⟨t, p, r⟩ := h.ex
  obtain ⟨t', p', r'⟩ := h'.ex
  refine ⟨_, pw_and p p', ?_⟩
  intro B Γ σ H G Q Q' E w k
  refine r B Γ σ H G _ _ E w fun b H1 G1 Γ1 E1 s1 k1 w1 => ?_
  cases b with
  | true => exact r' B Γ1 σ H1 G1 _ _ E1 w1 fun b H2 G2 Γ2 E2 s2 k2 w2 => k b H2 G2 Γ2 E2 (s1.trans s2) (k1.trans k2) w2
  | false => exact k false H1 G1 Γ1 E1 s1 k1 w1
theorem dw_or (h : DT X a WA') (h' : DW X (.BoolOp .Or (b :: rest) pos) WB') : DW X (.BoolOp .Or (a :: b :: rest) pos) (wOr WA' WB') := by
  obtain ⟨t, p, r⟩ := h.ex
  obtain ⟨t', p', r'⟩ := h'.ex
  refine ⟨_, pw_or p p', ?_⟩
  intro B Γ σ H G Q Q' E w k
  refine r B Γ σ H G _ _ E w fun b H1 G1 Γ1 E1 s1 k1 w1 => ?_
  cases b with
  | true => exact k true H1 G1 Γ1 E1 s1 k1 w1
  | false => exact r' B Γ1 σ H1 G1 _ _ E1 w1 fun b H2 G2 Γ2 E2 s2 k2 w2 => k b H2 G2 Γ2 E2 (s1.trans s2) (k1.trans k2) w2
theorem DW.dt (h : DW X e WA') : DT X e WA' := by
  obtain ⟨t, p, r⟩ := h.ex
  exact ⟨_, p.pt, r⟩
theorem dt_not (h : DT X a WA') : DT X (.UnaryOp .Not a pos) (wNot WA') := by
  obtain ⟨t, p, r⟩ := h.ex
  refine ⟨_, pt_not p, ?_⟩
  intro B Γ σ H G Q Q' E w k
  exact r B Γ σ H G _ _ E w fun b H1 G1 Γ1 E1 s1 k1 w1 => k (!b) H1 G1 Γ1 E1 s1 k1 w1
/-! .. as values: all but the last a bool -/
@[simp] def wAndV (Wa Wb : WE) : WE := fun Γ Q => Wa Γ fun d Γ1 => match d with
  | .bool b => if b = true then Wb Γ1 Q else Q (.bool false) Γ1
  | _ => False
@[simp] def wOrV (Wa Wb : WE) : WE := fun Γ Q => Wa Γ fun d Γ1 => match d with
  | .bool b => if b = true then Q (.bool true) Γ1 else Wb Γ1 Q
  | _ => False
@[simp] def wNotV (Wa : WE) : WE := fun Γ Q => Wa Γ fun d Γ1 => match d with
  | .bool b => Q (.bool (!b)) Γ1
  | _ => False
theorem de_one {op} (h : DE X a Wa) : DE X (.BoolOp op [a] pos) Wa := by
  obtain ⟨t, p, r⟩ := h.ex
  exact ⟨_, pe_one p, r⟩
theorem de_and (h : DE X a Wa) (h' : DE X (.BoolOp .And (b :: rest) pos) Wb) : DE X (.BoolOp .And (a :: b :: rest) pos) (wAndV Wa Wb) := by
  obtain ⟨t, p, r⟩ := h.ex
  obtain ⟨t', p', r'⟩ := h'.ex
  refine ⟨_, pe_and p p', ?_⟩
  intro B Γ σ H G Q Q' E w k
  refine r B Γ σ H G _ _ E w fun v H1 G1 d Γ1 E1 s1 k1 d1 w1 => ?_
  cases d1 with
  | bl b =>
    refine ⟨b, rfl, ?_⟩
    cases b with
    | true => exact r' B Γ1 σ H1 G1 _ _ E1 w1 fun b H2 G2 d2 Γ2 E2 s2 k2 w2 q2 => k b H2 G2 d2 Γ2 E2 (s1.trans s2) (k1.trans k2) w2 q2
    | false => exact k _ H1 G1 _ Γ1 E1 s1 k1 (.bl false) w1
  | _ => exact w1.elim
theorem de_or (h : DE X a Wa) (h' : DE X (.BoolOp .Or (b :: rest) pos) Wb) : DE X (.BoolOp .Or (a :: b :: rest) pos) (wOrV Wa Wb) := by
  obtain ⟨t, p, r⟩ := h.ex
  obtain ⟨t', p', r'⟩ := h'.ex
  refine ⟨_, pe_or p p', ?_⟩
  intro B Γ σ H G Q Q' E w k
  refine r B Γ σ H G _ _ E w fun v H1 G1 d Γ1 E1 s1 k1 d1 w1 => ?_
  cases d1 with
  | bl b =>
    refine ⟨b, rfl, ?_⟩
    cases b with
    | false => exact r' B Γ1 σ H1 G1 _ _ E1 w1 fun b H2 G2 d2 Γ2 E2 s2 k2 w2 q2 => k b H2 G2 d2 Γ2 E2 (s1.trans s2) (k1.trans k2) w2 q2
    | true => exact k _ H1 G1 _ Γ1 E1 s1 k1 (.bl true) w1
  | _ => exact w1.elim
theorem de_not (h : DE X a Wa) : DE X (.UnaryOp .Not a pos) (wNotV Wa) := by
  obtain ⟨t, p, r⟩ := h.ex
  refine ⟨_, pe_not p, ?_⟩
  intro B Γ σ H G Q Q' E w k
  refine r B Γ σ H G _ _ E w fun v H1 G1 d Γ1 E1 s1 k1 d1 w1 => ?_
  cases d1 with
  | bl b => exact ⟨b, rfl, k _ H1 G1 _ Γ1 E1 s1 k1 (.bl _) w1⟩
  | _ => exact w1.elim
@[simp] def wIf (T : WT) (Wa Wb : WE) : WE := fun Γ Q => T Γ fun b Γ1 => if b = true then Wa Γ1 Q else Wb Γ1 Q
theorem de_if (hc : DT X c WA') (ha : DE X a Wa) (hb : DE X b Wb) : DE X (.IfExp c a b pos) (wIf WA' Wa Wb) := by
  obtain ⟨t, p, r⟩ := hc.ex
  obtain ⟨ta, pa, ra⟩ := ha.ex
  obtain ⟨tb, pb, rb⟩ := hb.ex
  refine ⟨_, pe_ifExp p pa pb, ?_⟩
  intro B Γ σ H G Q Q' E w k
  refine r B Γ σ H G _ _ E w fun b H1 G1 Γ1 E1 s1 k1 w1 => ?_
  cases b with
  | true => exact ra B Γ1 σ H1 G1 _ _ E1 w1 fun b H2 G2 d2 Γ2 E2 s2 k2 w2 q2 => k b H2 G2 d2 Γ2 E2 (s1.trans s2) (k1.trans k2) w2 q2
  | false => exact rb B Γ1 σ H1 G1 _ _ E1 w1 fun b H2 G2 d2 Γ2 E2 s2 k2 w2 q2 => k b H2 G2 d2 Γ2 E2 (s1.trans s2) (k1.trans k2) w2 q2
/-! ### argument lists, displays -/
@[simp] def wNil : WA := fun Γ Q => Q [] Γ
@[simp] def wCons (Wa : WE) (Wr : WA) : WA := fun Γ Q => Wa Γ fun d Γ1 => Wr Γ1 fun ds Γ2 => Q (d :: ds) Γ2
variable {Wr : WA}
theorem da_nil : DA X [] wNil := ⟨_, pa_nil, by
  intro B Γ σ H G Q Q' E w k
  exact k [] H G [] Γ E (Same.refl _) (KS.refl _) .nil w⟩
theorem da_cons (h : DE X e Wa) (h' : DA X es Wr) (hs : starEach (e :: es) X.env = (false, eval e X.env) :: starEach es X.env := by rfl) : DA X (e :: es) (wCons Wa Wr) := by
  obtain ⟨t, p, r⟩ := h.ex
  obtain ⟨t', p', r'⟩ := h'.ex
  refine ⟨_, pa_cons p p' hs, ?_⟩
  intro B Γ σ H G Q Q' E w k
  refine r B Γ σ H G _ _ E w fun v H1 G1 d Γ1 E1 s1 k1 d1 w1 => ?_
  refine r' B Γ1 σ H1 G1 _ _ E1 w1 fun vs H2 G2 ds Γ2 E2 s2 k2 d2 w2 => ?_
  exact k (v :: vs) H2 G2 (d :: ds) Γ2 E2 (s1.trans s2) (k1.trans k2) (.cons (d1.mono s2) d2) w2
theorem fresh_own {B : Bs} {σ : L2.St} {H G : Hp} {Γ : Gam} (E : En K B σ H G Γ) {p : Addr} (hp : H p = none) : ∀ (i : Nat) es, Own Γ i es → σ[i]? ≠ some (some (V.ref p)) := by
  intro i es ow z
  obtain ⟨q, vs, h1, h2, h3, _⟩ := E.mine i es ow
  rw [h1] at z
  cases z
  rw [hp] at h3
  cases h3
theorem En.bnone {B : Bs} {σ : L2.St} {H G : Hp} {Γ : Gam} (E : En K B σ H G Γ) {p : Addr} (hp : H p = none) : B.H p = none := by
  cases q : B.H p with
  | none => rfl
  | some u => exact absurd hp (E.bh p (by rw [q]; exact fun z => by cases z))
theorem En.gnone {B : Bs} {σ : L2.St} {H G : Hp} {Γ : Gam} (E : En K B σ H G Γ) {p : Addr} (hp : H p = none) : G p = none := by
  cases q : G p with
  | none => rfl
  | some u => rw [E.gh p u q] at hp; cases hp
theorem sameNew {G : Hp} {p : Addr} {o : HO} (h : G p = none) : Same G (upd G p o) := fun b x e => by
  rw [upd_ne (ne_of_none e h)]
  exact e
@[simp] def wTup (W : WA) : WE := fun Γ Q => W Γ fun ds Γ1 => ds.length ≤ sizeLine ∧ Q (.tuple ds) Γ1
theorem de_tup {x1} (h : DA X es Wr) : DE X (.Tuple es x1 pos) (wTup Wr) := by
  obtain ⟨t, p, r⟩ := h.ex
  refine ⟨_, pe_tup p, ?_⟩
  intro B Γ σ H G Q Q' E w k
  refine r B Γ σ H G _ _ E w fun vs H1 G1 ds Γ1 E1 s1 k1 d1 w1 => ?_
  refine ⟨by rw [d1.length]; exact w1.1, fun p hp => ?_⟩
  have gp := E1.gnone hp
  exact k _ _ (upd G1 p (.tup vs)) (.tuple ds) Γ1 (E1.laid hp) (s1.trans (sameNew gp)) k1 (.tup (SqT.of upd_same) (d1.mono (sameNew gp))) w1.2
@[simp] def wLst (W : WA) : WA := fun Γ Q => W Γ fun ds Γ1 => ds.length ≤ sizeLine ∧ Q ds Γ1
theorem dn_lst (h : DA X es Wr) : DN X (.List es pos) (wLst Wr) := by
  obtain ⟨t, p, r⟩ := h.ex
  refine ⟨_, pe_lst p, ?_⟩
  intro B Γ σ H G Q Q' E w k
  refine r B Γ σ H G _ _ E w fun vs H1 G1 ds Γ1 E1 s1 k1 d1 w1 => ?_
  refine ⟨by rw [d1.length]; exact w1.1, fun p hp => ?_⟩
  exact k p vs _ G1 ds Γ1 (E1.laidN hp) s1 k1 (E1.gnone hp) upd_same d1 (E1.bnone hp) (E1.nn p hp) (fresh_own E1 hp) w1.2
/-- a new list, as data -/
@[simp] def wL (W : WA) : WE := fun Γ Q => W Γ fun ds Γ1 => Q (.list ds) Γ1
theorem re_of_rn {t : TE} (r : RN K t Wr) : RE K t (wL Wr) := by
  intro B Γ σ H G Q Q' E w k
  refine r B Γ σ H G _ _ E w fun p vs H1 G1 ds Γ1 E1 s1 k1 g1 h1 d1 b1 n1 o1 w1 => ?_
  exact k (.ref p) H1 (upd G1 p (.lst vs)) (.list ds) Γ1 (E1.freeze h1 g1 b1 o1) (s1.trans (sameNew g1)) k1 (.lst upd_same (d1.mono (sameNew g1))) w1
theorem DN.de (h : DN X e Wr) : DE X e (wL Wr) := by
  obtain ⟨t, p, r⟩ := h.ex
  exact ⟨_, p, re_of_rn r⟩
/-! ### built-ins by values -/
@[simp] def wCB (f : FA) (W : WA) : WE := fun Γ Q => W Γ fun ds Γ1 => f ds fun d => Q d Γ1
theorem re_cb {r : List V → Hp → VK → Prop} {f : FA} {ta : TA} (hr : RVA K r f) (h : RA K ta Wr) : RE K (tCB r ta) (wCB f Wr) := by
  intro B Γ σ H G Q Q' E w k
  refine h B Γ σ H G _ _ E w fun vs H1 G1 ds Γ1 E1 s1 k1 d1 w1 => ?_
  exact hr B Γ1 σ H1 G1 vs ds _ _ E1 d1 w1 fun v H2 G2 d E2 s2 d2 q => k v H2 G2 d Γ1 E2 (s1.trans s2) k1 d2 q
end
end DL

namespace DL
open PySem PySem.Spec PyProof.Rows L2
section
variable {X : Cx} {K : PySem.W.Frag} {a b c e : Expr} {es : List Expr} {Wa Wb Wc : WE} {Wr : WA} {pos : Pos}

/-! ## operators -/
def addD : F2
  | .int i, .int j, k => k (.int (i + j))
  | .str s, .str t, k => s.length + t.length ≤ sizeLine ∧ k (.str (s ++ t))
  | .list x, .list y, k => x.length + y.length ≤ sizeLine ∧ k (.list (x ++ y))
  | .tuple x, .tuple y, k => x.length + y.length ≤ sizeLine ∧ k (.tuple (x ++ y))
  | _, _, _ => False
def rAddU (K : PySem.W.Frag) : R2 := fun x y H Q => (rI0 fun i j => V.int (i + j)) x y H Q ∨ (∃ i j, x = V.str i ∧ y = V.str j ∧ i.length + j.length ≤ sizeLine ∧ Q (.str (i ++ j)) H) ∨ rCat x y H Q ∨ rCatA K x y H Q
theorem op_addU : OpR X (binaryOp .Add) (rAddU X.K) := op_add.or (op_add_str.or (op_cat.or op_catA))
theorem DdAll.nil_iff {G : Hp} {vs : List V} {ds : List PyData} (h : DdAll K G vs ds) : vs = [] ↔ ds = [] := by
  have := h.length
  constructor
  · intro z; subst z; exact List.length_eq_zero_iff.mp this.symm
  · intro z; subst z; exact List.length_eq_zero_iff.mp this
theorem rv_add : RV2 K (rAddU K) addD := by
  intro B Γ σ H G x y dx dy Q Q' E h1 h2 w k
  cases h1 with
  | int i =>
    cases h2 with
    | int j => exact .inl ⟨i, j, rfl, rfl, k _ H G _ E (Same.refl _) (.int _) w⟩
    | _ => exact w.elim
  | str s =>
    cases h2 with
    | str t => exact .inr (.inl ⟨s, t, rfl, rfl, w.1, k _ H G _ E (Same.refl _) (.str _) w.2⟩)
    | _ => exact w.elim
  | lst ga da =>
    cases h2 with
    | lst gb db =>
      refine .inr (.inr (.inl ⟨_, _, _, _, rfl, rfl, E.gh _ _ ga, E.gh _ _ gb, by rw [da.length, db.length]; exact w.1, fun p hp => ?_⟩))
      have gp := E.gnone hp
      exact k _ _ _ _ (E.laid hp) (sameNew gp) (.lst upd_same ((da.app db).mono (sameNew gp))) w.2
    | _ => exact w.elim
  | tup ga da =>
    cases h2 with
    | tup gb db =>
      refine .inr (.inr (.inr ⟨_, _, _, _, rfl, rfl, sqT_same E.gh ga, sqT_same E.gh gb, by rw [da.length, db.length]; exact w.1, fun hx => ?_, fun hx hy => ?_, fun hx hy p hp => ?_⟩))
      · have e := da.nil_iff.mp hx
        subst e
        exact k _ H G _ E (Same.refl _) (.tup gb db) (by simpa using w.2)
      · have e := db.nil_iff.mp hy
        subst e
        exact k _ H G _ E (Same.refl _) (.tup ga da) (by simpa using w.2)
      · have gp := E.gnone hp
        exact k _ _ _ _ (E.laid hp) (sameNew gp) (.tup (SqT.of upd_same) ((da.app db).mono (sameNew gp))) w.2
    | _ => exact w.elim
  | _ => cases h2 <;> exact w.elim
theorem de_add (ha : DE X a Wa) (hb : DE X b Wb) : DE X (.BinOp a .Add b pos) (wOp addD Wa Wb) := de_bin op_addU rv_add ha hb
/-! ints -/
def intD (C : Int → Int → Prop) (g : Int → Int → Int) : F2
  | .int i, .int j, k => C i j ∧ k (.int (g i j))
  | _, _, _ => False
theorem rv_int {C : Int → Int → Prop} {g : Int → Int → Int} : RV2 K (rI C fun i j => V.int (g i j)) (intD C g) := by
  intro B Γ σ H G x y dx dy Q Q' E h1 h2 w k
  cases h1 with
  | int i =>
    cases h2 with
    | int j => exact ⟨i, j, rfl, rfl, w.1, k _ H G _ E (Same.refl _) (.int _) w.2⟩
    | _ => exact w.elim
  | _ => cases h2 <;> exact w.elim
def subD : F2 := intD (fun _ _ => True) fun i j => i - j
theorem de_sub (ha : DE X a Wa) (hb : DE X b Wb) : DE X (.BinOp a .Sub b pos) (wOp subD Wa Wb) :=
  de_bin (r := rI (fun _ _ => True) fun i j => V.int (i - j)) (opI fun _ _ _ _ _ _ _ _ q => sub_int q) rv_int ha hb
def modD : F2 := intD (fun _ j => j ≠ 0) fun i j => i.fmod j
theorem de_mod (ha : DE X a Wa) (hb : DE X b Wb) : DE X (.BinOp a .Mod b pos) (wOp modD Wa Wb) := de_bin op_modN rv_int ha hb
def fdivD : F2 := intD CDivN fun i j => i.fdiv j
theorem de_fdiv (ha : DE X a Wa) (hb : DE X b Wb) : DE X (.BinOp a .FloorDiv b pos) (wOp fdivD Wa Wb) := de_bin op_fdivN rv_int ha hb
def powD : F2 := intD CPow fun i j => i ^ j.toNat
theorem de_pow (ha : DE X a Wa) (hb : DE X b Wb) : DE X (.BinOp a .Pow b pos) (wOp powD Wa Wb) := de_bin op_pow rv_int ha hb
def mulD : F2
  | .int i, .int j, k => CMul i j ∧ k (.int (i * j))
  | .list x, .int j, k => -(2 ^ 63) ≤ j ∧ j < 2 ^ 63 ∧ x.length * j.toNat ≤ sizeLine ∧ k (.list (List.replicate j.toNat x).flatten)
  | _, _, _ => False
theorem DdAll.rep {G : Hp} {vs : List V} {ds : List PyData} (h : DdAll K G vs ds) : ∀ n : Nat, DdAll K G (List.replicate n vs).flatten (List.replicate n ds).flatten
  | 0 => by simpa using DdAll.nil
  | n + 1 => by
    rw [List.replicate_succ, List.replicate_succ, List.flatten_cons, List.flatten_cons]
    exact h.app (DdAll.rep h n)
def rMulU : R2 := fun x y H Q => (rI CMul fun i j => V.int (i * j)) x y H Q ∨ rRep x y H Q
theorem rv_mul : RV2 K rMulU mulD := by
  intro B Γ σ H G x y dx dy Q Q' E h1 h2 w k
  cases h1 with
  | int i =>
    cases h2 with
    | int j => exact .inl ⟨i, j, rfl, rfl, w.1, k _ H G _ E (Same.refl _) (.int _) w.2⟩
    | _ => exact w.elim
  | lst ga da =>
    cases h2 with
    | int j =>
      refine .inr ⟨_, j, _, rfl, rfl, E.gh _ _ ga, w.1, w.2.1, by rw [da.length]; exact w.2.2.1, fun p hp => ?_⟩
      have gp := E.gnone hp
      exact k _ _ _ _ (E.laid hp) (sameNew gp) (.lst upd_same ((da.rep _).mono (sameNew gp))) w.2.2.2
    | _ => exact w.elim
  | _ => cases h2 <;> exact w.elim
theorem de_mul (ha : DE X a Wa) (hb : DE X b Wb) : DE X (.BinOp a .Mult b pos) (wOp mulD Wa Wb) := de_bin (op_mul.or op_rep) rv_mul ha hb
/-! comparisons of ints -/
def cmpD (g : Int → Int → Bool) : F2
  | .int i, .int j, k => k (.bool (g i j))
  | _, _, _ => False
theorem rv_cmp {g : Int → Int → Bool} : RV2 K (rI0 fun i j => V.bl (g i j)) (cmpD g) := by
  intro B Γ σ H G x y dx dy Q Q' E h1 h2 w k
  cases h1 with
  | int i =>
    cases h2 with
    | int j => exact ⟨i, j, rfl, rfl, k _ H G _ E (Same.refl _) (.bl _) w⟩
    | _ => exact w.elim
  | _ => cases h2 <;> exact w.elim
def ltD : F2 := cmpD fun i j => decide (i < j)
def leD : F2 := cmpD fun i j => decide (i ≤ j)
def gtD : F2 := cmpD fun i j => decide (j < i)
def geD : F2 := cmpD fun i j => decide (j ≤ i)
theorem de_lt (ha : DE X a Wa) (hb : DE X b Wb) : DE X (.Compare a [.Lt] [b] pos) (wOp ltD Wa Wb) := de_cmp op_lt rv_cmp ha hb (nomark _)
theorem de_le (ha : DE X a Wa) (hb : DE X b Wb) : DE X (.Compare a [.LtE] [b] pos) (wOp leD Wa Wb) := de_cmp op_le rv_cmp ha hb (nomark _)
theorem de_gt (ha : DE X a Wa) (hb : DE X b Wb) : DE X (.Compare a [.Gt] [b] pos) (wOp gtD Wa Wb) := de_cmp op_gt rv_cmp ha hb (nomark _)
theorem de_ge (ha : DE X a Wa) (hb : DE X b Wb) : DE X (.Compare a [.GtE] [b] pos) (wOp geD Wa Wb) := de_cmp op_ge rv_cmp ha hb (nomark _)
theorem dt_lt (ha : DE X a Wa) (hb : DE X b Wb) : DT X (.Compare a [.Lt] [b] pos) (wB (wOp ltD Wa Wb)) := dt_cmp op_lt rv_cmp ha hb (nomark _)
theorem dt_le (ha : DE X a Wa) (hb : DE X b Wb) : DT X (.Compare a [.LtE] [b] pos) (wB (wOp leD Wa Wb)) := dt_cmp op_le rv_cmp ha hb (nomark _)
theorem dt_gt (ha : DE X a Wa) (hb : DE X b Wb) : DT X (.Compare a [.Gt] [b] pos) (wB (wOp gtD Wa Wb)) := dt_cmp op_gt rv_cmp ha hb (nomark _)
theorem dt_ge (ha : DE X a Wa) (hb : DE X b Wb) : DT X (.Compare a [.GtE] [b] pos) (wB (wOp geD Wa Wb)) := dt_cmp op_ge rv_cmp ha hb (nomark _)
/-! == and != of data -/
@[irreducible] def eqD : F2 := fun x y k => SeqAt.shaped x = true ∧ SeqAt.shaped y = true ∧ k (.bool (PyData.eqv x y))
@[irreducible] def neD : F2 := fun x y k => SeqAt.shaped x = true ∧ SeqAt.shaped y = true ∧ k (.bool (!PyData.eqv x y))
theorem rv_eq : RV2 K (rEqD K) eqD := by
  intro B Γ σ H G x y dx dy Q Q' E h1 h2 w k
  unfold eqD at w
  exact ⟨dx, dy, (h1.mono E.gh).dp, (h2.mono E.gh).dp, w.1, w.2.1, k _ H G _ E (Same.refl _) (.bl _) w.2.2⟩
theorem rv_ne : RV2 K (rNeD K) neD := by
  intro B Γ σ H G x y dx dy Q Q' E h1 h2 w k
  unfold neD at w
  exact ⟨dx, dy, (h1.mono E.gh).dp, (h2.mono E.gh).dp, w.1, w.2.1, k _ H G _ E (Same.refl _) (.bl _) w.2.2⟩
theorem de_eq (hu : X.A.units + 64 < cLine) (ha : DE X a Wa) (hb : DE X b Wb) : DE X (.Compare a [.Eq] [b] pos) (wOp eqD Wa Wb) := de_cmp (op_eqD hu) rv_eq ha hb (nomark _)
theorem de_ne (hu : X.A.units + 64 < cLine) (ha : DE X a Wa) (hb : DE X b Wb) : DE X (.Compare a [.NotEq] [b] pos) (wOp neD Wa Wb) := de_cmp (op_neD hu) rv_ne ha hb (nomark _)
theorem dt_eq (hu : X.A.units + 64 < cLine) (ha : DE X a Wa) (hb : DE X b Wb) : DT X (.Compare a [.Eq] [b] pos) (wB (wOp eqD Wa Wb)) := dt_cmp (op_eqD hu) rv_eq ha hb (nomark _)
theorem dt_ne (hu : X.A.units + 64 < cLine) (ha : DE X a Wa) (hb : DE X b Wb) : DT X (.Compare a [.NotEq] [b] pos) (wB (wOp neD Wa Wb)) := dt_cmp (op_neD hu) rv_ne ha hb (nomark _)
/-! is None -/
def isND : F2 := fun x y k => y matches .none ∧ k (.bool (x matches .none))
theorem rv_isN : RV2 K (fun x y H Q => y = .non ∧ Q (.bl (decide (x = .non))) H) isND := by
  intro B Γ σ H G x y dx dy Q Q' E h1 h2 w k
  cases h2 with
  | non =>
    refine ⟨rfl, ?_⟩
    cases h1 <;> exact k _ H G _ E (Same.refl _) (.bl _) w.2
  | _ => exact absurd w.1 (by simp)
def notND : F2 := fun x y k => y matches .none ∧ k (.bool !(x matches .none))
theorem rv_notN : RV2 K (fun x y H Q => y = .non ∧ Q (.bl (!decide (x = .non))) H) notND := by
  intro B Γ σ H G x y dx dy Q Q' E h1 h2 w k
  cases h2 with
  | non =>
    refine ⟨rfl, ?_⟩
    cases h1 <;> exact k _ H G _ E (Same.refl _) (.bl _) w.2
  | _ => exact absurd w.1 (by simp)
theorem de_isN (ha : DE X a Wa) (hb : DE X b Wb) : DE X (.Compare a [.Is] [b] pos) (wOp isND Wa Wb) := de_cmp op_isN rv_isN ha hb (nomark _)
theorem de_notN (ha : DE X a Wa) (hb : DE X b Wb) : DE X (.Compare a [.IsNot] [b] pos) (wOp notND Wa Wb) := de_cmp op_notN rv_notN ha hb (nomark _)
theorem dt_isN (ha : DE X a Wa) (hb : DE X b Wb) : DT X (.Compare a [.Is] [b] pos) (wB (wOp isND Wa Wb)) := dt_cmp op_isN rv_isN ha hb (nomark _)
theorem dt_notN (ha : DE X a Wa) (hb : DE X b Wb) : DT X (.Compare a [.IsNot] [b] pos) (wB (wOp notND Wa Wb)) := dt_cmp op_notN rv_notN ha hb (nomark _)
/-! in -/
def flatD : PyData → Bool
  | .none => true
  | .bool _ => true
  | .int _ => true
  | .str _ => true
  | _ => false
theorem flat_of {G : Hp} {v : V} {d : PyData} (h : Dd K G v d) (f : flatD d = true) : flatV v = true := by
  cases h <;> first | rfl | cases f
theorem eqV_of {G : Hp} {v u : V} {d e : PyData} (h : Dd K G v d) (h' : Dd K G u e) (f : flatD d = true) (f' : flatD e = true) : eqV v u = PyData.eqv d e := by
  cases h <;> cases h' <;> first
    | rfl
    | (cases f; done)
    | (cases f'; done)
    | (simp [eqV, PyData.eqv]; done)
theorem inV_of {G : Hp} {v : V} {d : PyData} (h : Dd K G v d) (f : flatD d = true) : ∀ {us : List V} {es : List PyData}, DdAll K G us es → es.all flatD = true → us.all flatV = true ∧ inV v us = es.any fun z => PyData.eqv z d
  | _, _, .nil, _ => ⟨rfl, rfl⟩
  | _, _, .cons h1 t, g => by
    rw [List.all_cons, Bool.and_eq_true] at g
    obtain ⟨q1, q2⟩ := inV_of h f t g.2
    refine ⟨by rw [List.all_cons, flat_of h1 g.1, q1]; rfl, ?_⟩
    unfold inV at q2 ⊢
    rw [List.any_cons, List.any_cons, q2, eqV_of h1 h g.1 f]
def inStr (a b : Str) : Bool := !(Builtin.Str.occurrences b a 0 b.length 1).isEmpty
@[irreducible] def inD : F2
  | .str a, .str b, k => k (.bool (inStr a b))
  | d, .list es, k => flatD d = true ∧ es.all flatD = true ∧ k (.bool (es.any fun z => PyData.eqv z d))
  | d, .tuple es, k => flatD d = true ∧ es.all flatD = true ∧ k (.bool (es.any fun z => PyData.eqv z d))
  | _, _, _ => False
def notInD : F2
  | .str a, .str b, k => k (.bool (!inStr a b))
  | d, .list es, k => flatD d = true ∧ es.all flatD = true ∧ k (.bool (!es.any fun z => PyData.eqv z d))
  | d, .tuple es, k => flatD d = true ∧ es.all flatD = true ∧ k (.bool (!es.any fun z => PyData.eqv z d))
  | _, _, _ => False
def rInU (K : PySem.W.Frag) : R2 := fun x y H Q => (∃ i j, x = V.str i ∧ y = V.str j ∧ Q (.bl (!(Builtin.Str.occurrences j i 0 j.length 1).isEmpty)) H) ∨ rIn K false x y H Q
def rNotInU (K : PySem.W.Frag) : R2 := fun x y H Q => (∃ i j, x = V.str i ∧ y = V.str j ∧ Q (.bl (!(!(Builtin.Str.occurrences j i 0 j.length 1).isEmpty))) H) ∨ rIn K true x y H Q
theorem rv_in : RV2 K (rInU K) inD := by
  intro B Γ σ H G x y dx dy Q Q' E h1 h2 w k
  unfold inD at w
  cases h2 with
  | str t =>
    cases h1 with
    | str s => exact .inl ⟨s, t, rfl, rfl, k _ H G _ E (Same.refl _) (.bl _) w⟩
    | _ => exact w.elim
  | @lst _ _ ds ga da =>
    have w' : flatD dx = true ∧ List.all ds flatD = true ∧ Q (.bool (ds.any fun z => PyData.eqv z dx)) := by cases dx <;> exact w
    obtain ⟨q1, q2⟩ := inV_of h1 w'.1 da w'.2.1
    refine .inr ⟨_, _, rfl, .inl (SqL.of (E.gh _ _ ga)), flat_of h1 w'.1, q1, k _ H G _ E (Same.refl _) (.bl _) ?_⟩
    rw [q2]
    exact w'.2.2
  | @tup _ _ ds ga da =>
    have w' : flatD dx = true ∧ List.all ds flatD = true ∧ Q (.bool (ds.any fun z => PyData.eqv z dx)) := by cases dx <;> exact w
    obtain ⟨q1, q2⟩ := inV_of h1 w'.1 da w'.2.1
    refine .inr ⟨_, _, rfl, .inr (sqT_same E.gh ga), flat_of h1 w'.1, q1, k _ H G _ E (Same.refl _) (.bl _) ?_⟩
    rw [q2]
    exact w'.2.2
  | _ => cases h1 <;> exact w.elim
theorem rv_notIn : RV2 K (rNotInU K) notInD := by
  intro B Γ σ H G x y dx dy Q Q' E h1 h2 w k
  cases h2 with
  | str t =>
    cases h1 with
    | str s => exact .inl ⟨s, t, rfl, rfl, k _ H G _ E (Same.refl _) (.bl _) w⟩
    | _ => exact w.elim
  | @lst _ _ ds ga da =>
    have w' : flatD dx = true ∧ List.all ds flatD = true ∧ Q (.bool (!ds.any fun z => PyData.eqv z dx)) := by cases dx <;> exact w
    obtain ⟨q1, q2⟩ := inV_of h1 w'.1 da w'.2.1
    refine .inr ⟨_, _, rfl, .inl (SqL.of (E.gh _ _ ga)), flat_of h1 w'.1, q1, k _ H G _ E (Same.refl _) (.bl _) ?_⟩
    rw [if_pos rfl, q2]
    exact w'.2.2
  | @tup _ _ ds ga da =>
    have w' : flatD dx = true ∧ List.all ds flatD = true ∧ Q (.bool (!ds.any fun z => PyData.eqv z dx)) := by cases dx <;> exact w
    obtain ⟨q1, q2⟩ := inV_of h1 w'.1 da w'.2.1
    refine .inr ⟨_, _, rfl, .inr (sqT_same E.gh ga), flat_of h1 w'.1, q1, k _ H G _ E (Same.refl _) (.bl _) ?_⟩
    rw [if_pos rfl, q2]
    exact w'.2.2
  | _ => cases h1 <;> exact w.elim
theorem op_inU : OpR X (compareOp .In) (rInU X.K) := op_in_str.or op_in_seq
theorem op_notInU : OpR X (compareOp .NotIn) (rNotInU X.K) := op_notin_str.or op_notIn_seq
theorem de_in (ha : DE X a Wa) (hb : DE X b Wb) (hm : behindInMarks .In b = false := by rfl) : DE X (.Compare a [.In] [b] pos) (wOp inD Wa Wb) := de_cmp op_inU rv_in ha hb hm
theorem de_notIn (ha : DE X a Wa) (hb : DE X b Wb) (hm : behindInMarks .NotIn b = false := by rfl) : DE X (.Compare a [.NotIn] [b] pos) (wOp notInD Wa Wb) := de_cmp op_notInU rv_notIn ha hb hm
theorem dt_in (ha : DE X a Wa) (hb : DE X b Wb) (hm : behindInMarks .In b = false := by rfl) : DT X (.Compare a [.In] [b] pos) (wB (wOp inD Wa Wb)) := dt_cmp op_inU rv_in ha hb hm
theorem dt_notIn (ha : DE X a Wa) (hb : DE X b Wb) (hm : behindInMarks .NotIn b = false := by rfl) : DT X (.Compare a [.NotIn] [b] pos) (wB (wOp notInD Wa Wb)) := dt_cmp op_notInU rv_notIn ha hb hm
/-! unary minus -/
@[simp] def wNeg (Wa : WE) : WE := fun Γ Q => Wa Γ fun d Γ1 => match d with
  | .int i => Q (.int (-i)) Γ1
  | _ => False
theorem de_neg (ha : DE X a Wa) : DE X (.UnaryOp .USub a pos) (wNeg Wa) := by
  obtain ⟨t, p, r⟩ := ha.ex
  refine ⟨_, pe_un un_neg p, ?_⟩
  intro B Γ σ H G Q Q' E w k
  refine r B Γ σ H G _ _ E w fun v H1 G1 d Γ1 E1 s1 k1 d1 w1 => ?_
  cases d1 with
  | int i => exact ⟨i, rfl, k _ H1 G1 _ Γ1 E1 s1 k1 (.int _) w1⟩
  | _ => exact w1.elim
/-! items and slices -/
def sign (c : Nat) : PyData := .str ⟨#[c]⟩
def optD {α : Type} (o : Option α) (k : α → Prop) : Prop := ∃ a, o = some a ∧ k a
@[simp] theorem optD_some {α : Type} (a : α) (k : α → Prop) : optD (some a) k = k a := propext ⟨fun ⟨b, e, h⟩ => by cases e; exact h, fun h => ⟨a, rfl, h⟩⟩
def ixD : F2
  | .list xs, .int i, k => optD (atI xs i) k
  | .tuple xs, .int i, k => optD (atI xs i) k
  | .str z, .int i, k => z.length ≤ sizeLine ∧ optD (atI z.cps.toList i) fun c => k (sign c)
  | _, _, _ => False
theorem DdAll.atI {G : Hp} {vs : List V} {ds : List PyData} {i : Int} {d : PyData} (h : DdAll K G vs ds) (e : L2.atI ds i = some d) : ∃ v, L2.atI vs i = some v ∧ Dd K G v d := by
  unfold L2.atI at e ⊢
  rw [h.length]
  cases q : ixN ds.length i with
  | none => rw [q] at e; cases e
  | some j =>
    rw [q] at e
    exact h.get e
theorem rv_ix : RV2 K (rIx K) ixD := by
  intro B Γ σ H G x y dx dy Q Q' E h1 h2 w k
  cases h2 with
  | int i =>
    cases h1 with
    | lst ga da =>
      obtain ⟨d, h, q⟩ := w
      obtain ⟨v, h', dv⟩ := da.atI h
      exact .inl ⟨_, _, i, v, rfl, rfl, SqL.of (E.gh _ _ ga), h', k _ H G _ E (Same.refl _) dv q⟩
    | tup ga da =>
      obtain ⟨d, h, q⟩ := w
      obtain ⟨v, h', dv⟩ := da.atI h
      exact .inr (.inl ⟨_, _, i, v, rfl, rfl, sqT_same E.gh ga, h', k _ H G _ E (Same.refl _) dv q⟩)
    | str z =>
      obtain ⟨hz, c, h, q⟩ := w
      exact .inr (.inr ⟨z, i, c, rfl, rfl, hz, h, k _ H G _ E (Same.refl _) (.str _) q⟩)
    | _ => exact w.elim
  | _ => cases h1 <;> exact w.elim
theorem de_ix (ha : DE X a Wa) (hb : DE X b Wb) (hs : PlainIx b := by exact fun _ _ => rfl) : DE X (.Subscript a b pos) (wOp ixD Wa Wb) := by
  obtain ⟨ta, pa, ra⟩ := ha.ex
  obtain ⟨tb, pb, rb⟩ := hb.ex
  exact ⟨_, pe_ix ix_seq pa pb hs, re_op rv_ix ra rb⟩
abbrev WO := Gam → (Option Int → Gam → Prop) → Prop
def RO (K : PySem.W.Frag) (t : TO) (W : WO) : Prop :=
  ∀ (B : Bs) (Γ : Gam) (σ : L2.St) (H G : Hp) (Q : Option Int → Gam → Prop) (Q' : Option Int → Hp → Prop), En K B σ H G Γ → W Γ Q →
    (∀ o H' G' Γ', En K B σ H' G' Γ' → Same G G' → KS Γ Γ' → Q o Γ' → Q' o H') → t σ H Q'
structure DO (X : Cx) (e : Option Expr) (W : WO) : Prop where
  ex : ∃ t, PO X e t ∧ RO X.K t W
@[simp] def wNone : WO := fun Γ Q => Q none Γ
@[simp] def wSome (Wa : WE) : WO := fun Γ Q => Wa Γ fun d Γ1 => match d with
  | .int i => Q (some i) Γ1
  | _ => False
theorem do_none : DO X none wNone := ⟨_, po_none, by
  intro B Γ σ H G Q Q' E w k
  exact k none H G Γ E (Same.refl _) (KS.refl _) w⟩
theorem do_some (h : DE X e Wa) : DO X (some e) (wSome Wa) := by
  obtain ⟨t, p, r⟩ := h.ex
  refine ⟨_, po_some p, ?_⟩
  intro B Γ σ H G Q Q' E w k
  refine r B Γ σ H G _ _ E w fun v H1 G1 d Γ1 E1 s1 k1 d1 w1 => ?_
  cases d1 with
  | int i => exact ⟨i, rfl, k _ H1 G1 Γ1 E1 s1 k1 w1⟩
  | _ => exact w1.elim
def cutD {α : Type} (xs : List α) (lo hi : Option Int) : List α := (xs.drop (HT.sIx xs.length 0 lo)).take (HT.sIx xs.length xs.length hi - HT.sIx xs.length 0 lo)
def slD : PyData → Option Int → Option Int → (PyData → Prop) → Prop
  | .list xs, lo, hi, k => k (.list (cutD xs lo hi))
  | .tuple xs, lo, hi, k => k (.tuple (cutD xs lo hi))
  | .str z, lo, hi, k => z.length ≤ sizeLine ∧ k (.str (cutS z lo hi))
  | _, _, _, _ => False
theorem DdAll.cut {G : Hp} {vs : List V} {ds : List PyData} (lo hi : Option Int) (h : DdAll K G vs ds) : DdAll K G (cutV vs lo hi) (cutD ds lo hi) := by
  unfold cutV cutD
  rw [h.length]
  exact (h.drop _).take _
@[simp] def wSl (Wa : WE) (Wl Wh : WO) : WE := fun Γ Q => Wa Γ fun d Γ1 => Wl Γ1 fun lo Γ2 => Wh Γ2 fun hi Γ3 => slD d lo hi fun z => Q z Γ3
def rSlU (K : PySem.W.Frag) : V → Option Int → Option Int → Hp → VK → Prop := fun x lo hi H Q => rSlL K x lo hi H Q ∨ rSlA K x lo hi H Q ∨ (∃ z, x = V.str z ∧ z.length ≤ sizeLine ∧ Q (.str (cutS z lo hi)) H)
end
end DL

namespace DL
open PySem PySem.Spec PyProof.Rows L2
section
variable {X : Cx} {K : PySem.W.Frag} {a b c e : Expr} {es : List Expr} {Wa Wb Wc : WE} {Wr : WA} {pos : Pos} {WT' : WT}
/-! ## slices -/
variable {Wl Wh : WO} {lo hi : Option Expr} {p2 : Pos}
theorem de_slice (ha : DE X a Wa) (hl : DO X lo Wl) (hh : DO X hi Wh) : DE X (.Subscript a (.Slice lo hi none p2) pos) (wSl Wa Wl Wh) := by
  obtain ⟨ta, pa, ra⟩ := ha.ex
  obtain ⟨tl, pl, rl⟩ := hl.ex
  obtain ⟨th, ph, rh⟩ := hh.ex
  refine ⟨_, pe_slice (sl_list.or (sl_tupA.or sl_str)) pa pl ph, ?_⟩
  intro B Γ σ H G Q Q' E w k
  refine ra B Γ σ H G _ _ E w fun v H1 G1 d Γ1 E1 s1 k1 d1 w1 => ?_
  refine rl B Γ1 σ H1 G1 _ _ E1 w1 fun lo H2 G2 Γ2 E2 s2 k2 w2 => ?_
  refine rh B Γ2 σ H2 G2 _ _ E2 w2 fun hi H3 G3 Γ3 E3 s3 k3 w3 => ?_
  have d3 := d1.mono (s2.trans s3)
  have s13 := s1.trans (s2.trans s3)
  have k13 := k1.trans (k2.trans k3)
  cases d3 with
  | lst ga da =>
    refine .inl ⟨_, _, rfl, SqL.of (E3.gh _ _ ga), fun p hp => ?_⟩
    have gp := E3.gnone hp
    exact k _ _ _ _ Γ3 (E3.laid hp) (s13.trans (sameNew gp)) k13 (.lst upd_same ((da.cut lo hi).mono (sameNew gp))) w3
  | @tup _ xs ds ga da =>
    refine .inr (.inl ⟨_, _, rfl, sqT_same E3.gh ga, fun hw => ?_, fun hw p hp => ?_⟩)
    · have e1 : cutD ds lo hi = ds := by
        unfold cutD
        rw [← da.length, hw.1, hw.2, da.length]
        simp
      refine k _ H3 G3 _ Γ3 E3 s13 k13 (.tup ga da) ?_
      have w3' : Q (.tuple (cutD ds lo hi)) Γ3 := w3
      rw [e1] at w3'
      exact w3'
    · have gp := E3.gnone hp
      exact k _ _ _ _ Γ3 (E3.laid hp) (s13.trans (sameNew gp)) k13 (.tup (SqT.of upd_same) ((da.cut lo hi).mono (sameNew gp))) w3
  | str z => exact .inr (.inr ⟨z, rfl, w3.1, k _ H3 G3 _ Γ3 E3 s13 k13 (.str _) w3.2⟩)
  | _ => exact w3.elim
/-! ## built-ins -/
def lenD : FA
  | [.list xs], k => k (.int xs.length)
  | [.tuple xs], k => k (.int xs.length)
  | [.str z], k => z.length ≤ sizeLine ∧ k (.int z.length)
  | _, _ => False
theorem ddAll1 {G : Hp} {xs : List V} {d : PyData} (h : DdAll K G xs [d]) : ∃ v, xs = [v] ∧ Dd K G v d := by
  cases h with
  | cons h1 t => cases t; exact ⟨_, rfl, h1⟩
theorem rv_len : RVA K (fun xs H Q => (∃ p ys, xs = [V.ref p] ∧ (SqL K H p ys ∨ SqT K H p ys) ∧ Q (.int ys.length) H) ∨ (∃ z, xs = [V.str z] ∧ z.length ≤ sizeLine ∧ Q (.int z.length) H)) lenD := by
  intro B Γ σ H G xs ds Q Q' E h w k
  unfold lenD at w
  split at w
  · obtain ⟨v, rfl, hv⟩ := ddAll1 h
    cases hv with
    | lst ga da =>
      refine .inl ⟨_, _, rfl, .inl (SqL.of (E.gh _ _ ga)), k _ H G _ E (Same.refl _) (.int _) ?_⟩
      rw [da.length]
      exact w
  · obtain ⟨v, rfl, hv⟩ := ddAll1 h
    cases hv with
    | tup ga da =>
      refine .inl ⟨_, _, rfl, .inr (sqT_same E.gh ga), k _ H G _ E (Same.refl _) (.int _) ?_⟩
      rw [da.length]
      exact w
  · obtain ⟨v, rfl, hv⟩ := ddAll1 h
    cases hv with
    | str => exact .inr ⟨_, rfl, w.1, k _ H G _ E (Same.refl _) (.int _) w.2⟩
  · exact w.elim
theorem de_callB {x : Str} {p : Pos} {id : String} {r : List V → Hp → VK → Prop} {f : FA} (hc : CallR X (.builtin id) r) (hr : RVA X.K r f) (hg : Gl X x) (hm : X.mg x = none) (hv : bootBuiltins x = some (.builtin id)) (ha : DA X (e :: es) Wr) (hn : x ≠ "__name__" := by decide) (hdb : (x == ("__debug__" : Str)) = false := by decide)
    (he : starEach (e :: es) X.env = (false, eval e X.env) :: starEach es X.env := by rfl) (hpl : (backTo pos (starEach es X.env)).any (·.1) = false := by rfl) : DE X (.Call (.Name x p) (e :: es) [] pos) (wCB f Wr) := by
  obtain ⟨t, pa, ra⟩ := ha.ex
  exact ⟨_, pe_callB hc hg hm hv pa hn hdb he hpl, re_cb hr ra⟩
theorem de_callTy {x : Str} {p : Pos} {T : String} {r : List V → Hp → VK → Prop} {f : FA} (hc : CallR X (.type T) r) (hr : RVA X.K r f) (hg : Gl X x) (hm : X.mg x = none) (hv : bootBuiltins x = some (.type T)) (ha : DA X (e :: es) Wr) (hn : x ≠ "__name__" := by decide) (hdb : (x == ("__debug__" : Str)) = false := by decide)
    (he : starEach (e :: es) X.env = (false, eval e X.env) :: starEach es X.env := by rfl) (hpl : (backTo pos (starEach es X.env)).any (·.1) = false := by rfl) : DE X (.Call (.Name x p) (e :: es) [] pos) (wCB f Wr) := by
  obtain ⟨t, pa, ra⟩ := ha.ex
  exact ⟨_, pe_callTy hc hg hm hv pa hn hdb he hpl, re_cb hr ra⟩
theorem de_len {p : Pos} (hg : Gl X "len") (hm : X.mg "len" = none) (ha : DE X a Wa) (h1 : starEach [a] X.env = (false, eval a X.env) :: starEach [] X.env := by rfl) (h2 : (backTo pos (starEach [] X.env)).any (·.1) = false := by rfl) : DE X (.Call (.Name "len" p) [a] [] pos) (wCB lenD (wCons Wa wNil)) :=
  de_callB (call_len_seq.or call_len_str) rv_len hg hm PySem.boot_len (da_cons ha da_nil h1) (by decide) (by decide) h1 h2
def absD : FA
  | [.int i], k => k (.int (if i < 0 then -i else i))
  | _, _ => False
theorem rv_abs : RVA K (fun xs H Q => ∃ i, xs = [V.int i] ∧ Q (.int (if i < 0 then -i else i)) H) absD := by
  intro B Γ σ H G xs ds Q Q' E h w k
  unfold absD at w
  split at w
  · obtain ⟨v, rfl, hv⟩ := ddAll1 h
    cases hv with
    | int => exact ⟨_, rfl, k _ H G _ E (Same.refl _) (.int _) w⟩
  · exact w.elim
theorem de_abs {p : Pos} (hg : Gl X "abs") (hm : X.mg "abs" = none) (ha : DE X a Wa) (h1 : starEach [a] X.env = (false, eval a X.env) :: starEach [] X.env := by rfl) (h2 : (backTo pos (starEach [] X.env)).any (·.1) = false := by rfl) : DE X (.Call (.Name "abs" p) [a] [] pos) (wCB absD (wCons Wa wNil)) :=
  de_callB call_abs rv_abs hg hm (by decide +kernel) (da_cons ha da_nil h1) (by decide) (by decide) h1 h2
def intT : FA
  | [.int i], k => k (.int i)
  | [.bool b], k => k (.int (if b then 1 else 0))
  | _, _ => False
theorem rv_intT : RVA K (fun xs H Q => (∃ i, xs = [V.int i] ∧ Q (.int i) H) ∨ ∃ k, xs = [V.bl k] ∧ Q (.int (if k then 1 else 0)) H) intT := by
  intro B Γ σ H G xs ds Q Q' E h w k
  unfold intT at w
  split at w
  · obtain ⟨v, rfl, hv⟩ := ddAll1 h
    cases hv with
    | int => exact .inl ⟨_, rfl, k _ H G _ E (Same.refl _) (.int _) w⟩
  · obtain ⟨v, rfl, hv⟩ := ddAll1 h
    cases hv with
    | bl => exact .inr ⟨_, rfl, k _ H G _ E (Same.refl _) (.int _) w⟩
  · exact w.elim
theorem de_intT {p : Pos} (hg : Gl X "int") (hm : X.mg "int" = none) (ha : DE X a Wa) (h1 : starEach [a] X.env = (false, eval a X.env) :: starEach [] X.env := by rfl) (h2 : (backTo pos (starEach [] X.env)).any (·.1) = false := by rfl) : DE X (.Call (.Name "int" p) [a] [] pos) (wCB intT (wCons Wa wNil)) :=
  de_callTy call_int1 rv_intT hg hm (by decide +kernel) (da_cons ha da_nil h1) (by decide) (by decide) h1 h2
def tupT : FA
  | [.list xs], k => k (.tuple xs)
  | [.tuple xs], k => k (.tuple xs)
  | _, _ => False
theorem rv_tupT : RVA K (fun xs H Q => ∃ p ys, xs = [V.ref p] ∧ ((SqL K H p ys ∧ ∀ l, H l = none → Q (.ref l) (upd H l (.tup ys))) ∨ (SqT K H p ys ∧ Q (.ref p) H))) tupT := by
  intro B Γ σ H G xs ds Q Q' E h w k
  unfold tupT at w
  split at w
  · obtain ⟨v, rfl, hv⟩ := ddAll1 h
    cases hv with
    | lst ga da =>
      refine ⟨_, _, rfl, .inl ⟨SqL.of (E.gh _ _ ga), fun l hl => ?_⟩⟩
      have gp := E.gnone hl
      exact k _ _ _ _ (E.laid hl) (sameNew gp) (.tup (SqT.of upd_same) (da.mono (sameNew gp))) w
  · obtain ⟨v, rfl, hv⟩ := ddAll1 h
    cases hv with
    | tup ga da => exact ⟨_, _, rfl, .inr ⟨sqT_same E.gh ga, k _ H G _ E (Same.refl _) (.tup ga da) w⟩⟩
  · exact w.elim
theorem de_tupT {p : Pos} (hg : Gl X "tuple") (hm : X.mg "tuple" = none) (ha : DE X a Wa) (h1 : starEach [a] X.env = (false, eval a X.env) :: starEach [] X.env := by rfl) (h2 : (backTo pos (starEach [] X.env)).any (·.1) = false := by rfl) : DE X (.Call (.Name "tuple" p) [a] [] pos) (wCB tupT (wCons Wa wNil)) :=
  de_callTy call_tuple_of rv_tupT hg hm (by decide +kernel) (da_cons ha da_nil h1) (by decide) (by decide) h1 h2
/-! isinstance -/
@[simp] def tyD : PyData → String
  | .none => "NoneType"
  | .bool _ => "bool"
  | .int _ => "int"
  | .str _ => "str"
  | .list _ => "list"
  | .tuple _ => "tuple"
  | .dict _ => "dict"
@[simp] def isTy (s T : String) : Bool := s == T || (s == "bool" && T == "int")
def KitOk (T : String) : Prop := ∀ s ∈ ["NoneType", "bool", "int", "str", "list", "tuple"], kitB s T = some (isTy s T)
def noDict : PyData → Bool
  | .dict _ => false
  | _ => true
theorem tyX_of {G H : Hp} (gh : Same G H) {v : V} {d : PyData} (h : Dd K G v d) : TyX K H v (.type (tyD d)) := by
  cases h with
  | non => exact .base .non
  | bl b => exact .base (.bl b)
  | int i => exact .base (.int i)
  | str x => exact .base (.str x)
  | lst ga da => exact .base (.lst (gh _ _ ga))
  | tup ga da =>
    rcases ga with (ga | ⟨o, ga⟩) | ⟨o, its, n, hk, hc, hs, _⟩
    · exact .base (.tup (gh _ _ ga))
    · exact .fTuple (gh _ _ ga)
    · exact .kTuple hk hc
theorem kit1 {G : Hp} {v : V} {d : PyData} {T : String} (h : Dd K G v d) (hT : KitOk T) : PySem.W.kitOne K (.type (tyD d)) (.type T) = some (isTy (tyD d) T) := by
  refine kit_ty (hT _ ?_)
  cases h <;> simp [tyD]
@[simp] def wIsi (T : String) (Wa : WE) : WE := fun Γ Q => Wa Γ fun d Γ1 => Q (.bool (isTy (tyD d) T)) Γ1
theorem boot_isinstance : bootBuiltins "isinstance" = some (.builtin "isinstance") := by decide +kernel
theorem de_isi {p pos : Pos} {tE : Expr} {T : String} (hg : Gl X "isinstance") (hm : X.mg "isinstance" = none) (hT : KitOk T) (ht : PE X tE (tC (.ty T))) (ha : DE X a Wa)
    (h1 : starEach [a, tE] X.env = (false, eval a X.env) :: starEach [tE] X.env := by rfl) (h2 : starEach [tE] X.env = (false, eval tE X.env) :: starEach [] X.env := by rfl) (h3 : (backTo pos (starEach [tE] X.env)).any (·.1) = false := by rfl) :
    DE X (.Call (.Name "isinstance" p) [a, tE] [] pos) (wIsi T Wa) := by
  obtain ⟨t, pa, ra⟩ := ha.ex
  refine ⟨_, pe_callB call_isi hg hm boot_isinstance (pa_cons pa (pa_cons ht pa_nil h2) h1) (by decide) (by decide) h1 h3, ?_⟩
  intro B Γ σ H G Q Q' E w k
  refine ra B Γ σ H G _ _ E w fun v H1 G1 d Γ1 E1 s1 k1 d1 w1 => ?_
  exact ⟨v, .ty T, _, _, _, rfl, .ty T, tyX_of E1.gh d1, kit1 d1 hT, k _ H1 G1 _ Γ1 E1 s1 k1 (.bl _) w1⟩
@[simp] def wIsi2 (T U : String) (Wa : WE) : WE := fun Γ Q => Wa Γ fun d Γ1 => Q (.bool (isTy (tyD d) T || isTy (tyD d) U)) Γ1
theorem kitAny2 {t : Value} {T U : Value} {x y : Bool} (h1 : PySem.W.kitOne K t T = some x) (h2 : PySem.W.kitOne K t U = some y) : PySem.W.kitAny K t [T, U] = some (x || y) := by
  refine kitAny_cons h1 (fun e => ?_) (fun e => by rw [e]; rfl)
  rw [e]
  exact kitAny_cons h2 (fun e2 => by rw [e2]; exact kitAny_nil) (fun e2 => by rw [e2]; rfl)
theorem de_isi2 {p p2 pos : Pos} {tE uE : Expr} {kk : Nat} {T U : String} (hg : Gl X "isinstance") (hm : X.mg "isinstance" = none) (hT : KitOk T) (hU : KitOk U) (ht : PE X tE (tC (.ty T))) (hu : PE X uE (tC (.ty U))) (ha : DE X a Wa)
    (h1 : starEach [a, .Tuple [tE, uE] kk p2] X.env = (false, eval a X.env) :: starEach [.Tuple [tE, uE] kk p2] X.env := by rfl) (h2 : starEach [.Tuple [tE, uE] kk p2] X.env = (false, eval (.Tuple [tE, uE] kk p2) X.env) :: starEach [] X.env := by rfl) (h3 : (backTo pos (starEach [.Tuple [tE, uE] kk p2] X.env)).any (·.1) = false := by rfl)
    (h4 : starEach [tE, uE] X.env = (false, eval tE X.env) :: starEach [uE] X.env := by rfl) (h5 : starEach [uE] X.env = (false, eval uE X.env) :: starEach [] X.env := by rfl) :
    DE X (.Call (.Name "isinstance" p) [a, .Tuple [tE, uE] kk p2] [] pos) (wIsi2 T U Wa) := by
  obtain ⟨t, pa, ra⟩ := ha.ex
  refine ⟨_, pe_callB call_isiT hg hm boot_isinstance (pa_cons pa (pa_cons (pe_tup (pa_cons ht (pa_cons hu pa_nil h5) h4)) pa_nil h2) h1) (by decide) (by decide) h1 h3, ?_⟩
  intro B Γ σ H G Q Q' E w k
  refine ra B Γ σ H G _ _ E w fun v H1 G1 d Γ1 E1 s1 k1 d1 w1 => ?_
  refine ⟨by show 2 ≤ sizeLine; decide, fun q hq => ?_⟩
  have gq := E1.gnone hq
  have E2 := E1.laid (o := .tup [.ty T, .ty U]) hq
  have d2 := d1.mono (sameNew (o := .tup [.ty T, .ty U]) gq)
  exact ⟨v, q, _, _, _, _, rfl, upd_same, .cons (.ty T) (.cons (.ty U) .nil), tyX_of E2.gh d2, kitAny2 (kit1 d2 hT) (kit1 d2 hU), k _ _ _ _ Γ1 E2 (s1.trans (sameNew gq)) k1 (.bl _) w1⟩
theorem kit_list : KitOk "list" := by unfold KitOk; decide +kernel
theorem kit_tuple : KitOk "tuple" := by unfold KitOk; decide +kernel
theorem kit_bool : KitOk "bool" := by unfold KitOk; decide +kernel
theorem kit_str : KitOk "str" := by unfold KitOk; decide +kernel
theorem kit_int : KitOk "int" := by unfold KitOk; decide +kernel
/-- a built-in class's name as a value -/
theorem pe_ty {x : Str} {T : String} {p : Pos} (hg : Gl X x) (hm : X.mg x = none) (hv : bootBuiltins x = some (.type T)) (hn : x ≠ "__name__" := by decide) (hd : (x == ("__debug__" : Str)) = false := by decide) : PE X (.Name x p) (tC (.ty T)) := pe_bltn hg hm hv rfl hn hd
/-! ## lists that are one's own -/
@[simp] def ownAt (Γ : Gam) (j : Nat) : Option (List PyData) := match Γ[j]? with
  | some (.own ds) => some ds
  | some (.par ds) => some ds
  | _ => none
@[simp] def setOwn (Γ : Gam) (j : Nat) (ds : List PyData) : Gam := match Γ[j]? with
  | some (.own _) => Γ.set j (.own ds)
  | some (.par _) => Γ.set j (.par ds)
  | _ => Γ
theorem own_of {Γ : Gam} {j : Nat} {ds : List PyData} (h : ownAt Γ j = some ds) : Own Γ j ds := by
  unfold ownAt at h
  split at h
  · rename_i q; cases h; exact .inl q
  · rename_i q; cases h; exact .inr q
  · cases h
theorem setOwn_len (Γ : Gam) (j : Nat) (ds : List PyData) : (setOwn Γ j ds).length = Γ.length := by
  unfold setOwn
  split <;> simp
theorem setOwn_ne {Γ : Gam} {i j : Nat} {ds : List PyData} (h : i ≠ j) : (setOwn Γ j ds)[i]? = Γ[i]? := by
  unfold setOwn
  split
  · rw [List.getElem?_set_ne (Ne.symm h)]
  · rw [List.getElem?_set_ne (Ne.symm h)]
  · rfl
theorem setOwn_own {Γ : Gam} {j : Nat} {es ds : List PyData} (h : Γ[j]? = some (Sl.own es)) : (setOwn Γ j ds)[j]? = some (Sl.own ds) := by
  unfold setOwn
  rw [h]
  exact List.getElem?_set_self (List.getElem?_eq_some_iff.mp h).1
theorem setOwn_par {Γ : Gam} {j : Nat} {es ds : List PyData} (h : Γ[j]? = some (Sl.par es)) : (setOwn Γ j ds)[j]? = some (Sl.par ds) := by
  unfold setOwn
  rw [h]
  exact List.getElem?_set_self (List.getElem?_eq_some_iff.mp h).1
theorem setOwn_KS {Γ : Gam} {j : Nat} {ds : List PyData} : KS Γ (setOwn Γ j ds) := by
  refine ⟨(setOwn_len _ _ _).symm, fun i a b h h' => ?_⟩
  by_cases e : i = j
  · subst e
    cases a with
    | own es => rw [setOwn_own h] at h'; cases h'; trivial
    | par es => rw [setOwn_par h] at h'; cases h'; trivial
    | un =>
      unfold setOwn at h'
      rw [h] at h'
      simp only at h'
      rw [h] at h'
      cases h'
      trivial
    | dat d =>
      unfold setOwn at h'
      rw [h] at h'
      simp only at h'
      rw [h] at h'
      cases h'
      rfl
    | scr d =>
      unfold setOwn at h'
      rw [h] at h'
      simp only at h'
      rw [h] at h'
      cases h'
      rfl
  · rw [setOwn_ne e, h] at h'
    cases h'
    exact KS1.refl _
theorem setOwn_is {Γ : Gam} {i j : Nat} {ds es fs : List PyData} (o : Own Γ j fs) (h : Own (setOwn Γ j ds) i es) : (i = j ∧ es = ds) ∨ (i ≠ j ∧ Own Γ i es) := by
  by_cases e : i = j
  · subst e
    refine .inl ⟨rfl, ?_⟩
    rcases o with o | o
    · rcases h with h | h
      · rw [setOwn_own o] at h; cases h; rfl
      · rw [setOwn_own o] at h; cases h
    · rcases h with h | h
      · rw [setOwn_par o] at h; cases h
      · rw [setOwn_par o] at h; cases h; rfl
  · refine .inr ⟨e, ?_⟩
    unfold Own at h ⊢
    rwa [setOwn_ne e] at h
/-- the list in slot j is written -/
theorem En.wrote {B : Bs} {σ : L2.St} {H G : Hp} {Γ : Gam} {j : Nat} {ds es : List PyData} {p : Addr} {us : List V} (E : En K B σ H G Γ) (o : Own Γ j ds) (hp : σ[j]? = some (some (V.ref p))) (hu : DdAll K G us es) : En K B σ (upd H p (.lst us)) G (setOwn Γ j es) := by
  obtain ⟨q, vs, h1, h2, h3, h4, h5⟩ := E.mine j ds o
  rw [hp] at h1
  cases h1
  refine ⟨by rw [setOwn_len]; exact E.len, fun b x h => ?_, E.g0, fun b x h hP => ?_, fun b h => ?_, E.f0, fun b h => E.nn b ?_, fun i d h => ?_, fun i fs ow => ?_, fun i fs ow => ?_, fun i fs ow => ?_, fun i fs ow => ?_, fun i k q ds' es' o1 o2 h1' h2' => ?_⟩
  · rw [upd_ne (ne_of_none h h2)]
    exact E.gh b x h
  · have hb : b ≠ p := fun z => by
      subst z
      rcases h5 with h5 | h5
      · exact hP h5
      · rw [h] at h5; cases h5
    rw [upd_ne hb]
    exact E.h0 b x h hP
  · by_cases hb : b = p
    · subst hb; rw [upd_same]; exact fun z => by cases z
    · rw [upd_ne hb]; exact E.bh b h
  · by_cases hb : b = p
    · subst hb; rw [upd_same] at h; cases h
    · rwa [upd_ne hb] at h
  · have hij : i ≠ j := fun z => by
      subst z
      rcases o with o | o
      · rw [setOwn_own o] at h; cases h
      · rw [setOwn_par o] at h; cases h
    rw [setOwn_ne hij] at h
    exact E.dat i d h
  · rcases setOwn_is o ow with ⟨e1, e2⟩ | ⟨e1, e2⟩
    · subst e1 e2
      exact ⟨p, us, hp, h2, upd_same, hu, h5⟩
    · obtain ⟨q, ws, g1, g2, g3, g4, g5⟩ := E.mine i fs e2
      refine ⟨q, ws, g1, g2, ?_, g4, g5⟩
      have hq : q ≠ p := fun z => by
        subst z
        exact e1 (E.inj i j q fs ds e2 o g1 hp)
      rw [upd_ne hq]
      exact g3
  · by_cases hij : i = j
    · subst hij
      rcases o with o | o
      · exact E.new i ds o
      · rw [setOwn_par o] at ow; cases ow
    · rw [setOwn_ne hij] at ow
      exact E.new i fs ow
  · by_cases hij : i = j
    · subst hij
      rcases o with o | o
      · rw [setOwn_own o] at ow; cases ow
      · exact E.par i ds o
    · rw [setOwn_ne hij] at ow
      exact E.par i fs ow
  · have hij : i ≠ j := fun z => by
      subst z
      rcases o with o | o
      · rw [setOwn_own o] at ow; cases ow
      · rw [setOwn_par o] at ow; cases ow
    rw [setOwn_ne hij] at ow
    exact E.scr i fs ow
  · have w1 : ∃ x, Own Γ i x := by
      rcases setOwn_is o o1 with ⟨e1, _⟩ | ⟨_, e2⟩
      · subst e1; exact ⟨ds, o⟩
      · exact ⟨_, e2⟩
    have w2 : ∃ x, Own Γ k x := by
      rcases setOwn_is o o2 with ⟨e1, _⟩ | ⟨_, e2⟩
      · subst e1; exact ⟨ds, o⟩
      · exact ⟨_, e2⟩
    obtain ⟨x, w1⟩ := w1
    obtain ⟨y, w2⟩ := w2
    exact E.inj i k q x y w1 w2 h1' h2'
end
end DL

namespace DL
open PySem PySem.Spec PyProof.Rows L2
section
variable {X : Cx} {K : PySem.W.Frag} {a b c e : Expr} {es : List Expr} {Wa Wb Wc : WE} {Wr : WA} {pos : Pos} {WT' : WT}
/-! ## operands: data, or the list in a slot -/
inductive Opd where
  | dat (d : PyData)
  | var (j : Nat)
@[simp] def Opd.rd (Γ : Gam) : Opd → Option PyData
  | .dat d => some d
  | .var j => (ownAt Γ j).map .list
def OpV (K : PySem.W.Frag) (σ : L2.St) (G : Hp) (v : V) : Opd → Prop
  | .dat d => Dd K G v d
  | .var j => σ[j]? = some (some v)
theorem OpV.mono {σ : L2.St} {G G' : Hp} {v : V} {o : Opd} (e : Same G G') (h : OpV K σ G v o) : OpV K σ G' v o := by
  cases o with
  | dat d => exact Dd.mono e h
  | var j => exact h
abbrev WP := Gam → (Opd → Gam → Prop) → Prop
def RP (K : PySem.W.Frag) (t : TE) (W : WP) : Prop :=
  ∀ (B : Bs) (Γ : Gam) (σ : L2.St) (H G : Hp) (Q : Opd → Gam → Prop) (Q' : VK), En K B σ H G Γ → W Γ Q →
    (∀ v H' G' o Γ', En K B σ H' G' Γ' → Same G G' → KS Γ Γ' → OpV K σ G' v o → Q o Γ' → Q' v H') → t σ H Q'
structure DP (X : Cx) (e : Expr) (W : WP) : Prop where
  ex : ∃ t, PE X e t ∧ RP X.K t W
@[simp] def wD (Wa : WE) : WP := fun Γ Q => Wa Γ fun d Γ1 => Q (.dat d) Γ1
theorem DE.dp (h : DE X e Wa) : DP X e (wD Wa) := by
  obtain ⟨t, p, r⟩ := h.ex
  refine ⟨_, p, ?_⟩
  intro B Γ σ H G Q Q' E w k
  exact r B Γ σ H G _ _ E w fun v H1 G1 d Γ1 E1 s1 k1 d1 w1 => k v H1 G1 (.dat d) Γ1 E1 s1 k1 d1 w1
@[simp] def wO (j : Nat) : WP := fun Γ Q => (ownAt Γ j).isSome = true ∧ Q (.var j) Γ
theorem dp_own (j : Nat) {x : Str} {p : Pos} (h : PE X (.Name x p) (tVar j)) : DP X (.Name x p) (wO j) := by
  refine ⟨_, h, ?_⟩
  intro B Γ σ H G Q Q' E w k
  obtain ⟨w1, w2⟩ := w
  cases q : ownAt Γ j with
  | none => rw [q] at w1; cases w1
  | some ds =>
    obtain ⟨p, vs, h1, h2, h3, h4, h5⟩ := E.mine j ds (own_of q)
    exact ⟨_, h1, k _ H G (.var j) Γ E (Same.refl _) (KS.refl _) h1 w2⟩
@[simp] def wOs (j : Nat) : WP := fun Γ Q => match Γ[j]? with
  | some (.scr _) => Q (.var j) Γ
  | _ => False
theorem dp_scr (j : Nat) {x : Str} {p : Pos} (h : PE X (.Name x p) (tVar j)) : DP X (.Name x p) (wOs j) := by
  refine ⟨_, h, ?_⟩
  intro B Γ σ H G Q Q' E w k
  unfold wOs at w
  split at w
  · rename_i ds q
    obtain ⟨p, vs, h1, h2, h3⟩ := E.scr j ds q
    exact ⟨_, h1, k _ H G (.var j) Γ E (Same.refl _) (KS.refl _) h1 w⟩
  · exact w.elim
/-- read: a value that stands for data now -/
def Bd (K : PySem.W.Frag) (G H : Hp) (v : V) (d : PyData) : Prop := Dd K G v d ∨ ∃ p vs ds, v = .ref p ∧ d = .list ds ∧ H p = some (.lst vs) ∧ DdAll K G vs ds
theorem OpV.bd {B : Bs} {σ : L2.St} {H G : Hp} {Γ : Gam} {v : V} {o : Opd} {d : PyData} (E : En K B σ H G Γ) (h : OpV K σ G v o) (r : o.rd Γ = some d) : Bd K G H v d := by
  cases o with
  | dat e => cases r; exact .inl h
  | var j =>
    have r : (ownAt Γ j).map PyData.list = some d := r
    cases q : ownAt Γ j with
    | none => rw [q] at r; cases r
    | some ds =>
      rw [q] at r
      cases r
      obtain ⟨p, vs, h1, h2, h3, h4, h5⟩ := E.mine j ds (own_of q)
      have z : σ[j]? = some (some v) := h
      rw [h1] at z
      cases z
      exact .inr ⟨p, vs, ds, rfl, rfl, h3, h4⟩
theorem Bd.dd {B : Bs} {σ : L2.St} {H G : Hp} {Γ : Gam} {v : V} {d : PyData} (E : En K B σ H G Γ) (h : Bd K G H v d) : Dd K H v d := by
  rcases h with h | ⟨p, vs, ds, rfl, rfl, h1, h2⟩
  · exact h.mono E.gh
  · exact .lst h1 (h2.mono E.gh)
/-- a list's items -/
theorem Bd.lst {B : Bs} {σ : L2.St} {H G : Hp} {Γ : Gam} {v : V} {ds : List PyData} (E : En K B σ H G Γ) (h : Bd K G H v (.list ds)) : ∃ p vs, v = .ref p ∧ H p = some (.lst vs) ∧ DdAll K G vs ds := by
  rcases h with h | ⟨p, vs, ds', rfl, e, h1, h2⟩
  · cases h with
    | lst ga da => exact ⟨_, _, rfl, E.gh _ _ ga, da⟩
  · cases e; exact ⟨p, vs, rfl, h1, h2⟩
/-! what is done with operands that may be one's own -/
@[simp] def wIxO (Wo : WP) (Wb : WE) : WE := fun Γ Q => Wo Γ fun o Γ1 => Wb Γ1 fun y Γ2 => match o.rd Γ2 with
  | some x => ixD x y fun z => Q z Γ2
  | none => False
theorem de_ixO {Wo : WP} (ha : DP X a Wo) (hb : DE X b Wb) (hs : PlainIx b := by exact fun _ _ => rfl) : DE X (.Subscript a b pos) (wIxO Wo Wb) := by
  obtain ⟨ta, pa, ra⟩ := ha.ex
  obtain ⟨tb, pb, rb⟩ := hb.ex
  refine ⟨_, pe_ix ix_seq pa pb hs, ?_⟩
  intro B Γ σ H G Q Q' E w k
  refine ra B Γ σ H G _ _ E w fun v H1 G1 o Γ1 E1 s1 k1 o1 w1 => ?_
  refine rb B Γ1 σ H1 G1 _ _ E1 w1 fun u H2 G2 y Γ2 E2 s2 k2 d2 w2 => ?_
  cases q : o.rd Γ2 with
  | none => rw [q] at w2; exact w2.elim
  | some x =>
    rw [q] at w2
    have bd := (o1.mono s2).bd E2 q
    rcases bd with bd | ⟨p, vs, ds, rfl, rfl, h1, h2⟩
    · exact rv_ix B Γ2 σ H2 G2 _ _ x y _ _ E2 bd d2 w2 fun z H3 G3 d E3 s3 d3 q3 => k z H3 G3 d Γ2 E3 ((s1.trans s2).trans s3) (k1.trans k2) d3 q3
    · cases d2 with
      | int i =>
        obtain ⟨d, h, q3⟩ := w2
        obtain ⟨z, h', dz⟩ := h2.atI h
        exact .inl ⟨p, vs, i, z, rfl, rfl, SqL.of h1, h', k z H2 G2 d Γ2 E2 (s1.trans s2) (k1.trans k2) dz q3⟩
      | _ => exact w2.elim
@[simp] def wLenO (Wo : WP) : WE := fun Γ Q => Wo Γ fun o Γ1 => match o.rd Γ1 with
  | some x => lenD [x] fun z => Q z Γ1
  | none => False
theorem de_lenO {p : Pos} {Wo : WP} (hg : Gl X "len") (hm : X.mg "len" = none) (ha : DP X a Wo) (h1 : starEach [a] X.env = (false, eval a X.env) :: starEach [] X.env := by rfl) (h2 : (backTo pos (starEach [] X.env)).any (·.1) = false := by rfl) : DE X (.Call (.Name "len" p) [a] [] pos) (wLenO Wo) := by
  obtain ⟨ta, pa, ra⟩ := ha.ex
  refine ⟨_, pe_callB (call_len_seq.or call_len_str) hg hm PySem.boot_len (pa_cons pa pa_nil h1) (by decide) (by decide) h1 h2, ?_⟩
  intro B Γ σ H G Q Q' E w k
  refine ra B Γ σ H G _ _ E w fun v H1 G1 o Γ1 E1 s1 k1 o1 w1 => ?_
  cases q : o.rd Γ1 with
  | none => rw [q] at w1; exact w1.elim
  | some x =>
    rw [q] at w1
    have bd := o1.bd E1 q
    rcases bd with bd | ⟨p, vs, ds, rfl, rfl, h1, h2⟩
    · exact rv_len B Γ1 σ H1 G1 _ _ _ _ E1 (.cons bd .nil) w1 fun z H3 G3 d E3 s3 d3 q3 => k z H3 G3 d Γ1 E3 (s1.trans s3) k1 d3 q3
    · refine .inl ⟨p, vs, rfl, .inl (SqL.of h1), k _ H1 G1 _ Γ1 E1 s1 k1 (.int _) ?_⟩
      rw [h2.length]
      exact w1
@[simp] def wTupO (Wo : WP) : WE := fun Γ Q => Wo Γ fun o Γ1 => match o.rd Γ1 with
  | some x => tupT [x] fun z => Q z Γ1
  | none => False
theorem de_tupO {p : Pos} {Wo : WP} (hg : Gl X "tuple") (hm : X.mg "tuple" = none) (ha : DP X a Wo) (h1 : starEach [a] X.env = (false, eval a X.env) :: starEach [] X.env := by rfl) (h2 : (backTo pos (starEach [] X.env)).any (·.1) = false := by rfl) : DE X (.Call (.Name "tuple" p) [a] [] pos) (wTupO Wo) := by
  obtain ⟨ta, pa, ra⟩ := ha.ex
  refine ⟨_, pe_callTy call_tuple_of hg hm (by decide +kernel) (pa_cons pa pa_nil h1) (by decide) (by decide) h1 h2, ?_⟩
  intro B Γ σ H G Q Q' E w k
  refine ra B Γ σ H G _ _ E w fun v H1 G1 o Γ1 E1 s1 k1 o1 w1 => ?_
  cases q : o.rd Γ1 with
  | none => rw [q] at w1; exact w1.elim
  | some x =>
    rw [q] at w1
    have bd := o1.bd E1 q
    rcases bd with bd | ⟨p, vs, ds, rfl, rfl, h1, h2⟩
    · exact rv_tupT B Γ1 σ H1 G1 _ _ _ _ E1 (.cons bd .nil) w1 fun z H3 G3 d E3 s3 d3 q3 => k z H3 G3 d Γ1 E3 (s1.trans s3) k1 d3 q3
    · refine ⟨p, vs, rfl, .inl ⟨SqL.of h1, fun l hl => ?_⟩⟩
      have gp := E1.gnone hl
      exact k _ _ _ _ Γ1 (E1.laid hl) (s1.trans (sameNew gp)) k1 (.tup (SqT.of upd_same) (h2.mono (sameNew gp))) w1
/-- list(x): a new list -/
@[simp] def wListO (Wo : WP) : WA := fun Γ Q => Wo Γ fun o Γ1 => match o.rd Γ1 with
  | some (.list ds) => Q ds Γ1
  | some (.tuple ds) => Q ds Γ1
  | _ => False
theorem dn_listO {p : Pos} {Wo : WP} (hg : Gl X "list") (hm : X.mg "list" = none) (ha : DP X a Wo) (h1 : starEach [a] X.env = (false, eval a X.env) :: starEach [] X.env := by rfl) (h2 : (backTo pos (starEach [] X.env)).any (·.1) = false := by rfl) : DN X (.Call (.Name "list" p) [a] [] pos) (wListO Wo) := by
  obtain ⟨ta, pa, ra⟩ := ha.ex
  refine ⟨_, pe_callTy call_list_of hg hm (by decide +kernel) (pa_cons pa pa_nil h1) (by decide) (by decide) h1 h2, ?_⟩
  intro B Γ σ H G Q Q' E w k
  refine ra B Γ σ H G _ _ E w fun v H1 G1 o Γ1 E1 s1 k1 o1 w1 => ?_
  cases q : o.rd Γ1 with
  | none => rw [q] at w1; exact w1.elim
  | some x =>
    rw [q] at w1
    have bd := o1.bd E1 q
    cases x with
    | list ds =>
      obtain ⟨p, vs, rfl, h1, h2⟩ := Bd.lst E1 bd
      refine ⟨p, vs, rfl, .inl (SqL.of h1), fun l hl => ?_⟩
      exact k l vs _ G1 ds Γ1 (E1.laidN hl) s1 k1 (E1.gnone hl) upd_same h2 (E1.bnone hl) (E1.nn l hl) (fresh_own E1 hl) w1
    | tuple ds =>
      rcases bd with bd | ⟨p, vs, ds', rfl, e, _⟩
      · cases bd with
        | tup ga da =>
          refine ⟨_, _, rfl, .inr (sqT_same E1.gh ga), fun l hl => ?_⟩
          exact k l _ _ G1 ds Γ1 (E1.laidN hl) s1 k1 (E1.gnone hl) upd_same da (E1.bnone hl) (E1.nn l hl) (fresh_own E1 hl) w1
      · cases e
    | _ => exact w1.elim
/-! ## what a def promises, over data -/
inductive Rs where
  | dat (d : PyData)
  | new (ds : List PyData)
abbrev PSp := List Sl → (Rs → List Sl → Prop) → Prop
structure ArgsV (K : PySem.W.Frag) (G H : Hp) (vs : List V) (as : List Sl) : Prop where
  len : vs.length = as.length
  dat : ∀ (i : Nat) d, as[i]? = some (Sl.dat d) → ∃ v, vs[i]? = some v ∧ Dd K G v d
  par : ∀ (i : Nat) ds, as[i]? = some (Sl.par ds) → ∃ p us, vs[i]? = some (V.ref p) ∧ G p = none ∧ H p = some (.lst us) ∧ DdAll K G us ds
  scr : ∀ (i : Nat) ds, as[i]? = some (Sl.scr ds) → ∃ p us, vs[i]? = some (V.ref p) ∧ SqL K G p us ∧ DdAll K G us ds
  kind : ∀ (i : Nat) s, as[i]? = some s → (∃ d, s = Sl.dat d) ∨ (∃ ds, s = Sl.par ds) ∨ ∃ ds, s = Sl.scr ds
  inj : ∀ (i j : Nat) p ds es, as[i]? = some (Sl.par ds) → as[j]? = some (Sl.par es) → vs[i]? = some (V.ref p) → vs[j]? = some (V.ref p) → i = j
/-- a result -/
def VR (K : PySem.W.Frag) (N : Addr → Prop) (G H : Hp) (v : V) : Rs → Prop
  | .dat d => Dd K G v d
  | .new ds => ∃ p us, v = .ref p ∧ G p = none ∧ H p = some (.lst us) ∧ DdAll K G us ds ∧ N p
structure PostV (K : PySem.W.Frag) (G H : Hp) (vs : List V) (as : List Sl) (G' H' : Hp) (as' : List Sl) (v : V) (r : Rs) : Prop where
  gg : Same G G'
  gh : Same G' H'
  keep : ∀ q o, H q = some o → (∀ (i : Nat) ds, as[i]? = some (Sl.par ds) → vs[i]? ≠ some (V.ref q)) → H' q = some o
  alloc : ∀ q, H q ≠ none → H' q ≠ none
  free : ∀ q, H q ≠ none → G q = none → G' q = none
  ks : KS as as'
  par : ∀ (i : Nat) ds, as'[i]? = some (Sl.par ds) → ∃ p us, vs[i]? = some (V.ref p) ∧ H' p = some (.lst us) ∧ DdAll K G' us ds
  res : VR K (fun p => H p = none) G' H' v r
def spS (K : PySem.W.Frag) (S : PSp) : Sp := fun vs H Q _ => ∃ (G : Hp) (as : List Sl) (R : Rs → List Sl → Prop), Same G H ∧ ArgsV K G H vs as ∧ S as R ∧
  ∀ v G' H' as' r, PostV K G H vs as G' H' as' v r → R r as' → Q v H'
/-! ## statements -/
/-- what is raised: its class, its fields -/
structure Exn where
  C : Addr
  fs : List (Str × PyData)
inductive FldV (K : PySem.W.Frag) (G : Hp) : List (Str × V) → List (Str × PyData) → Prop
  | nil : FldV K G [] []
  | cons {f : Str} {v : V} {d : PyData} {vs : List (Str × V)} {ds : List (Str × PyData)} : Dd K G v d → FldV K G vs ds → FldV K G ((f, v) :: vs) ((f, d) :: ds)
theorem FldV.mono {G G' : Hp} (e : Same G G') : ∀ {vs : List (Str × V)} {ds : List (Str × PyData)}, FldV K G vs ds → FldV K G' vs ds
  | _, _, .nil => .nil
  | _, _, .cons h t => .cons (h.mono e) (FldV.mono e t)
/-- .. as it lies -/
def ExOk (K : PySem.W.Frag) (G : Hp) (d : Option Addr) (x : Exn) : Prop := (d = none ∧ x.fs = []) ∨ ∃ (dd : Addr) (vs : List (Str × V)), d = some dd ∧ G dd = some (.xd vs) ∧ FldV K G vs x.fs
theorem ExOk.mono {G G' : Hp} (e : Same G G') {d : Option Addr} {x : Exn} (h : ExOk K G d x) : ExOk K G' d x := by
  rcases h with h | ⟨dd, vs, h1, h2, h3⟩
  · exact .inl h
  · exact .inr ⟨dd, vs, h1, e _ _ h2, h3.mono e⟩
structure EndsD where
  nx : Gam → Prop
  rt : Rs → Gam → Prop
  bk : Gam → Prop := fun _ => False
  ct : Gam → Prop := fun _ => False
  ex : Exn → Gam → Prop := fun _ _ => False
abbrev WS := EndsD → Gam → Prop
structure Lk (K : PySem.W.Frag) (Wx : WX) (B : Bs) (G : Hp) (D : EndsD) (D' : Ends) : Prop where
  nx : ∀ σ H' G' Γ, En K B σ H' G' Γ → Same G G' → D.nx Γ → D'.nx σ H'
  bk : ∀ σ H' G' Γ, En K B σ H' G' Γ → Same G G' → D.bk Γ → D'.bk σ H'
  ct : ∀ σ H' G' Γ, En K B σ H' G' Γ → Same G G' → D.ct Γ → D'.ct σ H'
  rt : ∀ σ v H' G' Γ r, En K B σ H' G' Γ → Same G G' → VR K B.N G' H' v r → D.rt r Γ → D'.rt v H'
  nb : ∀ q, B.N q → B.H q = none
  ex : ∀ d σ H' G' Γ x, En K B σ H' G' Γ → Same G G' → ExOk K G' d x → D.ex x Γ → Wx (.ref x.C) d σ H'
variable {Wx : WX}
theorem Lk.mono {B : Bs} {G G' : Hp} {D : EndsD} {D' : Ends} (s : Same G G') (h : Lk K Wx B G D D') : Lk K Wx B G' D D' :=
  ⟨fun σ H' G'' Γ E s' q => h.nx σ H' G'' Γ E (s.trans s') q, fun σ H' G'' Γ E s' q => h.bk σ H' G'' Γ E (s.trans s') q, fun σ H' G'' Γ E s' q => h.ct σ H' G'' Γ E (s.trans s') q,
   fun σ v H' G'' Γ r E s' vr q => h.rt σ v H' G'' Γ r E (s.trans s') vr q, h.nb, fun d σ H' G'' Γ x E s' xo q => h.ex d σ H' G'' Γ x E (s.trans s') xo q⟩
def RS (K : PySem.W.Frag) (Wx : WX) (t : TS) (W : WS) : Prop :=
  ∀ (B : Bs) (Γ : Gam) (σ : L2.St) (H G : Hp) (D : EndsD) (D' : Ends), En K B σ H G Γ → W D Γ → Lk K Wx B G D D' → t D' σ H
/-- the least that X takes -/
def Wcan (X : Cx) : WX := fun cls d σ H => ∃ W : WX, Takes X W ∧ W cls d σ H
theorem takes_c {X : Cx} : Takes X (Wcan X) := fun u s' ⟨a, B, sI, pins, σ, H, cls, d, e, I, nb, up, sky, na, os, ag, W, tk, w⟩ => tk u s' ⟨a, B, sI, pins, σ, H, cls, d, e, I, nb, up, sky, na, os, ag, w⟩
structure DS (X : Cx) (st : Stmt) (W : WS) : Prop where
  ex : ∃ t, PS X st t ∧ RS X.K (Wcan X) t W
structure DSs (X : Cx) (st : List Stmt) (W : WS) : Prop where
  ex : ∃ t, PSs X st t ∧ RS X.K (Wcan X) t W
variable {st : Stmt} {rest : List Stmt} {W1 W2 : WS}
@[simp] def wNext : WS := fun D Γ => D.nx Γ
@[simp] def wSeq (W1 W2 : WS) : WS := fun D Γ => W1 { D with nx := W2 D } Γ
theorem rs_next : RS K Wx tNext wNext := fun B Γ σ H G D D' E w l => l.nx σ H G Γ E (Same.refl _) w
theorem dss_nil : DSs X [] wNext := ⟨_, pss_nil, rs_next⟩
theorem dss_cons (h : DS X st W1) (h' : DSs X rest W2) : DSs X (st :: rest) (wSeq W1 W2) := by
  obtain ⟨t, p, r⟩ := h.ex
  obtain ⟨t', p', r'⟩ := h'.ex
  refine ⟨_, pss_cons p p', ?_⟩
  intro B Γ σ H G D D' E w l
  exact r B Γ σ H G { D with nx := W2 D } { D' with nx := t' D' } E w ⟨fun σ1 H1 G1 Γ1 E1 s1 w1 => r' B Γ1 σ1 H1 G1 D D' E1 w1 (l.mono s1), l.bk, l.ct, l.rt, l.nb, l.ex⟩
theorem dss_one (h : DS X st W1) : DSs X [st] W1 := by
  obtain ⟨t, p, r⟩ := h.ex
  exact ⟨_, pss_one p, r⟩
theorem ds_pass : DS X (.Pass pos) wNext := ⟨_, ps_pass, rs_next⟩
@[simp] def wBreak : WS := fun D Γ => D.bk Γ
@[simp] def wCont : WS := fun D Γ => D.ct Γ
theorem ds_break : DS X (.Break pos) wBreak := ⟨_, ps_break, fun B Γ σ H G D D' E w l => l.bk σ H G Γ E (Same.refl _) w⟩
theorem ds_cont : DS X (.Continue pos) wCont := ⟨_, ps_continue, fun B Γ σ H G D D' E w l => l.ct σ H G Γ E (Same.refl _) w⟩
@[simp] def wDrop (Wa : WE) : WS := fun D Γ => Wa Γ fun _ Γ1 => D.nx Γ1
theorem ds_expr (h : DE X e Wa) (hs : swapsWith e none pos.line X.env = pure false := by rfl) : DS X (.Expr e pos) (wDrop Wa) := by
  obtain ⟨t, p, r⟩ := h.ex
  refine ⟨_, ps_expr p hs, ?_⟩
  intro B Γ σ H G D D' E w l
  exact r B Γ σ H G _ _ E w fun v H1 G1 d Γ1 E1 s1 k1 d1 w1 => l.nx σ H1 G1 Γ1 E1 s1 w1
@[simp] def wRet (Wa : WE) : WS := fun D Γ => Wa Γ fun d Γ1 => D.rt (.dat d) Γ1
theorem ds_ret (h : DE X e Wa) : DS X (.Return (some e) pos) (wRet Wa) := by
  obtain ⟨t, p, r⟩ := h.ex
  refine ⟨_, ps_ret p, ?_⟩
  intro B Γ σ H G D D' E w l
  exact r B Γ σ H G _ _ E w fun v H1 G1 d Γ1 E1 s1 k1 d1 w1 => l.rt σ v H1 G1 Γ1 (.dat d) E1 s1 d1 w1
@[simp] def wRetN : WS := fun D Γ => D.rt (.dat .none) Γ
theorem ds_retN : DS X (.Return none pos) wRetN := ⟨_, ps_retN, fun B Γ σ H G D D' E w l => l.rt σ .non H G Γ (.dat .none) E (Same.refl _) (Dd.non) w⟩
/-- return of a new list -/
@[simp] def wRetL (Wr : WA) : WS := fun D Γ => Wr Γ fun ds Γ1 => D.rt (.new ds) Γ1
theorem ds_retL (h : DN X e Wr) : DS X (.Return (some e) pos) (wRetL Wr) := by
  obtain ⟨t, p, r⟩ := h.ex
  refine ⟨_, ps_ret p, ?_⟩
  intro B Γ σ H G D D' E w l
  exact r B Γ σ H G _ _ E w fun p vs H1 G1 ds Γ1 E1 s1 k1 g1 h1 d1 b1 n1 o1 w1 => l.rt σ (.ref p) H1 G1 Γ1 (.new ds) E1 s1 ⟨p, vs, rfl, g1, h1, d1, n1⟩ w1
/-- return of one's own list -/
@[simp] def wRetO (j : Nat) : WS := fun D Γ => match Γ[j]? with
  | some (.own ds) => D.rt (.new ds) Γ
  | _ => False
theorem ds_retO (j : Nat) {x : Str} {p : Pos} (h : PE X (.Name x p) (tVar j)) : DS X (.Return (some (.Name x p)) pos) (wRetO j) := by
  refine ⟨_, ps_ret h, ?_⟩
  intro B Γ σ H G D D' E w l
  unfold wRetO at w
  cases q : Γ[j]? with
  | none => rw [q] at w; exact w.elim
  | some s =>
    rw [q] at w
    cases s with
    | own ds =>
      obtain ⟨p, vs, h1, h2, h3, h4, h5⟩ := E.mine j ds (.inl q)
      obtain ⟨p', h1', n⟩ := E.new j ds q
      rw [h1] at h1'
      cases h1'
      exact ⟨_, h1, l.rt σ _ H G Γ (.new ds) E (Same.refl _) ⟨p, vs, rfl, h2, h3, h4, n⟩ w⟩
    | _ => exact w.elim
@[simp] def wIfS (T : WT) (W1 W2 : WS) : WS := fun D Γ => T Γ fun b Γ1 => if b = true then W1 D Γ1 else W2 D Γ1
theorem ds_if {s1 s2 : List Stmt} (hc : DT X c WT') (h1 : DSs X s1 W1) (h2 : DSs X s2 W2) : DS X (.If c s1 s2 pos) (wIfS WT' W1 W2) := by
  obtain ⟨t, p, r⟩ := hc.ex
  obtain ⟨t1, p1, r1⟩ := h1.ex
  obtain ⟨t2, p2, r2⟩ := h2.ex
  refine ⟨_, ps_if p p1 p2, ?_⟩
  intro B Γ σ H G D D' E w l
  refine r B Γ σ H G _ _ E w fun b H1 G1 Γ1 E1 s1 k1 w1 => ?_
  cases b with
  | true => exact r1 B Γ1 σ H1 G1 D D' E1 w1 (l.mono s1)
  | false => exact r2 B Γ1 σ H1 G1 D D' E1 w1 (l.mono s1)
/-! stores -/
theorem En.setDat {B : Bs} {σ : L2.St} {H G : Hp} {Γ : Gam} {v : V} {d : PyData} (E : En K B σ H G Γ) (i : Nat) (h : Dd K G v d) : En K B (σ.set i (some v)) H G (Γ.set i (.dat d)) := by
  have own_ne : ∀ (k : Nat) ds, Own (Γ.set i (.dat d)) k ds → k ≠ i ∧ Own Γ k ds := fun k ds o => by
    by_cases e : k = i
    · subst e
      exfalso
      rcases o with o | o <;>
        (by_cases hl : k < Γ.length
         · rw [List.getElem?_set_self hl] at o; cases o
         · rw [List.getElem?_eq_none (by simpa using hl)] at o; cases o)
    · refine ⟨e, ?_⟩
      unfold Own at o ⊢
      rwa [List.getElem?_set_ne (Ne.symm e)] at o
  refine ⟨by simp [E.len], E.gh, E.g0, E.h0, E.bh, E.f0, E.nn, fun k e hk => ?_, fun k ds o => ?_, fun k ds o => ?_, fun k ds o => ?_, fun k ds o => ?_, fun k m p ds es o1 o2 h1 h2 => ?_⟩
  · by_cases z : k = i
    · subst z
      have hl : k < Γ.length := by
        have := (List.getElem?_eq_some_iff.mp hk).1
        simpa using this
      rw [List.getElem?_set_self hl] at hk
      cases hk
      exact ⟨v, List.getElem?_set_self (by rw [E.len]; exact hl), h⟩
    · rw [List.getElem?_set_ne (Ne.symm z)] at hk ⊢
      exact E.dat k e hk
  · obtain ⟨z, o⟩ := own_ne k ds o
    rw [List.getElem?_set_ne (Ne.symm z)]
    exact E.mine k ds o
  · obtain ⟨z, _⟩ := own_ne k ds (.inl o)
    rw [List.getElem?_set_ne (Ne.symm z)] at o ⊢
    exact E.new k ds o
  · obtain ⟨z, _⟩ := own_ne k ds (.inr o)
    rw [List.getElem?_set_ne (Ne.symm z)] at o ⊢
    exact E.par k ds o
  · have z : k ≠ i := fun z => by
      subst z
      by_cases hl : k < Γ.length
      · rw [List.getElem?_set_self hl] at o; cases o
      · rw [List.getElem?_eq_none (by simpa using hl)] at o; cases o
    rw [List.getElem?_set_ne (Ne.symm z)] at o ⊢
    exact E.scr k ds o
  · obtain ⟨z1, o1⟩ := own_ne k ds o1
    obtain ⟨z2, o2⟩ := own_ne m es o2
    rw [List.getElem?_set_ne (Ne.symm z1)] at h1
    rw [List.getElem?_set_ne (Ne.symm z2)] at h2
    exact E.inj k m p ds es o1 o2 h1 h2
theorem En.setOwnNew {B : Bs} {σ : L2.St} {H G : Hp} {Γ : Gam} {p : Addr} {vs : List V} {ds : List PyData} (E : En K B σ H G Γ) (i : Nat) (gp : G p = none) (hp : H p = some (.lst vs)) (da : DdAll K G vs ds) (bp : B.H p = none) (np : B.N p)
    (ho : ∀ (i : Nat) es, Own Γ i es → σ[i]? ≠ some (some (V.ref p))) : En K B (σ.set i (some (.ref p))) H G (Γ.set i (.own ds)) := by
  have own_ne : ∀ (k : Nat) es, Own (Γ.set i (.own ds)) k es → (k = i ∧ es = ds ∧ k < Γ.length) ∨ (k ≠ i ∧ Own Γ k es) := fun k es o => by
    by_cases e : k = i
    · subst e
      by_cases hl : k < Γ.length
      · rcases o with o | o
        · rw [List.getElem?_set_self hl] at o; cases o; exact .inl ⟨rfl, rfl, hl⟩
        · rw [List.getElem?_set_self hl] at o; cases o
      · rcases o with o | o <;> (rw [List.getElem?_eq_none (by simpa using hl)] at o; cases o)
    · refine .inr ⟨e, ?_⟩
      unfold Own at o ⊢
      rwa [List.getElem?_set_ne (Ne.symm e)] at o
  refine ⟨by simp [E.len], E.gh, E.g0, E.h0, E.bh, E.f0, E.nn, fun k e hk => ?_, fun k es o => ?_, fun k es o => ?_, fun k es o => ?_, fun k es o => ?_, fun k m q es fs o1 o2 h1 h2 => ?_⟩
  · have z : k ≠ i := fun z => by
      subst z
      by_cases hl : k < Γ.length
      · rw [List.getElem?_set_self hl] at hk; cases hk
      · rw [List.getElem?_eq_none (by simpa using hl)] at hk; cases hk
    rw [List.getElem?_set_ne (Ne.symm z)] at hk ⊢
    exact E.dat k e hk
  · rcases own_ne k es o with ⟨z, e, hl⟩ | ⟨z, o⟩
    · subst z e
      exact ⟨p, vs, List.getElem?_set_self (by rw [E.len]; exact hl), gp, hp, da, .inr bp⟩
    · rw [List.getElem?_set_ne (Ne.symm z)]
      exact E.mine k es o
  · rcases own_ne k es (.inl o) with ⟨z, e, hl⟩ | ⟨z, _⟩
    · subst z e
      exact ⟨p, List.getElem?_set_self (by rw [E.len]; exact hl), np⟩
    · rw [List.getElem?_set_ne (Ne.symm z)] at o ⊢
      exact E.new k es o
  · rcases own_ne k es (.inr o) with ⟨z, e, hl⟩ | ⟨z, _⟩
    · subst z
      rw [List.getElem?_set_self hl] at o; cases o
    · rw [List.getElem?_set_ne (Ne.symm z)] at o ⊢
      exact E.par k es o
  · have z : k ≠ i := fun z => by
      subst z
      by_cases hl : k < Γ.length
      · rw [List.getElem?_set_self hl] at o; cases o
      · rw [List.getElem?_eq_none (by simpa using hl)] at o; cases o
    rw [List.getElem?_set_ne (Ne.symm z)] at o ⊢
    exact E.scr k es o
  · rcases own_ne k es o1 with ⟨z1, e1, l1⟩ | ⟨z1, o4⟩
    · rcases own_ne m fs o2 with ⟨z2, e2, l2⟩ | ⟨z2, o3⟩
      · exact z1.trans z2.symm
      · exfalso
        subst z1
        rw [List.getElem?_set_self (by rw [E.len]; exact l1)] at h1
        cases h1
        rw [List.getElem?_set_ne (Ne.symm z2)] at h2
        exact ho m fs o3 h2
    · rcases own_ne m fs o2 with ⟨z2, e2, l2⟩ | ⟨z2, o3⟩
      · exfalso
        subst z2
        rw [List.getElem?_set_self (by rw [E.len]; exact l2)] at h2
        cases h2
        rw [List.getElem?_set_ne (Ne.symm z1)] at h1
        exact ho k es o4 h1
      · rw [List.getElem?_set_ne (Ne.symm z1)] at h1
        rw [List.getElem?_set_ne (Ne.symm z2)] at h2
        exact E.inj k m q es fs o4 o3 h1 h2
@[simp] def wAsg (i : Nat) (Wa : WE) : WS := fun D Γ => Wa Γ fun d Γ1 => D.nx (Γ1.set i (.dat d))
theorem rs_asg {t : TE} {i : Nat} (r : RE K t Wa) : RS K Wx (tAsg t (gName i)) (wAsg i Wa) := by
  intro B Γ σ H G D D' E w l
  exact r B Γ σ H G _ _ E w fun v H1 G1 d Γ1 E1 s1 k1 d1 w1 => l.nx _ H1 G1 _ (E1.setDat i d1) s1 w1
theorem ds_set {i : Nat} {x : Str} {pos' : Pos} (hN : X.N.Nodup) (hi : X.N[i]? = some x) (hx : Loc X.env.scope x) (h : DE X e Wa) (hs : swapsWith e (some (.Name x pos')) pos.line X.env = pure false := by rfl) (hf : X.fn x = true ∨ X.env.scope.names.lookup x = some .local := by first | exact .inl rfl | exact .inr rfl | assumption) :
    DS X (.Assign [.Name x pos'] e pos) (wAsg i Wa) := by
  obtain ⟨t, p, r⟩ := h.ex
  exact ⟨_, ps_set hN hi hx p hs hf, rs_asg r⟩
@[simp] def wAsgL (i : Nat) (Wr : WA) : WS := fun D Γ => Wr Γ fun ds Γ1 => D.nx (Γ1.set i (.own ds))
theorem rs_asgL {t : TE} {i : Nat} (r : RN K t Wr) : RS K Wx (tAsg t (gName i)) (wAsgL i Wr) := by
  intro B Γ σ H G D D' E w l
  exact r B Γ σ H G _ _ E w fun p vs H1 G1 ds Γ1 E1 s1 k1 g1 h1 d1 b1 n1 o1 w1 => l.nx _ H1 G1 _ (E1.setOwnNew i g1 h1 d1 b1 n1 o1) s1 w1
theorem ds_setL {i : Nat} {x : Str} {pos' : Pos} (hN : X.N.Nodup) (hi : X.N[i]? = some x) (hx : Loc X.env.scope x) (h : DN X e Wr) (hs : swapsWith e (some (.Name x pos')) pos.line X.env = pure false := by rfl) (hf : X.fn x = true ∨ X.env.scope.names.lookup x = some .local := by first | exact .inl rfl | exact .inr rfl | assumption) :
    DS X (.Assign [.Name x pos'] e pos) (wAsgL i Wr) := by
  obtain ⟨t, p, r⟩ := h.ex
  exact ⟨_, ps_set hN hi hx p hs hf, rs_asgL r⟩
/-- x += e, ints -/
@[simp] def wAug (i : Nat) (g : Int → Int → Int) (Wa : WE) : WS := fun D Γ => match Γ[i]? with
  | some (.dat (.int a)) => Wa Γ fun d Γ1 => match d with
    | .int b => D.nx (Γ1.set i (.dat (.int (g a b))))
    | _ => False
  | _ => False
theorem ds_aug {i : Nat} {x : Str} {op : Operator} {g : Int → Int → Int} {pos' : Pos} (hN : X.N.Nodup) (hi : X.N[i]? = some x) (hx : Loc X.env.scope x) (h : DE X e Wa) (ho : PIp X op (ipI g)) (hf : X.fn x = true ∨ X.env.scope.names.lookup x = some .local := by first | exact .inl rfl | exact .inr rfl | assumption) :
    DS X (.AugAssign (.Name x pos') op e pos) (wAug i g Wa) := by
  obtain ⟨t, p, r⟩ := h.ex
  refine ⟨_, ps_aug hN hi hx p ho hf, ?_⟩
  intro B Γ σ H G D D' E w l
  unfold wAug at w
  split at w
  · rename_i a q
    obtain ⟨v, h1, h2⟩ := E.dat i _ q
    cases h2
    refine ⟨_, h1, ?_⟩
    refine r B Γ σ H G _ _ E w fun v H1 G1 d Γ1 E1 s1 k1 d1 w1 => ?_
    cases d1 with
    | int b => exact ⟨a, b, rfl, rfl, l.nx _ H1 G1 _ (E1.setDat i (.int _)) s1 w1⟩
    | _ => exact w1.elim
  · exact w.elim
/-- xs.append(e) -/
@[simp] def wApp (j : Nat) (Wa : WE) : WS := fun D Γ => (ownAt Γ j).isSome = true ∧ Wa Γ fun d Γ1 => match ownAt Γ1 j with
  | some ds => ds.length < sizeLine ∧ D.nx (setOwn Γ1 j (ds ++ [d]))
  | none => False
theorem ds_app (j : Nat) {x : Str} {p apos cpos : Pos} {t0 : TE} (h : PE X (.Name x p) (tVar j)) (he : DE X e Wa)
    (hb : ∀ {t : TE}, PE X e t → PE X (.Call (.Attribute (.Name x p) "append" apos) [e] [] cpos) (tBM X.K "list" rAppend (tVar j) (tCons t tNil))) (hs : swapsWith (.Call (.Attribute (.Name x p) "append" apos) [e] [] cpos) none pos.line X.env = pure false := by rfl) :
    DS X (.Expr (.Call (.Attribute (.Name x p) "append" apos) [e] [] cpos) pos) (wApp j Wa) := by
  obtain ⟨t, pe, r⟩ := he.ex
  refine ⟨_, ps_expr (hb pe) hs, ?_⟩
  intro B Γ σ H G D D' E w l
  obtain ⟨w0, w⟩ := w
  cases q : ownAt Γ j with
  | none => rw [q] at w0; cases w0
  | some ds0 =>
    obtain ⟨p, vs, h1, h2, h3, h4, h5⟩ := E.mine j ds0 (own_of q)
    refine ⟨_, h1, .inl ⟨rfl, vs, SqL.of h3⟩, ?_⟩
    refine r B Γ σ H G _ _ E w fun v H1 G1 d Γ1 E1 s1 k1 d1 w1 => ?_
    cases q1 : ownAt Γ1 j with
    | none => rw [q1] at w1; exact w1.elim
    | some ds =>
      rw [q1] at w1
      obtain ⟨p', vs', g1, g2, g3, g4, g5⟩ := E1.mine j ds (own_of q1)
      rw [h1] at g1
      cases g1
      refine ⟨p, vs', v, rfl, rfl, g3, by rw [g4.length]; exact w1.1, ?_⟩
      exact l.nx σ _ G1 _ (E1.wrote (own_of q1) h1 (g4.app (.cons d1 .nil))) s1 w1.2
/-- xs[i] = e -/
@[simp] def wSetI (j : Nat) (Wi We : WE) : WS := fun D Γ => We Γ fun d Γ1 => (ownAt Γ1 j).isSome = true ∧ Wi Γ1 fun i Γ2 => match i, ownAt Γ2 j with
  | .int i, some ds => optD (ixN ds.length i) fun k => D.nx (setOwn Γ2 j (ds.set k d))
  | _, _ => False
theorem ds_setI (j : Nat) {x : Str} {p tpos : Pos} (h : PE X (.Name x p) (tVar j)) (hi : DE X a Wa) (he : DE X e Wb)
    (ha : ∀ v, assign (.Subscript (.Name x p) a tpos) X.env v = (do
      let ov ← holding [v] (eval (.Name x p) X.env)
      let iv ← holding [v, ov] (eval a X.env)
      standAt tpos
      holding [v, ov, iv] (setItem ov iv v)
      release [v, ov, iv] []) := by intro _; rfl) (hs : swapsWithSole [.Subscript (.Name x p) a tpos] e pos.line X.env = pure false := by rfl) (hw : swappedStores [.Subscript (.Name x p) a tpos] e X.env = pure none := by rfl)
    (h1 : (assignEach [.Subscript (.Name x p) a tpos] X.env).map (·.2) = [assign (.Subscript (.Name x p) a tpos) X.env] := by rfl) :
    DS X (.Assign [.Subscript (.Name x p) a tpos] e pos) (wSetI j Wa Wb) := by
  obtain ⟨ti, pi, ri⟩ := hi.ex
  obtain ⟨te, pe, re⟩ := he.ex
  refine ⟨_, ps_asg pe (pg_sub h pi set_list ha) hs hw h1, ?_⟩
  intro B Γ σ H G D D' E w l
  refine re B Γ σ H G _ _ E w fun v H1 G1 d Γ1 E1 s1 k1 d1 w1 => ?_
  obtain ⟨w0, w1⟩ := w1
  cases q : ownAt Γ1 j with
  | none => rw [q] at w0; cases w0
  | some ds0 =>
    obtain ⟨p, vs, h1, h2, h3, h4, h5⟩ := E1.mine j ds0 (own_of q)
    refine ⟨_, h1, ?_⟩
    refine ri B Γ1 σ H1 G1 _ _ E1 w1 fun u H2 G2 i Γ2 E2 s2 k2 d2 w2 => ?_
    cases d2 with
    | int i =>
      cases q1 : ownAt Γ2 j with
      | none =>
        simp only [q1] at w2
      | some ds =>
        simp only [q1] at w2
        obtain ⟨k, hk, w3⟩ := w2
        obtain ⟨p', vs', g1, g2, g3, g4, g5⟩ := E2.mine j ds (own_of q1)
        rw [h1] at g1
        cases g1
        refine ⟨p, vs', i, k, rfl, rfl, g3, by rw [g4.length]; exact hk, ?_⟩
        exact l.nx σ _ G2 _ (E2.wrote (own_of q1) h1 (g4.set k (d1.mono s2))) (s1.trans s2) w3
    | _ => exact w2.elim
end
end DL

namespace DL
open PySem PySem.Spec PyProof.Rows L2
section
variable {X : Cx} {K : PySem.W.Frag} {a b c e : Expr} {es : List Expr} {Wa Wb Wc : WE} {Wr : WA} {pos : Pos} {WT' : WT}
/-! ## calls -/
inductive OpsV (K : PySem.W.Frag) (σ : L2.St) (G : Hp) : List V → List Opd → Prop
  | nil : OpsV K σ G [] []
  | cons {v : V} {vs : List V} {o : Opd} {os : List Opd} : OpV K σ G v o → OpsV K σ G vs os → OpsV K σ G (v :: vs) (o :: os)
theorem OpsV.mono {σ : L2.St} {G G' : Hp} (s : Same G G') : ∀ {vs : List V} {os : List Opd}, OpsV K σ G vs os → OpsV K σ G' vs os
  | _, _, .nil => .nil
  | _, _, .cons h t => .cons (h.mono s) (OpsV.mono s t)
theorem OpsV.length {σ : L2.St} {G : Hp} : ∀ {vs : List V} {os : List Opd}, OpsV K σ G vs os → vs.length = os.length
  | _, _, .nil => rfl
  | _, _, .cons _ t => congrArg Nat.succ (OpsV.length t)
theorem OpsV.get {σ : L2.St} {G : Hp} : ∀ {vs : List V} {os : List Opd} {i : Nat} {o : Opd}, OpsV K σ G vs os → os[i]? = some o → ∃ v, vs[i]? = some v ∧ OpV K σ G v o
  | _, _, _, _, .nil, h => by simp at h
  | _, _, 0, _, .cons (v := v) h t, e => by
    simp at e; subst e; exact ⟨v, by simp, h⟩
  | _, _, i + 1, _, .cons h t, e => by
    obtain ⟨v, h1, h2⟩ := OpsV.get (i := i) t (by simpa using e)
    exact ⟨v, by simpa using h1, h2⟩
abbrev WPA := Gam → (List Opd → Gam → Prop) → Prop
def RPA (K : PySem.W.Frag) (t : TA) (W : WPA) : Prop :=
  ∀ (B : Bs) (Γ : Gam) (σ : L2.St) (H G : Hp) (Q : List Opd → Gam → Prop) (Q' : List V → Hp → Prop), En K B σ H G Γ → W Γ Q →
    (∀ vs H' G' os Γ', En K B σ H' G' Γ' → Same G G' → KS Γ Γ' → OpsV K σ G' vs os → Q os Γ' → Q' vs H') → t σ H Q'
structure DPA (X : Cx) (es : List Expr) (W : WPA) : Prop where
  ex : ∃ t, PA X es t ∧ RPA X.K t W
@[simp] def wPNil : WPA := fun Γ Q => Q [] Γ
@[simp] def wPCons (Wo : WP) (Wr : WPA) : WPA := fun Γ Q => Wo Γ fun o Γ1 => Wr Γ1 fun os Γ2 => Q (o :: os) Γ2
theorem dpa_nil : DPA X [] wPNil := ⟨_, pa_nil, by
  intro B Γ σ H G Q Q' E w k
  exact k [] H G [] Γ E (Same.refl _) (KS.refl _) .nil w⟩
theorem dpa_cons {Wo : WP} {Wr : WPA} (h : DP X e Wo) (h' : DPA X es Wr) (hs : starEach (e :: es) X.env = (false, eval e X.env) :: starEach es X.env := by rfl) : DPA X (e :: es) (wPCons Wo Wr) := by
  obtain ⟨t, p, r⟩ := h.ex
  obtain ⟨t', p', r'⟩ := h'.ex
  refine ⟨_, pa_cons p p' hs, ?_⟩
  intro B Γ σ H G Q Q' E w k
  refine r B Γ σ H G _ _ E w fun v H1 G1 o Γ1 E1 s1 k1 o1 w1 => ?_
  refine r' B Γ1 σ H1 G1 _ _ E1 w1 fun vs H2 G2 os Γ2 E2 s2 k2 o2 w2 => ?_
  exact k (v :: vs) H2 G2 (o :: os) Γ2 E2 (s1.trans s2) (k1.trans k2) (.cons (o1.mono s2) o2) w2
@[simp] def argsOf (Γ : Gam) : List Opd → Option (List Sl)
  | [] => some []
  | .dat d :: os => match argsOf Γ os with
    | some r => some (.dat d :: r)
    | none => none
  | .var j :: os => match Γ[j]? with
    | some (.own ds) => (match argsOf Γ os with
      | some r => some (.par ds :: r)
      | none => none)
    | some (.par ds) => (match argsOf Γ os with
      | some r => some (.par ds :: r)
      | none => none)
    | some (.scr ds) => (match argsOf Γ os with
      | some r => some (.scr ds :: r)
      | none => none)
    | _ => none
@[simp] def putB (Γ : Gam) : List Opd → List Sl → Gam
  | .var j :: os, .par ds :: as => putB (setOwn Γ j ds) os as
  | _ :: os, _ :: as => putB Γ os as
  | _, _ => Γ
@[simp] def varsOf : List Opd → List Nat
  | [] => []
  | .dat _ :: os => varsOf os
  | .var j :: os => j :: varsOf os
theorem mem_varsOf : ∀ {os : List Opd} {i j : Nat}, os[i]? = some (Opd.var j) → j ∈ varsOf os
  | [], _, _, h => by simp at h
  | .dat _ :: os, 0, _, h => by simp at h
  | .var k :: os, 0, _, h => by
    simp at h; subst h; exact List.mem_cons_self
  | .dat _ :: os, i + 1, _, h => mem_varsOf (os := os) (i := i) (by simpa using h)
  | .var k :: os, i + 1, _, h => List.mem_cons_of_mem _ (mem_varsOf (os := os) (i := i) (by simpa using h))
theorem vars_inj : ∀ {os : List Opd} {i k j : Nat}, (varsOf os).Nodup → os[i]? = some (Opd.var j) → os[k]? = some (Opd.var j) → i = k
  | [], _, _, _, _, h, _ => by simp at h
  | .dat _ :: os, 0, _, _, _, h, _ => by simp at h
  | .dat _ :: os, _ + 1, 0, _, _, _, h => by simp at h
  | .dat _ :: os, i + 1, k + 1, _, n, h, h' => congrArg Nat.succ (vars_inj (os := os) n (by simpa using h) (by simpa using h'))
  | .var _ :: os, 0, 0, _, _, _, _ => rfl
  | .var m :: os, 0, k + 1, _, n, h, h' => by
    simp at h; subst h
    exact absurd (mem_varsOf (os := os) (i := k) (by simpa using h')) (List.nodup_cons.mp n).1
  | .var m :: os, i + 1, 0, _, n, h, h' => by
    simp at h'; subst h'
    exact absurd (mem_varsOf (os := os) (i := i) (by simpa using h)) (List.nodup_cons.mp n).1
  | .var m :: os, i + 1, k + 1, _, n, h, h' => congrArg Nat.succ (vars_inj (os := os) (List.nodup_cons.mp n).2 (by simpa using h) (by simpa using h'))
theorem argsOf_at {Γ : Gam} : ∀ {os : List Opd} {as : List Sl}, argsOf Γ os = some as → os.length = as.length ∧ ∀ (i : Nat) s, as[i]? = some s → (∃ d, s = .dat d ∧ os[i]? = some (Opd.dat d)) ∨ (∃ ds j, s = .par ds ∧ os[i]? = some (Opd.var j) ∧ Own Γ j ds) ∨ ∃ ds j, s = .scr ds ∧ os[i]? = some (Opd.var j) ∧ Γ[j]? = some (Sl.scr ds)
  | [], as, h => by
    cases h
    exact ⟨rfl, fun i s e => by simp at e⟩
  | .dat d :: os, as, h => by
    unfold argsOf at h
    cases q : argsOf Γ os with
    | none => rw [q] at h; cases h
    | some r =>
      rw [q] at h
      cases h
      obtain ⟨l, at'⟩ := argsOf_at q
      refine ⟨congrArg Nat.succ l, fun i s e => ?_⟩
      cases i with
      | zero => simp at e; subst e; exact .inl ⟨d, rfl, by simp⟩
      | succ i => simpa using at' i s (by simpa using e)
  | .var j :: os, as, h => by
    unfold argsOf at h
    have key : ∀ s0 : Sl, ((∃ ds, s0 = .par ds ∧ Own Γ j ds) ∨ ∃ ds, s0 = .scr ds ∧ Γ[j]? = some (Sl.scr ds)) → (match argsOf Γ os with
      | some r => some (s0 :: r)
      | none => none) = some as → (Opd.var j :: os).length = as.length ∧ ∀ (i : Nat) s, as[i]? = some s → (∃ d, s = .dat d ∧ (Opd.var j :: os)[i]? = some (Opd.dat d)) ∨ (∃ ds k, s = .par ds ∧ (Opd.var j :: os)[i]? = some (Opd.var k) ∧ Own Γ k ds) ∨ ∃ ds k, s = .scr ds ∧ (Opd.var j :: os)[i]? = some (Opd.var k) ∧ Γ[k]? = some (Sl.scr ds) := by
      intro s0 hs h
      cases q : argsOf Γ os with
      | none => simp only [q] at h; cases h
      | some r =>
        simp only [q] at h
        cases h
        obtain ⟨l, at'⟩ := argsOf_at q
        refine ⟨congrArg Nat.succ l, fun i s e => ?_⟩
        cases i with
        | zero =>
          simp at e
          subst e
          rcases hs with ⟨ds, e, o⟩ | ⟨ds, e, o⟩
          · exact .inr (.inl ⟨ds, j, e, by simp, o⟩)
          · exact .inr (.inr ⟨ds, j, e, by simp, o⟩)
        | succ i => simpa using at' i s (by simpa using e)
    split at h
    · rename_i ds q1; exact key (.par ds) (.inl ⟨ds, rfl, .inl q1⟩) h
    · rename_i ds q1; exact key (.par ds) (.inl ⟨ds, rfl, .inr q1⟩) h
    · rename_i ds q1; exact key (.scr ds) (.inr ⟨ds, rfl, q1⟩) h
    · cases h
theorem putB_KS : ∀ {os : List Opd} {as : List Sl} {Γ : Gam}, KS Γ (putB Γ os as)
  | .var j :: os, .par ds :: as, Γ => setOwn_KS.trans (putB_KS (os := os) (as := as))
  | .dat _ :: os, _ :: as, Γ => putB_KS (os := os) (as := as)
  | .var j :: os, .un :: as, Γ => putB_KS (os := os) (as := as)
  | .var j :: os, .dat _ :: as, Γ => putB_KS (os := os) (as := as)
  | .var j :: os, .own _ :: as, Γ => putB_KS (os := os) (as := as)
  | .var j :: os, .scr _ :: as, Γ => putB_KS (os := os) (as := as)
  | [], _, Γ => by unfold putB; exact KS.refl _
  | .dat _ :: os, [], Γ => by unfold putB; exact KS.refl _
  | .var _ :: os, [], Γ => by unfold putB; exact KS.refl _
theorem putB_own : ∀ {os : List Opd} {as : List Sl} {Γ : Gam} {i : Nat} {es : List PyData}, Own (putB Γ os as) i es →
    (∃ k : Nat, os[k]? = some (Opd.var i) ∧ as[k]? = some (Sl.par es)) ∨ (Own Γ i es ∧ ∀ (k : Nat) ds, os[k]? = some (Opd.var i) → as[k]? ≠ some (Sl.par ds))
  | [], as, Γ, i, es, h => by
    unfold putB at h
    exact .inr ⟨h, fun k ds e => by simp at e⟩
  | .dat _ :: os, [], Γ, i, es, h => by
    unfold putB at h
    exact .inr ⟨h, fun k ds e e' => by simp at e'⟩
  | .var _ :: os, [], Γ, i, es, h => by
    unfold putB at h
    exact .inr ⟨h, fun k ds e e' => by simp at e'⟩
  | .dat d :: os, s :: as, Γ, i, es, h => by
    rcases putB_own (os := os) (as := as) (Γ := Γ) (by simpa [putB] using h) with ⟨k, h1, h2⟩ | ⟨h1, h2⟩
    · exact .inl ⟨k + 1, by simpa using h1, by simpa using h2⟩
    · refine .inr ⟨h1, fun k ds e => ?_⟩
      cases k with
      | zero => simp at e
      | succ k => simpa using h2 k ds (by simpa using e)
  | .var j :: os, .par ds :: as, Γ, i, es, h => by
    rcases putB_own (os := os) (as := as) (Γ := setOwn Γ j ds) (by simpa [putB] using h) with ⟨k, h1, h2⟩ | ⟨h1, h2⟩
    · exact .inl ⟨k + 1, by simpa using h1, by simpa using h2⟩
    · by_cases e : i = j
      · subst e
        have : es = ds := by
          rcases h1 with h1 | h1
          · obtain ⟨x, hx⟩ := (setOwn_KS (Γ := Γ) (j := i) (ds := ds)).ownB h1
            rw [setOwn_own hx] at h1; cases h1; rfl
          · obtain ⟨x, hx⟩ := (setOwn_KS (Γ := Γ) (j := i) (ds := ds)).parB h1
            rw [setOwn_par hx] at h1; cases h1; rfl
        subst this
        exact .inl ⟨0, by simp, by simp⟩
      · refine .inr ⟨?_, fun k ds' e' => ?_⟩
        · unfold Own at h1 ⊢
          rwa [setOwn_ne e] at h1
        · cases k with
          | zero => simp at e'; exact absurd e'.symm e
          | succ k => simpa using h2 k ds' (by simpa using e')
  | .var j :: os, .un :: as, Γ, i, es, h => by
    rcases putB_own (os := os) (as := as) (Γ := Γ) (by simpa [putB] using h) with ⟨k, h1, h2⟩ | ⟨h1, h2⟩
    · exact .inl ⟨k + 1, by simpa using h1, by simpa using h2⟩
    · refine .inr ⟨h1, fun k ds e => ?_⟩
      cases k with
      | zero => simp
      | succ k => simpa using h2 k ds (by simpa using e)
  | .var j :: os, .dat _ :: as, Γ, i, es, h => by
    rcases putB_own (os := os) (as := as) (Γ := Γ) (by simpa [putB] using h) with ⟨k, h1, h2⟩ | ⟨h1, h2⟩
    · exact .inl ⟨k + 1, by simpa using h1, by simpa using h2⟩
    · refine .inr ⟨h1, fun k ds e => ?_⟩
      cases k with
      | zero => simp
      | succ k => simpa using h2 k ds (by simpa using e)
  | .var j :: os, .own _ :: as, Γ, i, es, h => by
    rcases putB_own (os := os) (as := as) (Γ := Γ) (by simpa [putB] using h) with ⟨k, h1, h2⟩ | ⟨h1, h2⟩
    · exact .inl ⟨k + 1, by simpa using h1, by simpa using h2⟩
    · refine .inr ⟨h1, fun k ds e => ?_⟩
      cases k with
      | zero => simp
      | succ k => simpa using h2 k ds (by simpa using e)
  | .var j :: os, .scr _ :: as, Γ, i, es, h => by
    rcases putB_own (os := os) (as := as) (Γ := Γ) (by simpa [putB] using h) with ⟨k, h1, h2⟩ | ⟨h1, h2⟩
    · exact .inl ⟨k + 1, by simpa using h1, by simpa using h2⟩
    · refine .inr ⟨h1, fun k ds e => ?_⟩
      cases k with
      | zero => simp
      | succ k => simpa using h2 k ds (by simpa using e)
theorem KS.parF {Γ Γ' : Gam} (h : KS Γ Γ') {i : Nat} {ds : List PyData} (o : Γ[i]? = some (Sl.par ds)) : ∃ es, Γ'[i]? = some (Sl.par es) := by
  have li : i < Γ'.length := by
    have := (List.getElem?_eq_some_iff.mp o).1
    rw [← h.len]; exact this
  have hy : Γ'[i]? = some Γ'[i] := List.getElem?_eq_getElem li
  have k := h.at' i _ _ o hy
  cases e : Γ'[i] with
  | par es => exact ⟨es, by rw [hy, e]⟩
  | un => rw [e] at k; exact k.elim
  | dat _ => rw [e] at k; exact k.elim
  | own _ => rw [e] at k; exact k.elim
  | scr _ => rw [e] at k; exact k.elim
theorem KS.scrB {Γ Γ' : Gam} (h : KS Γ Γ') {i : Nat} {d : List PyData} (o : Γ'[i]? = some (Sl.scr d)) : Γ[i]? = some (Sl.scr d) := by
  have li : i < Γ.length := by
    have := (List.getElem?_eq_some_iff.mp o).1
    rw [h.len]; exact this
  have hy : Γ[i]? = some Γ[i] := List.getElem?_eq_getElem li
  have k := h.at' i _ _ hy o
  cases e : Γ[i] with
  | scr d' => rw [e] at k; have k : d' = d := k; rw [hy, e, k]
  | un => rw [e] at k; exact k.elim
  | par _ => rw [e] at k; exact k.elim
  | own _ => rw [e] at k; exact k.elim
  | dat _ => rw [e] at k; exact k.elim
theorem KS.datB {Γ Γ' : Gam} (h : KS Γ Γ') {i : Nat} {d : PyData} (o : Γ'[i]? = some (Sl.dat d)) : Γ[i]? = some (Sl.dat d) := by
  have li : i < Γ.length := by
    have := (List.getElem?_eq_some_iff.mp o).1
    rw [h.len]; exact this
  have hy : Γ[i]? = some Γ[i] := List.getElem?_eq_getElem li
  have k := h.at' i _ _ hy o
  cases e : Γ[i] with
  | dat d' => rw [e] at k; have k : d' = d := k; rw [hy, e, k]
  | un => rw [e] at k; exact k.elim
  | par _ => rw [e] at k; exact k.elim
  | own _ => rw [e] at k; exact k.elim
  | scr _ => rw [e] at k; exact k.elim
/-- the frame behind a call -/
theorem En.called {B : Bs} {σ : L2.St} {H G H' G' : Hp} {Γ : Gam} {os : List Opd} {vs : List V} {as as' : List Sl} {v : V} {r : Rs} (E : En K B σ H G Γ) (ho : OpsV K σ G vs os) (ha : argsOf Γ os = some as) (hn : (varsOf os).Nodup)
    (Po : PostV K G H vs as G' H' as' v r) : En K B σ H' G' (putB Γ os as') := by
  obtain ⟨hl, hat⟩ := argsOf_at ha
  have ks : KS Γ (putB Γ os as') := putB_KS
  -- an argument that is one's own list stands in its slot
  have arg : ∀ (k : Nat) ds p, as[k]? = some (Sl.par ds) → vs[k]? = some (V.ref p) → ∃ j, os[k]? = some (Opd.var j) ∧ Own Γ j ds ∧ σ[j]? = some (some (V.ref p)) := fun k ds p h1 h2 => by
    rcases hat k _ h1 with ⟨d, e, _⟩ | ⟨ds', j, e, h3, h4⟩ | ⟨_, _, e, _⟩
    · cases e
    · cases e
      obtain ⟨u, h5, h6⟩ := ho.get h3
      rw [h2] at h5
      cases h5
      exact ⟨j, h3, h4, h6⟩
    · cases e
  have keep : ∀ q o, H q = some o → (∀ (i : Nat) ds, Own Γ i ds → σ[i]? = some (some (V.ref q)) → ∀ k : Nat, os[k]? ≠ some (Opd.var i)) → H' q = some o := fun q o h h' => by
    refine Po.keep q o h fun k ds h1 h2 => ?_
    obtain ⟨j, h3, h4, h5⟩ := arg k ds q h1 h2
    exact h' j ds h4 h5 k h3
  refine ⟨by rw [← ks.len]; exact E.len, Po.gh, E.g0.trans Po.gg, fun q o h hP => ?_, fun q h => Po.alloc q (E.bh q h), fun q h h' => Po.free q (E.bh q h) (E.f0 q h h'), fun q h => E.nn q ?_, fun i d h => ?_, fun i es ow => ?_, fun i es ow => ?_, fun i es ow => ?_, fun i es ow => E.scrG Po.gg i es (ks.scrB ow), fun i j p ds es o1 o2 h1 h2 => ?_⟩
  · refine keep q o (E.h0 q o h hP) fun i ds ow hs k _ => ?_
    obtain ⟨p, us, g1, g2, g3, g4, g5⟩ := E.mine i ds ow
    rw [hs] at g1
    cases g1
    rcases g5 with g5 | g5
    · exact hP g5
    · rw [h] at g5; cases g5
  · cases q1 : H q with
    | none => rfl
    | some u => exact absurd h (Po.alloc q (by rw [q1]; exact fun z => by cases z))
  · obtain ⟨u, h1, h2⟩ := E.dat i d (ks.datB h)
    exact ⟨u, h1, h2.mono Po.gg⟩
  · obtain ⟨es0, o0⟩ := ks.mineB ow
    obtain ⟨p, us, g1, g2, g3, g4, g5⟩ := E.mine i es0 o0
    have gp : G' p = none := Po.free p (by rw [g3]; exact fun z => by cases z) g2
    rcases putB_own ow with ⟨k, h1, h2⟩ | ⟨h1, h2⟩
    · obtain ⟨p', us', h3, h4, h5⟩ := Po.par k es h2
      obtain ⟨u, h6, h7⟩ := ho.get h1
      have h7 : σ[i]? = some (some u) := h7
      rw [h3] at h6
      cases h6
      rw [g1] at h7
      cases h7
      exact ⟨p, us', g1, gp, h4, h5, g5⟩
    · obtain ⟨p2, us2, f1, f2, f3, f4, f5⟩ := E.mine i es h1
      rw [g1] at f1
      cases f1
      refine ⟨p, us2, g1, gp, keep p _ f3 fun j ds oj hj k hk => ?_, f4.mono Po.gg, g5⟩
      have e := E.inj j i p ds es0 oj o0 hj g1
      subst e
      -- os[k] is this slot; then as'[k] is a list
      have lk : k < as.length := by
        have := (List.getElem?_eq_some_iff.mp hk).1
        omega
      have hk2 : as[k]? = some as[k] := List.getElem?_eq_getElem lk
      rcases hat k _ hk2 with ⟨d, e1, e2⟩ | ⟨ds', j', e1, e2, e3⟩ | ⟨ds', j', e1, e2, e3⟩
      · rw [hk] at e2; cases e2
      · rw [e1] at hk2
        obtain ⟨es', h8⟩ := Po.ks.parF hk2
        exact h2 k es' hk h8
      · rw [hk] at e2
        cases e2
        rcases o0 with o0 | o0 <;> (rw [e3] at o0; cases o0)
  · obtain ⟨es0, o0⟩ := ks.ownB ow
    exact E.new i es0 o0
  · obtain ⟨es0, o0⟩ := ks.parB ow
    exact E.par i es0 o0
  · obtain ⟨x, w1⟩ := ks.mineB o1
    obtain ⟨y, w2⟩ := ks.mineB o2
    exact E.inj i j p x y w1 w2 h1 h2
theorem argsV_of {B : Bs} {σ : L2.St} {H G : Hp} {Γ : Gam} {os : List Opd} {vs : List V} {as : List Sl} (E : En K B σ H G Γ) (ho : OpsV K σ G vs os) (ha : argsOf Γ os = some as) (hn : (varsOf os).Nodup) : ArgsV K G H vs as := by
  obtain ⟨hl, hat⟩ := argsOf_at ha
  have arg : ∀ (k : Nat) ds, as[k]? = some (Sl.par ds) → ∃ j p, os[k]? = some (Opd.var j) ∧ Own Γ j ds ∧ vs[k]? = some (V.ref p) ∧ σ[j]? = some (some (V.ref p)) := fun k ds h1 => by
    rcases hat k _ h1 with ⟨d, e, _⟩ | ⟨ds', j, e, h3, h4⟩ | ⟨_, _, e, _⟩
    · cases e
    · cases e
      obtain ⟨u, h5, h6⟩ := ho.get h3
      obtain ⟨p, us, g1, _⟩ := E.mine j ds h4
      have h6 : σ[j]? = some (some u) := h6
      rw [g1] at h6
      cases h6
      exact ⟨j, p, h3, h4, h5, g1⟩
    · cases e
  refine ⟨by rw [ho.length, hl], fun i d h => ?_, fun i ds h => ?_, fun i ds h => ?_, fun i s h => ?_, fun i j p ds es h1 h2 h3 h4 => ?_⟩
  · rcases hat i _ h with ⟨d', e, h1⟩ | ⟨_, _, e, _⟩ | ⟨_, _, e, _⟩
    · cases e
      obtain ⟨u, h2, h3⟩ := ho.get h1
      exact ⟨u, h2, h3⟩
    · cases e
    · cases e
  · obtain ⟨j, p, h1, h2, h3, h4⟩ := arg i ds h
    obtain ⟨p', us, g1, g2, g3, g4, g5⟩ := E.mine j ds h2
    rw [h4] at g1
    cases g1
    exact ⟨p, us, h3, g2, g3, g4⟩
  · rcases hat i _ h with ⟨_, e, _⟩ | ⟨_, _, e, _⟩ | ⟨ds', j, e, h1, h2⟩
    · cases e
    · cases e
    · cases e
      obtain ⟨p, us, g1, g2, g3⟩ := E.scr j ds h2
      obtain ⟨u, h3, h4⟩ := ho.get h1
      have h4 : σ[j]? = some (some u) := h4
      rw [g1] at h4
      cases h4
      exact ⟨p, us, h3, g2, g3⟩
  · rcases hat i _ h with ⟨d', e, h1⟩ | ⟨ds, _, e, _⟩ | ⟨ds, _, e, _⟩
    · exact .inl ⟨d', e⟩
    · exact .inr (.inl ⟨ds, e⟩)
    · exact .inr (.inr ⟨ds, e⟩)
  · obtain ⟨a, p1, h5, h6, h7, h8⟩ := arg i ds h1
    obtain ⟨b, p2, g5, g6, g7, g8⟩ := arg j es h2
    rw [h3] at h7
    cases h7
    rw [h4] at g7
    cases g7
    have e := E.inj a b p ds es h6 g6 h8 g8
    subst e
    exact vars_inj hn h5 g5
/-! a call whose result is data -/
@[simp] def wCall (S : PSp) (Wr : WPA) : WE := fun Γ Q => Wr Γ fun os Γ1 => match argsOf Γ1 os with
  | some as => (varsOf os).Nodup ∧ S as fun r as' => match r with
    | .dat d => Q d (putB Γ1 os as')
    | .new ds => Q (.list ds) (putB Γ1 os as')
  | none => False
theorem re_call {S : PSp} {E0' : XK} {t : TA} {Wr : WPA} (r : RPA K t Wr) : RE K (tCall (spS K S) [] E0' t) (wCall S Wr) := by
  intro B Γ σ H G Q Q' E w k
  refine r B Γ σ H G _ _ E w fun vs H1 G1 os Γ1 E1 s1 k1 o1 w1 => ?_
  cases q : argsOf Γ1 os with
  | none => rw [q] at w1; exact w1.elim
  | some as =>
    rw [q] at w1
    obtain ⟨hn, hS⟩ := w1
    show spS K S (vs ++ []) H1 Q' E0'
    rw [List.append_nil]
    refine ⟨G1, as, _, E1.gh, argsV_of E1 o1 q hn, hS, fun v G' H' as' r Po hR => ?_⟩
    have E2 := E1.called o1 q hn Po
    have k2 : KS Γ (putB Γ1 os as') := k1.trans putB_KS
    cases r with
    | dat d => exact k v H' G' d _ E2 (s1.trans Po.gg) k2 Po.res hR
    | new ds =>
      obtain ⟨p, us, rfl, h1, h2, h3, h4⟩ := Po.res
      have no : ∀ (i : Nat) es, Own (putB Γ1 os as') i es → σ[i]? ≠ some (some (V.ref p)) := fun i es ow z => by
        obtain ⟨es0, o0⟩ := (putB_KS (os := os) (as := as')).mineB ow
        obtain ⟨p', us', g1, g2, g3, _⟩ := E1.mine i es0 o0
        rw [z] at g1
        cases g1
        rw [h4] at g3
        cases g3
      exact k (.ref p) H' (upd G' p (.lst us)) (.list ds) _ (E2.freeze h2 h1 (E1.bnone h4) no) ((s1.trans Po.gg).trans (sameNew h1)) k2 (.lst upd_same (h3.mono (sameNew h1))) hR
theorem de_call {S : PSp} {k : Nat} {f : Addr} {fd : FuncData} {ps : List Str} {x : Str} {p : Pos} {Wr : WPA} (F : FnOk X.prog X.w X.K X.mg X.base CX0 k f fd ps (spS X.K S)) (hr : Room k X.A) (hg : Gl X x) (hm : X.mg x = some (.ref f)) (hk : PySem.W.keepIn X.K (.ref f) = true) (hb : Binds X.K fd ps [])
    (ha : DPA X (e :: es) Wr) (hdb : (x == ("__debug__" : Str)) = false := by decide) (he : starEach (e :: es) X.env = (false, eval e X.env) :: starEach es X.env := by rfl) (hpl : (backTo pos (starEach es X.env)).any (·.1) = false := by rfl) :
    DE X (.Call (.Name x p) (e :: es) [] pos) (wCall S Wr) := by
  obtain ⟨t, pa, ra⟩ := ha.ex
  exact ⟨_, pe_call (dvs := []) (E := E0) F hr hg hm hk hb .nil pass0 pa hdb he hpl, re_call ra⟩
theorem de_call0 {S : PSp} {k : Nat} {f : Addr} {fd : FuncData} {ps : List Str} {x : Str} {p : Pos} (F : FnOk X.prog X.w X.K X.mg X.base CX0 k f fd ps (spS X.K S)) (hr : Room k X.A) (hg : Gl X x) (hm : X.mg x = some (.ref f)) (hk : PySem.W.keepIn X.K (.ref f) = true) (hb : Binds X.K fd ps [])
    (hdb : (x == ("__debug__" : Str)) = false := by decide) : DE X (.Call (.Name x p) [] [] pos) (wCall S wPNil) := by
  refine ⟨_, pe_call0 (dvs := []) (E := E0) F hr hg hm hk hb .nil pass0 hdb, re_call ?_⟩
  intro B Γ σ H G Q Q' E w k
  exact k [] H G [] Γ E (Same.refl _) (KS.refl _) .nil w
/-! .. a new list -/
@[simp] def wCallL (S : PSp) (Wr : WPA) : WA := fun Γ Q => Wr Γ fun os Γ1 => match argsOf Γ1 os with
  | some as => (varsOf os).Nodup ∧ S as fun r as' => match r with
    | .new ds => Q ds (putB Γ1 os as')
    | .dat _ => False
  | none => False
theorem rn_call {S : PSp} {E0' : XK} {t : TA} {Wr : WPA} (r : RPA K t Wr) : RN K (tCall (spS K S) [] E0' t) (wCallL S Wr) := by
  intro B Γ σ H G Q Q' E w k
  refine r B Γ σ H G _ _ E w fun vs H1 G1 os Γ1 E1 s1 k1 o1 w1 => ?_
  cases q : argsOf Γ1 os with
  | none => rw [q] at w1; exact w1.elim
  | some as =>
    rw [q] at w1
    obtain ⟨hn, hS⟩ := w1
    show spS K S (vs ++ []) H1 Q' E0'
    rw [List.append_nil]
    refine ⟨G1, as, _, E1.gh, argsV_of E1 o1 q hn, hS, fun v G' H' as' r Po hR => ?_⟩
    have E2 := E1.called o1 q hn Po
    have k2 : KS Γ (putB Γ1 os as') := k1.trans putB_KS
    cases r with
    | dat d => exact hR.elim
    | new ds =>
      obtain ⟨p, us, rfl, h1, h2, h3, h4⟩ := Po.res
      have no : ∀ (i : Nat) es, Own (putB Γ1 os as') i es → σ[i]? ≠ some (some (V.ref p)) := fun i es ow z => by
        obtain ⟨es0, o0⟩ := (putB_KS (os := os) (as := as')).mineB ow
        obtain ⟨p', us', g1, g2, g3, _⟩ := E1.mine i es0 o0
        rw [z] at g1
        cases g1
        rw [h4] at g3
        cases g3
      exact k p us H' G' ds _ E2 (s1.trans Po.gg) k2 h1 h2 h3 (E1.bnone h4) (E1.nn p h4) no hR
theorem dn_call {S : PSp} {k : Nat} {f : Addr} {fd : FuncData} {ps : List Str} {x : Str} {p : Pos} {Wr : WPA} (F : FnOk X.prog X.w X.K X.mg X.base CX0 k f fd ps (spS X.K S)) (hr : Room k X.A) (hg : Gl X x) (hm : X.mg x = some (.ref f)) (hk : PySem.W.keepIn X.K (.ref f) = true) (hb : Binds X.K fd ps [])
    (ha : DPA X (e :: es) Wr) (hdb : (x == ("__debug__" : Str)) = false := by decide) (he : starEach (e :: es) X.env = (false, eval e X.env) :: starEach es X.env := by rfl) (hpl : (backTo pos (starEach es X.env)).any (·.1) = false := by rfl) :
    DN X (.Call (.Name x p) (e :: es) [] pos) (wCallL S Wr) := by
  obtain ⟨t, pa, ra⟩ := ha.ex
  exact ⟨_, pe_call (dvs := []) (E := E0) F hr hg hm hk hb .nil pass0 pa hdb he hpl, rn_call ra⟩
end
/-! ## a def keeps its promise -/
def startG (N : List Str) (as : List Sl) : Gam := as ++ List.replicate (N.length - as.length) .un
@[simp] def parO : List Sl → Gam → Option (List Sl)
  | [], _ => some []
  | .par _ :: as, .par ds :: Γ => match parO as Γ with
    | some r => some (.par ds :: r)
    | none => none
  | .dat d :: as, _ :: Γ => match parO as Γ with
    | some r => some (.dat d :: r)
    | none => none
  | .scr d :: as, _ :: Γ => match parO as Γ with
    | some r => some (.scr d :: r)
    | none => none
  | _, _ => none
theorem parO_at : ∀ {as : List Sl} {Γ : Gam} {as' : List Sl}, parO as Γ = some as' → as.length = as'.length ∧ (∀ (i : Nat) a b, as[i]? = some a → as'[i]? = some b → KS1 a b) ∧ ∀ (i : Nat) ds, as'[i]? = some (Sl.par ds) → Γ[i]? = some (Sl.par ds)
  | [], Γ, as', h => by
    unfold parO at h
    cases h
    exact ⟨rfl, fun i a b h => by simp at h, fun i ds h => by simp at h⟩
  | .par x :: as, .par ds :: Γ, as', h => by
    unfold parO at h
    cases q : parO as Γ with
    | none => rw [q] at h; cases h
    | some r =>
      rw [q] at h
      cases h
      obtain ⟨l, h1, h2⟩ := parO_at q
      refine ⟨congrArg Nat.succ l, fun i a b ha hb => ?_, fun i es he => ?_⟩
      · cases i with
        | zero => simp at ha hb; subst ha hb; trivial
        | succ i => exact h1 i a b (by simpa using ha) (by simpa using hb)
      · cases i with
        | zero => simp at he; subst he; simp
        | succ i => simpa using h2 i es (by simpa using he)
  | .dat d :: as, g :: Γ, as', h => by
    unfold parO at h
    cases q : parO as Γ with
    | none => rw [q] at h; cases h
    | some r =>
      rw [q] at h
      cases h
      obtain ⟨l, h1, h2⟩ := parO_at q
      refine ⟨congrArg Nat.succ l, fun i a b ha hb => ?_, fun i es he => ?_⟩
      · cases i with
        | zero => simp at ha hb; subst ha hb; rfl
        | succ i => exact h1 i a b (by simpa using ha) (by simpa using hb)
      · cases i with
        | zero => simp at he
        | succ i => simpa using h2 i es (by simpa using he)
  | .scr d :: as, g :: Γ, as', h => by
    unfold parO at h
    cases q : parO as Γ with
    | none => rw [q] at h; cases h
    | some r =>
      rw [q] at h
      cases h
      obtain ⟨l, h1, h2⟩ := parO_at q
      refine ⟨congrArg Nat.succ l, fun i a b ha hb => ?_, fun i es he => ?_⟩
      · cases i with
        | zero => simp at ha hb; subst ha hb; rfl
        | succ i => exact h1 i a b (by simpa using ha) (by simpa using hb)
      · cases i with
        | zero => simp at he
        | succ i => simpa using h2 i es (by simpa using he)
  | .un :: _, _, _, h => by unfold parO at h; cases h
  | .own _ :: _, _, _, h => by unfold parO at h; cases h
  | .par _ :: _, [], _, h => by unfold parO at h; cases h
  | .dat _ :: _, [], _, h => by unfold parO at h; cases h
  | .scr _ :: _, [], _, h => by unfold parO at h; cases h
  | .par _ :: _, .scr _ :: _, _, h => by unfold parO at h; cases h
  | .par _ :: _, .un :: _, _, h => by unfold parO at h; cases h
  | .par _ :: _, .dat _ :: _, _, h => by unfold parO at h; cases h
  | .par _ :: _, .own _ :: _, _, h => by unfold parO at h; cases h
section
variable {P : Program} {w : World} {K : PySem.W.Frag} {mg : Str → Option Value} {base : Heap}
theorem start_get {N : List Str} {vs : List V} {i : Nat} (h : i < vs.length) : (L2.start N vs)[i]? = (vs[i]?).map some := by
  unfold L2.start
  rw [List.getElem?_append_left (by simpa using h), List.getElem?_map]
theorem startG_get {N : List Str} {as : List Sl} {i : Nat} {s : Sl} (h : (startG N as)[i]? = some s) (hs : s ≠ .un) : as[i]? = some s := by
  unfold startG at h
  by_cases hi : i < as.length
  · rwa [List.getElem?_append_left hi] at h
  · rw [List.getElem?_append_right (by omega)] at h
    have := List.mem_of_getElem? h
    exact absurd (List.eq_of_mem_replicate this) hs
def addrAt : Option V → Addr
  | some (V.ref p) => p
  | _ => 0
def bsOf (H G : Hp) (vs : List V) (as : List Sl) : Bs := ⟨H, G, fun p => ∃ (i : Nat) (ds : List PyData), as[i]? = some (Sl.par ds) ∧ vs[i]? = some (V.ref p), fun q => H q = none, fun i => addrAt (vs[i]?)⟩
theorem en_start {N : List Str} {G H : Hp} {vs : List V} {as : List Sl} (gh : Same G H) (A : ArgsV K G H vs as) :
    En K (bsOf H G vs as) (L2.start N vs) H G (startG N as) := by
  have lt : ∀ {i : Nat} {s : Sl}, as[i]? = some s → i < vs.length := fun h => by
    have := (List.getElem?_eq_some_iff.mp h).1
    rw [A.len]; exact this
  have own_ : ∀ (i : Nat) ds, Own (startG N as) i ds → as[i]? = some (Sl.par ds) := fun i ds o => by
    rcases o with o | o
    · have h := startG_get o (fun z => by cases z)
      rcases A.kind i _ h with ⟨d, e⟩ | ⟨d, e⟩ | ⟨d, e⟩ <;> cases e
    · exact startG_get o (fun z => by cases z)
  refine ⟨?_, gh, Same.refl _, fun q o h _ => h, fun q h => h, fun q _ h => h, fun q h => h, fun i d h => ?_, fun i ds o => ?_, fun i ds o => ?_, fun i ds o => ?_, fun i ds o => ?_, fun i j p ds es o1 o2 h1 h2 => ?_⟩
  · unfold L2.start startG
    simp [A.len]
  · have h1 := startG_get h (fun z => by cases z)
    obtain ⟨v, h2, h3⟩ := A.dat i d h1
    exact ⟨v, by rw [start_get (lt h1), h2]; rfl, h3⟩
  · have h1 := own_ i ds o
    obtain ⟨p, us, h2, h3, h4, h5⟩ := A.par i ds h1
    exact ⟨p, us, by rw [start_get (lt h1), h2]; rfl, h3, h4, h5, .inl ⟨i, ds, h1, h2⟩⟩
  · have h := startG_get o (fun z => by cases z)
    rcases A.kind i _ h with ⟨d, e⟩ | ⟨d, e⟩ | ⟨d, e⟩ <;> cases e
  · have h1 := own_ i ds (.inr o)
    obtain ⟨p, us, h2, h3, h4, h5⟩ := A.par i ds h1
    rw [start_get (lt h1), h2]
    show _ = some (some (V.ref (addrAt (vs[i]?))))
    rw [h2]
    rfl
  · have h := startG_get o (fun z => by cases z)
    obtain ⟨p, us, h2, h3, h4⟩ := A.scr i ds h
    exact ⟨p, us, by rw [start_get (lt h), h2]; rfl, h3, h4⟩
  · have g1 := own_ i ds o1
    have g2 := own_ j es o2
    rw [start_get (lt g1)] at h1
    rw [start_get (lt g2)] at h2
    refine A.inj i j p ds es g1 g2 ?_ ?_
    · cases q : vs[i]? with
      | none => rw [q] at h1; cases h1
      | some v => rw [q] at h1; have h1 : some (some v) = some (some (V.ref p)) := h1; cases h1; rfl
    · cases q : vs[j]? with
      | none => rw [q] at h2; cases h2
      | some v => rw [q] at h2; have h2 : some (some v) = some (some (V.ref p)) := h2; cases h2; rfl
/-- the ends of a def's body -/
@[simp] def endsF (as : List Sl) (R : Rs → List Sl → Prop) : EndsD where
  nx := fun Γ => match parO as Γ with
    | some as' => R (.dat .none) as'
    | none => False
  rt := fun r Γ => match parO as Γ with
    | some as' => R r as'
    | none => False
theorem fn_ok {x qual : Str} {st : Stmt} {f : Addr} {fd : FuncData} {N ps : List Str} {k : Nat} {S : PSp} {W : WS} (F : Fun K x qual st f fd) (Sc : FnScope N ps (defScope st)) (len : ∀ as R, S as R → as.length = ps.length)
    (hbody : ∀ (cdv : Value) (A : Around) (outer : List Env) (s : Shared) (H : Hp) (E : XK), Room k (A.deeper (envOfC qual (defScope st) s.heap.objs.size f cdv)) →
      DSs (cxOf CX0 P w K mg base N qual (defScope st) f cdv A outer s H E).nox (defBody st) W)
    (hW : ∀ as R, S as R → W (endsF as R) (startG N as)) : FnOk P w K mg base CX0 (k + 1) f fd ps (spS K S) := by
  refine F.ok Sc (fun vs H Q E h => ?_) (fun cdv A outer s H vs Q E hr h => ?_)
  · obtain ⟨G, as, R, _, hA, hS, _⟩ := h
    rw [hA.len, len as R hS]
  · obtain ⟨t, p, r⟩ := (hbody cdv A outer s H E hr).ex
    refine ⟨t, p, ?_⟩
    obtain ⟨G, as, R, gh, hA, hS, hQ⟩ := h
    have E0 := en_start (N := N) gh hA
    have fin : ∀ (σ : L2.St) (v : V) (H' G' : Hp) (Γ : Gam) (r : Rs) (as' : List Sl), En K (bsOf H G vs as) σ H' G' Γ → Same G G' → VR K (fun q => H q = none) G' H' v r → parO as Γ = some as' → R r as' → Q v H' := by
      intro σ v H' G' Γ r as' E1 s1 vr hp hR
      obtain ⟨l, h1, h2⟩ := parO_at hp
      refine hQ v G' H' as' r ⟨s1, E1.gh, fun q o h hn => E1.h0 q o h fun ⟨i, ds, e1, e2⟩ => hn i ds e1 e2, fun q h => E1.bh q h, fun q h h' => E1.f0 q h h', ⟨l, h1⟩, fun i ds h => ?_, vr⟩ hR
      have h3 := h2 i ds h
      obtain ⟨p, us, g1, g2, g3, g4, g5⟩ := E1.mine i ds (.inr h3)
      have g6 := E1.par i ds h3
      rw [g1] at g6
      have g7 : p = addrAt (vs[i]?) := V.ref.inj (Option.some.inj (Option.some.inj g6))
      have li : i < as.length := by
        have := (List.getElem?_eq_some_iff.mp h).1
        omega
      have ha : as[i]? = some as[i] := List.getElem?_eq_getElem li
      have kk := h1 i _ _ ha h
      cases e : as[i] with
      | par es =>
        rw [e] at ha
        obtain ⟨p', us', q1, q2, q3, q4⟩ := hA.par i es ha
        rw [q1] at g7
        have g7 : p = p' := g7
        subst g7
        exact ⟨p, us, q1, g3, g4⟩
      | un => rw [e] at kk; exact kk.elim
      | dat _ => rw [e] at kk; exact kk.elim
      | own _ => rw [e] at kk; exact kk.elim
      | scr _ => rw [e] at kk; exact kk.elim
    refine r _ _ _ _ G (endsF as R) _ E0 (hW as R hS) ⟨fun σ H' G' Γ E1 s1 q => ?_, fun σ H' G' Γ E1 s1 q => q.elim, fun σ H' G' Γ E1 s1 q => q.elim, fun σ v H' G' Γ r E1 s1 vr q => ?_, fun _ h => h, fun d σ H' G' Γ x E1 s1 xo q => q.elim⟩
    · unfold endsF at q
      simp only at q
      cases q1 : parO as Γ with
      | none => rw [q1] at q; exact q.elim
      | some as' =>
        rw [q1] at q
        exact fin σ .non H' G' Γ (.dat .none) as' E1 s1 Dd.non q1 q
    · unfold endsF at q
      simp only at q
      cases q1 : parO as Γ with
      | none => rw [q1] at q; exact q.elim
      | some as' =>
        rw [q1] at q
        exact fin σ v H' G' Γ r as' E1 s1 vr q1 q
end
end DL

namespace DL
open PySem PySem.Spec PyProof.Rows L2
/-! ## what is walked -/
def DWalk (K : PySem.W.Frag) (J : It) (G0 : Hp) (ds : List PyData) : Prop :=
  ∀ (B : Bs) (Γ : Gam) (σ : L2.St) (H G : Hp), En K B σ H G Γ → Same G0 G → ∀ i : Nat, (i = ds.length → J.stop i H) ∧
    ∀ d, ds[i]? = some d → J.go i H ∧ ∀ x H', J.yld i H x H' → ∃ G', En K B σ H' G' Γ ∧ Same G G' ∧ Dd K G' x d ∧ Same H H'
abbrev WI := Gam → (List PyData → Gam → Prop) → Prop
def RI (K : PySem.W.Frag) (wi : TI) (W : WI) : Prop :=
  ∀ (B : Bs) (Γ : Gam) (σ : L2.St) (H G : Hp) (Q : List PyData → Gam → Prop) (R : It → Hp → Prop), En K B σ H G Γ → W Γ Q →
    (∀ J H' G' ds Γ', En K B σ H' G' Γ' → Same G G' → KS Γ Γ' → DWalk K J G' ds → Q ds Γ' → R J H') → wi σ H R
structure DI (X : Cx) (tg iter : Expr) (W : WI) : Prop where
  ex : ∃ wi, PI X tg iter wi ∧ RI X.K wi W
/-! targets -/
abbrev WG := PyData → Gam → (Gam → Prop) → Prop
def RG (K : PySem.W.Frag) (ts : List Nat) (g : TG) (W : WG) : Prop :=
  ∀ (B : Bs) (Γ : Gam) (σ : L2.St) (H G : Hp) (v : V) (d : PyData) (Q : Gam → Prop) (Q' : L2.St → Hp → Prop), En K B σ H G Γ → Dd K G v d → W d Γ Q →
    (∀ σ' H' G' Γ', En K B σ' H' G' Γ' → Same G G' → σ'.length = σ.length → (∀ j : Nat, j ∉ ts → σ'[j]? = σ[j]? ∧ Γ'[j]? = Γ[j]?) → Q Γ' → Q' σ' H') → g v σ H Q'
structure DG (X : Cx) (tg : Expr) (ts : List Nat) (W : WG) : Prop where
  ex : ∃ g, PG X tg g ∧ RG X.K ts g W
abbrev WGs := List PyData → Gam → (Gam → Prop) → Prop
def RGs (K : PySem.W.Frag) (ts : List Nat) (g : TGs) (W : WGs) : Prop :=
  ∀ (B : Bs) (Γ : Gam) (σ : L2.St) (H G : Hp) (vs : List V) (ds : List PyData) (Q : Gam → Prop) (Q' : L2.St → Hp → Prop), En K B σ H G Γ → DdAll K G vs ds → W ds Γ Q →
    (∀ σ' H' G' Γ', En K B σ' H' G' Γ' → Same G G' → σ'.length = σ.length → (∀ j : Nat, j ∉ ts → σ'[j]? = σ[j]? ∧ Γ'[j]? = Γ[j]?) → Q Γ' → Q' σ' H') → g vs σ H Q'
structure DGs (X : Cx) (tgs : List Expr) (ts : List Nat) (W : WGs) : Prop where
  ex : ∃ g, PGs X tgs g ∧ RGs X.K ts g W
section
variable {X : Cx} {K : PySem.W.Frag} {a b c e tg : Expr} {es tgs : List Expr} {Wa Wb Wc : WE} {Wr : WA} {pos : Pos} {WT' : WT} {ts us : List Nat}
@[simp] def wgName (i : Nat) : WG := fun d Γ Q => Q (Γ.set i (.dat d))
theorem dg_name {i : Nat} {x : Str} {p : Pos} (hN : X.N.Nodup) (hi : X.N[i]? = some x) (hx : Loc X.env.scope x) (hf : X.fn x = true ∨ X.env.scope.names.lookup x = some .local := by first | exact .inl rfl | exact .inr rfl | assumption) : DG X (.Name x p) [i] (wgName i) := by
  refine ⟨_, pg_name hN hi hx hf, ?_⟩
  intro B Γ σ H G v d Q Q' E h w k
  refine k _ H G _ (E.setDat i h) (Same.refl _) (by simp) (fun j hj => ?_) w
  have hj : j ≠ i := fun z => hj (by simp [z])
  exact ⟨List.getElem?_set_ne (Ne.symm hj), List.getElem?_set_ne (Ne.symm hj)⟩
@[simp] def wgNil : WGs := fun ds Γ Q => match ds with
  | [] => Q Γ
  | _ => False
@[simp] def wgCons (W : WG) (Ws : WGs) : WGs := fun ds Γ Q => match ds with
  | d :: r => W d Γ fun Γ1 => Ws r Γ1 Q
  | [] => False
theorem dgs_nil : DGs X [] [] wgNil := by
  refine ⟨_, pgs_nil, ?_⟩
  intro B Γ σ H G vs ds Q Q' E h w k
  cases h with
  | nil => exact ⟨rfl, k σ H G Γ E (Same.refl _) rfl (fun j _ => ⟨rfl, rfl⟩) w⟩
  | cons _ _ => exact w.elim
theorem dgs_cons {W : WG} {Ws : WGs} (h1 : DG X e ts W) (h2 : DGs X es us Ws) (hs : (assignEach (e :: es) X.env).map (·.2) = assign e X.env :: (assignEach es X.env).map (·.2) := by rfl) : DGs X (e :: es) (ts ++ us) (wgCons W Ws) := by
  obtain ⟨g, p, r⟩ := h1.ex
  obtain ⟨g', p', r'⟩ := h2.ex
  refine ⟨_, pgs_cons p p' hs, ?_⟩
  intro B Γ σ H G vs ds Q Q' E h w k
  cases h with
  | nil => exact w.elim
  | cons hv ht =>
    refine ⟨_, _, rfl, ?_⟩
    refine r B Γ σ H G _ _ _ _ E hv w fun σ1 H1 G1 Γ1 E1 s1 l1 n1 w1 => ?_
    refine r' B Γ1 σ1 H1 G1 _ _ _ _ E1 (ht.mono s1) w1 fun σ2 H2 G2 Γ2 E2 s2 l2 n2 w2 => ?_
    refine k σ2 H2 G2 Γ2 E2 (s1.trans s2) (l2.trans l1) (fun j hj => ?_) w2
    have h1 := n1 j (fun z => hj (List.mem_append_left _ z))
    have h2 := n2 j (fun z => hj (List.mem_append_right _ z))
    exact ⟨h2.1.trans h1.1, h2.2.trans h1.2⟩
@[simp] def wgTup (n : Nat) (Ws : WGs) : WG := fun d Γ Q => match d with
  | .tuple ds => ds.length = n ∧ Ws ds Γ Q
  | _ => False
theorem dg_tup {kk : Nat} {n : Nat} {Ws : WGs} (hc : X.calm = true) (h : DGs X es ts Ws) (hn : (assignEach es X.env).length = n := by rfl) (hst : (assignEach es X.env).findIdx? (·.1) = none := by rfl) : DG X (.Tuple es kk pos) ts (wgTup n Ws) := by
  obtain ⟨g, p, r⟩ := h.ex
  refine ⟨_, pg_tup hc p hn hst, ?_⟩
  intro B Γ σ H G v d Q Q' E h w k
  cases h with
  | tup ga da => exact ⟨_, _, rfl, sqT_same E.gh ga, da.length.trans w.1, r B Γ σ H G _ _ _ _ E da w.2 k⟩
  | _ => exact w.elim
/-- target = e, e data -/
@[simp] def wAsgG (Wg : WG) (Wa : WE) : WS := fun D Γ => Wa Γ fun d Γ1 => Wg d Γ1 D.nx
theorem ds_asg {Wg : WG} (he : DE X e Wa) (hg : DG X tg ts Wg) (hs : swapsWithSole [tg] e pos.line X.env = pure false := by rfl) (hw : swappedStores [tg] e X.env = pure none := by rfl)
    (h1 : (assignEach [tg] X.env).map (·.2) = [assign tg X.env] := by rfl) : DS X (.Assign [tg] e pos) (wAsgG Wg Wa) := by
  obtain ⟨t, p, r⟩ := he.ex
  obtain ⟨g, q, rg⟩ := hg.ex
  refine ⟨_, ps_asg p q hs hw h1, ?_⟩
  intro B Γ σ H G D D' E w l
  refine r B Γ σ H G _ _ E w fun v H1 G1 d Γ1 E1 s1 k1 d1 w1 => ?_
  exact rg B Γ1 σ H1 G1 v d _ _ E1 d1 w1 fun σ2 H2 G2 Γ2 E2 s2 _ _ w2 => l.nx σ2 H2 G2 Γ2 E2 (s1.trans s2) w2
/-! ## for -/
def forW (Wg : WG) (Wb : WS) (D : EndsD) : List PyData → Gam → Prop
  | [], Γ => D.nx Γ
  | d :: ds, Γ => Wg d Γ fun Γ1 => Wb { D with nx := forW Wg Wb D ds, ct := forW Wg Wb D ds, bk := D.nx } Γ1
@[simp] def wFor (Wi : WI) (Wg : WG) (Wb : WS) : WS := fun D Γ => Wi Γ fun ds Γ1 => forW Wg Wb D ds Γ1
theorem ds_for {iter : Expr} {body : List Stmt} {Wi : WI} {Wg : WG} {Wb : WS} (hp : PassesOwn (model X.prog X.w) X.A X.env X.xe) (hc : X.calm = true) (hi : DI X tg iter Wi) (hg : DG X tg ts Wg) (hb : DSs X body Wb)
    (hs : ∀ x, foldedSetIterable iter X.env x = pure x := by intro _; rfl) : DS X (.For tg iter body [] pos) (wFor Wi Wg Wb) := by
  obtain ⟨wi, pi, ri⟩ := hi.ex
  obtain ⟨g, pg, rg⟩ := hg.ex
  obtain ⟨tb, pb, rb⟩ := hb.ex
  refine ⟨_, ps_for hp hc pi pg pb hs, ?_⟩
  intro B Γ σ H G D D' E w l
  refine ri B Γ σ H G _ _ E w fun J H1 G1 ds Γ1 E1 s1 k1 dw w1 => ?_
  refine ⟨fun i m σ H => m = ds.length - i ∧ i ≤ ds.length ∧ ∃ G2 Γ2, En X.K B σ H G2 Γ2 ∧ Same G1 G2 ∧ forW Wg Wb D (ds.drop i) Γ2, ⟨ds.length, by simp, Nat.zero_le _, G1, Γ1, E1, Same.refl _, w1⟩, ?_⟩
  rintro i m σ2 H2 ⟨rfl, hi, G2, Γ2, E2, s2, w2⟩
  obtain ⟨stop, go⟩ := dw B Γ2 σ2 H2 G2 E2 s2 i
  by_cases hlt : i < ds.length
  · have hd : ds[i]? = some ds[i] := List.getElem?_eq_getElem hlt
    obtain ⟨g1, y1⟩ := go _ hd
    rw [List.drop_eq_getElem_cons hlt] at w2
    refine .inr ⟨g1, fun σ' H' => ∃ G3 Γ3, En X.K B σ' H' G3 Γ3 ∧ Same G1 G3 ∧ forW Wg Wb D (ds.drop (i + 1)) Γ3, fun σ' H' h => ⟨ds.length - (i + 1), by omega, rfl, hlt, h⟩, fun x H3 hy => ?_⟩
    obtain ⟨G3, E3, s3, d3, _⟩ := y1 x H3 hy
    refine rg B Γ2 σ2 H3 G3 x _ _ _ E3 d3 w2 fun σ4 H4 G4 Γ4 E4 s4 _ _ w4 => ?_
    have s14 : Same G1 G4 := s2.trans (s3.trans s4)
    refine rb B Γ4 σ4 H4 G4 _ _ E4 w4 ⟨fun σ5 H5 G5 Γ5 E5 s5 q5 => ⟨G5, Γ5, E5, s14.trans s5, q5⟩, fun σ5 H5 G5 Γ5 E5 s5 q5 => l.nx σ5 H5 G5 Γ5 E5 (s1.trans (s14.trans s5)) q5, fun σ5 H5 G5 Γ5 E5 s5 q5 => ⟨G5, Γ5, E5, s14.trans s5, q5⟩,
      fun σ5 v H5 G5 Γ5 r E5 s5 vr q5 => l.rt σ5 v H5 G5 Γ5 r E5 (s1.trans (s14.trans s5)) vr q5, l.nb, fun d σ5 H5 G5 Γ5 x E5 s5 xo q5 => l.ex d σ5 H5 G5 Γ5 x E5 (s1.trans (s14.trans s5)) xo q5⟩
  · have e : i = ds.length := by omega
    subst e
    rw [List.drop_length] at w2
    exact .inl ⟨stop rfl, l.nx σ2 H2 G2 Γ2 E2 (s1.trans s2) w2⟩
/-! ## while -/
def whileW (Wc : WT) (Wb : WS) (D : EndsD) : Nat → Gam → Prop
  | 0, _ => False
  | n + 1, Γ => Wc Γ fun b Γ1 => if b = true then Wb { D with nx := whileW Wc Wb D n, ct := whileW Wc Wb D n, bk := D.nx } Γ1 else D.nx Γ1
@[simp] def wWhile (Wc : WT) (Wb : WS) : WS := fun D Γ => ∃ n, whileW Wc Wb D n Γ
theorem ds_while {body : List Stmt} {Wb : WS} (hp : PassesOwn (model X.prog X.w) X.A X.env X.xe) (hc : DT X c WT') (hb : DSs X body Wb) : DS X (.While c body [] pos) (wWhile WT' Wb) := by
  obtain ⟨tc, pc, rc⟩ := hc.ex
  obtain ⟨tb, pb, rb⟩ := hb.ex
  refine ⟨_, ps_while hp pc pb, ?_⟩
  intro B Γ σ H G D D' E w l
  obtain ⟨n, w⟩ := w
  refine ⟨fun m σ H => ∃ G2 Γ2, En X.K B σ H G2 Γ2 ∧ Same G G2 ∧ whileW WT' Wb D m Γ2, ⟨n, G, Γ, E, Same.refl _, w⟩, ?_⟩
  rintro m σ2 H2 ⟨G2, Γ2, E2, s2, w2⟩
  cases m with
  | zero => exact w2.elim
  | succ m =>
    refine rc B Γ2 σ2 H2 G2 _ _ E2 w2 fun b H3 G3 Γ3 E3 s3 k3 w3 => ?_
    cases b with
    | true =>
      refine ⟨fun σ' H' => ∃ G4 Γ4, En X.K B σ' H' G4 Γ4 ∧ Same G G4 ∧ whileW WT' Wb D m Γ4, fun σ' H' h => ⟨m, Nat.lt_succ_self m, h⟩, ?_⟩
      have s13 := s2.trans s3
      exact rb B Γ3 σ2 H3 G3 _ _ E3 w3 ⟨fun σ5 H5 G5 Γ5 E5 s5 q5 => ⟨G5, Γ5, E5, s13.trans s5, q5⟩, fun σ5 H5 G5 Γ5 E5 s5 q5 => l.nx σ5 H5 G5 Γ5 E5 (s13.trans s5) q5, fun σ5 H5 G5 Γ5 E5 s5 q5 => ⟨G5, Γ5, E5, s13.trans s5, q5⟩,
        fun σ5 v H5 G5 Γ5 r E5 s5 vr q5 => l.rt σ5 v H5 G5 Γ5 r E5 (s13.trans s5) vr q5, l.nb, fun d σ5 H5 G5 Γ5 x E5 s5 xo q5 => l.ex d σ5 H5 G5 Γ5 x E5 (s13.trans s5) xo q5⟩
    | false => exact l.nx σ2 H3 G3 Γ3 E3 (s2.trans s3) w3
/-! ## list, tuple, text walked -/
def iSeq (K : PySem.W.Frag) (tl : TE) : TI := fun σ H R => tl σ H fun x H1 => (∃ a, x = .ref a ∧ (∃ xs, SqL K H1 a xs) ∧ R (Itl K a) H1) ∨ (∃ a, x = .ref a ∧ (∃ xs, SqT K H1 a xs) ∧ R (Itt K a) H1) ∨ (∃ z, x = .str z ∧ R (Its z) H1)
theorem pi_seq {l : Expr} {tl : TE} (hl : PE X l tl) : PI X tg l (iSeq X.K tl) := by
  refine ⟨fun pins s σ H R I h => ?_⟩
  refine thn (hl.run pins s σ H _ I h) fun v s1 ⟨x, H1, I1, r1, q1⟩ => ?_
  have back : ∀ (t : TE), (∀ (σ : L2.St) (Q : VK), t σ H1 Q → Q x H1) → True := fun _ _ => trivial
  have peX : ∀ {wi : TI}, True := trivial
  rcases q1 with ⟨a, e, ⟨xs, hq⟩, q⟩ | ⟨a, e, ⟨xs, hq⟩, q⟩ | ⟨z, e, q⟩
  · subst e
    cases r1
    obtain ⟨its, rv, p, hz⟩ := I1.list hq
    refine wpAny_pyIter_list p.isList ?_
    refine ⟨s1.heap.objs.size, [s1.heap.objs.size], _, _, H1, rfl, I1.kept (t' := s1.toks) fun b o e => Heap.get?_push_of_some _ e, turn_list a _, ⟨_, Heap.get?_push_size _ rfl, rfl, rfl⟩, fun b hb => ?_, q⟩
    have e : b = s1.heap.objs.size := by simpa using hb
    subst e
    exact I1.fpOk (Nat.le_refl _) (I1.hok.fresh (Nat.le_refl _))
  · subst e
    cases r1
    obtain ⟨its, rv, p, hz⟩ := I1.tuple hq
    refine wpAny_pyIter_tuple (show s1.heap.IsTuple a its.toArray from p) ?_
    refine ⟨s1.heap.objs.size, [s1.heap.objs.size], _, _, H1, rfl, I1.kept (t' := s1.toks) fun b o e => Heap.get?_push_of_some _ e, turn_tuple a _, ⟨_, Heap.get?_push_size _ rfl, rfl, rfl⟩, fun b hb => ?_, q⟩
    have e : b = s1.heap.objs.size := by simpa using hb
    subst e
    exact I1.fpOk (Nat.le_refl _) (I1.hok.fresh (Nat.le_refl _))
  · subst e
    obtain ⟨t, rfl⟩ := r1
    cases ha : z.cps.all (· < 128)
    · exact wpAny_pyIter_wide ha (pi_one (tk := s1.toks) I1 _ (turn_str _ z t "str_iterator" (.inr rfl)) ⟨_, Heap.get?_push_size _ rfl, rfl, rfl⟩ q)
    · exact wpAny_pyIter_ascii ha (pi_one (tk := s1.toks) I1 _ (turn_str _ z t "str_ascii_iterator" (.inl rfl)) ⟨_, Heap.get?_push_size _ rfl, rfl, rfl⟩ q)
@[simp] def seqD : PyData → Option (List PyData)
  | .list ds => some ds
  | .tuple ds => some ds
  | .str z => some (z.cps.toList.map sign)
  | _ => none
@[simp] def wSeqI (Wa : WE) : WI := fun Γ Q => Wa Γ fun d Γ1 => match seqD d with
  | some ds => Q ds Γ1
  | none => False
theorem dwalk_list {G0 : Hp} {p : Addr} {vs : List V} {ds : List PyData} (h : G0 p = some (.lst vs)) (da : DdAll K G0 vs ds) : DWalk K (Itl K p) G0 ds := by
  intro B Γ σ H G E s i
  have hq : SqL K H p vs := SqL.of (E.gh _ _ (s _ _ h))
  refine ⟨fun hi => ⟨vs, hq, by rw [da.length]; exact Nat.le_of_eq hi.symm⟩, fun d hd => ?_⟩
  obtain ⟨v, hv, dv⟩ := da.get hd
  refine ⟨⟨vs, v, hq, hv⟩, fun x H' y => ?_⟩
  obtain ⟨e, y⟩ := y
  subst e
  have := y vs hq
  rw [hv] at this
  cases this
  exact ⟨G, E, Same.refl _, dv.mono s, Same.refl _⟩
theorem dwalk_tup {G0 : Hp} {p : Addr} {vs : List V} {ds : List PyData} (h : SqT K G0 p vs) (da : DdAll K G0 vs ds) : DWalk K (Itt K p) G0 ds := by
  intro B Γ σ H G E s i
  have hq : SqT K H p vs := sqT_same E.gh (sqT_same s h)
  refine ⟨fun hi => ⟨vs, hq, by rw [da.length]; exact Nat.le_of_eq hi.symm⟩, fun d hd => ?_⟩
  obtain ⟨v, hv, dv⟩ := da.get hd
  refine ⟨⟨vs, v, hq, hv⟩, fun x H' y => ?_⟩
  obtain ⟨e, y⟩ := y
  subst e
  have := y vs hq
  rw [hv] at this
  cases this
  exact ⟨G, E, Same.refl _, dv.mono s, Same.refl _⟩
theorem dwalk_str {G0 : Hp} {z : Str} : DWalk K (Its z) G0 (z.cps.toList.map sign) := by
  intro B Γ σ H G E s i
  refine ⟨fun hi => ?_, fun d hd => ?_⟩
  · show z.cps.size ≤ i
    rw [hi]
    simp
  · rw [List.getElem?_map] at hd
    cases q : z.cps.toList[i]? with
    | none => rw [q] at hd; cases hd
    | some c =>
      rw [q] at hd
      cases hd
      have hi : i < z.cps.size := by simpa using (List.getElem?_eq_some_iff.mp q).1
      refine ⟨hi, fun x H' y => ?_⟩
      obtain ⟨e, c', hc, ex⟩ := y
      subst e ex
      have : c = c' := by
        have q' : z.cps[i]? = some c := by simpa using q
        rw [hc] at q'
        cases q'
        rfl
      subst this
      exact ⟨G, E, Same.refl _, .str _, Same.refl _⟩
theorem di_seq (h : DE X a Wa) : DI X tg a (wSeqI Wa) := by
  obtain ⟨t, p, r⟩ := h.ex
  refine ⟨_, pi_seq p, ?_⟩
  intro B Γ σ H G Q R E w k
  refine r B Γ σ H G _ _ E w fun v H1 G1 d Γ1 E1 s1 k1 d1 w1 => ?_
  cases d1 with
  | lst ga da => exact .inl ⟨_, rfl, ⟨_, SqL.of (E1.gh _ _ ga)⟩, k _ H1 G1 _ Γ1 E1 s1 k1 (dwalk_list ga da) w1⟩
  | tup ga da => exact .inr (.inl ⟨_, rfl, ⟨_, sqT_same E1.gh ga⟩, k _ H1 G1 _ Γ1 E1 s1 k1 (dwalk_tup ga da) w1⟩)
  | str z => exact .inr (.inr ⟨z, rfl, k _ H1 G1 _ Γ1 E1 s1 k1 dwalk_str w1⟩)
  | _ => exact w1.elim
/-! range -/
def rng (lo : Int) (n : Nat) : List PyData := (List.range n).map fun i => .int (lo + (i : Nat))
theorem dwalk_range {G0 : Hp} {lo : Int} {n : Nat} : DWalk K (Itr lo n) G0 (rng lo n) := by
  intro B Γ σ H G E s i
  have hl : (rng lo n).length = n := by unfold rng; simp
  refine ⟨fun hi => by rw [hl] at hi; exact Nat.le_of_eq hi.symm, fun d hd => ?_⟩
  have hi : i < n := by
    have := (List.getElem?_eq_some_iff.mp hd).1
    rwa [hl] at this
  have hd' : d = .int (lo + (i : Nat)) := by
    unfold rng at hd
    rw [List.getElem?_map, List.getElem?_range hi] at hd
    cases hd
    rfl
  subst hd'
  refine ⟨hi, fun x H' y => ?_⟩
  obtain ⟨e, ex⟩ := y
  subst e ex
  exact ⟨G, E, Same.refl _, .int _, Same.refl _⟩
@[simp] def wRng1 (Wa : WE) : WI := fun Γ Q => Wa Γ fun d Γ1 => match d with
  | .int n => n < 2 ^ 62 ∧ -(2 ^ 62) ≤ n ∧ Q (rng 0 n.toNat) Γ1
  | _ => False
theorem di_range1 {p : Pos} (hg : Gl X "range") (hm : X.mg "range" = none) (ha : DE X a Wa) (hs : starEach [a] X.env = [(false, eval a X.env)] := by rfl) : DI X tg (.Call (.Name "range" p) [a] [] pos) (wRng1 Wa) := by
  obtain ⟨t, pa, r⟩ := ha.ex
  refine ⟨_, pi_range1 hg hm (pa_cons pa pa_nil hs) hs, ?_⟩
  intro B Γ σ H G Q R E w k
  refine r B Γ σ H G _ _ E w fun v H1 G1 d Γ1 E1 s1 k1 d1 w1 => ?_
  cases d1 with
  | int n => exact ⟨n, rfl, w1.2.1, w1.1, k _ H1 G1 _ Γ1 E1 s1 k1 dwalk_range w1.2.2⟩
  | _ => exact w1.elim
@[simp] def wRng2 (Wa Wb : WE) : WI := fun Γ Q => Wa Γ fun d Γ1 => Wb Γ1 fun e Γ2 => match d, e with
  | .int i, .int j => (-(2 ^ 62) ≤ i ∧ i < 2 ^ 62 ∧ -(2 ^ 62) ≤ j ∧ j < 2 ^ 62) ∧ Q (rng i (j - i).toNat) Γ2
  | _, _ => False
theorem di_range2 {p : Pos} (hg : Gl X "range") (hm : X.mg "range" = none) (ha : DE X a Wa) (hb : DE X b Wb) (hs : starEach [a, b] X.env = [(false, eval a X.env), (false, eval b X.env)] := by rfl) (hs2 : starEach [b] X.env = [(false, eval b X.env)] := by rfl) (hs3 : starEach [a, b] X.env = (false, eval a X.env) :: starEach [b] X.env := by rfl) :
    DI X tg (.Call (.Name "range" p) [a, b] [] pos) (wRng2 Wa Wb) := by
  obtain ⟨t, pa, r⟩ := ha.ex
  obtain ⟨t', pb, r'⟩ := hb.ex
  refine ⟨_, pi_range2 hg hm (pa_cons pa (pa_cons pb pa_nil hs2) hs3) hs hs2, ?_⟩
  intro B Γ σ H G Q R E w k
  refine r B Γ σ H G _ _ E w fun v H1 G1 d Γ1 E1 s1 k1 d1 w1 => ?_
  refine r' B Γ1 σ H1 G1 _ _ E1 w1 fun v2 H2 G2 d2 Γ2 E2 s2 k2 d2' w2 => ?_
  cases d1 with
  | int i =>
    cases d2' with
    | int j => exact ⟨i, j, rfl, w2.1, k _ H2 G2 _ Γ2 E2 (s1.trans s2) (k1.trans k2) dwalk_range w2.2⟩
    | _ => exact w2.elim
  | _ => cases d2' <;> exact w2.elim
end
end DL

namespace DL
open PySem PySem.Spec PyProof.Rows L2
/-! ## enumerate of a text -/
def Ites (z : Str) : It := ⟨fun i _ => i < z.cps.size, fun i H v H' => ∃ T c, v = .ref T ∧ H T = none ∧ z.cps[i]? = some c ∧ H' = upd H T (.tup [.int (i : Nat), .str ⟨#[c]⟩]), fun i _ => i = z.cps.size⟩
theorem draws_str {prog : Program} {w : World} {A : Around} (hh : A.handled = none) (it : Addr) (x : Str) (t : Tok) (ty : String) (hty : ty = "str_ascii_iterator" ∨ ty = "str_iterator") :
    Draws prog w A it [it] x.cps.size (fun i v => ∃ c u, x.cps[i]? = some c ∧ v = .str ⟨#[c]⟩ u) (fun i h => h.IsStrIter it ty x t i) := by
  rcases hty with e | e
  · subst e; exact Draws.strAscii hh it x t
  · subst e; exact Draws.strWide hh it x t
theorem turn_enumS {P : Program} {w : World} {K : PySem.W.Frag} {elts : List Expr} {kk : Nat} {tpos : Pos} (e it : Addr) (x : Str) (t : Tok) (ty : String) (hty : ty = "str_ascii_iterator" ∨ ty = "str_iterator") (hne : e ≠ it) :
    Turn P w K (.Tuple elts kk tpos) (Ites x) [e, it] e (fun i h => (∃ old, IsEnum h e it ((0 : Int) + (i : Nat)) old) ∧ h.IsStrIter it ty x t i) where
  mem := by simp
  obj := fun i h st b hb => by
    obtain ⟨⟨old, he⟩, ⟨o, ho, hc, hd⟩⟩ := st
    have e' : b = e ∨ b = it := by simpa using hb
    rcases e' with z | z
    · rw [z]; exact ⟨_, he, fun v q => nomatch q⟩
    · rw [z]; exact ⟨o, ho, fun v q => by rw [hd] at q; cases q⟩
  keep := fun i h h' st k => by
    obtain ⟨⟨old, he⟩, ⟨o, ho, r⟩⟩ := st
    exact ⟨⟨old, k e (by simp) _ he⟩, ⟨o, k it (by simp) o ho, r⟩⟩
  item := by
    intro X hP hw hK hc i pins s σ H E I hf st hg
    subst hP hw hK
    have D := draws_str (prog := X.prog) (w := X.w) (A := X.A.in1) (I.ok.hd hc) it x t ty hty
    have W := WalksT.enumFrom (0 : Int) D e hne (by simpa using hne) (by simp)
    have hel : e < s.heap.objs.size := by obtain ⟨⟨_, he⟩, _⟩ := st; exact Heap.lt_size he
    have hil : it < s.heap.objs.size := by obtain ⟨_, ⟨_, q, _⟩⟩ := st; exact Heap.lt_size q
    have hbl : ∀ b ∈ [e, it], b < s.heap.objs.size := fun b hb => by
      have e' : b = e ∨ b = it := by simpa using hb
      rcases e' with z | z
      · rw [z]; exact hel
      · rw [z]; exact hil
    refine W.item i s _ _ hg st fun T vals h' tk hPt hT htup hMid hk => ?_
    obtain ⟨t0, v0, ⟨c, u, hcx, rfl⟩, rfl⟩ := hPt
    refine ⟨_, rfl, W.go elts kk tpos i T { s with heap := h', toks := tk } _ _ hMid fun h'' hSt hk'' => ?_⟩
    have hTw := W.apart i T h' hMid
    have htup2 : IsTup h'' T #[.int ((0 : Int) + (i : Nat)) t0, .str ⟨#[c]⟩ u] := by
      obtain ⟨o, ho, r⟩ := htup
      exact ⟨o, hk'' T o hTw ho, r⟩
    have ei : (0 : Int) + (i : Nat) = (i : Nat) := Int.zero_add _
    rw [ei] at htup2
    have new : ObjOk X.prog X.w (upd H T (.tup [.int (i : Nat), .str ⟨#[c]⟩])) h'' T (.tup [.int (i : Nat), .str ⟨#[c]⟩]) :=
      ⟨by show 2 ≤ sizeLine; decide, [.int (i : Nat) t0, .str ⟨#[c]⟩ u], .cons ⟨_, rfl⟩ (.cons ⟨_, rfl⟩ .nil), htup2⟩
    have I1 : Inv X pins σ (upd H T (.tup [.int (i : Nat), .str ⟨#[c]⟩])) { s with heap := h'', toks := tk } :=
      I.turnedNew (ch := [e, it]) (fun b ob hb q => hk'' b ob hb (hk b ob hb q)) hf hT new
    refine ⟨.ref T, _, I1, rfl, ⟨T, c, rfl, I.hok.fresh hT, hcx, rfl⟩, hSt, fun b hb => ?_⟩
    rw [upd_ne (Nat.ne_of_lt (Nat.lt_of_lt_of_le (hbl b hb) hT))]
    exact (hf b hb).1
  done := by
    intro X hP hw hK hc i pins s σ H E I hf st hg
    subst hP hw hK
    have D := draws_str (prog := X.prog) (w := X.w) (A := X.A.in1) (I.ok.hd hc) it x t ty hty
    have W := WalksT.enumFrom (0 : Int) D e hne (by simpa using hne) (by simp)
    have hle : i = x.cps.size := hg
    subst hle
    refine W.done s _ _ st fun h' tk eb => ⟨rfl, I.turnedL (t' := tk) (ch := [e, it]) eb hf⟩
  self := fun A i s Q E st h => let ⟨⟨_, he⟩, _⟩ := st; wpAny_pyIter_enum he h
/-! .. of a tuple -/
def IteT (K : PySem.W.Frag) (a : Addr) : It :=
  ⟨fun i H => ∃ (xs : List V) (x : V), SqT K H a xs ∧ xs[i]? = some x, fun i H v H' => ∃ T x, v = .ref T ∧ H T = none ∧ H' = upd H T (.tup [.int (i : Nat), x]) ∧ ∀ xs, SqT K H a xs → xs[i]? = some x, fun i H => ∃ xs : List V, SqT K H a xs ∧ xs.length = i⟩
theorem turn_enumT {P : Program} {w : World} {K : PySem.W.Frag} {elts : List Expr} {kk : Nat} {tpos : Pos} (a e it : Addr) :
    Turn P w K (.Tuple elts kk tpos) (IteT K a) [e, it] e (fun i h => ((∃ old, IsEnum h e it ((0 : Int) + (i : Nat)) old) ∧ h.IsTupleIter it a i) ∧ e ≠ it ∧ e ≠ a ∧ a ≠ it) where
  mem := by simp
  obj := fun i h st b hb => by
    obtain ⟨⟨⟨old, he⟩, ⟨o, ho, hc, hd⟩⟩, _⟩ := st
    have e' : b = e ∨ b = it := by simpa using hb
    rcases e' with z | z
    · rw [z]; exact ⟨_, he, fun v q => nomatch q⟩
    · rw [z]; exact ⟨o, ho, fun v q => by rw [hd] at q; cases q⟩
  keep := fun i h h' st k => by
    obtain ⟨⟨⟨old, he⟩, ⟨o, ho, r⟩⟩, ap⟩ := st
    exact ⟨⟨⟨old, k e (by simp) _ he⟩, ⟨o, k it (by simp) o ho, r⟩⟩, ap⟩
  item := by
    intro X hP hw hK hc i pins s σ H E I hf st hg
    subst hP hw hK
    obtain ⟨xs, x, hq, hx⟩ := hg
    obtain ⟨its, rv, p, hz⟩ := I.tuple hq
    obtain ⟨⟨hen, hti⟩, hne, hea, hai⟩ := st
    have D := Draws.tuple (prog := X.prog) (w := X.w) (A := X.A.in1) (I.ok.hd hc) it a hai its.toArray
    have W := WalksT.enumFrom (0 : Int) D e hne (by simp [hne, hea]) (by simp)
    have hel : e < s.heap.objs.size := by obtain ⟨_, he⟩ := hen; exact Heap.lt_size he
    have hil : it < s.heap.objs.size := by obtain ⟨_, q, _⟩ := hti; exact Heap.lt_size q
    have hbl : ∀ b ∈ [e, it], b < s.heap.objs.size := fun b hb => by
      have e' : b = e ∨ b = it := by simpa using hb
      rcases e' with z | z
      · rw [z]; exact hel
      · rw [z]; exact hil
    obtain ⟨u, hu, ru⟩ := rv.get hx
    have hlt : i < its.toArray.size := by
      have := (List.getElem?_eq_some_iff.mp hu).1
      simpa using this
    refine W.item i s _ _ hlt ⟨hen, hti, p⟩ fun T vals h' tk hPt hT htup hMid hk => ?_
    obtain ⟨t0, v0, hv0, rfl⟩ := hPt
    have ev : v0 = u := by
      have hv0 : its.toArray[i]? = some v0 := hv0
      rw [List.getElem?_toArray, hu] at hv0
      exact (Option.some.inj hv0).symm
    subst ev
    refine ⟨_, rfl, W.go elts kk tpos i T { s with heap := h', toks := tk } _ _ hMid fun h'' hSt hk'' => ?_⟩
    have hTw := W.apart i T h' hMid
    have htup2 : IsTup h'' T #[.int ((0 : Int) + (i : Nat)) t0, v0] := by
      obtain ⟨o, ho, r⟩ := htup
      exact ⟨o, hk'' T o hTw ho, r⟩
    rw [Int.zero_add] at htup2
    have new : ObjOk X.prog X.w (upd H T (.tup [.int (i : Nat), x])) h'' T (.tup [.int (i : Nat), x]) :=
      ⟨by show 2 ≤ sizeLine; decide, [.int (i : Nat) t0, v0], .cons ⟨_, rfl⟩ (.cons ru .nil), htup2⟩
    have I1 : Inv X pins σ (upd H T (.tup [.int (i : Nat), x])) { s with heap := h'', toks := tk } :=
      I.turnedNew (ch := [e, it]) (fun b ob hb q => hk'' b ob hb (hk b ob hb q)) hf hT new
    refine ⟨.ref T, _, I1, rfl, ⟨T, x, rfl, I.hok.fresh hT, rfl, fun ys hy => by rw [I.tuple_inj hy hq]; exact hx⟩, ⟨⟨hSt.1, hSt.2.1⟩, hne, hea, hai⟩, fun b hb => ?_⟩
    rw [upd_ne (Nat.ne_of_lt (Nat.lt_of_lt_of_le (hbl b hb) hT))]
    exact (hf b hb).1
  done := by
    intro X hP hw hK hc i pins s σ H E I hf st hg
    subst hP hw hK
    obtain ⟨xs, hq, hx⟩ := hg
    obtain ⟨its, rv, p, hz⟩ := I.tuple hq
    obtain ⟨⟨hen, hti⟩, hne, hea, hai⟩ := st
    have D := Draws.tuple (prog := X.prog) (w := X.w) (A := X.A.in1) (I.ok.hd hc) it a hai its.toArray
    have W := WalksT.enumFrom (0 : Int) D e hne (by simp [hne, hea]) (by simp)
    have hle : i = its.toArray.size := by
      have := rv.length
      rw [List.size_toArray]
      omega
    subst hle
    exact W.done s _ _ ⟨hen, hti, p⟩ fun h' tk eb => ⟨rfl, I.turnedL (t' := tk) (ch := [e, it]) eb hf⟩
  self := fun A i s Q E st h => let ⟨⟨⟨_, he⟩, _⟩, _⟩ := st; wpAny_pyIter_enum he h
set_option maxHeartbeats 8000000 in
theorem meets_enum1 {v : Value} {o : Obj} {Hc : Heap → Prop} (B : Begins v o Hc) :
    Meets (Builtin.«enumerate.__new__» ⟨[.type "enumerate", v], []⟩) (fun _ R s => Hc s.heap ∧ R (.ok (.ret (.ref (s.heap.push o).objs.size))) { s with heap := (s.heap.push o).push { cls := .type "enumerate", data := .fields #[.none, .bool false, .ref s.heap.objs.size, rawInt 0, .none, .none] } }) :=
  .of_wp fun prog w A R s h => by
    obtain ⟨hp, g, d, tk, os⟩ := s
    have sub0 := sub_enumerate
    have it0 : ∀ {A' : Around} {E : Value → Shared → Prop} {Q : Value → Shared → Prop}, Q (.ref hp.objs.size) ⟨hp.push o, g, d, tk, os⟩ → wpAny (model prog w) A' (pyIter v) Q E ⟨hp, g, d, tk, os⟩ := fun q => B.iter prog w _ _ ⟨hp, g, d, tk, os⟩ _ h.1 q
    have fin := h.2
    wp_walk using it0
    refine wpAny_stack_any fun st => wpAny_pure ?_
    split
    · rename_i c _ _ _ _ _
      cases (c == Value.type "enumerate") <;> (wp_walk using it0; exact ⟨_, rfl, fin⟩)
    · wp_walk using it0
      exact ⟨_, rfl, fin⟩
theorem call_enum1 {prog : Program} {w : World} {A : Around} {E : Value → Shared → Prop} {s : Shared} {v : Value} {o : Obj} {Hc : Heap → Prop} {Q : Value → Shared → Prop} (B : Begins v o Hc) (h1 : Hc s.heap)
    (h : ∀ h', IsEnum h' (s.heap.objs.size + 1) s.heap.objs.size 0 .none → h'.get? s.heap.objs.size = some o → (∀ b u, s.heap.get? b = some u → h'.get? b = some u) → Q (.ref (s.heap.objs.size + 1)) { s with heap := h' }) :
    wpAny (model prog w) A (call (.type "enumerate") [v]) Q E s := by
  have z : (s.heap.push o).objs.size = s.heap.objs.size + 1 := Heap.size_push ..
  have en : IsEnum ((s.heap.push o).push { cls := .type "enumerate", data := .fields #[.none, .bool false, .ref s.heap.objs.size, rawInt 0, .none, .none] }) (s.heap.objs.size + 1) s.heap.objs.size 0 .none := by
    rw [← z]
    exact Heap.get?_push_size (s.heap.push o) rfl
  refine callType_new F.called_enumerate (by decide) (F.typeCall_enumerate_1 _) (F.newCall_enumerate_1 _) (fun obj => F.args_object_init_2 obj _) F.entry_enumerate_new (meets_enum1 B) ⟨h1, ?_⟩
  rw [z]
  exact ⟨⟨_, en, rfl⟩, h _ en (Heap.get?_push_of_some _ (Heap.get?_push_size _ B.free)) fun b u x => Heap.get?_push_of_some _ (Heap.get?_push_of_some _ x)⟩
section
variable {X : Cx} {K : PySem.W.Frag} {a b c e tg : Expr} {es tgs : List Expr} {Wa Wb Wc : WE} {Wr : WA} {pos : Pos} {WT' : WT} {ts us : List Nat}
def iEnumU (K : PySem.W.Frag) (ta : TA) : TI := fun σ H R => ta σ H fun vs H1 => (∃ a xs, vs = [V.ref a] ∧ SqL K H1 a xs ∧ R (Ite K a) H1) ∨ (∃ z, vs = [V.str z] ∧ R (Ites z) H1) ∨ ∃ a xs, vs = [V.ref a] ∧ SqT K H1 a xs ∧ R (IteT K a) H1
theorem pi_enumU {ta : TA} {p pos tpos : Pos} {elts : List Expr} {kk : Nat} (hg : Gl X "enumerate") (hm : X.mg "enumerate" = none) (ha : PA X [e] ta) (hs : starEach [e] X.env = [(false, eval e X.env)] := by rfl) :
    PI X (.Tuple elts kk tpos) (.Call (.Name "enumerate" p) [e] [] pos) (iEnumU X.K ta) := by
  refine ⟨fun pins s σ H R I h => ?_⟩
  refine Call_ (ld_blt I hg hm boot_enumerate (PyProof.Rows.callWith_type1 (thn (ha.run pos pins s σ H _ I h) fun us s1 ⟨vs, H1, I1, r1, q1⟩ => ?_) hs rfl))
  have fr : ∀ b ∈ [s1.heap.objs.size + 1, s1.heap.objs.size], FpOk X pins H1 b := fun b hb => by
    have e' : b = s1.heap.objs.size + 1 ∨ b = s1.heap.objs.size := by simpa using hb
    have hle : s1.heap.objs.size ≤ b := by
      rcases e' with z | z
      · rw [z]; exact Nat.le_add_right _ _
      · rw [z]; exact Nat.le_refl _
    exact I1.fpOk hle (I1.hok.fresh hle)
  rcases q1 with ⟨a, xs, ex, hq, q⟩ | ⟨z, ex, q⟩ | ⟨a, xs, ex, hq, q⟩
  · subst ex
    cases r1 with
    | cons r rr =>
      cases rr
      cases r
      obtain ⟨its, rv, p', hz⟩ := I1.list hq
      refine call_enumerate_list p'.isList fun h' he hit hsz hk => wpAny_pyIter_enum he ?_
      have I2 : Inv X pins σ H1 { s1 with heap := h' } := I1.kept (t' := s1.toks) hk
      exact ⟨s1.heap.objs.size + 1, [s1.heap.objs.size + 1, s1.heap.objs.size], _, _, H1, rfl, I2, turn_enum a (s1.heap.objs.size + 1) s1.heap.objs.size, ⟨⟨.none, he⟩, hit, Nat.succ_ne_self _⟩, fr, q⟩
  · subst ex
    cases r1 with
    | cons r rr =>
      cases rr
      obtain ⟨t, rfl⟩ := r
      refine call_enumerate_str fun h' he hit hsz hk => wpAny_pyIter_enum he ?_
      have I2 : Inv X pins σ H1 { s1 with heap := h' } := I1.kept (t' := s1.toks) hk
      have hty : strIterType z = "str_ascii_iterator" ∨ strIterType z = "str_iterator" := by
        unfold strIterType
        cases z.cps.all (· < 128)
        · exact .inr rfl
        · exact .inl rfl
      refine ⟨s1.heap.objs.size + 1, [s1.heap.objs.size + 1, s1.heap.objs.size], _, _, H1, rfl, I2, turn_enumS (s1.heap.objs.size + 1) s1.heap.objs.size z t (strIterType z) hty (Nat.succ_ne_self _), ⟨⟨.none, ?_⟩, hit⟩, fr, q⟩
      exact he
  · subst ex
    cases r1 with
    | cons r rr =>
      cases rr
      cases r
      obtain ⟨its, rv, p', hz⟩ := I1.tuple hq
      have hal : a < s1.heap.objs.size := by obtain ⟨o, q, _⟩ := id p'; exact Heap.lt_size q
      refine call_enum1 (begins_tuple a its.toArray) p' fun h' he hit hk => wpAny_pyIter_enum he ?_
      have I2 : Inv X pins σ H1 { s1 with heap := h' } := I1.kept (t' := s1.toks) hk
      refine ⟨s1.heap.objs.size + 1, [s1.heap.objs.size + 1, s1.heap.objs.size], _, _, H1, rfl, I2, turn_enumT a (s1.heap.objs.size + 1) s1.heap.objs.size, ⟨⟨⟨.none, he⟩, ⟨_, hit, rfl, rfl⟩⟩, Nat.succ_ne_self _, Nat.ne_of_gt (Nat.lt_succ_of_lt hal), Nat.ne_of_lt hal⟩, fr, q⟩
def enumFrom : Nat → List PyData → List PyData
  | _, [] => []
  | k, d :: ds => .tuple [.int (k : Nat), d] :: enumFrom (k + 1) ds
theorem enumFrom_len : ∀ (k : Nat) (ds : List PyData), (enumFrom k ds).length = ds.length
  | _, [] => rfl
  | k, _ :: ds => congrArg Nat.succ (enumFrom_len (k + 1) ds)
theorem enumFrom_get : ∀ (k : Nat) (ds : List PyData) (i : Nat), (enumFrom k ds)[i]? = (ds[i]?).map fun d => .tuple [.int ((k + i : Nat) : Int), d]
  | _, [], i => by simp [enumFrom]
  | k, d :: ds, 0 => by simp [enumFrom]
  | k, d :: ds, i + 1 => by
    show (enumFrom (k + 1) ds)[i]? = _
    rw [enumFrom_get (k + 1) ds i]
    have e : k + 1 + i = k + (i + 1) := by omega
    rw [e]
    simp
theorem En.newTup {B : Bs} {σ : L2.St} {H G : Hp} {Γ : Gam} {T : Addr} {vs : List V} {ds : List PyData} (E : En K B σ H G Γ) (hT : H T = none) (da : DdAll K G vs ds) :
    En K B σ (upd H T (.tup vs)) (upd G T (.tup vs)) Γ ∧ Same G (upd G T (.tup vs)) ∧ Dd K (upd G T (.tup vs)) (.ref T) (.tuple ds) ∧ Same H (upd H T (.tup vs)) :=
  ⟨E.laid hT, sameNew (E.gnone hT), .tup (SqT.of upd_same) (da.mono (sameNew (E.gnone hT))), sameNew hT⟩
theorem dwalk_enum {G0 : Hp} {p : Addr} {vs : List V} {ds : List PyData} (h : G0 p = some (.lst vs)) (da : DdAll K G0 vs ds) : DWalk K (Ite K p) G0 (enumFrom 0 ds) := by
  intro B Γ σ H G E s i
  have hq : SqL K H p vs := SqL.of (E.gh _ _ (s _ _ h))
  refine ⟨fun hi => ⟨vs, hq, by rw [hi, enumFrom_len, da.length]; exact Nat.le_refl _⟩, fun d hd => ?_⟩
  rw [enumFrom_get] at hd
  cases q : ds[i]? with
  | none => rw [q] at hd; cases hd
  | some d0 =>
    rw [q] at hd
    have hd : PyData.tuple [.int ((0 + i : Nat) : Int), d0] = d := Option.some.inj hd
    rw [Nat.zero_add] at hd
    subst hd
    obtain ⟨v, hv, dv⟩ := da.get q
    refine ⟨⟨vs, v, hq, hv⟩, fun x H' y => ?_⟩
    obtain ⟨T, x0, ex, hT, eH, y⟩ := y
    have := y vs hq
    rw [hv] at this
    cases this
    subst ex eH
    obtain ⟨a1, a2, a3, a4⟩ := E.newTup hT (.cons (.int (i : Nat)) (.cons (dv.mono s) .nil))
    exact ⟨_, a1, a2, a3, a4⟩
theorem dwalk_enumT {G0 : Hp} {p : Addr} {vs : List V} {ds : List PyData} (h : SqT K G0 p vs) (da : DdAll K G0 vs ds) : DWalk K (IteT K p) G0 (enumFrom 0 ds) := by
  intro B Γ σ H G E s i
  have hq : SqT K H p vs := sqT_same E.gh (sqT_same s h)
  refine ⟨fun hi => ⟨vs, hq, by rw [hi, enumFrom_len, da.length]⟩, fun d hd => ?_⟩
  rw [enumFrom_get] at hd
  cases q : ds[i]? with
  | none => rw [q] at hd; cases hd
  | some d0 =>
    rw [q] at hd
    have hd : PyData.tuple [.int ((0 + i : Nat) : Int), d0] = d := Option.some.inj hd
    rw [Nat.zero_add] at hd
    subst hd
    obtain ⟨v, hv, dv⟩ := da.get q
    refine ⟨⟨vs, v, hq, hv⟩, fun x H' y => ?_⟩
    obtain ⟨T, x0, ex, hT, eH, y⟩ := y
    have := y vs hq
    rw [hv] at this
    cases this
    subst ex eH
    obtain ⟨a1, a2, a3, a4⟩ := E.newTup hT (.cons (.int (i : Nat)) (.cons (dv.mono s) .nil))
    exact ⟨_, a1, a2, a3, a4⟩
theorem dwalk_enumS {G0 : Hp} {z : Str} : DWalk K (Ites z) G0 (enumFrom 0 (z.cps.toList.map sign)) := by
  intro B Γ σ H G E s i
  refine ⟨fun hi => ?_, fun d hd => ?_⟩
  · show i = z.cps.size
    rw [hi, enumFrom_len]
    simp
  · rw [enumFrom_get, List.getElem?_map] at hd
    cases q : z.cps.toList[i]? with
    | none => rw [q] at hd; cases hd
    | some c =>
      rw [q] at hd
      have hd : PyData.tuple [.int ((0 + i : Nat) : Int), sign c] = d := Option.some.inj hd
      rw [Nat.zero_add] at hd
      subst hd
      have hi : i < z.cps.size := by simpa using (List.getElem?_eq_some_iff.mp q).1
      refine ⟨hi, fun x H' y => ?_⟩
      obtain ⟨T, c', ex, hT, hc, eH⟩ := y
      have : c = c' := by
        have q' : z.cps[i]? = some c := by simpa using q
        rw [hc] at q'
        cases q'
        rfl
      subst this ex eH
      obtain ⟨a1, a2, a3, a4⟩ := E.newTup hT (.cons (.int (i : Nat)) (.cons (.str ⟨#[c]⟩) .nil))
      exact ⟨_, a1, a2, a3, a4⟩
@[simp] def wEnum (Wa : WE) : WI := fun Γ Q => Wa Γ fun d Γ1 => match d with
  | .list ds => Q (enumFrom 0 ds) Γ1
  | .tuple ds => Q (enumFrom 0 ds) Γ1
  | .str z => Q (enumFrom 0 (z.cps.toList.map sign)) Γ1
  | _ => False
theorem di_enum {p tpos : Pos} {elts : List Expr} {kk : Nat} (hg : Gl X "enumerate") (hm : X.mg "enumerate" = none) (ha : DE X e Wa) (hs : starEach [e] X.env = [(false, eval e X.env)] := by rfl) : DI X (.Tuple elts kk tpos) (.Call (.Name "enumerate" p) [e] [] pos) (wEnum Wa) := by
  obtain ⟨t, pa, r⟩ := ha.ex
  refine ⟨_, pi_enumU hg hm (pa_cons pa pa_nil hs) hs, ?_⟩
  intro B Γ σ H G Q R E w k
  refine r B Γ σ H G _ _ E w fun v H1 G1 d Γ1 E1 s1 k1 d1 w1 => ?_
  cases d1 with
  | lst ga da => exact .inl ⟨_, _, rfl, SqL.of (E1.gh _ _ ga), k _ H1 G1 _ Γ1 E1 s1 k1 (dwalk_enum ga da) w1⟩
  | tup ga da => exact .inr (.inr ⟨_, _, rfl, sqT_same E1.gh ga, k _ H1 G1 _ Γ1 E1 s1 k1 (dwalk_enumT ga da) w1⟩)
  | str z => exact .inr (.inl ⟨z, rfl, k _ H1 G1 _ Γ1 E1 s1 k1 dwalk_enumS w1⟩)
  | _ => exact w1.elim
/-! ## zip -/
def zipD : List PyData → List PyData → List PyData
  | x :: xs, y :: ys => .tuple [x, y] :: zipD xs ys
  | _, _ => []
theorem zipD_len : ∀ xs ys : List PyData, (zipD xs ys).length = min xs.length ys.length
  | [], _ => by simp [zipD]
  | _ :: _, [] => by simp [zipD]
  | _ :: xs, _ :: ys => by
    show (zipD xs ys).length + 1 = min (xs.length + 1) (ys.length + 1)
    rw [zipD_len xs ys]
    omega
theorem zipD_get : ∀ (xs ys : List PyData) (i : Nat) (d : PyData), (zipD xs ys)[i]? = some d → ∃ x y, xs[i]? = some x ∧ ys[i]? = some y ∧ d = .tuple [x, y]
  | [], _, i, d, h => by simp [zipD] at h
  | _ :: _, [], i, d, h => by simp [zipD] at h
  | x :: xs, y :: ys, 0, d, h => by
    simp [zipD] at h
    exact ⟨x, y, by simp, by simp, h.symm⟩
  | x :: xs, y :: ys, i + 1, d, h => by
    obtain ⟨a, b, h1, h2, h3⟩ := zipD_get xs ys i d (by simpa [zipD] using h)
    exact ⟨a, b, by simpa using h1, by simpa using h2, h3⟩
theorem dwalk_zip {G0 : Hp} {p q : Addr} {vs us : List V} {ds es : List PyData} (h : G0 p = some (.lst vs)) (da : DdAll K G0 vs ds) (h' : G0 q = some (.lst us)) (db : DdAll K G0 us es) : DWalk K (Itz K p q) G0 (zipD ds es) := by
  intro B Γ σ H G E s i
  have h1 : SqL K H p vs := SqL.of (E.gh _ _ (s _ _ h))
  have h2 : SqL K H q us := SqL.of (E.gh _ _ (s _ _ h'))
  refine ⟨fun hi => ⟨vs, us, h1, h2, ?_⟩, fun d hd => ?_⟩
  · have e1 := da.length
    have e2 := db.length
    rw [zipD_len] at hi
    omega
  · obtain ⟨x, y, hx, hy, rfl⟩ := zipD_get ds es i d hd
    obtain ⟨v, hv, dv⟩ := da.get hx
    obtain ⟨u, hu, du⟩ := db.get hy
    refine ⟨⟨vs, us, v, u, h1, h2, hv, hu⟩, fun z H' yy => ?_⟩
    obtain ⟨T, x0, y0, ex, hT, eH, y1, y2⟩ := yy
    have g1 := y1 vs h1
    have g2 := y2 us h2
    rw [hv] at g1
    rw [hu] at g2
    cases g1
    cases g2
    subst ex eH
    obtain ⟨a1, a2, a3, a4⟩ := E.newTup hT (.cons (dv.mono s) (.cons (du.mono s) .nil))
    exact ⟨_, a1, a2, a3, a4⟩
theorem dwalk_zipT {G0 : Hp} {p q : Addr} {vs us : List V} {ds es : List PyData} (h : SqT K G0 p vs) (da : DdAll K G0 vs ds) (h' : SqT K G0 q us) (db : DdAll K G0 us es) : DWalk K (RZ.ItzT K p q) G0 (zipD ds es) := by
  intro B Γ σ H G E s i
  have h1 : SqT K H p vs := sqT_same E.gh (sqT_same s h)
  have h2 : SqT K H q us := sqT_same E.gh (sqT_same s h')
  refine ⟨fun hi => ⟨vs, us, h1, h2, ?_⟩, fun d hd => ?_⟩
  · have e1 := da.length
    have e2 := db.length
    rw [zipD_len] at hi
    omega
  · obtain ⟨x, y, hx, hy, rfl⟩ := zipD_get ds es i d hd
    obtain ⟨v, hv, dv⟩ := da.get hx
    obtain ⟨u, hu, du⟩ := db.get hy
    refine ⟨⟨vs, us, v, u, h1, h2, hv, hu⟩, fun z H' yy => ?_⟩
    obtain ⟨T, x0, y0, ex, hT, eH, y1, y2⟩ := yy
    have g1 := y1 vs h1
    have g2 := y2 us h2
    rw [hv] at g1
    rw [hu] at g2
    cases g1
    cases g2
    subst ex eH
    obtain ⟨a1, a2, a3, a4⟩ := E.newTup hT (.cons (dv.mono s) (.cons (du.mono s) .nil))
    exact ⟨_, a1, a2, a3, a4⟩
@[simp] def wZip (Wa Wb : WE) : WI := fun Γ Q => Wa Γ fun d Γ1 => Wb Γ1 fun e Γ2 => match d, e with
  | .list ds, .list es => Q (zipD ds es) Γ2
  | .tuple ds, .tuple es => Q (zipD ds es) Γ2
  | _, _ => False
theorem di_zip {p tpos : Pos} {elts : List Expr} {kk : Nat} (hg : Gl X "zip") (hm : X.mg "zip" = none) (ha : DE X a Wa) (hb : DE X b Wb) (hs : starEach [a, b] X.env = (false, eval a X.env) :: starEach [b] X.env := by rfl) (hs2 : starEach [b] X.env = (false, eval b X.env) :: starEach [] X.env := by rfl) (hpl : (backTo pos (starEach [b] X.env)).any (·.1) = false := by rfl) :
    DI X (.Tuple elts kk tpos) (.Call (.Name "zip" p) [a, b] [] pos) (wZip Wa Wb) := by
  obtain ⟨t, pa, r⟩ := ha.ex
  obtain ⟨t', pb, r'⟩ := hb.ex
  refine ⟨_, RZ.pi_zipA hg hm (pa_cons pa (pa_cons pb pa_nil hs2) hs) hs hpl, ?_⟩
  intro B Γ σ H G Q R E w k
  refine r B Γ σ H G _ _ E w fun v H1 G1 d Γ1 E1 s1 k1 d1 w1 => ?_
  refine r' B Γ1 σ H1 G1 _ _ E1 w1 fun u H2 G2 e Γ2 E2 s2 k2 d2 w2 => ?_
  have d1' := d1.mono s2
  cases d1' with
  | lst ga da =>
    cases d2 with
    | lst gb db => exact ⟨_, _, _, _, rfl, .inl ⟨SqL.of (E2.gh _ _ ga), SqL.of (E2.gh _ _ gb), k _ H2 G2 _ Γ2 E2 (s1.trans s2) (k1.trans k2) (dwalk_zip ga da gb db) w2⟩⟩
    | _ => exact w2.elim
  | tup ga da =>
    cases d2 with
    | tup gb db => exact ⟨_, _, _, _, rfl, .inr ⟨sqT_same E2.gh ga, sqT_same E2.gh gb, k _ H2 G2 _ Γ2 E2 (s1.trans s2) (k1.trans k2) (dwalk_zipT ga da gb db) w2⟩⟩
    | _ => exact w2.elim
  | _ => cases d2 <;> exact w2.elim
end
end DL

namespace DL
open PySem PySem.Spec PyProof.Rows L2
section
variable {X : Cx} {K : PySem.W.Frag} {a b c e tg elt iter : Expr} {es tgs ifs : List Expr} {Wa Wb Wc We : WE} {Wr : WA} {pos : Pos} {WT' : WT} {ts us : List Nat}
/-! ## list comprehensions -/
@[simp] def wipeG (Γ : Gam) : List Nat → Gam
  | [] => Γ
  | v :: vs => (wipeG Γ vs).set v .un
/-- behind the block: its own slots as they stood ahead, the others as they stand -/
@[simp] def restG (Γ Γ' : Gam) : List Nat → Gam
  | [] => Γ'
  | v :: vs => (restG Γ Γ' vs).set v (Γ.getD v .un)
theorem wipe_get {σ : L2.St} {i : Nat} : ∀ {vs : List Nat}, (i ∉ vs → (wipe σ vs)[i]? = σ[i]?) ∧ (i ∈ vs → (wipe σ vs)[i]? = (σ[i]?).map fun _ => none)
  | [] => ⟨fun _ => rfl, fun h => by simp at h⟩
  | v :: vs => by
    obtain ⟨h1, h2⟩ := wipe_get (σ := σ) (i := i) (vs := vs)
    have hl : (wipe σ vs).length = σ.length := wipe_length σ vs
    show (i ∉ v :: vs → ((wipe σ vs).set v none)[i]? = σ[i]?) ∧ (i ∈ v :: vs → ((wipe σ vs).set v none)[i]? = (σ[i]?).map fun _ => none)
    by_cases e : v = i
    · subst e
      refine ⟨fun h => absurd List.mem_cons_self h, fun _ => ?_⟩
      by_cases hv : v < σ.length
      · rw [List.getElem?_set_self (by rw [hl]; exact hv), List.getElem?_eq_getElem hv]
        rfl
      · rw [List.getElem?_eq_none (by rw [List.length_set, hl]; omega), List.getElem?_eq_none (by omega)]
        rfl
    · rw [List.getElem?_set_ne e]
      refine ⟨fun h => h1 fun z => h (List.mem_cons_of_mem _ z), fun h => h2 ?_⟩
      rcases List.mem_cons.mp h with h | h
      · exact absurd h.symm e
      · exact h
theorem wipeG_get {Γ : Gam} {i : Nat} : ∀ {vs : List Nat}, (wipeG Γ vs).length = Γ.length ∧ (i ∉ vs → (wipeG Γ vs)[i]? = Γ[i]?) ∧ (i ∈ vs → (wipeG Γ vs)[i]? = (Γ[i]?).map fun _ => Sl.un)
  | [] => ⟨rfl, fun _ => rfl, fun h => by simp at h⟩
  | v :: vs => by
    obtain ⟨hl, h1, h2⟩ := wipeG_get (Γ := Γ) (i := i) (vs := vs)
    show ((wipeG Γ vs).set v .un).length = Γ.length ∧ (i ∉ v :: vs → ((wipeG Γ vs).set v .un)[i]? = Γ[i]?) ∧ (i ∈ v :: vs → ((wipeG Γ vs).set v .un)[i]? = (Γ[i]?).map fun _ => Sl.un)
    refine ⟨by rw [List.length_set, hl], ?_⟩
    by_cases e : v = i
    · subst e
      refine ⟨fun h => absurd List.mem_cons_self h, fun _ => ?_⟩
      by_cases hv : v < Γ.length
      · rw [List.getElem?_set_self (by rw [hl]; exact hv), List.getElem?_eq_getElem hv]
        rfl
      · rw [List.getElem?_eq_none (by rw [List.length_set, hl]; omega), List.getElem?_eq_none (by omega)]
        rfl
    · rw [List.getElem?_set_ne e]
      refine ⟨fun h => h1 fun z => h (List.mem_cons_of_mem _ z), fun h => h2 ?_⟩
      rcases List.mem_cons.mp h with h | h
      · exact absurd h.symm e
      · exact h
theorem restG_get {Γ Γ' : Gam} (hlen : Γ.length = Γ'.length) {i : Nat} : ∀ {vs : List Nat}, (restG Γ Γ' vs).length = Γ.length ∧ (i ∉ vs → (restG Γ Γ' vs)[i]? = Γ'[i]?) ∧ (i ∈ vs → (restG Γ Γ' vs)[i]? = Γ[i]?)
  | [] => ⟨hlen.symm, fun _ => rfl, fun h => by simp at h⟩
  | v :: vs => by
    obtain ⟨hl, h1, h2⟩ := restG_get hlen (i := i) (vs := vs)
    show ((restG Γ Γ' vs).set v (Γ.getD v .un)).length = Γ.length ∧ (i ∉ v :: vs → ((restG Γ Γ' vs).set v (Γ.getD v .un))[i]? = Γ'[i]?) ∧ (i ∈ v :: vs → ((restG Γ Γ' vs).set v (Γ.getD v .un))[i]? = Γ[i]?)
    refine ⟨by rw [List.length_set, hl], ?_⟩
    by_cases e : v = i
    · subst e
      refine ⟨fun h => absurd List.mem_cons_self h, fun _ => ?_⟩
      by_cases hv : v < Γ.length
      · rw [List.getElem?_set_self (by rw [hl]; exact hv), List.getElem?_eq_getElem hv]
        simp [List.getD, List.getElem?_eq_getElem hv]
      · rw [List.getElem?_eq_none (by rw [List.length_set, hl]; omega), List.getElem?_eq_none (by omega)]
    · rw [List.getElem?_set_ne e]
      refine ⟨fun h => h1 fun z => h (List.mem_cons_of_mem _ z), fun h => h2 ?_⟩
      rcases List.mem_cons.mp h with h | h
      · exact absurd h.symm e
      · exact h
@[simp] def noOwn (Γ : Gam) (vs : List Nat) : Bool := vs.all fun v => (ownAt Γ v).isNone
theorem noOwn_of {Γ : Gam} {vs : List Nat} (h : noOwn Γ vs = true) {i : Nat} (hi : i ∈ vs) : ∀ ds, ¬ Own Γ i ds := by
  intro ds o
  unfold noOwn at h
  rw [List.all_eq_true] at h
  have h := h i hi
  unfold ownAt at h
  rcases o with o | o <;> (rw [o] at h; cases h)
/-- the frame within a block -/
theorem En.wiped {B : Bs} {σ : L2.St} {H G : Hp} {Γ : Gam} (E : En K B σ H G Γ) (vs : List Nat) : En K B (wipe σ vs) H G (wipeG Γ vs) := by
  have gg : ∀ {i : Nat} {s : Sl}, (wipeG Γ vs)[i]? = some s → s ≠ .un → i ∉ vs ∧ Γ[i]? = some s ∧ (wipe σ vs)[i]? = σ[i]? := fun {i s} h hs => by
    by_cases hi : i ∈ vs
    · exfalso
      rw [(wipeG_get (vs := vs)).2.2 hi] at h
      cases q : Γ[i]? with
      | none => rw [q] at h; cases h
      | some x => rw [q] at h; cases h; exact hs rfl
    · rw [(wipeG_get (vs := vs)).2.1 hi] at h
      exact ⟨hi, h, (wipe_get (vs := vs)).1 hi⟩
  have oo : ∀ {i : Nat} {ds : List PyData}, Own (wipeG Γ vs) i ds → Own Γ i ds ∧ (wipe σ vs)[i]? = σ[i]? := fun {i ds} o => by
    rcases o with o | o
    · obtain ⟨_, h1, h2⟩ := gg o (fun z => by cases z)
      exact ⟨.inl h1, h2⟩
    · obtain ⟨_, h1, h2⟩ := gg o (fun z => by cases z)
      exact ⟨.inr h1, h2⟩
  refine ⟨by rw [wipe_length, (wipeG_get (i := 0)).1]; exact E.len, E.gh, E.g0, E.h0, E.bh, E.f0, E.nn, fun i d h => ?_, fun i ds o => ?_, fun i ds o => ?_, fun i ds o => ?_, fun i ds o => ?_, fun i j p ds es o1 o2 h1 h2 => ?_⟩
  · obtain ⟨_, h1, h2⟩ := gg h (fun z => by cases z)
    rw [h2]
    exact E.dat i d h1
  · obtain ⟨h1, h2⟩ := oo o
    rw [h2]
    exact E.mine i ds h1
  · obtain ⟨_, h1, h2⟩ := gg o (fun z => by cases z)
    rw [h2]
    exact E.new i ds h1
  · obtain ⟨_, h1, h2⟩ := gg o (fun z => by cases z)
    rw [h2]
    exact E.par i ds h1
  · obtain ⟨_, h1, h2⟩ := gg o (fun z => by cases z)
    rw [h2]
    exact E.scr i ds h1
  · obtain ⟨g1, g2⟩ := oo o1
    obtain ⟨g3, g4⟩ := oo o2
    rw [g2] at h1
    rw [g4] at h2
    exact E.inj i j p ds es g1 g3 h1 h2
/-- behind the block -/
theorem En.rest {B B0 : Bs} {σ σ2 : L2.St} {H G H' G' : Hp} {Γ Γ1 Γ3 : Gam} {vs : List Nat} (E : En K B0 σ H G Γ) (E3 : En K B σ2 H' G' Γ3) (s : Same G G') (hno : noOwn Γ vs = true)
    (hσ : ∀ j : Nat, j ∉ vs → σ2[j]? = σ[j]?) (hΓ : ∀ j : Nat, j ∉ vs → Γ1[j]? = Γ[j]?) (hl : Γ1.length = Γ.length) (ks : KS Γ1 Γ3) : En K B σ H' G' (restG Γ Γ3 vs) ∧ KS Γ (restG Γ Γ3 vs) := by
  have hlen : Γ.length = Γ3.length := hl.symm.trans ks.len
  have out : ∀ {i : Nat}, i ∉ vs → (restG Γ Γ3 vs)[i]? = Γ3[i]? := fun hi => (restG_get hlen).2.1 hi
  have inn : ∀ {i : Nat}, i ∈ vs → (restG Γ Γ3 vs)[i]? = Γ[i]? := fun hi => (restG_get hlen).2.2 hi
  have oo : ∀ {i : Nat} {ds : List PyData}, Own (restG Γ Γ3 vs) i ds → i ∉ vs ∧ Own Γ3 i ds ∧ σ2[i]? = σ[i]? := fun {i ds} o => by
    by_cases hi : i ∈ vs
    · exfalso
      unfold Own at o
      rw [inn hi] at o
      exact noOwn_of hno hi ds o
    · unfold Own at o ⊢
      rw [out hi] at o
      exact ⟨hi, o, hσ i hi⟩
  refine ⟨⟨by rw [(restG_get (i := 0) hlen).1]; exact E.len, E3.gh, E3.g0, E3.h0, E3.bh, E3.f0, E3.nn, fun i d h => ?_, fun i ds o => ?_, fun i ds o => ?_, fun i ds o => ?_, fun i ds o => ?_, fun i j p ds es o1 o2 h1 h2 => ?_⟩, ⟨((restG_get (i := 0) hlen).1).symm, fun i x y hx hy => ?_⟩⟩
  · by_cases hi : i ∈ vs
    · rw [inn hi] at h
      obtain ⟨v, h1, h2⟩ := E.dat i d h
      exact ⟨v, h1, h2.mono s⟩
    · rw [out hi] at h
      obtain ⟨v, h1, h2⟩ := E3.dat i d h
      exact ⟨v, by rw [← hσ i hi]; exact h1, h2⟩
  · obtain ⟨_, h1, h2⟩ := oo o
    rw [← h2]
    exact E3.mine i ds h1
  · obtain ⟨hi, _, h2⟩ := oo (.inl o)
    rw [out hi] at o
    rw [← h2]
    exact E3.new i ds o
  · obtain ⟨hi, _, h2⟩ := oo (.inr o)
    rw [out hi] at o
    rw [← h2]
    exact E3.par i ds o
  · by_cases hi : i ∈ vs
    · rw [inn hi] at o
      exact E.scrG s i ds o
    · rw [out hi] at o
      rw [← hσ i hi]
      exact E3.scr i ds o
  · obtain ⟨_, g1, g2⟩ := oo o1
    obtain ⟨_, g3, g4⟩ := oo o2
    rw [← g2] at h1
    rw [← g4] at h2
    exact E3.inj i j p ds es g1 g3 h1 h2
  · by_cases hi : i ∈ vs
    · rw [inn hi, hx] at hy
      cases hy
      exact KS1.refl _
    · rw [out hi] at hy
      rw [← hΓ i hi] at hx
      exact ks.at' i x y hx hy
/-- a thing that is nobody's is written -/
theorem En.tempW {B : Bs} {σ : L2.St} {H G : Hp} {Γ : Gam} {D : Addr} {u o : HO} (E : En K B σ H G Γ) (hD : H D = some u) (gD : G D = none) (bD : B.H D = none) (hn : ∀ (i : Nat) es, Own Γ i es → σ[i]? ≠ some (some (V.ref D))) : En K B σ (upd H D o) G Γ := by
  refine ⟨E.len, fun b x h => ?_, E.g0, fun b x h hP => ?_, fun b h => ?_, E.f0, fun b h => E.nn b ?_, E.dat, fun i ds ow => ?_, E.new, E.par, E.scr, E.inj⟩
  · rw [upd_ne (ne_of_none h gD)]
    exact E.gh b x h
  · rw [upd_ne (ne_of_none h bD)]
    exact E.h0 b x h hP
  · by_cases hb : b = D
    · subst hb; rw [upd_same]; exact fun z => by cases z
    · rw [upd_ne hb]; exact E.bh b h
  · by_cases hb : b = D
    · subst hb; rw [upd_same] at h; cases h
    · rwa [upd_ne hb] at h
  · obtain ⟨q, vs, h1, h2, h3, h4, h5⟩ := E.mine i ds ow
    refine ⟨q, vs, h1, h2, ?_, h4, h5⟩
    have hq : q ≠ D := fun z => hn i ds ow (by rw [h1, z])
    rw [upd_ne hq]
    exact h3
def lcD (Wg : WG) (Wt : WT) (We : WE) (vs : List Nat) (Q : List PyData → Gam → Prop) : List PyData → List PyData → Gam → Prop
  | [], acc, Γ => Q acc Γ
  | d :: ds, acc, Γ => Wg d (wipeG Γ vs) fun Γ1 => Wt Γ1 fun b Γ2 => if b = true then We Γ2 fun x Γ3 => acc.length < sizeLine ∧ lcD Wg Wt We vs Q ds (acc ++ [x]) (restG Γ Γ3 vs) else lcD Wg Wt We vs Q ds acc (restG Γ Γ2 vs)
@[simp] def wLc (Wi : WI) (Wg : WG) (Wt : WT) (We : WE) (vs : List Nat) : WA := fun Γ Q => Wi Γ fun ds Γ1 => noOwn Γ1 vs = true ∧ lcD Wg Wt We vs Q ds [] Γ1
structure DTs (X : Cx) (ifs : List Expr) (W : WT) : Prop where
  ex : ∃ t, PTs X ifs t ∧ RT X.K t W
@[simp] def wYes : WT := fun Γ Q => Q true Γ
theorem dts_nil : DTs X [] wYes := ⟨_, pts_nil, by
  intro B Γ σ H G Q Q' E w k
  exact k true H G Γ E (Same.refl _) (KS.refl _) w⟩
theorem dts_one {W : WT} (h : DT X c W) : DTs X [c] W := by
  obtain ⟨t, p, r⟩ := h.ex
  exact ⟨_, pts_one p, r⟩
theorem rn_lc {wi : TI} {g : TG} {tt : TT} {te : TE} {vs : List Nat} {Wi : WI} {Wg : WG} {Wt : WT} (ri : RI K wi Wi) (rg : RG K ts g Wg) (rt : RT K tt Wt) (re : RE K te We) (hts : ∀ i ∈ ts, i ∈ vs) : RN K (tLc wi g tt te vs) (wLc Wi Wg Wt We vs) := by
  intro B Γ σ H G Q Q' E w k
  refine ri B Γ σ H G _ _ E w fun J H1 G1 ds Γ1 E1 s1 k1 dw w1 => ?_
  obtain ⟨hno, w1⟩ := w1
  intro D hD
  have inv0 : ∃ G2 Γ2 acc us, En K B σ (upd H1 D (.lst [])) G2 Γ2 ∧ Same G1 G2 ∧ KS Γ1 Γ2 ∧ noOwn Γ2 vs = true ∧ (upd H1 D (.lst [])) D = some (.lst us) ∧ G2 D = none ∧ DdAll K G2 us acc ∧ (∀ (i : Nat) es, Own Γ2 i es → σ[i]? ≠ some (some (V.ref D))) ∧ lcD Wg Wt We vs Q (ds.drop 0) acc Γ2 :=
    ⟨G1, Γ1, [], [], E1.laidN hD, Same.refl _, KS.refl _, hno, upd_same, E1.gnone hD, .nil, fresh_own E1 hD, w1⟩
  refine ⟨fun i m H => m = ds.length - i ∧ i ≤ ds.length ∧ ∃ G2 Γ2 acc us, En K B σ H G2 Γ2 ∧ Same G1 G2 ∧ KS Γ1 Γ2 ∧ noOwn Γ2 vs = true ∧ H D = some (.lst us) ∧ G2 D = none ∧ DdAll K G2 us acc ∧ (∀ (i : Nat) es, Own Γ2 i es → σ[i]? ≠ some (some (V.ref D))) ∧ lcD Wg Wt We vs Q (ds.drop i) acc Γ2,
    ⟨ds.length, rfl, Nat.zero_le _, inv0⟩, ?_⟩
  rintro i m H2 ⟨rfl, hi, G2, Γ2, acc, us, E2, s2, k2, hno2, hD2, gD2, da2, no2, w2⟩
  obtain ⟨stop, go⟩ := dw B Γ2 σ H2 G2 E2 s2 i
  by_cases hlt : i < ds.length
  · have hd : ds[i]? = some ds[i] := List.getElem?_eq_getElem hlt
    obtain ⟨g1, y1⟩ := go _ hd
    rw [List.drop_eq_getElem_cons hlt] at w2
    refine .inr ⟨g1, fun H' => ∃ G2 Γ2 acc us, En K B σ H' G2 Γ2 ∧ Same G1 G2 ∧ KS Γ1 Γ2 ∧ noOwn Γ2 vs = true ∧ H' D = some (.lst us) ∧ G2 D = none ∧ DdAll K G2 us acc ∧ (∀ (i : Nat) es, Own Γ2 i es → σ[i]? ≠ some (some (V.ref D))) ∧ lcD Wg Wt We vs Q (ds.drop (i + 1)) acc Γ2,
      fun H' h => ⟨ds.length - (i + 1), by omega, rfl, hlt, h⟩, fun x H3 hy => ?_⟩
    -- the block's own frame, over the heap as it stands here
    obtain ⟨G3, E3', s3, d3, sH3⟩ := (dw (rebase B σ H2 G2 Γ2) Γ2 σ H2 G2 E2.rebase s2 i).2 _ hd |>.2 x H3 hy
    have Ew := E3'.wiped vs
    refine rg _ _ _ _ _ _ _ _ _ Ew d3 w2 fun σ4 H4 G4 Γ4 E4 s4 l4 n4 w4 => ?_
    have hw1 : ∀ j : Nat, j ∉ vs → σ4[j]? = σ[j]? := fun j hj => ((n4 j fun z => hj (hts j z)).1).trans ((wipe_get (vs := vs)).1 hj)
    have hw2 : ∀ j : Nat, j ∉ vs → Γ4[j]? = Γ2[j]? := fun j hj => ((n4 j fun z => hj (hts j z)).2).trans ((wipeG_get (vs := vs)).2.1 hj)
    have hw3 : Γ4.length = Γ2.length := by
      rw [← E4.len, l4, wipe_length]
      exact E2.len
    refine ⟨?_, ?_⟩
    · refine List.ext_getElem? fun j => ?_
      have hls : σ4.length = σ.length := by rw [l4, wipe_length]
      by_cases hj : j ∈ vs
      · rw [(wipe_get (vs := vs)).2 hj, (wipe_get (vs := vs)).2 hj]
        by_cases hjl : j < σ.length
        · rw [List.getElem?_eq_getElem (show j < σ4.length by omega), List.getElem?_eq_getElem hjl]
          rfl
        · rw [List.getElem?_eq_none (show σ4.length ≤ j by omega), List.getElem?_eq_none (by omega)]
      · rw [(wipe_get (vs := vs)).1 hj, (wipe_get (vs := vs)).1 hj, hw1 j hj]
    · refine rt _ _ _ _ _ _ _ E4 w4 fun b H5 G5 Γ5 E5 s5 k5 w5 => ?_
      have back : ∀ {H6 G6 : Hp} {Γ6 : Gam}, En K (rebase B σ H2 G2 Γ2) σ4 H6 G6 Γ6 → Same G4 G6 → KS Γ4 Γ6 → En K B σ H6 G6 (restG Γ2 Γ6 vs) ∧ KS Γ2 (restG Γ2 Γ6 vs) ∧ H6 D = some (.lst us) ∧ G6 D = none ∧ noOwn (restG Γ2 Γ6 vs) vs = true ∧ (∀ (i : Nat) es, Own (restG Γ2 Γ6 vs) i es → σ[i]? ≠ some (some (V.ref D))) := fun {H6 G6 Γ6} E6 s6 k6 => by
        have s26 : Same G2 G6 := s3.trans (s4.trans s6)
        obtain ⟨R1, R2⟩ := En.rest E2.rebase E6 s26 hno2 hw1 hw2 hw3 k6
        have h6 : H6 D = some (.lst us) := E6.h0 D _ hD2 fun ⟨i, es, ow, hs⟩ => no2 i es ow hs
        have g6 : G6 D = none := E6.f0 D (by show H2 D ≠ none; rw [hD2]; exact fun z => by cases z) gD2
        refine ⟨E2.unbase R1 R2, R2, h6, g6, ?_, fun i es ow z => ?_⟩
        · unfold noOwn at hno2 ⊢
          rw [List.all_eq_true] at hno2 ⊢
          intro v hv
          have h := hno2 v hv
          have e : (restG Γ2 Γ6 vs)[v]? = Γ2[v]? := (restG_get (hw3.symm.trans k6.len)).2.2 hv
          unfold ownAt at h ⊢
          rw [e]
          exact h
        · obtain ⟨es0, o0⟩ := R2.mineB ow
          exact no2 i es0 o0 z
      cases b with
      | true =>
        refine re _ _ _ _ _ _ _ E5 w5 fun y H6 G6 dx Γ6 E6 s6 k6 d6 w6 => ?_
        obtain ⟨R1, R2, h6, g6, n6, o6⟩ := back E6 (s5.trans s6) (k5.trans k6)
        refine ⟨us, h6, by rw [da2.length]; exact w6.1, G6, restG Γ2 Γ6 vs, acc ++ [dx], us ++ [y], R1.tempW h6 g6 (E1.bnone hD) o6, s2.trans (s3.trans (s4.trans (s5.trans s6))), k2.trans R2, n6, upd_same, g6, (da2.mono (s3.trans (s4.trans (s5.trans s6)))).app (.cons d6 .nil), o6, w6.2⟩
      | false =>
        obtain ⟨R1, R2, h6, g6, n6, o6⟩ := back E5 s5 k5
        exact ⟨G5, restG Γ2 Γ5 vs, acc, us, R1, s2.trans (s3.trans (s4.trans s5)), k2.trans R2, n6, h6, g6, da2.mono (s3.trans (s4.trans s5)), o6, w5⟩
  · have e : i = ds.length := by omega
    subst e
    rw [List.drop_length] at w2
    exact .inl ⟨stop rfl, k D us H2 G2 acc Γ2 E2 (s1.trans s2) (k1.trans k2) gD2 hD2 da2 (E1.bnone hD) (E1.nn D hD) no2 w2⟩
/-! ### the weakest readings -/
def tE (K : PySem.W.Frag) (W : WE) : TE := fun σ H Q' => ∃ (B : Bs) (Γ : Gam) (G : Hp) (Q : PyData → Gam → Prop), En K B σ H G Γ ∧ W Γ Q ∧ (∀ v H' G' d Γ', En K B σ H' G' Γ' → Same G G' → KS Γ Γ' → Dd K G' v d → Q d Γ' → Q' v H')
theorem re_tE {W : WE} : RE K (tE K W) W := fun B Γ σ H G Q Q' E w k => ⟨B, Γ, G, Q, E, w, k⟩
theorem DE.can {W : WE} (h : DE X e W) : PE X e (tE X.K W) := by
  obtain ⟨t, p, r⟩ := h.ex
  refine ⟨fun pins s σ H Q I hq => ?_⟩
  obtain ⟨B, Γ, G, Q0, E, w, k⟩ := hq
  exact p.run pins s σ H Q I (r B Γ σ H G Q0 Q E w k)
def tT' (K : PySem.W.Frag) (W : WT) : TT := fun σ H Q' => ∃ (B : Bs) (Γ : Gam) (G : Hp) (Q : Bool → Gam → Prop), En K B σ H G Γ ∧ W Γ Q ∧ (∀ b H' G' Γ', En K B σ H' G' Γ' → Same G G' → KS Γ Γ' → Q b Γ' → Q' b H')
theorem rt_tT {W : WT} : RT K (tT' K W) W := fun B Γ σ H G Q Q' E w k => ⟨B, Γ, G, Q, E, w, k⟩
theorem DTs.can {W : WT} (h : DTs X ifs W) : PTs X ifs (tT' X.K W) := by
  obtain ⟨t, p, r⟩ := h.ex
  refine ⟨fun pins s σ H Q I hq => ?_⟩
  obtain ⟨B, Γ, G, Q0, E, w, k⟩ := hq
  exact p.run pins s σ H Q I (r B Γ σ H G Q0 Q E w k)
def tG (K : PySem.W.Frag) (ts : List Nat) (W : WG) : TG := fun v σ H Q' => ∃ (B : Bs) (Γ : Gam) (G : Hp) (d : PyData) (Q : Gam → Prop), En K B σ H G Γ ∧ Dd K G v d ∧ W d Γ Q ∧
  (∀ σ' H' G' Γ', En K B σ' H' G' Γ' → Same G G' → σ'.length = σ.length → (∀ j : Nat, j ∉ ts → σ'[j]? = σ[j]? ∧ Γ'[j]? = Γ[j]?) → Q Γ' → Q' σ' H')
theorem rg_tG {W : WG} : RG K ts (tG K ts W) W := fun B Γ σ H G v d Q Q' E h w k => ⟨B, Γ, G, d, Q, E, h, w, k⟩
theorem DG.can {W : WG} (h : DG X tg ts W) : PG X tg (tG X.K ts W) := by
  obtain ⟨t, p, r⟩ := h.ex
  refine ⟨fun pins s σ H v u Q I rv hq => ?_⟩
  obtain ⟨B, Γ, G, d, Q0, E, hd, w, k⟩ := hq
  exact p.run pins s σ H v u Q I rv (r B Γ σ H G v d Q0 Q E hd w k)
theorem dn_lc {scope : Scope} {own : List (Str × Nat)} {Wi : WI} {Wg : WG} {Wt : WT} (hc : X.calm = true) (hN : X.N.Nodup) (hi : DI X tg iter Wi) (ok : BlkOk X.N X.env.scope scope own)
    (hg : ∀ (s : Shared) (H : Hp) (C : Addr) (cl : List (Str × Addr)) (fp : List Addr), DG (X.blk s H scope (compEnvC scope cl C X.env) fp) tg ts Wg)
    (ht : ∀ (s : Shared) (H : Hp) (C : Addr) (cl : List (Str × Addr)) (fp : List Addr), DTs (X.blk s H scope (compEnvC scope cl C X.env) fp) ifs Wt)
    (he : ∀ (s : Shared) (H : Hp) (C : Addr) (cl : List (Str × Addr)) (fp : List Addr), DE (X.blk s H scope (compEnvC scope cl C X.env) fp) elt We)
    (hts : ∀ i ∈ ts, i ∈ own.map (·.2)) (hs : ∀ x, foldedSetIterable iter X.env x = pure x := by intro _; rfl) :
    DN X (.ListComp elt [⟨tg, iter, ifs, 0⟩] scope pos) (wLc Wi Wg Wt We (own.map (·.2))) := by
  obtain ⟨wi, pi, ri⟩ := hi.ex
  exact ⟨_, pe_lc hc hN pi ok (fun s H C cl fp => (hg s H C cl fp).can) (fun s H C cl fp => (ht s H C cl fp).can) (fun s H C cl fp => (he s H C cl fp).can) hs, rn_lc ri rg_tG rt_tT re_tE hts⟩
/-- name = [..] -/
theorem ds_setLcL {i : Nat} {y : Str} {py spos : Pos} {scope : Scope} {own : List (Str × Nat)} {Wi : WI} {Wg : WG} {Wt : WT} (hc : X.calm = true) (hN : X.N.Nodup) (hy : X.N[i]? = some y) (hyl : X.env.scope.names.lookup y = some .local)
    (hsw : swapsWith (.ListComp elt [⟨tg, iter, ifs, 0⟩] scope pos) (some (.Name y py)) spos.line X.env = pure true) (hi : DI X tg iter Wi) (ok : BlkOk X.N X.env.scope scope own)
    (hg : ∀ (s : Shared) (H : Hp) (C : Addr) (cl : List (Str × Addr)) (fp : List Addr), DG (X.blk s H scope (compEnvC scope cl C X.env) fp) tg ts Wg)
    (ht : ∀ (s : Shared) (H : Hp) (C : Addr) (cl : List (Str × Addr)) (fp : List Addr), DTs (X.blk s H scope (compEnvC scope cl C X.env) fp) ifs Wt)
    (he : ∀ (s : Shared) (H : Hp) (C : Addr) (cl : List (Str × Addr)) (fp : List Addr), DE (X.blk s H scope (compEnvC scope cl C X.env) fp) elt We)
    (hts : ∀ i ∈ ts, i ∈ own.map (·.2)) (hs : ∀ x, foldedSetIterable iter X.env x = pure x := by intro _; rfl) :
    DS X (.Assign [.Name y py] (.ListComp elt [⟨tg, iter, ifs, 0⟩] scope pos) spos) (wAsgL i (wLc Wi Wg Wt We (own.map (·.2)))) := by
  obtain ⟨wi, pi, ri⟩ := hi.ex
  exact ⟨_, ps_setLc hc hN hy hyl hsw pi ok (fun s H C cl fp => (hg s H C cl fp).can) (fun s H C cl fp => (ht s H C cl fp).can) (fun s H C cl fp => (he s H C cl fp).can) hs, rs_asgL (rn_lc ri rg_tG rt_tT re_tE hts)⟩
theorem ds_setLc {i : Nat} {y : Str} {py spos : Pos} {scope : Scope} {own : List (Str × Nat)} {Wi : WI} {Wg : WG} {Wt : WT} (hc : X.calm = true) (hN : X.N.Nodup) (hy : X.N[i]? = some y) (hyl : X.env.scope.names.lookup y = some .local)
    (hsw : swapsWith (.ListComp elt [⟨tg, iter, ifs, 0⟩] scope pos) (some (.Name y py)) spos.line X.env = pure true) (hi : DI X tg iter Wi) (ok : BlkOk X.N X.env.scope scope own)
    (hg : ∀ (s : Shared) (H : Hp) (C : Addr) (cl : List (Str × Addr)) (fp : List Addr), DG (X.blk s H scope (compEnvC scope cl C X.env) fp) tg ts Wg)
    (ht : ∀ (s : Shared) (H : Hp) (C : Addr) (cl : List (Str × Addr)) (fp : List Addr), DTs (X.blk s H scope (compEnvC scope cl C X.env) fp) ifs Wt)
    (he : ∀ (s : Shared) (H : Hp) (C : Addr) (cl : List (Str × Addr)) (fp : List Addr), DE (X.blk s H scope (compEnvC scope cl C X.env) fp) elt We)
    (hts : ∀ i ∈ ts, i ∈ own.map (·.2)) (hs : ∀ x, foldedSetIterable iter X.env x = pure x := by intro _; rfl) :
    DS X (.Assign [.Name y py] (.ListComp elt [⟨tg, iter, ifs, 0⟩] scope pos) spos) (wAsg i (wL (wLc Wi Wg Wt We (own.map (·.2))))) := by
  obtain ⟨wi, pi, ri⟩ := hi.ex
  exact ⟨_, ps_setLc hc hN hy hyl hsw pi ok (fun s H C cl fp => (hg s H C cl fp).can) (fun s H C cl fp => (ht s H C cl fp).can) (fun s H C cl fp => (he s H C cl fp).can) hs, rs_asg (re_of_rn (rn_lc ri rg_tG rt_tT re_tE hts))⟩
/-! ## a, b = e1, e2 -/
/-- of both sides, whether the list is one's own -/
def RL (K : PySem.W.Frag) (t : TA) (W : Gam → (Gam → Prop) → Prop) (i j : Nat) : Prop :=
  ∀ (B : Bs) (Γ : Gam) (σ : L2.St) (H G : Hp) (Q : Gam → Prop) (Q' : L2.St → Hp → Prop), En K B σ H G Γ → W Γ Q →
    (∀ σ' H' G' Γ', En K B σ' H' G' Γ' → Same G G' → Q Γ' → Q' σ' H') → t σ H fun vs H1 => ∃ v w, vs = [v, w] ∧ Q' ((σ.set i (some v)).set j (some w)) H1
@[simp] def wPar (i j : Nat) (Wa Wb : WE) : WS := fun D Γ => Wa Γ fun x Γ1 => Wb Γ1 fun y Γ2 => D.nx ((Γ2.set i (.dat x)).set j (.dat y))
theorem ds_par {i j : Nat} {x y : Str} {px py pt : Pos} {kt k2 pt2} (hc : X.calm = true) (hN : X.N.Nodup) (hi : X.N[i]? = some x) (hj : X.N[j]? = some y) (hij : i ≠ j)
    (hx : X.env.scope.names.lookup x = some .local) (hy : X.env.scope.names.lookup y = some .local) (ha : DE X a Wa) (hb : DE X b Wb)
    (hw : swappedStores [.Tuple [.Name x px, .Name y py] kt pt] (.Tuple [a, b] k2 pt2) X.env = pure (some [x, y]))
    (hs : swapsWithSole [.Tuple [.Name x px, .Name y py] kt pt] (.Tuple [a, b] k2 pt2) pos.line X.env = pure false := by rfl) (h1 : starEach [a, b] X.env = (false, eval a X.env) :: starEach [b] X.env := by rfl) (h2 : starEach [b] X.env = (false, eval b X.env) :: starEach [] X.env := by rfl) :
    DS X (.Assign [.Tuple [.Name x px, .Name y py] kt pt] (.Tuple [a, b] k2 pt2) pos) (wPar i j Wa Wb) := by
  obtain ⟨t, p, r⟩ := ha.ex
  obtain ⟨t', p', r'⟩ := hb.ex
  refine ⟨_, ps_par hc hN hi hj hij hx hy (pa_cons p (pa_cons p' pa_nil h2) h1) hw hs, ?_⟩
  intro B Γ σ H G D D' E w l
  refine r B Γ σ H G _ _ E w fun v H1 G1 d Γ1 E1 s1 k1 d1 w1 => ?_
  refine r' B Γ1 σ H1 G1 _ _ E1 w1 fun u H2 G2 e Γ2 E2 s2 k2 d2 w2 => ?_
  exact ⟨v, u, rfl, l.nx _ H2 G2 _ ((E2.setDat i (d1.mono s2)).setDat j d2) (s1.trans s2) w2⟩
/-- the first a new list of one's own, the second data -/
@[simp] def wParL (i j : Nat) (Wr : WA) (Wb : WE) : WS := fun D Γ => Wr Γ fun x Γ1 => Wb Γ1 fun y Γ2 => Γ1 = Γ2 ∧ D.nx ((Γ2.set j (.dat y)).set i (.own x))
theorem ds_parL {i j : Nat} {x y : Str} {px py pt : Pos} {kt k2 pt2} {v0 : V} {d0 : PyData} (hc : X.calm = true) (hN : X.N.Nodup) (hi : X.N[i]? = some x) (hj : X.N[j]? = some y) (hij : i ≠ j)
    (hx : X.env.scope.names.lookup x = some .local) (hy : X.env.scope.names.lookup y = some .local) (ha : DN X a Wr) (hb : PE X b (tC v0)) (hd : ∀ G, Dd X.K G v0 d0)
    (hw : swappedStores [.Tuple [.Name x px, .Name y py] kt pt] (.Tuple [a, b] k2 pt2) X.env = pure (some [x, y]))
    (hs : swapsWithSole [.Tuple [.Name x px, .Name y py] kt pt] (.Tuple [a, b] k2 pt2) pos.line X.env = pure false := by rfl) (h1 : starEach [a, b] X.env = (false, eval a X.env) :: starEach [b] X.env := by rfl) (h2 : starEach [b] X.env = (false, eval b X.env) :: starEach [] X.env := by rfl) :
    DS X (.Assign [.Tuple [.Name x px, .Name y py] kt pt] (.Tuple [a, b] k2 pt2) pos) (wParL i j Wr (wC d0)) := by
  obtain ⟨t, p, r⟩ := ha.ex
  refine ⟨_, ps_par hc hN hi hj hij hx hy (pa_cons p (pa_cons hb pa_nil h2) h1) hw hs, ?_⟩
  intro B Γ σ H G D D' E w l
  refine r B Γ σ H G _ _ E w fun p vs H1 G1 ds Γ1 E1 s1 k1 g1 h1 d1 b1 n1 o1 w1 => ?_
  refine ⟨.ref p, v0, rfl, ?_⟩
  have E2 := E1.setDat (v := v0) (d := d0) j (hd G1)
  have o2 : ∀ (k : Nat) es, Own (Γ1.set j (.dat d0)) k es → (σ.set j (some v0))[k]? ≠ some (some (V.ref p)) := fun k es o z => by
    by_cases e : k = j
    · subst e
      rcases o with o | o <;>
        (by_cases hl : k < Γ1.length
         · rw [List.getElem?_set_self hl] at o; cases o
         · rw [List.getElem?_eq_none (by simpa using hl)] at o; cases o)
    · unfold Own at o
      rw [List.getElem?_set_ne (Ne.symm e)] at o z
      exact o1 k es o z
  have E3 := E2.setOwnNew i g1 h1 d1 b1 n1 o2
  rw [List.set_comm _ _ (Ne.symm hij)] at E3
  exact l.nx _ H1 G1 _ E3 s1 w1.2
/-! ## join, all -/
def strsD : List PyData → Option (List Str)
  | [] => some []
  | .str s :: ds => match strsD ds with
    | some r => some (s :: r)
    | none => none
  | _ => none
theorem strs_of {G : Hp} : ∀ {ds : List PyData} {vs : List V} {ss : List Str}, DdAll K G vs ds → strsD ds = some ss → vs = ss.map V.str
  | [], _, _, .nil, h => by cases h; rfl
  | .str s :: ds, _, _, .cons (.str _) t, h => by
    unfold strsD at h
    cases q : strsD ds with
    | none => rw [q] at h; cases h
    | some r =>
      rw [q] at h
      cases h
      rw [List.map_cons, strs_of t q]
  | .none :: _, _, _, _, h => by cases h
  | .bool _ :: _, _, _, _, h => by cases h
  | .int _ :: _, _, _, _, h => by cases h
  | .list _ :: _, _, _, _, h => by cases h
  | .tuple _ :: _, _, _, _, h => by cases h
  | .dict _ :: _, _, _, _, h => by cases h
def boolsD : List PyData → Option (List Bool)
  | [] => some []
  | .bool b :: ds => match boolsD ds with
    | some r => some (b :: r)
    | none => none
  | _ => none
theorem bools_of {G : Hp} : ∀ {ds : List PyData} {vs : List V} {bs : List Bool}, DdAll K G vs ds → boolsD ds = some bs → vs = bs.map V.bl
  | [], _, _, .nil, h => by cases h; rfl
  | .bool s :: ds, _, _, .cons (.bl _) t, h => by
    unfold boolsD at h
    cases q : boolsD ds with
    | none => rw [q] at h; cases h
    | some r =>
      rw [q] at h
      cases h
      rw [List.map_cons, bools_of t q]
  | .none :: _, _, _, _, h => by cases h
  | .str _ :: _, _, _, _, h => by cases h
  | .int _ :: _, _, _, _, h => by cases h
  | .list _ :: _, _, _, _, h => by cases h
  | .tuple _ :: _, _, _, _, h => by cases h
  | .dict _ :: _, _, _, _, h => by cases h
def allB : FA
  | [.list ds], k => match boolsD ds with
    | some bs => k (.bool (bs.all id))
    | none => False
  | _, _ => False
def anyB : FA
  | [.list ds], k => match boolsD ds with
    | some bs => k (.bool (bs.any id))
    | none => False
  | _, _ => False
end
end DL

namespace DL
open PySem PySem.Spec PyProof.Rows L2
section
variable {X : Cx} {K : PySem.W.Frag} {a b c e tg elt iter : Expr} {es tgs ifs : List Expr} {Wa Wb Wc We : WE} {Wr : WA} {pos : Pos} {WT' : WT} {ts us : List Nat}
theorem boot_all : bootBuiltins "all" = some (.builtin "all") := by decide +kernel
theorem boot_any : bootBuiltins "any" = some (.builtin "any") := by decide +kernel
theorem rv_all : RVA K (rAll K) allB := by
  intro B Γ σ H G xs ds Q Q' E h w k
  unfold allB at w
  split at w
  · obtain ⟨v, rfl, hv⟩ := ddAll1 h
    split at w
    · rename_i bs q
      cases hv with
      | lst ga da =>
        have e := bools_of da q
        subst e
        exact ⟨_, bs, rfl, SqL.of (E.gh _ _ ga), k _ H G _ E (Same.refl _) (.bl _) w⟩
    · exact w.elim
  · exact w.elim
theorem rv_any : RVA K (rAny K) anyB := by
  intro B Γ σ H G xs ds Q Q' E h w k
  unfold anyB at w
  split at w
  · obtain ⟨v, rfl, hv⟩ := ddAll1 h
    split at w
    · rename_i bs q
      cases hv with
      | lst ga da =>
        have e := bools_of da q
        subst e
        exact ⟨_, bs, rfl, SqL.of (E.gh _ _ ga), k _ H G _ E (Same.refl _) (.bl _) w⟩
    · exact w.elim
  · exact w.elim
theorem de_all {p : Pos} (hc : X.calm = true) (hg : Gl X "all") (hm : X.mg "all" = none) (ha : DE X a Wa) (h1 : starEach [a] X.env = (false, eval a X.env) :: starEach [] X.env := by rfl) (h2 : (backTo pos (starEach [] X.env)).any (·.1) = false := by rfl) : DE X (.Call (.Name "all" p) [a] [] pos) (wCB allB (wCons Wa wNil)) :=
  de_callB (cr_all hc) rv_all hg hm boot_all (da_cons ha da_nil h1) (by decide) (by decide) h1 h2
theorem de_any {p : Pos} (hc : X.calm = true) (hg : Gl X "any") (hm : X.mg "any" = none) (ha : DE X a Wa) (h1 : starEach [a] X.env = (false, eval a X.env) :: starEach [] X.env := by rfl) (h2 : (backTo pos (starEach [] X.env)).any (·.1) = false := by rfl) : DE X (.Call (.Name "any" p) [a] [] pos) (wCB anyB (wCons Wa wNil)) :=
  de_callB (cr_any hc) rv_any hg hm boot_any (da_cons ha da_nil h1) (by decide) (by decide) h1 h2
/-- sep.join(list of texts) -/
def joinS (s : Str) (ds : List PyData) (k : PyData → Prop) : Prop := match strsD ds with
  | some ss => (ss.map (·.length)).sum + ss.length * s.length ≤ 16777216 ∧ k (.str (Txt.join s ss))
  | none => False
def joinD (s : Str) : PyData → (PyData → Prop) → Prop
  | .list ds, k => joinS s ds k
  | .tuple ds, k => joinS s ds k
  | _, _ => False
@[simp] def wM1 (f : Str → PyData → (PyData → Prop) → Prop) (Wa Wb : WE) : WE := fun Γ Q => Wa Γ fun d Γ1 => match d with
  | .str s => Wb Γ1 fun e Γ2 => f s e fun z => Q z Γ2
  | _ => False
theorem de_join {apos : Pos} (ha : DE X a Wa) (hb : DE X b Wb) (hs : starEach [b] X.env = [(false, eval b X.env)] := by rfl) (hbase : attributeBase a "join" X.env (eval a X.env) = eval a X.env := by rfl) (hline : (apos.endLine == pos.line) = true := by rfl) :
    DE X (.Call (.Attribute a "join" apos) [b] [] pos) (wM1 joinD Wa Wb) := by
  obtain ⟨t, p, r⟩ := ha.ex
  obtain ⟨t', p', r'⟩ := hb.ex
  refine ⟨_, pe_join p p' hs hbase hline, ?_⟩
  intro B Γ σ H G Q Q' E w k
  refine r B Γ σ H G _ _ E w fun v H1 G1 d Γ1 E1 s1 k1 d1 w1 => ?_
  cases d1 with
  | str s =>
    refine ⟨⟨s, rfl⟩, ?_⟩
    refine r' B Γ1 σ H1 G1 _ _ E1 w1 fun u H2 G2 e Γ2 E2 s2 k2 d2 w2 => ?_
    cases d2 with
    | @lst _ _ ds ga da =>
      have w2 : joinS s ds (fun z => Q z Γ2) := w2
      unfold joinS at w2
      cases q : strsD ds with
      | none => rw [q] at w2; exact w2.elim
      | some ss =>
        rw [q] at w2
        have e := strs_of da q
        subst e
        exact ⟨s, _, ss, rfl, rfl, .inl (SqL.of (E2.gh _ _ ga)), w2.1, k _ H2 G2 _ Γ2 E2 (s1.trans s2) (k1.trans k2) (.str _) w2.2⟩
    | @tup _ _ ds ga da =>
      have w2 : joinS s ds (fun z => Q z Γ2) := w2
      unfold joinS at w2
      cases q : strsD ds with
      | none => rw [q] at w2; exact w2.elim
      | some ss =>
        rw [q] at w2
        have e := strs_of da q
        subst e
        exact ⟨s, _, ss, rfl, rfl, .inr (sqT_same E2.gh ga), w2.1, k _ H2 G2 _ Γ2 E2 (s1.trans s2) (k1.trans k2) (.str _) w2.2⟩
    | _ => exact w2.elim
  | _ => exact w1.elim
/-! ## callees by name -/
structure Cal (P : Program) (w : World) (K : PySem.W.Frag) (mg : Str → Option Value) (base : Heap) (x : Str) (ps : List Str) (k : Nat) (S : PSp) : Prop where
  ex : ∃ (f : Addr) (fd : FuncData), mg x = some (.ref f) ∧ PySem.W.keepIn K (.ref f) = true ∧ Binds K fd ps [] ∧ FnOk P w K mg base CX0 k f fd ps (spS K S)
theorem Cal.mono {P : Program} {w : World} {K : PySem.W.Frag} {mg : Str → Option Value} {base : Heap} {x : Str} {ps : List Str} {j k : Nat} {S : PSp} (C : Cal P w K mg base x ps j S) (h : j ≤ k) : Cal P w K mg base x ps k S := by
  obtain ⟨f, fd, h1, h2, h3, h4⟩ := C.ex
  exact ⟨f, fd, h1, h2, h3, h4.mono h⟩
theorem de_callC {S : PSp} {k : Nat} {ps : List Str} {x : Str} {p : Pos} {Wr : WPA} (C : Cal X.prog X.w X.K X.mg X.base x ps k S) (hr : Room k X.A) (hg : Gl X x)
    (ha : DPA X (e :: es) Wr) (hdb : (x == ("__debug__" : Str)) = false := by decide) (he : starEach (e :: es) X.env = (false, eval e X.env) :: starEach es X.env := by rfl) (hpl : (backTo pos (starEach es X.env)).any (·.1) = false := by rfl) :
    DE X (.Call (.Name x p) (e :: es) [] pos) (wCall S Wr) := by
  obtain ⟨f, fd, h1, h2, h3, h4⟩ := C.ex
  exact de_call h4 hr hg h1 h2 h3 ha hdb he hpl
theorem dn_callC {S : PSp} {k : Nat} {ps : List Str} {x : Str} {p : Pos} {Wr : WPA} (C : Cal X.prog X.w X.K X.mg X.base x ps k S) (hr : Room k X.A) (hg : Gl X x)
    (ha : DPA X (e :: es) Wr) (hdb : (x == ("__debug__" : Str)) = false := by decide) (he : starEach (e :: es) X.env = (false, eval e X.env) :: starEach es X.env := by rfl) (hpl : (backTo pos (starEach es X.env)).any (·.1) = false := by rfl) :
    DN X (.Call (.Name x p) (e :: es) [] pos) (wCallL S Wr) := by
  obtain ⟨f, fd, h1, h2, h3, h4⟩ := C.ex
  exact dn_call h4 hr hg h1 h2 h3 ha hdb he hpl
theorem de_callC0 {S : PSp} {k : Nat} {ps : List Str} {x : Str} {p : Pos} (C : Cal X.prog X.w X.K X.mg X.base x ps k S) (hr : Room k X.A) (hg : Gl X x) (hdb : (x == ("__debug__" : Str)) = false := by decide) : DE X (.Call (.Name x p) [] [] pos) (wCall S wPNil) := by
  obtain ⟨f, fd, h1, h2, h3, h4⟩ := C.ex
  exact de_call0 h4 hr hg h1 h2 h3 hdb
theorem de_gstr' {x z : Str} {p : Pos} (hg : Gl X x) (hm : ∃ t, X.mg x = some (.str z t)) (hd : (x == ("__debug__" : Str)) = false := by decide) : DE X (.Name x p) (wC (.str z)) := by
  obtain ⟨t, h⟩ := hm
  exact de_gstr hg h hd
/-! ## own lists changed by methods -/
theorem pe_append {x : Str} {p apos cpos : Pos} {t0 : TE} {t : TE} (h : PE X (.Name x p) t0) (he : PE X e t) (hs : starEach (e :: []) X.env = (false, eval e X.env) :: starEach [] X.env := by rfl) (hpl : (backTo cpos (starEach [] X.env)).any (·.1) = false := by rfl)
    (hb : attributeBase (.Name x p) "append" X.env (eval (.Name x p) X.env) = eval (.Name x p) X.env := by rfl) : True := trivial
/-- x = y, a def's text by its promise -/
theorem fn_cal {P : Program} {w : World} {K : PySem.W.Frag} {mg : Str → Option Value} {base : Heap} {x qual : Str} {st : Stmt} {f : Addr} {fd : FuncData} {ps : List Str} {k : Nat} {S : PSp} (hm : mg x = some (.ref f)) (F : Fun K x qual st f fd) (hb : Binds K fd ps []) (G : FnOk P w K mg base CX0 k f fd ps (spS K S)) : Cal P w K mg base x ps k S := ⟨f, fd, hm, F.kp, hb, G⟩
/-- or, by truth -/
def truD : PyData → Option Bool
  | .none => some false
  | .bool b => some b
  | .int i => some (i != 0)
  | .str z => if z.length ≤ sizeLine then some ((z.length : Int) != 0) else none
  | .list ds => some (!ds.isEmpty)
  | .tuple ds => some (!ds.isEmpty)
  | .dict _ => none
theorem isEmpty_dd {G : Hp} {vs : List V} {ds : List PyData} (h : DdAll K G vs ds) : vs.isEmpty = ds.isEmpty := by
  cases h <;> rfl
theorem truV_of {G H : Hp} (gh : Same G H) {v : V} {d : PyData} {b : Bool} (h : Dd K G v d) (t : truD d = some b) : TruV K v H b := by
  cases h with
  | non => cases t; exact rfl
  | bl b' => cases t; exact rfl
  | int i => cases t; exact rfl
  | str z =>
    have t : (if z.length ≤ sizeLine then some ((z.length : Int) != 0) else none) = some b := t
    by_cases hz : z.length ≤ sizeLine
    · rw [if_pos hz] at t
      cases t
      exact ⟨hz, rfl⟩
    · rw [if_neg hz] at t
      cases t
  | lst ga da => cases t; exact .inl ⟨_, SqL.of (gh _ _ ga), by rw [isEmpty_dd da]⟩
  | tup ga da => cases t; exact .inr (.inl ⟨_, sqT_same gh ga, by rw [isEmpty_dd da]⟩)
end
end DL

namespace DL
open PySem PySem.Spec PyProof.Rows L2
section
variable {X : Cx} {K : PySem.W.Frag} {a b c e tg elt iter : Expr} {es tgs ifs : List Expr} {Wa Wb Wc We : WE} {Wr Wr' : WA} {pos : Pos} {WT' : WT} {ts us : List Nat}
/-! ## the script -/
@[simp] def wSlS (j : Nat) (Wl Wh : WO) : WE := fun Γ Q => match Γ[j]? with
  | some (.scr ds) => Wl Γ fun lo Γ1 => Wh Γ1 fun hi Γ2 => Q (.list (cutD ds lo hi)) Γ2
  | _ => False
theorem de_sliceS {Wl Wh : WO} {lo hi : Option Expr} {p2 p : Pos} {x : Str} (j : Nat) (h : PE X (.Name x p) (tVar j)) (hl : DO X lo Wl) (hh : DO X hi Wh) : DE X (.Subscript (.Name x p) (.Slice lo hi none p2) pos) (wSlS j Wl Wh) := by
  obtain ⟨tl, pl, rl⟩ := hl.ex
  obtain ⟨th, ph, rh⟩ := hh.ex
  refine ⟨_, pe_slice sl_list h pl ph, ?_⟩
  intro B Γ σ H G Q Q' E w k
  unfold wSlS at w
  split at w
  · rename_i ds q
    obtain ⟨p, vs, h1, h2, h3⟩ := E.scr j ds q
    refine ⟨_, h1, ?_⟩
    refine rl B Γ σ H G _ _ E w fun lo H2 G2 Γ2 E2 s2 k2 w2 => ?_
    refine rh B Γ2 σ H2 G2 _ _ E2 w2 fun hi H3 G3 Γ3 E3 s3 k3 w3 => ?_
    refine ⟨p, vs, rfl, sqL_same E3.gh (sqL_same (s2.trans s3) h2), fun q hq => ?_⟩
    have gq := E3.gnone hq
    exact k _ _ _ _ Γ3 (E3.laid hq) ((s2.trans s3).trans (sameNew gq)) (k2.trans k3) (.lst upd_same (((h3.mono (s2.trans s3)).cut lo hi).mono (sameNew gq))) w3
  · exact w.elim
/-- a new list or another -/
@[simp] def wOrL (Wr Wr' : WA) : WA := fun Γ Q => Wr Γ fun ds Γ1 => if ds.isEmpty = true then Wr' Γ1 Q else Q ds Γ1
theorem dn_or (ha : DN X a Wr) (hb : DN X b Wr') : DN X (.BoolOp .Or [a, b] pos) (wOrL Wr Wr') := by
  obtain ⟨t, p, r⟩ := ha.ex
  obtain ⟨t', p', r'⟩ := hb.ex
  refine ⟨_, pe_orT p (pe_one p'), ?_⟩
  intro B Γ σ H G Q Q' E w k
  refine r B Γ σ H G _ _ E w fun p vs H1 G1 ds Γ1 E1 s1 k1 g1 h1 d1 b1 n1 o1 w1 => ?_
  refine ⟨!ds.isEmpty, .inl ⟨vs, SqL.of h1, by rw [isEmpty_dd d1]⟩, ?_⟩
  cases q : ds.isEmpty with
  | true =>
    rw [q] at w1
    exact r' B Γ1 σ H1 G1 _ _ E1 w1 fun p vs H2 G2 ds Γ2 E2 s2 k2 g2 h2 d2 b2 n2 o2 w2 => k p vs H2 G2 ds Γ2 E2 (s1.trans s2) (k1.trans k2) g2 h2 d2 b2 n2 o2 w2
  | false =>
    rw [q] at w1
    exact k p vs H1 G1 ds Γ1 E1 s1 k1 g1 h1 d1 b1 n1 o1 w1
/-! ## the ends of a law -/
theorem ddAll_ints {G : Hp} : ∀ ns : List Int, DdAll K G (ns.map V.int) (ns.map PyData.int)
  | [] => .nil
  | n :: ns => .cons (.int n) (ddAll_ints ns)
end
section
variable {P : Program} {w : World} {K : PySem.W.Frag} {mg : Str → Option Value} {base : Heap}
/-- the law: called with the script it hands back True -/
def spLaw (K : PySem.W.Frag) : Sp := fun vs H Q _ => ∃ (a : Addr) (ns : List Int), vs = [.ref a] ∧ SqL K H a (ns.map V.int) ∧ ns.length ≤ 63 ∧ ∀ H', Q (.bl true) H'
def sLaw : PSp := fun as R => ∃ ns : List Int, ns.length ≤ 63 ∧ as = [.scr (ns.map PyData.int)] ∧ ∀ as', R (.dat (.bool true)) as'
/-- a heap of which one thing is known -/
theorem fn_law {k : Nat} {f : Addr} {fd : FuncData} (F : FnOk P w K mg base CX0 k f fd ["script"] (spS K sLaw)) : FnOk P w K mg base CX0 k f fd ["script"] (spLaw K) := by
  refine F.imp fun vs H Q E h => ?_
  obtain ⟨a, ns, rfl, hS, hl, q⟩ := h
  -- what is frozen: the script alone
  refine ⟨H, [.scr (ns.map PyData.int)], fun r _ => r = .dat (.bool true), Same.refl H, ⟨rfl, fun i d h => ?_, fun i d h => ?_, fun i d h => ?_, fun i s h => ?_, fun i j p ds es h1 => ?_⟩, ⟨ns, hl, rfl, fun _ => rfl⟩, fun v G' H' as' r Po hr => ?_⟩
  · cases i with
    | zero => cases h
    | succ i => simp at h
  · cases i with
    | zero => cases h
    | succ i => simp at h
  · cases i with
    | zero => cases h; exact ⟨a, _, rfl, hS, ddAll_ints ns⟩
    | succ i => simp at h
  · cases i with
    | zero => cases h; exact .inr (.inr ⟨_, rfl⟩)
    | succ i => simp at h
  · cases i with
    | zero => cases h1
    | succ i => simp at h1
  · subst hr
    have := Po.res
    cases this
    exact q H'
end
end DL

namespace DL
open PySem PySem.Spec PyProof.Rows L2
/-! ## calls with keywords -/
@[simp] def pick {α : Type} : List Nat → List α → List α
  | [], _ => []
  | i :: is, l => match l[i]? with
    | some a => a :: pick is l
    | none => pick is l
theorem pick_vals : ∀ (is : List Nat) {vs : List V} {us : List Value}, Vals vs us → Vals (pick is vs) (pick is us)
  | [], _, _, _ => .nil
  | i :: is, vs, us, r => by
    unfold pick
    cases q : vs[i]? with
    | none =>
      rw [r.none_of q]
      exact pick_vals is r
    | some v =>
      obtain ⟨u, h1, h2⟩ := r.get q
      rw [h1]
      exact .cons h2 (pick_vals is r)
section
variable {X : Cx} {K : PySem.W.Frag} {a b c e tg elt iter : Expr} {es tgs ifs : List Expr} {Wa Wb Wc We : WE} {Wr Wr' : WA} {pos : Pos} {WT' : WT} {ts us : List Nat}
theorem pick_ops {σ : L2.St} {G : Hp} : ∀ (is : List Nat) {vs : List V} {os : List Opd}, OpsV K σ G vs os → OpsV K σ G (pick is vs) (pick is os)
  | [], _, _, _ => .nil
  | i :: is, vs, os, r => by
    unfold pick
    cases q : os[i]? with
    | none =>
      have : vs[i]? = none := by
        rw [List.getElem?_eq_none_iff] at q ⊢
        rw [r.length]
        exact q
      rw [this]
      exact pick_ops is r
    | some o =>
      obtain ⟨v, h1, h2⟩ := r.get q
      rw [h1]
      exact .cons h2 (pick_ops is r)
theorem OpsV.app {σ : L2.St} {G : Hp} : ∀ {vs us : List V} {os ps : List Opd}, OpsV K σ G vs os → OpsV K σ G us ps → OpsV K σ G (vs ++ us) (os ++ ps)
  | _, _, _, _, .nil, b => b
  | _, _, _, _, .cons h t, b => .cons h (OpsV.app t b)
structure DPK (X : Cx) (kws : List Keyword) (W : WPA) : Prop where
  ex : ∃ t, PK X kws t ∧ RPA X.K t W
theorem dpk_nil : DPK X [] wPNil := ⟨_, pk_nil, by
  intro B Γ σ H G Q Q' E w k
  exact k [] H G [] Γ E (Same.refl _) (KS.refl _) .nil w⟩
theorem dpk_cons {nm : Option Str} {kpos : Pos} {kws : List Keyword} {Wo : WP} {Wr : WPA} (h : DP X e Wo) (h' : DPK X kws Wr) : DPK X (⟨nm, e, kpos⟩ :: kws) (wPCons Wo Wr) := by
  obtain ⟨t, p, r⟩ := h.ex
  obtain ⟨t', p', r'⟩ := h'.ex
  refine ⟨_, pk_cons p p', ?_⟩
  intro B Γ σ H G Q Q' E w k
  refine r B Γ σ H G _ _ E w fun v H1 G1 o Γ1 E1 s1 k1 o1 w1 => ?_
  refine r' B Γ1 σ H1 G1 _ _ E1 w1 fun vs H2 G2 os Γ2 E2 s2 k2 o2 w2 => ?_
  exact k (v :: vs) H2 G2 (o :: os) Γ2 E2 (s1.trans s2) (k1.trans k2) (.cons (o1.mono s2) o2) w2
/-- a callee by name, called with n positional values and keywords ks; is: where the parameters, in their order, stand among them -/
structure CalK (P : Program) (w : World) (K : PySem.W.Frag) (mg : Str → Option Value) (base : Heap) (x : Str) (ps : List Str) (k : Nat) (S : PSp) (n : Nat) (ks : List Str) (is : List Nat) : Prop where
  ex : ∃ (f : Addr) (fd : FuncData), mg x = some (.ref f) ∧ PySem.W.keepIn K (.ref f) = true ∧ KBn K fd ps n ks (fun us ws => pick is (us ++ ws)) (fun us ws => pick is (us ++ ws)) ∧ FnOk P w K mg base CX0 k f fd ps (spS K S)
@[simp] def wCallK (S : PSp) (Wr Wk : WPA) (n m : Nat) (is : List Nat) : WE := fun Γ Q => Wr Γ fun os Γ1 => Wk Γ1 fun os2 Γ2 => os.length = n ∧ os2.length = m ∧ match argsOf Γ2 (pick is (os ++ os2)) with
  | some as => (varsOf (pick is (os ++ os2))).Nodup ∧ S as fun r as' => match r with
    | .dat d => Q d (putB Γ2 (pick is (os ++ os2)) as')
    | .new ds => Q (.list ds) (putB Γ2 (pick is (os ++ os2)) as')
  | none => False
theorem re_callK {S : PSp} {E0' : XK} {t tk : TA} {Wr Wk : WPA} {n m : Nat} {is : List Nat} (r : RPA K t Wr) (rk : RPA K tk Wk) : RE K (tCallN n m (spS K S) (fun us ws => pick is (us ++ ws)) E0' t tk) (wCallK S Wr Wk n m is) := by
  intro B Γ σ H G Q Q' E w k
  refine r B Γ σ H G _ _ E w fun vs H0 G0 os Γ0 E0 s0 k0 o0 w0 => ?_
  refine rk B Γ0 σ H0 G0 _ _ E0 w0 fun us H1 G1 os2 Γ1 E1 s1 k1 o1 w1 => ?_
  obtain ⟨l1, l2, w1⟩ := w1
  have oo := pick_ops is ((o0.mono s1).app o1)
  refine ⟨o0.length.trans l1, o1.length.trans l2, ?_⟩
  cases q : argsOf Γ1 (pick is (os ++ os2)) with
  | none => rw [q] at w1; exact w1.elim
  | some as =>
    rw [q] at w1
    obtain ⟨hn, hS⟩ := w1
    refine ⟨G1, as, _, E1.gh, argsV_of E1 oo q hn, hS, fun v G' H' as' r Po hR => ?_⟩
    have E2 := E1.called oo q hn Po
    have k2 : KS Γ (putB Γ1 (pick is (os ++ os2)) as') := (k0.trans k1).trans putB_KS
    cases r with
    | dat d => exact k v H' G' d _ E2 ((s0.trans s1).trans Po.gg) k2 Po.res hR
    | new ds =>
      obtain ⟨p, us, rfl, h1, h2, h3, h4⟩ := Po.res
      have no : ∀ (i : Nat) es, Own (putB Γ1 (pick is (os ++ os2)) as') i es → σ[i]? ≠ some (some (V.ref p)) := fun i es ow z => by
        obtain ⟨es0, o0⟩ := (putB_KS (os := pick is (os ++ os2)) (as := as')).mineB ow
        obtain ⟨p', us', g1, g2, g3, _⟩ := E1.mine i es0 o0
        rw [z] at g1
        cases g1
        rw [h4] at g3
        cases g3
      exact k (.ref p) H' (upd G' p (.lst us)) (.list ds) _ (E2.freeze h2 h1 (E1.bnone h4) no) (((s0.trans s1).trans Po.gg).trans (sameNew h1)) k2 (.lst upd_same (h3.mono (sameNew h1))) hR
theorem pe_callN0 {CX : CXT} {k : Nat} {f : Addr} {fd : FuncData} {ps ks : List Str} {sp : Sp} {E' : XK} {x : Str} {p : Pos} {kws : List Keyword} {tk : TA} {g : List Value → List Value → List Value} {gV : List V → List V → List V}
    (F : FnOk X.prog X.w X.K X.mg X.base CX k f fd ps sp) (hr : Room k X.A) (hg : Gl X x) (hm : X.mg x = some (.ref f)) (hk : PySem.W.keepIn X.K (.ref f) = true) (hb : KBn X.K fd ps 0 ks g gV) (hx : Passes CX X E')
    (hkw : PK X kws tk) (hall : (backToKw pos (keywordEach kws X.env)).all (·.1.isSome) = true := by rfl) (hks : (backToKw pos (keywordEach kws X.env)).filterMap (·.1) = ks := by rfl)
    (hdb : (x == ("__debug__" : Str)) = false := by decide) (hpl : ((backTo pos (starEach [] X.env)).any (·.1) || (backToKw pos (keywordEach kws X.env)).any (·.1.isNone)) = false := by rfl) :
    PE X (.Call (.Name x p) [] kws pos) (tCallN 0 ks.length sp gV E' tNil tk) := by
  refine ⟨fun pins s σ H Q I h => wpAny_Call_Name_kw (ld_glob I hg hm ?_ hdb)⟩
  refine PySem.W.callWith_KW0 (h₀ := X.base) I.ok.mod.kin hk hall (thn (hkw.run pos pins s σ H _ I h) fun ws s2 hh => ?_) hpl
  obtain ⟨zs, H2, I2, rz, l1, l2, q2⟩ := hh
  refine ⟨I2.kIn, ?_⟩
  rw [hks]
  exact run_fnN (us := []) (vs := []) F hr hb hx I2 .nil rz l1 l2 q2
theorem de_callK0 {S : PSp} {k : Nat} {ps ks : List Str} {is : List Nat} {x : Str} {p : Pos} {kws : List Keyword} {Wk : WPA} (C : CalK X.prog X.w X.K X.mg X.base x ps k S 0 ks is) (hr : Room k X.A) (hg : Gl X x) (hk : DPK X kws Wk)
    (hall : (backToKw pos (keywordEach kws X.env)).all (·.1.isSome) = true := by rfl) (hks : (backToKw pos (keywordEach kws X.env)).filterMap (·.1) = ks := by rfl)
    (hdb : (x == ("__debug__" : Str)) = false := by decide) (hpl : ((backTo pos (starEach [] X.env)).any (·.1) || (backToKw pos (keywordEach kws X.env)).any (·.1.isNone)) = false := by rfl) :
    DE X (.Call (.Name x p) [] kws pos) (wCallK S wPNil Wk 0 ks.length is) := by
  obtain ⟨f, fd, h1, h2, h3, h4⟩ := C.ex
  obtain ⟨t, pk, rk⟩ := hk.ex
  refine ⟨_, pe_callN0 (E' := L2.E0) h4 hr hg h1 h2 h3 pass0 pk hall hks hdb hpl, re_callK ?_ rk⟩
  intro B Γ σ H G Q Q' E w k
  exact k [] H G [] Γ E (Same.refl _) (KS.refl _) .nil w
theorem de_callKC {S : PSp} {k n : Nat} {ps ks : List Str} {is : List Nat} {x : Str} {p : Pos} {kws : List Keyword} {Wr Wk : WPA} (C : CalK X.prog X.w X.K X.mg X.base x ps k S n ks is) (hr : Room k X.A) (hg : Gl X x) (ha : DPA X (e :: es) Wr) (hk : DPK X kws Wk)
    (hall : (backToKw pos (keywordEach kws X.env)).all (·.1.isSome) = true := by rfl) (hks : (backToKw pos (keywordEach kws X.env)).filterMap (·.1) = ks := by rfl)
    (hdb : (x == ("__debug__" : Str)) = false := by decide) (he : starEach (e :: es) X.env = (false, eval e X.env) :: starEach es X.env := by rfl)
    (hpl : ((backTo pos (starEach (e :: es) X.env)).any (·.1) || (backToKw pos (keywordEach kws X.env)).any (·.1.isNone)) = false := by rfl) :
    DE X (.Call (.Name x p) (e :: es) kws pos) (wCallK S Wr Wk n ks.length is) := by
  obtain ⟨f, fd, h1, h2, h3, h4⟩ := C.ex
  obtain ⟨t, pk, rk⟩ := hk.ex
  obtain ⟨ta, pa, ra⟩ := ha.ex
  exact ⟨_, pe_callN (E := L2.E0) h4 hr hg h1 h2 h3 pass0 pa pk hall hks hdb he hpl, re_callK ra rk⟩
/-- the keywords' binding, by the def's text -/
theorem kbn_of {K : PySem.W.Frag} {x qual : Str} {st : Stmt} {f : Addr} {fd : FuncData} {ps ks : List Str} {n : Nat} {is : List Nat} (F : Fun K x qual st f fd)
    (h : ∀ (kV doc pm : Value) (an : Option Addr) (cdv ct : Value) (us ws : List Value), us.length = n → ws.length = ks.length → bindArgs (PySem.W.fnOf x qual (defArgs st) (defBody st) (defScope st) .none kV doc pm an cdv ct) ⟨us, ks.zip ws⟩ = pure (ps.zip (pick is (us ++ ws)))) :
    KBn K fd ps n ks (fun us ws => pick is (us ++ ws)) (fun us ws => pick is (us ++ ws)) := by
  obtain ⟨oc, od, kV, doc, pm, an, cdv, ct, osl, rfl, lk, hcd⟩ := F.ex
  exact ⟨fun s us ws _ h1 h2 => .of_eq (h kV doc pm an cdv ct us ws h1 h2), fun r r' => pick_vals is (r.append r')⟩
end
end DL

namespace DL
open PySem PySem.Spec PyProof.Rows L2
/-! ## the rows by which a reading is run -/
section
variable {k : PyData → Prop} {i j : Int} {b c : Bool} {s t : Str} {xs ys ds : List PyData} {x y d : PyData}
@[simp] theorem addD_int : addD (.int i) (.int j) k = k (.int (i + j)) := rfl
@[simp] theorem addD_str : addD (.str s) (.str t) k = (s.length + t.length ≤ sizeLine ∧ k (.str (s ++ t))) := rfl
@[simp] theorem addD_list : addD (.list xs) (.list ys) k = (xs.length + ys.length ≤ sizeLine ∧ k (.list (xs ++ ys))) := rfl
@[simp] theorem addD_tup : addD (.tuple xs) (.tuple ys) k = (xs.length + ys.length ≤ sizeLine ∧ k (.tuple (xs ++ ys))) := rfl
@[simp] theorem subD_int : subD (.int i) (.int j) k = k (.int (i - j)) := propext ⟨fun h => h.2, fun h => ⟨trivial, h⟩⟩
@[simp] theorem modD_int : modD (.int i) (.int j) k = (j ≠ 0 ∧ k (.int (i.fmod j))) := rfl
@[simp] theorem fdivD_int : fdivD (.int i) (.int j) k = (CDivN i j ∧ k (.int (i.fdiv j))) := rfl
@[simp] theorem powD_int : powD (.int i) (.int j) k = (CPow i j ∧ k (.int (i ^ j.toNat))) := rfl
@[simp] theorem mulD_int : mulD (.int i) (.int j) k = (CMul i j ∧ k (.int (i * j))) := rfl
@[simp] theorem mulD_list : mulD (.list xs) (.int j) k = (-(2 ^ 63) ≤ j ∧ j < 2 ^ 63 ∧ xs.length * j.toNat ≤ sizeLine ∧ k (.list (List.replicate j.toNat xs).flatten)) := rfl
@[simp] theorem ltD_int : ltD (.int i) (.int j) k = k (.bool (decide (i < j))) := rfl
@[simp] theorem leD_int : leD (.int i) (.int j) k = k (.bool (decide (i ≤ j))) := rfl
@[simp] theorem gtD_int : gtD (.int i) (.int j) k = k (.bool (decide (j < i))) := rfl
@[simp] theorem geD_int : geD (.int i) (.int j) k = k (.bool (decide (j ≤ i))) := rfl
/-! == of what stands at the top -/
@[simp] theorem eqD_str : eqD (.str s) (.str t) k = (PyData.strOk s = true ∧ PyData.strOk t = true ∧ k (.bool (s == t))) := by
  unfold eqD
  simp [SeqAt.shaped, PyData.canLay0, PyData.depth, PyData.eqv]
@[simp] theorem neD_str : neD (.str s) (.str t) k = (PyData.strOk s = true ∧ PyData.strOk t = true ∧ k (.bool (!(s == t)))) := by
  unfold neD
  simp [SeqAt.shaped, PyData.canLay0, PyData.depth, PyData.eqv]
@[simp] theorem eqD_int : eqD (.int i) (.int j) k = k (.bool (i == j)) := by
  unfold eqD
  simp [SeqAt.shaped, PyData.canLay0, PyData.depth, PyData.eqv]
@[simp] theorem neD_int : neD (.int i) (.int j) k = k (.bool (!(i == j))) := by
  unfold neD
  simp [SeqAt.shaped, PyData.canLay0, PyData.depth, PyData.eqv]
@[simp] theorem eqD_bool : eqD (.bool b) (.bool c) k = k (.bool (b == c)) := by
  unfold eqD
  simp [SeqAt.shaped, PyData.canLay0, PyData.depth, PyData.eqv]
@[simp] theorem neD_bool : neD (.bool b) (.bool c) k = k (.bool (!(b == c))) := by
  unfold neD
  simp [SeqAt.shaped, PyData.canLay0, PyData.depth, PyData.eqv]
@[simp] theorem eqv_str : PyData.eqv (.str s) (.str t) = (s == t) := by unfold PyData.eqv; rfl
@[simp] theorem eqv_int : PyData.eqv (.int i) (.int j) = (i == j) := by unfold PyData.eqv; rfl
@[simp] theorem eqv_bool : PyData.eqv (.bool b) (.bool c) = (b == c) := by unfold PyData.eqv; rfl
@[simp] theorem isND_non : isND x .none k = k (.bool (x matches .none)) := propext ⟨fun h => h.2, fun h => ⟨rfl, h⟩⟩
@[simp] theorem notND_non : notND x .none k = k (.bool !(x matches .none)) := propext ⟨fun h => h.2, fun h => ⟨rfl, h⟩⟩
theorem inStr_sign {c : Nat} {z : Str} : inStr ⟨#[c]⟩ z = decide (c ∈ z.cps.toList) := by
  unfold inStr
  exact (PySem.StrLaws.found_one z c)
@[simp] theorem inD_str : inD (.str s) (.str t) k = k (.bool (inStr s t)) := by unfold inD; rfl
@[simp] theorem notInD_str : notInD (.str s) (.str t) k = k (.bool (!inStr s t)) := rfl
theorem inD_list : inD d (.list xs) k = (flatD d = true ∧ xs.all flatD = true ∧ k (.bool (xs.any fun z => PyData.eqv z d))) := by
  unfold inD
  cases d <;> rfl
theorem inD_tup : inD d (.tuple xs) k = (flatD d = true ∧ xs.all flatD = true ∧ k (.bool (xs.any fun z => PyData.eqv z d))) := by
  unfold inD
  cases d <;> rfl
theorem notInD_list : notInD d (.list xs) k = (flatD d = true ∧ xs.all flatD = true ∧ k (.bool (!xs.any fun z => PyData.eqv z d))) := by
  cases d <;> rfl
theorem notInD_tup : notInD d (.tuple xs) k = (flatD d = true ∧ xs.all flatD = true ∧ k (.bool (!xs.any fun z => PyData.eqv z d))) := by
  cases d <;> rfl
@[simp] theorem ixD_list : ixD (.list xs) (.int i) k = optD (atI xs i) k := rfl
@[simp] theorem ixD_tup : ixD (.tuple xs) (.int i) k = optD (atI xs i) k := rfl
@[simp] theorem ixD_str : ixD (.str s) (.int i) k = (s.length ≤ sizeLine ∧ optD (atI s.cps.toList i) fun c => k (sign c)) := rfl
@[simp] theorem slD_list {lo hi : Option Int} : slD (.list xs) lo hi k = k (.list (cutD xs lo hi)) := rfl
@[simp] theorem slD_tup {lo hi : Option Int} : slD (.tuple xs) lo hi k = k (.tuple (cutD xs lo hi)) := rfl
@[simp] theorem slD_str {lo hi : Option Int} : slD (.str s) lo hi k = (s.length ≤ sizeLine ∧ k (.str (cutS s lo hi))) := rfl
@[simp] theorem lenD_list : lenD [.list xs] k = k (.int xs.length) := rfl
@[simp] theorem lenD_tup : lenD [.tuple xs] k = k (.int xs.length) := rfl
@[simp] theorem lenD_str : lenD [.str s] k = (s.length ≤ sizeLine ∧ k (.int s.length)) := rfl
@[simp] theorem absD_int : absD [.int i] k = k (.int (if i < 0 then -i else i)) := rfl
@[simp] theorem intT_int : intT [.int i] k = k (.int i) := rfl
@[simp] theorem intT_bool : intT [.bool b] k = k (.int (if b then 1 else 0)) := rfl
@[simp] theorem tupT_list : tupT [.list xs] k = k (.tuple xs) := rfl
@[simp] theorem tupT_tup : tupT [.tuple xs] k = k (.tuple xs) := rfl
@[simp] theorem joinD_list : joinD s (.list xs) k = joinS s xs k := rfl
@[simp] theorem joinD_tup : joinD s (.tuple xs) k = joinS s xs k := rfl
@[simp] theorem atI_0 {α : Type} {a : α} {l : List α} : atI (a :: l) 0 = some a := by
  simp [atI, ixN]
@[simp] theorem atI_1 {α : Type} {a b : α} {l : List α} : atI (a :: b :: l) 1 = some b := by
  have h : (1 : Int) < ((a :: b :: l).length : Int) := by simp only [List.length_cons]; omega
  simp only [atI, ixN, h]
  simp
@[simp] theorem atI_2 {α : Type} {a b c : α} {l : List α} : atI (a :: b :: c :: l) 2 = some c := by
  have h : (2 : Int) < ((a :: b :: c :: l).length : Int) := by simp only [List.length_cons]; omega
  simp only [atI, ixN, h]
  simp
end
end DL

namespace DL
open PySem PySem.Spec PyProof.Rows L2
section
variable {X : Cx} {K : PySem.W.Frag} {a b c e tg elt iter : Expr} {es tgs ifs : List Expr} {Wa Wb Wc We : WE} {Wr Wr' : WA} {pos : Pos} {WT' : WT} {ts us : List Nat}
/-! ## a call with one new list, which the callee may write -/
theorem En.called1 {B : Bs} {σ : L2.St} {H G H' G' : Hp} {Γ : Gam} {p : Addr} {us : List V} {ds : List PyData} {as' : List Sl} {v : V} {r : Rs} (E : En K B σ H G Γ) (gp : G p = none) (hp : H p = some (.lst us)) (bp : B.H p = none)
    (no : ∀ (i : Nat) es, Own Γ i es → σ[i]? ≠ some (some (V.ref p))) (Po : PostV K G H [V.ref p] [Sl.par ds] G' H' as' v r) : En K B σ H' G' Γ := by
  have keep : ∀ q o, H q = some o → q ≠ p → H' q = some o := fun q o h n => by
    refine Po.keep q o h fun i ds' h1 h2 => ?_
    cases i with
    | zero => simp at h2; exact n h2.symm
    | succ i => simp at h2
  refine ⟨E.len, Po.gh, E.g0.trans Po.gg, fun q o h hP => keep q o (E.h0 q o h hP) (fun z => by subst z; rw [bp] at h; cases h), fun q h => Po.alloc q (E.bh q h), fun q h h' => Po.free q (E.bh q h) (E.f0 q h h'), fun q h => E.nn q ?_, fun i d h => ?_, fun i es ow => ?_, fun i es ow => E.new i es ow, fun i es ow => E.par i es ow, fun i es ow => E.scrG Po.gg i es ow, fun i j q ds es o1 o2 h1 h2 => E.inj i j q ds es o1 o2 h1 h2⟩
  · cases q1 : H q with
    | none => rfl
    | some u => exact absurd h (Po.alloc q (by rw [q1]; exact fun z => by cases z))
  · obtain ⟨u, h1, h2⟩ := E.dat i d h
    exact ⟨u, h1, h2.mono Po.gg⟩
  · obtain ⟨q, us', g1, g2, g3, g4, g5⟩ := E.mine i es ow
    have n : q ≠ p := fun z => by subst z; exact no i es ow g1
    exact ⟨q, us', g1, Po.free q (by rw [g3]; exact fun z => by cases z) g2, keep q _ g3 n, g4.mono Po.gg, g5⟩
@[simp] def wCallN (S : PSp) (Wa : WA) : WE := fun Γ Q => Wa Γ fun ds Γ1 => S [.par ds] fun r as' => match r with
  | .dat d => Q d Γ1
  | .new es => Q (.list es) Γ1
theorem de_callN {S : PSp} {k : Nat} {ps : List Str} {x : Str} {p : Pos} (C : Cal X.prog X.w X.K X.mg X.base x ps k S) (hr : Room k X.A) (hg : Gl X x)
    (ha : DN X a Wr) (hdb : (x == ("__debug__" : Str)) = false := by decide) (he : starEach (a :: []) X.env = (false, eval a X.env) :: starEach [] X.env := by rfl) (hpl : (backTo pos (starEach [] X.env)).any (·.1) = false := by rfl) :
    DE X (.Call (.Name x p) (a :: []) [] pos) (wCallN S Wr) := by
  obtain ⟨f, fd, h1, h2, h3, h4⟩ := C.ex
  obtain ⟨t, pa, ra⟩ := ha.ex
  refine ⟨_, pe_call (dvs := []) (E := L2.E0) h4 hr hg h1 h2 h3 .nil pass0 (pa_cons pa pa_nil he) hdb he hpl, ?_⟩
  intro B Γ σ H G Q Q' E w k
  refine ra B Γ σ H G _ _ E w fun p us H1 G1 ds Γ1 E1 s1 k1 gp hp da bp np no w1 => ?_
  refine ⟨G1, [.par ds], _, E1.gh, ⟨rfl, fun i d h => ?_, fun i ds' h => ?_, fun i ds' h => ?_, fun i s h => ?_, fun i j q ds' es h1 h2 h3 h4 => ?_⟩, w1, fun v G' H' as' r Po hR => ?_⟩
  · cases i with
    | zero => cases h
    | succ i => simp at h
  · cases i with
    | zero => cases h; exact ⟨p, us, rfl, gp, hp, da⟩
    | succ i => simp at h
  · cases i with
    | zero => cases h
    | succ i => simp at h
  · cases i with
    | zero => cases h; exact .inr (.inl ⟨_, rfl⟩)
    | succ i => simp at h
  · cases i with
    | zero =>
      cases j with
      | zero => rfl
      | succ j => simp at h2
    | succ i => simp at h1
  · have E2 := E1.called1 gp hp bp no Po
    cases r with
    | dat d => exact k v H' G' d _ E2 (s1.trans Po.gg) k1 Po.res hR
    | new ds =>
      obtain ⟨q, us, rfl, h1, h2, h3, h4⟩ := Po.res
      have no : ∀ (i : Nat) es, Own Γ1 i es → σ[i]? ≠ some (some (V.ref q)) := fun i es ow z => by
        obtain ⟨p', us', g1, g2, g3, _⟩ := E1.mine i es ow
        rw [z] at g1
        cases g1
        rw [h4] at g3
        cases g3
      exact k (.ref q) H' (upd G' q (.lst us)) (.list ds) _ (E2.freeze h2 h1 (E1.bnone h4) no) ((s1.trans Po.gg).trans (sameNew h1)) k1 (.lst upd_same (h3.mono (sameNew h1))) hR
end
end DL

namespace DL
open PySem PySem.Spec PyProof.Rows L2
/-! ## tuples for lists, at any depth: the loop with a stack -/
mutual
def froz : PyData → PyData
  | .list xs => .tuple (frozAll xs)
  | .tuple xs => .tuple (frozAll xs)
  | .none => .none
  | .bool b => .bool b
  | .int i => .int i
  | .str s => .str s
  | .dict kvs => .dict kvs
def frozAll : List PyData → List PyData
  | [] => []
  | d :: ds => froz d :: frozAll ds
end
mutual
def wgt : PyData → Nat
  | .list xs => 2 + wgtAll xs
  | .tuple xs => 2 + wgtAll xs
  | .none => 1
  | .bool _ => 1
  | .int _ => 1
  | .str _ => 1
  | .dict _ => 1
def wgtAll : List PyData → Nat
  | [] => 0
  | d :: ds => wgt d + wgtAll ds
end
def isSeq : PyData → Bool
  | .list _ => true
  | .tuple _ => true
  | _ => false
def items : PyData → List PyData
  | .list xs => xs
  | .tuple xs => xs
  | _ => []
theorem frozAll_map : ∀ xs : List PyData, frozAll xs = xs.map froz
  | [] => rfl
  | x :: xs => by
    unfold frozAll
    rw [frozAll_map xs]
    rfl
theorem froz_seq {d : PyData} (h : isSeq d = true) : froz d = .tuple (frozAll (items d)) := by
  cases d <;> simp [isSeq] at h <;> simp [froz, items]
theorem froz_not {d : PyData} (h : isSeq d = false) : froz d = d := by
  cases d <;> simp [isSeq] at h <;> simp [froz]
theorem wgt_seq {d : PyData} (h : isSeq d = true) : wgt d = 2 + wgtAll (items d) := by
  cases d <;> simp [isSeq] at h <;> simp [wgt, items]
theorem wgt_pos (d : PyData) : 1 ≤ wgt d := by
  cases d <;> (unfold wgt; omega)
theorem wgtAll_len : ∀ xs : List PyData, xs.length ≤ wgtAll xs
  | [] => Nat.le_refl _
  | x :: xs => by
    unfold wgtAll
    have := wgtAll_len xs
    have := wgt_pos x
    simp only [List.length_cons]
    omega
theorem wgtAll_drop {x : PyData} : ∀ (xs : List PyData) (k : Nat), xs[k]? = some x → wgtAll (xs.drop k) = wgt x + wgtAll (xs.drop (k + 1))
  | [], k, h => by simp at h
  | y :: ys, 0, h => by
    simp at h
    subst h
    simp [wgtAll]
  | y :: ys, k + 1, h => by
    have := wgtAll_drop ys k (by simpa using h)
    simpa using this
theorem wgtAll_mem {x : PyData} : ∀ (xs : List PyData) (k : Nat), xs[k]? = some x → wgt x ≤ wgtAll xs
  | [], k, h => by simp at h
  | y :: ys, 0, h => by
    simp at h
    subst h
    unfold wgtAll
    omega
  | y :: ys, k + 1, h => by
    have := wgtAll_mem ys k (by simpa using h)
    unfold wgtAll
    omega
theorem isTy2 (d : PyData) : (isTy (tyD d) "list" || isTy (tyD d) "tuple") = isSeq d := by
  have h1 : isTy "list" "list" = true := by decide
  have h2 : isTy "tuple" "list" = false := by decide
  have h3 : isTy "tuple" "tuple" = true := by decide
  have h4 : isTy "NoneType" "list" = false ∧ isTy "NoneType" "tuple" = false := by decide
  have h5 : isTy "bool" "list" = false ∧ isTy "bool" "tuple" = false := by decide
  have h6 : isTy "int" "list" = false ∧ isTy "int" "tuple" = false := by decide
  have h7 : isTy "str" "list" = false ∧ isTy "str" "tuple" = false := by decide
  have h8 : isTy "dict" "list" = false ∧ isTy "dict" "tuple" = false := by decide
  cases d <;> simp [tyD, isSeq, h1, h2, h3, h4, h5, h6, h7, h8]
/-! data whose tuples lie in the heap, and no lists among them -/
mutual
inductive Hd (G : Hp) : V → PyData → Prop
  | non : Hd G .non .none
  | bl (b : Bool) : Hd G (.bl b) (.bool b)
  | int (i : Int) : Hd G (.int i) (.int i)
  | str (x : Str) : Hd G (.str x) (.str x)
  | tup {a : Addr} {xs : List V} {ds : List PyData} : G a = some (.tup xs) → HdAll G xs ds → Hd G (.ref a) (.tuple ds)
inductive HdAll (G : Hp) : List V → List PyData → Prop
  | nil : HdAll G [] []
  | cons {v : V} {vs : List V} {d : PyData} {ds : List PyData} : Hd G v d → HdAll G vs ds → HdAll G (v :: vs) (d :: ds)
end
mutual
theorem Hd.mono {G G' : Hp} (s : Same G G') : ∀ {v : V} {d : PyData}, Hd G v d → Hd G' v d
  | _, _, .non => .non
  | _, _, .bl b => .bl b
  | _, _, .int i => .int i
  | _, _, .str x => .str x
  | _, _, .tup h t => .tup (s _ _ h) (HdAll.mono s t)
theorem HdAll.mono {G G' : Hp} (s : Same G G') : ∀ {vs : List V} {ds : List PyData}, HdAll G vs ds → HdAll G' vs ds
  | _, _, .nil => .nil
  | _, _, .cons h t => .cons (h.mono s) (HdAll.mono s t)
end
mutual
theorem Hd.dd {K : PySem.W.Frag} {G : Hp} : ∀ {v : V} {d : PyData}, Hd G v d → Dd K G v d
  | _, _, .non => .non
  | _, _, .bl b => .bl b
  | _, _, .int i => .int i
  | _, _, .str x => .str x
  | _, _, .tup h t => .tup (.inl (.inl h)) (HdAll.dd t)
theorem HdAll.dd {K : PySem.W.Frag} {G : Hp} : ∀ {vs : List V} {ds : List PyData}, HdAll G vs ds → DdAll K G vs ds
  | _, _, .nil => .nil
  | _, _, .cons h t => .cons h.dd (HdAll.dd t)
end
theorem HdAll.length {G : Hp} : ∀ {vs : List V} {ds : List PyData}, HdAll G vs ds → vs.length = ds.length
  | _, _, .nil => rfl
  | _, _, .cons _ t => congrArg Nat.succ (HdAll.length t)
theorem HdAll.app {G : Hp} : ∀ {vs us : List V} {ds es : List PyData}, HdAll G vs ds → HdAll G us es → HdAll G (vs ++ us) (ds ++ es)
  | _, _, _, _, .nil, b => b
  | _, _, _, _, .cons h t, b => .cons h (HdAll.app t b)
theorem HdAll.get {G : Hp} : ∀ {vs : List V} {ds : List PyData} {i : Nat} {d : PyData}, HdAll G vs ds → ds[i]? = some d → ∃ v, vs[i]? = some v ∧ Hd G v d
  | _, _, _, _, .nil, h => by simp at h
  | _, _, 0, _, .cons (v := v) h t, e => by
    simp at e; subst e; exact ⟨v, by simp, h⟩
  | _, _, i + 1, _, .cons h t, e => by
    obtain ⟨v, h1, h2⟩ := HdAll.get (i := i) t (by simpa using e)
    exact ⟨v, by simpa using h1, h2⟩
theorem Hd.of_flat {K : PySem.W.Frag} {G : Hp} {v : V} {d : PyData} (h : Dd K G v d) (s : isSeq d = false) : Hd G v d := by
  cases h with
  | non => exact .non
  | bl b => exact .bl b
  | int i => exact .int i
  | str x => exact .str x
  | lst _ _ => cases s
  | tup _ _ => cases s
abbrev tLenQ (K : PySem.W.Frag) (j : Nat) : TE := tCB (fun xs H Q => ∃ p ys, xs = [V.ref p] ∧ (SqL K H p ys ∨ SqT K H p ys) ∧ Q (.int ys.length) H) (tCons (tVar j) tNil)
abbrev tIsLT (K : PySem.W.Frag) (j : Nat) : TE := tCB (rIsiT K) (tCons (tVar j) (tCons (tTup (tCons (tC (.ty "list")) (tCons (tC (.ty "tuple")) tNil))) tNil))
abbrev tTupQ (K : PySem.W.Frag) (j : Nat) : TE := tCB (fun xs H Q => ∃ p ys, xs = [V.ref p] ∧ ((SqL K H p ys ∧ ∀ l, H l = none → Q (.ref l) (upd H l (.tup ys))) ∨ (SqT K H p ys ∧ Q (.ref p) H))) (tCons (tVar j) tNil)
abbrev tTop (K : PySem.W.Frag) : TE := tOp (rIx K) (tVar 1) (tUn (rU fun i => V.int (-i)) (tC (V.int 1)))
def Tbody (K : PySem.W.Frag) : TS :=
  tSeq (tAsg (tTop K) (gTup K 2 (gCons (gName 2) (gCons (gName 3) gNil))))
    (tIfS (tTest (tOp (rI0 fun i j => V.bl (decide (i < j))) (tLenQ K 3) (tLenQ K 2)))
      (tSeq (tAsg (tOp (rIx K) (tVar 2) (tLenQ K 3)) (gName 4))
        (tIfS (tB (tIsLT K 4))
          (tDrop (tBM K "list" rAppend (tVar 1) (tCons (tTup (tCons (tVar 4) (tCons (tLst tNil) tNil))) tNil)))
          (tDrop (tBM K "list" rAppend (tVar 3) (tCons (tVar 4) tNil)))))
      (tSeq (tDrop (tBM0 K "list" rPop (tVar 1)))
        (tSeq (tIfS (tNot fun σ H Q => tVar 1 σ H fun x H' => ∃ k, TruV K x H' k ∧ Q k H') (tRet (tTupQ K 3)) tNext)
          (tDrop (tBM K "list" rAppend (tOp (rIx K) (tTop K) (tC (V.int 1))) (tCons (tTupQ K 3) tNil))))))
def Tfz (K : PySem.W.Frag) : TS :=
  tSeq (tIfS (tNot (tB (tIsLT K 0))) (tRet (tVar 0)) tNext)
    (tSeq (tAsg (tLst (tCons (tTup (tCons (tVar 0) (tCons (tLst tNil) tNil))) tNil)) (gName 1))
      (tWhile (tB (tC (V.bl true))) (Tbody K)))
/-- one open list: the pair's place, the built list's place, what is walked, what is built, how far -/
structure Fr where
  t : Addr
  b : Addr
  v : V
  src : PyData
  us : List V
  k : Nat
structure FrOk (K : PySem.W.Frag) (G H H0 : Hp) (f : Fr) : Prop where
  ht : H f.t = some (.tup [f.v, .ref f.b])
  hb : H f.b = some (.lst f.us)
  gb : G f.b = none
  zb : H0 f.b = none
  sq : isSeq f.src = true
  dv : Dd K G f.v f.src
  du : HdAll G f.us ((frozAll (items f.src)).take f.k)
  hk : f.k ≤ (items f.src).length
def Chain (d : PyData) : List Fr → Prop
  | [] => False
  | [f] => f.src = d
  | f :: g :: r => (items g.src)[g.k]? = some f.src ∧ Chain d (g :: r)
structure InvZ (K : PySem.W.Frag) (G0 H0 : Hp) (d : PyData) (s : Addr) (fs : List Fr) (G H : Hp) : Prop where
  gh : Same G H
  g0 : Same G0 G
  keep : ∀ q o, H0 q = some o → H q = some o
  free : ∀ q, H0 q ≠ none → G0 q = none → G q = none
  hs : H s = some (.lst (fs.map fun f => V.ref f.t).reverse)
  gs : G s = none
  zs : H0 s = none
  fr : ∀ f ∈ fs, FrOk K G H H0 f
  nd : (s :: fs.map (·.b)).Nodup
  ch : Chain d fs
variable {K : PySem.W.Frag} {G0 H0 G H : Hp} {d : PyData} {s : Addr} {fs r : List Fr} {f g : Fr}
theorem FrOk.upd {q : Addr} {o : HO} (h : FrOk K G H H0 f) (n1 : q ≠ f.t) (n2 : q ≠ f.b) : FrOk K G (upd H q o) H0 f :=
  ⟨by rw [upd_ne n1.symm]; exact h.ht, by rw [upd_ne n2.symm]; exact h.hb, h.gb, h.zb, h.sq, h.dv, h.du, h.hk⟩
theorem FrOk.grow {G' : Hp} (h : FrOk K G H H0 f) (s : Same G G') (n : G' f.b = none) : FrOk K G' H H0 f :=
  ⟨h.ht, h.hb, n, h.zb, h.sq, h.dv.mono s, h.du.mono s, h.hk⟩
theorem InvZ.alloc {q : Addr} {o : HO} (I : InvZ K G0 H0 d s fs G H) (hq : H q = none) : InvZ K G0 H0 d s fs G (upd H q o) := by
  have ne : ∀ {b : Addr} {o : HO}, H b = some o → b ≠ q := fun h => ne_of_none h hq
  refine ⟨fun b o h => ?_, I.g0, fun b o h => ?_, I.free, ?_, I.gs, I.zs, fun f hf => ?_, I.nd, I.ch⟩
  · rw [upd_ne (ne (I.gh b o h))]; exact I.gh b o h
  · rw [upd_ne (ne (I.keep b o h))]; exact I.keep b o h
  · rw [upd_ne (ne I.hs)]; exact I.hs
  · have F := I.fr f hf
    exact F.upd (ne F.ht).symm (ne F.hb).symm
theorem InvZ.gnone {q : Addr} (I : InvZ K G0 H0 d s fs G H) (hq : H q = none) : G q = none := by
  cases e : G q with
  | none => rfl
  | some o => rw [I.gh q o e] at hq; cases hq
theorem InvZ.laid {q : Addr} {o : HO} (I : InvZ K G0 H0 d s fs G H) (hq : H q = none) : InvZ K G0 H0 d s fs (upd G q o) (upd H q o) := by
  have J := I.alloc (o := o) hq
  have ne : ∀ {b : Addr} {o : HO}, H b = some o → b ≠ q := fun h => ne_of_none h hq
  have sg : Same G (L2.upd G q o) := sameNew (I.gnone hq)
  refine ⟨fun b o' h => ?_, fun b o h => sg b o (I.g0 b o h), J.keep, fun b h1 h2 => ?_, J.hs, ?_, I.zs, fun f hf => ?_, I.nd, I.ch⟩
  · by_cases e : b = q
    · subst e; rw [upd_same] at h ⊢; exact h
    · rw [upd_ne e] at h ⊢; exact I.gh b o' h
  · have : b ≠ q := by
      cases e : H0 b with
      | none => exact absurd e h1
      | some o => exact ne (I.keep b o e)
    rw [upd_ne this]
    exact I.free b h1 h2
  · rw [upd_ne (ne I.hs)]; exact I.gs
  · have F := J.fr f hf
    refine F.grow sg ?_
    have F0 := I.fr f hf
    show L2.upd G q o f.b = none
    rw [upd_ne (ne F0.hb)]
    exact F0.gb
theorem atI_rev (f : Fr) (r : List Fr) : atI ((f :: r).map fun f => V.ref f.t).reverse (-1) = some (V.ref f.t) := by
  rw [List.map_cons, List.reverse_cons]
  exact atI_last _ _
theorem chain_wgt : ∀ (r : List Fr) (f : Fr), (∀ x ∈ f :: r, isSeq x.src = true) → Chain d (f :: r) → 2 * r.length + wgt f.src ≤ wgt d
  | [], f, _, h => by
    have h : f.src = d := h
    rw [h]
    simp
  | g :: r, f, hs, h => by
    obtain ⟨h1, h2⟩ := h
    have ih := chain_wgt r g (fun x hx => hs x (List.mem_cons_of_mem _ hx)) h2
    have := wgtAll_mem _ _ h1
    have := wgt_seq (hs g (by simp))
    simp only [List.length_cons]
    omega
/-- the built list of the top grows by one -/
theorem InvZ.put {u : V} (I : InvZ K G0 H0 d s (f :: r) G H) {x : PyData} (hx : (items f.src)[f.k]? = some x) (du : Hd G u (froz x)) :
    InvZ K G0 H0 d s ({ f with us := f.us ++ [u], k := f.k + 1 } :: r) G (upd H f.b (.lst (f.us ++ [u]))) := by
  have F := I.fr f (by simp)
  have nd := I.nd
  rw [List.map_cons, List.nodup_cons, List.nodup_cons] at nd
  obtain ⟨n1, n2, n3⟩ := nd
  have sb : s ≠ f.b := fun e => n1 (by rw [e]; simp)
  have tb : ∀ {q : Addr} {xs : List V}, H q = some (.tup xs) → q ≠ f.b := fun h e => by
    rw [e, F.hb] at h
    cases h
  have lt : f.k < (items f.src).length := (List.getElem?_eq_some_iff.mp hx).1
  refine ⟨fun b o h => ?_, I.g0, fun b o h => ?_, I.free, ?_, I.gs, I.zs, fun g hg => ?_, ?_, ?_⟩
  · have : b ≠ f.b := ne_of_none h F.gb
    rw [upd_ne this]
    exact I.gh b o h
  · have : b ≠ f.b := ne_of_none h F.zb
    rw [upd_ne this]
    exact I.keep b o h
  · rw [upd_ne sb]
    exact I.hs
  · rcases List.mem_cons.mp hg with e | hg
    · subst e
      refine ⟨by show upd H f.b _ f.t = _; rw [upd_ne (tb F.ht)]; exact F.ht, upd_same, F.gb, F.zb, F.sq, F.dv, ?_, lt⟩
      show HdAll G (f.us ++ [u]) ((frozAll (items f.src)).take (f.k + 1))
      have e : (frozAll (items f.src))[f.k]? = some (froz x) := by
        rw [frozAll_map, List.getElem?_map, hx]
        rfl
      rw [List.take_add_one, e]
      exact F.du.app (.cons du .nil)
    · have Fg := I.fr g (List.mem_cons_of_mem _ hg)
      refine Fg.upd (tb Fg.ht).symm (fun e => n2 ?_)
      rw [e]
      exact List.mem_map_of_mem hg
  · rw [List.map_cons, List.nodup_cons, List.nodup_cons]
    exact ⟨n1, n2, n3⟩
  · cases r with
    | nil => exact I.ch
    | cons g r => exact I.ch
/-- an open list more -/
theorem InvZ.push {t' b' : Addr} {u : V} (I : InvZ K G0 H0 d s (f :: r) G H) {x : PyData} (hx : (items f.src)[f.k]? = some x) (sx : isSeq x = true) (du : Dd K G u x) (hb : H b' = none) (ht : H t' = none) (tb : t' ≠ b') :
    InvZ K G0 H0 d s (⟨t', b', u, x, [], 0⟩ :: f :: r) G (upd (upd (upd H b' (.lst [])) t' (.tup [u, .ref b'])) s (.lst (((f :: r).map fun f => V.ref f.t).reverse ++ [V.ref t']))) := by
  have hb2 : (upd H b' (.lst [])) t' = none := by rw [upd_ne tb]; exact ht
  have J := (I.alloc (o := .lst []) hb).alloc (o := .tup [u, .ref b']) hb2
  have ne : ∀ {b q : Addr} {o : HO}, H b = some o → H q = none → b ≠ q := fun h hq => ne_of_none h hq
  have sb : s ≠ b' := ne I.hs hb
  have st : s ≠ t' := ne I.hs ht
  have zb : H0 b' = none := by
    cases e : H0 b' with
    | none => rfl
    | some o => rw [I.keep _ _ e] at hb; cases hb
  have gb : G b' = none := I.gnone hb
  have lsb : ∀ g ∈ f :: r, g.b ≠ s := fun g hg e => by
    have nd := I.nd
    rw [List.nodup_cons] at nd
    exact nd.1 (by rw [← e]; exact List.mem_map_of_mem hg)
  have stt : ∀ {q : Addr} {xs : List V}, H q = some (.tup xs) → s ≠ q := fun h e => by
    rw [← e, I.hs] at h
    cases h
  refine ⟨fun b o h => ?_, I.g0, fun b o h => ?_, I.free, ?_, I.gs, I.zs, fun g hg => ?_, ?_, ⟨hx, I.ch⟩⟩
  · have : b ≠ s := ne_of_none h I.gs
    rw [upd_ne this]
    exact J.gh b o h
  · have : b ≠ s := ne_of_none h I.zs
    rw [upd_ne this]
    exact J.keep b o h
  · rw [upd_same, List.map_cons (f := fun f : Fr => V.ref f.t) (a := (⟨t', b', u, x, [], 0⟩ : Fr)), List.reverse_cons]
  · rcases List.mem_cons.mp hg with e | hg
    · subst e
      refine ⟨?_, ?_, gb, zb, sx, du, .nil, Nat.zero_le _⟩
      · show upd _ s _ t' = _
        rw [upd_ne st.symm, upd_same]
      · show upd _ s _ b' = _
        rw [upd_ne sb.symm, upd_ne tb.symm, upd_same]
    · have Fg := J.fr g hg
      exact Fg.upd (stt (I.fr g hg).ht) (lsb g hg).symm
  · rw [List.map_cons, List.nodup_cons, List.nodup_cons]
    have nd := I.nd
    rw [List.nodup_cons] at nd
    refine ⟨fun z => ?_, fun z => ?_, nd.2⟩
    · rcases List.mem_cons.mp z with e | z
      · exact sb e
      · exact nd.1 z
    · obtain ⟨g, hg, e⟩ := List.mem_map.mp z
      exact ne (I.fr g hg).hb hb e
/-- the top is taken off -/
theorem InvZ.pop (I : InvZ K G0 H0 d s (f :: g :: r) G H) : InvZ K G0 H0 d s (g :: r) G (upd H s (.lst ((g :: r).map fun f => V.ref f.t).reverse)) := by
  have lsb : ∀ x ∈ f :: g :: r, x.b ≠ s := fun x hx e => by
    have nd := I.nd
    rw [List.nodup_cons] at nd
    exact nd.1 (by rw [← e]; exact List.mem_map_of_mem hx)
  have stt : ∀ {q : Addr} {xs : List V}, H q = some (.tup xs) → s ≠ q := fun h e => by
    rw [← e, I.hs] at h
    cases h
  refine ⟨fun b o h => ?_, I.g0, fun b o h => ?_, I.free, upd_same, I.gs, I.zs, fun x hx => ?_, ?_, I.ch.2⟩
  · have : b ≠ s := ne_of_none h I.gs
    rw [upd_ne this]
    exact I.gh b o h
  · have : b ≠ s := ne_of_none h I.zs
    rw [upd_ne this]
    exact I.keep b o h
  · have Fx := I.fr x (List.mem_cons_of_mem _ hx)
    exact Fx.upd (stt Fx.ht) (lsb x (List.mem_cons_of_mem _ hx)).symm
  · have nd := I.nd
    rw [List.map_cons, List.nodup_cons, List.nodup_cons] at nd
    rw [List.nodup_cons]
    exact ⟨fun z => nd.1 (List.mem_cons_of_mem _ z), nd.2.2⟩
/-! what is read -/
theorem isLT_ev {j : Nat} {σ : L2.St} {v : V} {Q : VK} (gh : Same G H) (hv : σ[j]? = some (some v)) (dv : Dd K G v d) (k : ∀ q o, H q = none → Q (.bl (isSeq d)) (upd H q o)) : tIsLT K j σ H Q := by
  refine ⟨v, hv, show 2 ≤ sizeLine by decide, fun q hq => ?_⟩
  have gq : G q = none := by
    cases e : G q with
    | none => rfl
    | some o => rw [gh q o e] at hq; cases hq
  have g2 : Same (upd G q (.tup [.ty "list", .ty "tuple"])) (upd H q (.tup [.ty "list", .ty "tuple"])) := fun b o h => by
    by_cases e : b = q
    · subst e; rw [upd_same] at h ⊢; exact h
    · rw [upd_ne e] at h ⊢; exact gh b o h
  have d2 := dv.mono (sameNew (o := .tup [.ty "list", .ty "tuple"]) gq)
  refine ⟨v, q, _, _, _, _, rfl, upd_same, .cons (.ty "list") (.cons (.ty "tuple") .nil), tyX_of g2 d2, kitAny2 (kit1 d2 kit_list) (kit1 d2 kit_tuple), ?_⟩
  rw [isTy2]
  exact k q _ hq
theorem seq_of {v : V} {x : PyData} (gh : Same G H) (dv : Dd K G v x) (sx : isSeq x = true) : ∃ p ys, v = .ref p ∧ (SqL K H p ys ∨ SqT K H p ys) ∧ DdAll K G ys (items x) := by
  cases dv with
  | lst ga da => exact ⟨_, _, rfl, .inl (SqL.of (gh _ _ ga)), da⟩
  | tup ga da => exact ⟨_, _, rfl, .inr (sqT_same gh ga), da⟩
  | _ => cases sx
theorem rIx_at {p : Addr} {ys : List V} {i : Int} {z : V} {Q : VK} (h : SqL K H p ys ∨ SqT K H p ys) (e : atI ys i = some z) (k : Q z H) : rIx K (.ref p) (.int i) H Q := by
  rcases h with h | h
  · exact .inl ⟨p, ys, i, z, rfl, rfl, h, e, k⟩
  · exact .inr (.inl ⟨p, ys, i, z, rfl, rfl, h, e, k⟩)
def muR : List Fr → Nat
  | [] => 0
  | g :: r => 1 + wgtAll ((items g.src).drop (g.k + 1)) + muR r
def mu : List Fr → Nat
  | [] => 0
  | f :: r => 1 + wgtAll ((items f.src).drop f.k) + muR r
theorem InvZ.init {v : V} {b t : Addr} {H1 : Hp} (gh0 : Same G0 H0) (k1 : Same H0 H1) (dv : Dd K G0 v d) (sd : isSeq d = true) (hb : H1 b = none) (ht : upd H1 b (.lst []) t = none) (hs : upd (upd H1 b (.lst [])) t (.tup [v, .ref b]) s = none) :
    InvZ K G0 H0 d s [⟨t, b, v, d, [], 0⟩] G0 (upd (upd (upd H1 b (.lst [])) t (.tup [v, .ref b])) s (.lst [V.ref t])) := by
  have tb : t ≠ b := fun e => by subst e; rw [upd_same] at ht; cases ht
  have st : s ≠ t := fun e => by subst e; rw [upd_same] at hs; cases hs
  have sb : s ≠ b := fun e => by subst e; rw [upd_ne st, upd_same] at hs; cases hs
  have ht1 : H1 t = none := by rwa [upd_ne tb] at ht
  have hs1 : H1 s = none := by rwa [upd_ne st, upd_ne sb] at hs
  have non : ∀ {q : Addr}, H1 q = none → H0 q = none := fun h => by
    cases e : H0 _ with
    | none => rfl
    | some o => rw [k1 _ _ e] at h; cases h
  have gnon : ∀ {q : Addr}, H0 q = none → G0 q = none := fun h => by
    cases e : G0 _ with
    | none => rfl
    | some o => rw [gh0 _ _ e] at h; cases h
  have kp : ∀ q o, H0 q = some o → upd (upd (upd H1 b (.lst [])) t (.tup [v, .ref b])) s (.lst [V.ref t]) q = some o := fun q o h => by
    have h1 := k1 q o h
    rw [upd_ne (ne_of_none h1 hs1), upd_ne (ne_of_none h1 ht1), upd_ne (ne_of_none h1 hb)]
    exact h1
  refine ⟨fun q o h => kp q o (gh0 q o h), Same.refl _, kp, fun q _ h => h, upd_same, gnon (non hs1), non hs1, fun f hf => ?_, ?_, rfl⟩
  · simp only [List.mem_singleton] at hf
    subst hf
    refine ⟨?_, ?_, gnon (non hb), non hb, sd, dv, .nil, Nat.zero_le _⟩
    · show upd _ s _ t = _
      rw [upd_ne st.symm, upd_same]
    · show upd _ s _ b = _
      rw [upd_ne sb.symm, upd_ne tb.symm, upd_same]
  · simp [sb]
theorem fz_core {v : V} {D : Ends} (gh0 : Same G0 H0) (dv : Dd K G0 v d) (hd : wgt d ≤ sizeLine)
    (q : ∀ v' G' H', Same G0 G' → Same G' H' → (∀ q o, H0 q = some o → H' q = some o) → (∀ q, H0 q ≠ none → G0 q = none → G' q = none) → Hd G' v' (froz d) → D.rt v' H') :
    Tfz K D [some v, none, none, none, none] H0 := by
  have s1 : 1 ≤ sizeLine := by decide
  have s2 : 2 ≤ sizeLine := by decide
  have up0 : ∀ (c : Addr) (o : HO), H0 c = none → Same H0 (upd H0 c o) := fun c o hc b o' h => by
    rw [upd_ne (ne_of_none h hc)]
    exact h
  refine isLT_ev (j := 0) gh0 rfl dv (fun c o hc => ⟨_, rfl, ?_⟩)
  cases sd : isSeq d with
  | false =>
    refine (if_pos (c := (!false) = true) rfl).mpr ?_
    refine ⟨v, rfl, q v G0 _ (Same.refl _) (fun b o h => up0 c _ hc b o (gh0 b o h)) (up0 c _ hc) (fun _ _ h => h) ?_⟩
    rw [froz_not sd]
    exact Hd.of_flat dv sd
  | true =>
    refine (if_neg (c := (!true) = true) (by decide)).mpr ?_
    refine ⟨v, rfl, Nat.zero_le _, fun b hb => ⟨s2, fun t ht => ⟨s1, fun s hs => ?_⟩⟩⟩
    have I0 := InvZ.init gh0 (up0 c o hc) dv sd hb ht hs
    refine ⟨fun m σ H => ∃ G f r x2 x3 x4, σ = [some v, some (.ref s), x2, x3, x4] ∧ InvZ K G0 H0 d s (f :: r) G H ∧ mu (f :: r) = m, ⟨_, G0, _, [], none, none, none, rfl, I0, rfl⟩, fun m σ H hW => ?_⟩
    obtain ⟨G, f, r, x2, x3, x4, rfl, I, rfl⟩ := hW
    refine ⟨true, rfl, ?_⟩
    refine (if_pos (c := true = true) rfl).mpr ⟨fun σ' H' => ∃ m', m' < mu (f :: r) ∧ ∃ G f r x2 x3 x4, σ' = [some v, some (.ref s), x2, x3, x4] ∧ InvZ K G0 H0 d s (f :: r) G H' ∧ mu (f :: r) = m', fun _ _ h => h, ?_⟩
    have F := I.fr f (by simp)
    have sq : ∀ x ∈ f :: r, isSeq x.src = true := fun x hx => (I.fr x hx).sq
    have cw := chain_wgt r f sq I.ch
    have ws := wgt_seq F.sq
    have wl := wgtAll_len (items f.src)
    obtain ⟨p, ys, ev, hy, da⟩ := seq_of I.gh F.dv F.sq
    have lu : f.us.length = f.k := by
      rw [F.du.length, List.length_take, frozAll_map, List.length_map]
      have := F.hk
      omega
    -- the top
    refine ⟨.ref s, rfl, 1, rfl, rIx_at (.inl (SqL.of I.hs)) (atI_rev f r) ?_⟩
    refine ⟨f.t, [f.v, .ref f.b], rfl, .inl (.inl F.ht), rfl, f.v, [.ref f.b], rfl, .ref f.b, [], rfl, rfl, ?_⟩
    refine ⟨.ref f.b, rfl, f.b, f.us, rfl, .inl (SqL.of F.hb), f.v, rfl, p, ys, by rw [ev], hy, _, _, rfl, rfl, _, rfl, ?_⟩
    by_cases hlt : ((f.us.length : Int) < (ys.length : Int))
    · refine (if_pos (c := decide ((f.us.length : Int) < (ys.length : Int)) = true) (decide_eq_true hlt)).mpr ?_
      have hk : f.k < (items f.src).length := by
        rw [← da.length, ← lu]
        omega
      obtain ⟨x, hx⟩ : ∃ x, (items f.src)[f.k]? = some x := ⟨_, List.getElem?_eq_getElem hk⟩
      obtain ⟨z, hz, dz⟩ := da.atI (atI_nat hx)
      have wd := wgtAll_drop _ _ hx
      refine ⟨f.v, rfl, .ref f.b, rfl, f.b, f.us, rfl, .inl (SqL.of F.hb), ?_⟩
      rw [ev, lu]
      refine rIx_at hy hz ?_
      refine isLT_ev (j := 4) I.gh rfl dz (fun c2 o2 hc2 => ⟨_, rfl, ?_⟩)
      have J := I.alloc (o := o2) hc2
      have FJ := J.fr f (by simp)
      cases sx : isSeq x with
      | true =>
        refine (if_pos (c := true = true) rfl).mpr ?_
        refine ⟨.ref s, rfl, .inl ⟨rfl, _, SqL.of J.hs⟩, z, rfl, Nat.zero_le _, fun b' hb' => ⟨s2, fun t' ht' => ?_⟩⟩
        have tb : t' ≠ b' := fun e => by subst e; rw [upd_same] at ht'; cases ht'
        have ht2 : upd H c2 o2 t' = none := by rwa [upd_ne tb] at ht'
        have J2 := ((J.alloc (o := .lst []) hb').alloc (o := .tup [z, .ref b']) ht').hs
        refine ⟨s, _, .ref t', rfl, rfl, J2, ?_, ?_⟩
        · rw [List.length_reverse, List.length_map, List.length_cons]
          omega
        · refine ⟨_, ?_, G, _, f :: r, _, _, _, rfl, J.push hx sx dz hb' ht2 tb, rfl⟩
          have wx := wgt_seq sx
          show 1 + wgtAll ((items x).drop 0) + (1 + wgtAll ((items f.src).drop (f.k + 1)) + muR r) < 1 + wgtAll ((items f.src).drop f.k) + muR r
          rw [List.drop_zero]
          omega
      | false =>
        refine (if_neg (c := false = true) (by decide)).mpr ?_
        refine ⟨.ref f.b, rfl, .inl ⟨rfl, _, SqL.of FJ.hb⟩, z, rfl, f.b, f.us, z, rfl, rfl, FJ.hb, ?_, ?_⟩
        · omega
        · refine ⟨_, ?_, G, _, r, _, _, _, rfl, J.put hx (by rw [froz_not sx]; exact Hd.of_flat dz sx), rfl⟩
          have wx := wgt_pos x
          show 1 + wgtAll ((items f.src).drop (f.k + 1)) + muR r < 1 + wgtAll ((items f.src).drop f.k) + muR r
          omega
    · refine (if_neg (c := decide ((f.us.length : Int) < (ys.length : Int)) = true) (by rw [decide_eq_true_iff]; exact hlt)).mpr ?_
      have hk : f.k = (items f.src).length := by
        have := F.hk
        rw [← da.length, ← lu] at this ⊢
        omega
      have du : HdAll G f.us (frozAll (items f.src)) := by
        have := F.du
        rwa [hk, List.take_of_length_le (by rw [frozAll_map, List.length_map]; exact Nat.le_refl _)] at this
      have er : ((f :: r).map fun f => V.ref f.t).reverse = (r.map fun f => V.ref f.t).reverse ++ [V.ref f.t] := by
        rw [List.map_cons, List.reverse_cons]
      have ed : (((f :: r).map fun f => V.ref f.t).reverse).dropLast = (r.map fun f => V.ref f.t).reverse := by
        rw [er, List.dropLast_concat]
      refine ⟨.ref s, rfl, .inl ⟨rfl, _, SqL.of I.hs⟩, s, _, .ref f.t, rfl, rfl, I.hs, ?_, ?_⟩
      · rw [er, List.length_append]
        simp
      rw [ed]
      refine ⟨.ref s, rfl, _, .inl ⟨_, SqL.of upd_same, rfl⟩, ?_⟩
      have sb : f.b ≠ s := fun e => by
        have nd := I.nd
        rw [List.nodup_cons] at nd
        exact nd.1 (by rw [← e]; simp)
      cases r with
      | nil =>
        refine (if_pos (c := (!(!List.isEmpty ((List.map (fun f : Fr => V.ref f.t) []).reverse))) = true) rfl).mpr ?_
        have hb2 : upd H s (.lst []) f.b = some (.lst f.us) := by rw [upd_ne sb]; exact F.hb
        refine ⟨.ref f.b, rfl, f.b, f.us, rfl, .inl ⟨SqL.of hb2, fun l hl => ?_⟩⟩
        have sl : l ≠ s := fun e => by subst e; rw [upd_same] at hl; cases hl
        have hl1 : H l = none := by rwa [upd_ne sl] at hl
        have gl : G l = none := I.gnone hl1
        have sg : Same G (upd G l (.tup f.us)) := sameNew gl
        refine q (.ref l) (upd G l (.tup f.us)) _ (fun b o h => sg b o (I.g0 b o h)) (fun b o h => ?_) (fun b o h => ?_) (fun b h1 h2 => ?_) ?_
        · by_cases e : b = l
          · subst e; rw [upd_same] at h ⊢; exact h
          · rw [upd_ne e] at h ⊢
            rw [upd_ne (ne_of_none h I.gs)]
            exact I.gh b o h
        · have := I.keep b o h
          rw [upd_ne (ne_of_none this hl1), upd_ne (ne_of_none h I.zs)]
          exact this
        · have : b ≠ l := by
            cases e : H0 b with
            | none => exact absurd e h1
            | some o => exact ne_of_none (I.keep b o e) hl1
          rw [upd_ne this]
          exact I.free b h1 h2
        · have e : f.src = d := I.ch
          rw [← e, froz_seq F.sq]
          exact .tup upd_same (du.mono sg)
      | cons g r =>
        have hne : ((g :: r).map fun f : Fr => V.ref f.t).reverse.isEmpty = false := by
          rw [List.isEmpty_reverse]
          rfl
        rw [hne]
        refine (if_neg (c := (!(!false)) = true) (by decide)).mpr ?_
        have J := I.pop
        have Fg := J.fr g (by simp)
        have hb2 : upd H s (.lst ((g :: r).map fun f => V.ref f.t).reverse) f.b = some (.lst f.us) := by rw [upd_ne sb]; exact F.hb
        have e1 : atI [g.v, V.ref g.b] 1 = some (V.ref g.b) := atI_1
        refine ⟨.ref s, rfl, 1, rfl, rIx_at (.inl (SqL.of J.hs)) (atI_rev g r) (rIx_at (.inr (.inl (.inl Fg.ht))) e1 ⟨.inl ⟨rfl, _, SqL.of Fg.hb⟩, ?_⟩)⟩
        refine ⟨.ref f.b, rfl, f.b, f.us, rfl, .inl ⟨SqL.of hb2, fun l hl => ?_⟩⟩
        have L := J.laid (o := .tup f.us) hl
        have Lg := L.fr g (by simp)
        have gl := J.gnone hl
        have hx := I.ch.1
        have wd := wgtAll_drop _ _ hx
        have dl : Hd (upd G l (.tup f.us)) (.ref l) (froz f.src) := by
          rw [froz_seq F.sq]
          exact .tup upd_same (du.mono (sameNew gl))
        have lug : g.us.length = g.k := by
          rw [Fg.du.length, List.length_take, frozAll_map, List.length_map]
          have := Fg.hk
          omega
        have cg := chain_wgt r g (fun x hx => sq x (List.mem_cons_of_mem _ hx)) J.ch
        have wg := wgt_seq Fg.sq
        have wlg := wgtAll_len (items g.src)
        have hkg := (List.getElem?_eq_some_iff.mp hx).1
        refine ⟨g.b, g.us, .ref l, rfl, rfl, Lg.hb, by omega, ?_⟩
        refine ⟨_, ?_, _, _, r, _, _, _, rfl, L.put hx dl, rfl⟩
        show 1 + wgtAll ((items g.src).drop (g.k + 1)) + muR r < 1 + wgtAll ((items f.src).drop f.k) + (1 + wgtAll ((items g.src).drop (g.k + 1)) + muR r)
        omega
def S_frozen : PSp := fun as R => ∃ d, as = [.dat d] ∧ wgt d ≤ sizeLine ∧ R (.dat (froz d)) as
abbrev N_frz : List Str := ["given", "stack", "source", "built", "item"]
theorem fn_frozen {P : Program} {w : World} {mg : Str → Option Value} {base : Heap} {x qual : Str} {st : Stmt} {f : Addr} {fd : FuncData} {k : Nat} (F : Fun K x qual st f fd) (Sc : FnScope N_frz ["given"] (defScope st))
    (hbody : ∀ (cdv : Value) (A : Around) (outer : List Env) (s : Shared) (H : Hp) (E : XK), Room k (A.deeper (envOfC qual (defScope st) s.heap.objs.size f cdv)) →
      PSs (cxOf CX0 P w K mg base N_frz qual (defScope st) f cdv A outer s H E).nox (defBody st) (Tfz K)) : FnOk P w K mg base CX0 (k + 1) f fd ["given"] (spS K S_frozen) := by
  refine F.ok Sc (fun vs H Q E h => ?_) (fun cdv A outer s H vs Q E hr h => ⟨_, hbody cdv A outer s H E hr, ?_⟩)
  · obtain ⟨G, as, R, _, hA, ⟨d, rfl, _⟩, _⟩ := h
    rw [hA.len]
    rfl
  · obtain ⟨G, as, R, gh, hA, ⟨d, rfl, hw, hR⟩, post⟩ := h
    obtain ⟨v, hv, dv⟩ := hA.dat 0 d rfl
    have hl := hA.len
    obtain ⟨u, rfl⟩ : ∃ u, vs = [u] := by
      cases vs with
      | nil => simp at hl
      | cons u us =>
        cases us with
        | nil => exact ⟨u, rfl⟩
        | cons _ _ => simp at hl
    simp at hv
    subst hv
    refine fz_core gh dv hw (fun v' G' H' g1 g2 g3 g4 g5 => ?_)
    refine post v' G' H' _ (.dat (froz d)) ⟨g1, g2, fun q o h _ => g3 q o h, fun q h => ?_, g4, KS.refl _, fun i ds h => ?_, g5.dd⟩ hR
    · cases e : H q with
      | none => exact absurd e h
      | some o => rw [g3 q o e]; exact fun z => by cases z
    · cases i with
      | zero => cases h
      | succ i => simp at h
/-- the same, told of where the new tuples lie -/
def spFH (K : PySem.W.Frag) : Sp := fun vs H Q _ => ∃ (G : Hp) (v : V) (d : PyData), vs = [v] ∧ Same G H ∧ Dd K G v d ∧ wgt d ≤ sizeLine ∧
  ∀ v' G' H', Same G G' → Same G' H' → (∀ q o, H q = some o → H' q = some o) → (∀ q, H q ≠ none → G q = none → G' q = none) → Hd G' v' (froz d) → Q v' H'
theorem fn_frozenH {P : Program} {w : World} {mg : Str → Option Value} {base : Heap} {x qual : Str} {st : Stmt} {f : Addr} {fd : FuncData} {k : Nat} (F : Fun K x qual st f fd) (Sc : FnScope N_frz ["given"] (defScope st))
    (hbody : ∀ (cdv : Value) (A : Around) (outer : List Env) (s : Shared) (H : Hp) (E : XK), Room k (A.deeper (envOfC qual (defScope st) s.heap.objs.size f cdv)) →
      PSs (cxOf CX0 P w K mg base N_frz qual (defScope st) f cdv A outer s H E).nox (defBody st) (Tfz K)) : FnOk P w K mg base CX0 (k + 1) f fd ["given"] (spFH K) := by
  refine F.ok Sc (fun vs H Q E h => ?_) (fun cdv A outer s H vs Q E hr h => ⟨_, hbody cdv A outer s H E hr, ?_⟩)
  · obtain ⟨G, v, d, rfl, _⟩ := h
    rfl
  · obtain ⟨G, v, d, rfl, gh, dv, hw, post⟩ := h
    exact fz_core gh dv hw post
end DL

namespace DL
open PySem PySem.Spec PyProof.Rows L2
/-! ## rows of a formula: the loop with a stack and a dict of rows -/
inductive Fm where
  | tt
  | word (w : Str)
  | un (h : Str) (a : Fm)
  | bin (h : Str) (a b : Fm)
deriving DecidableEq
namespace Fm
def kids : Fm → List Fm
  | tt => []
  | word _ => []
  | un _ a => [a]
  | bin _ a b => [a, b]
def head : Fm → Str
  | tt => "true"
  | word _ => "word"
  | un h _ => h
  | bin h _ _ => h
def toD : Fm → PyData
  | tt => .tuple [.str "true"]
  | word w => .tuple [.str "word", .str w]
  | un h a => .tuple [.str h, a.toD]
  | bin h a b => .tuple [.str h, a.toD, b.toD]
def ok : Fm → Prop
  | tt => True
  | word _ => True
  | un h a => h ≠ "true" ∧ h ≠ "word" ∧ a.ok
  | bin h a b => h ≠ "true" ∧ h ≠ "word" ∧ a.ok ∧ b.ok
def wt : Fm → Nat
  | tt => 2
  | word _ => 2
  | un _ a => 2 + a.wt
  | bin _ a b => 2 + a.wt + b.wt
end Fm
def wts : List Fm → Nat
  | [] => 0
  | f :: fs => f.wt + wts fs
theorem wt_kids (f : Fm) : f.wt = 2 + wts f.kids := by
  cases f <;> simp [Fm.wt, Fm.kids, wts]
  omega
abbrev Row := List L2.Key
def keyD : L2.Key → PyData
  | .inl i => .int i
  | .inr s => .str s
def rowD (r : Row) : PyData := .tuple (r.map keyD)
def mkR : Fm → List Int → Row
  | .tt, _ => [.inr "true"]
  | .word w, _ => [.inr "word", .inr w]
  | .un h _, bs => .inr h :: bs.map .inl
  | .bin h _ _, bs => .inr h :: bs.map .inl
def findR (r : Row) (rows : List Row) : Option Nat := rows.findIdx? fun x => decide (x = r)
def addR (r : Row) (rows : List Row) : List Row × Nat := match findR r rows with
  | some i => (rows, i)
  | none => (rows ++ [r], rows.length)
def rowsOf : Fm → List Row → List Row × Nat
  | .tt, rows => addR (mkR .tt []) rows
  | .word w, rows => addR (mkR (.word w) []) rows
  | .un h a, rows => addR (mkR (.un h a) [((rowsOf a rows).2 : Int)]) (rowsOf a rows).1
  | .bin h a b, rows => addR (mkR (.bin h a b) [((rowsOf a rows).2 : Int), ((rowsOf b (rowsOf a rows).1).2 : Int)]) (rowsOf b (rowsOf a rows).1).1
def goKids : List Fm → List Int → List Row → List Int × List Row
  | [], bs, rows => (bs, rows)
  | c :: cs, bs, rows => goKids cs (bs ++ [((rowsOf c rows).2 : Int)]) (rowsOf c rows).1
theorem rowsOf_eq (f : Fm) (rows : List Row) : rowsOf f rows = addR (mkR f (goKids f.kids [] rows).1) (goKids f.kids [] rows).2 := by
  cases f <;> rfl
theorem findR_snoc {r j : Row} {rows : List Row} (h : findR r rows = none) : findR j (rows ++ [r]) = if j = r then some rows.length else findR j rows := by
  unfold findR at h ⊢
  rw [List.findIdx?_append]
  by_cases e : j = r
  · subst e
    rw [h]
    simp
  · rw [if_neg e]
    have : List.findIdx? (fun x => decide (x = j)) [r] = none := by
      have e' : ¬ r = j := fun z => e z.symm
      simp [e']
    rw [this]
    cases List.findIdx? (fun x => decide (x = j)) rows <;> rfl
structure FrR where
  t : Addr
  b : Addr
  v : V
  f : Fm
  bs : List Int
def retR : List FrR → Int → List Row → List Row
  | [], _, rows => rows
  | y :: r, i, rows => retR r ((addR (mkR y.f (goKids (y.f.kids.drop (y.bs.length + 1)) (y.bs ++ [i]) rows).1) (goKids (y.f.kids.drop (y.bs.length + 1)) (y.bs ++ [i]) rows).2).2 : Int)
      (addR (mkR y.f (goKids (y.f.kids.drop (y.bs.length + 1)) (y.bs ++ [i]) rows).1) (goKids (y.f.kids.drop (y.bs.length + 1)) (y.bs ++ [i]) rows).2).1
def contR : List FrR → List Row → List Row
  | [], rows => rows
  | y :: r, rows => retR r ((addR (mkR y.f (goKids (y.f.kids.drop y.bs.length) y.bs rows).1) (goKids (y.f.kids.drop y.bs.length) y.bs rows).2).2 : Int)
      (addR (mkR y.f (goKids (y.f.kids.drop y.bs.length) y.bs rows).1) (goKids (y.f.kids.drop y.bs.length) y.bs rows).2).1
theorem contR_cons {y : FrR} {r : List FrR} {rows : List Row} : contR (y :: r) rows = retR r ((addR (mkR y.f (goKids (y.f.kids.drop y.bs.length) y.bs rows).1) (goKids (y.f.kids.drop y.bs.length) y.bs rows).2).2 : Int)
      (addR (mkR y.f (goKids (y.f.kids.drop y.bs.length) y.bs rows).1) (goKids (y.f.kids.drop y.bs.length) y.bs rows).2).1 := rfl
theorem contR_start {t b : Addr} {v : V} {f : Fm} : contR [⟨t, b, v, f, []⟩] [] = (rowsOf f []).1 := by
  rw [rowsOf_eq]
  rfl
theorem contR_push {t b : Addr} {v : V} {c : Fm} {x : FrR} {r : List FrR} {rows : List Row} (h : x.f.kids[x.bs.length]? = some c) : contR (⟨t, b, v, c, []⟩ :: x :: r) rows = contR (x :: r) rows := by
  have lt := (List.getElem?_eq_some_iff.mp h).1
  have e : x.f.kids.drop x.bs.length = c :: x.f.kids.drop (x.bs.length + 1) := by
    rw [List.drop_eq_getElem_cons lt]
    congr 1
    rw [List.getElem?_eq_getElem lt] at h
    exact Option.some.inj h
  have e2 : addR (mkR c (goKids (c.kids.drop 0) [] rows).1) (goKids (c.kids.drop 0) [] rows).2 = rowsOf c rows := by
    rw [rowsOf_eq]
    rfl
  show retR (x :: r) ((addR (mkR c (goKids (c.kids.drop 0) [] rows).1) (goKids (c.kids.drop 0) [] rows).2).2 : Int) (addR (mkR c (goKids (c.kids.drop 0) [] rows).1) (goKids (c.kids.drop 0) [] rows).2).1 = _
  rw [e2, contR_cons, e]
  rfl
theorem contR_pop {x y : FrR} {r : List FrR} {rows : List Row} (h : x.bs.length = x.f.kids.length) :
    contR (x :: y :: r) rows = contR ({ y with bs := y.bs ++ [((addR (mkR x.f x.bs) rows).2 : Int)] } :: r) (addR (mkR x.f x.bs) rows).1 := by
  have e : x.f.kids.drop x.bs.length = [] := by rw [h, List.drop_length]
  show retR (y :: r) ((addR (mkR x.f (goKids (x.f.kids.drop x.bs.length) x.bs rows).1) (goKids (x.f.kids.drop x.bs.length) x.bs rows).2).2 : Int) (addR (mkR x.f (goKids (x.f.kids.drop x.bs.length) x.bs rows).1) (goKids (x.f.kids.drop x.bs.length) x.bs rows).2).1 = _
  rw [e, contR_cons]
  simp only [List.length_append, List.length_singleton]
  rfl
theorem contR_last {x : FrR} {rows : List Row} (h : x.bs.length = x.f.kids.length) : contR [x] rows = (addR (mkR x.f x.bs) rows).1 := by
  have e : x.f.kids.drop x.bs.length = [] := by rw [h, List.drop_length]
  rw [contR_cons, e]
  rfl
def muRR : List FrR → Nat
  | [] => 0
  | y :: r => 1 + wts (y.f.kids.drop (y.bs.length + 1)) + muRR r
def muRT : List FrR → Nat
  | [] => 0
  | y :: r => 1 + wts (y.f.kids.drop y.bs.length) + muRR r
theorem wts_drop {c : Fm} : ∀ (cs : List Fm) (k : Nat), cs[k]? = some c → wts (cs.drop k) = c.wt + wts (cs.drop (k + 1))
  | [], k, h => by simp at h
  | y :: ys, 0, h => by
    simp at h
    subst h
    simp [wts]
  | y :: ys, k + 1, h => by
    have := wts_drop ys k (by simpa using h)
    simpa using this
/-! the heap -/
structure FrROk (G H H0 : Hp) (x : FrR) : Prop where
  ht : H x.t = some (.tup [x.v, .ref x.b])
  hb : H x.b = some (.lst (x.bs.map V.int))
  gb : G x.b = none
  zb : H0 x.b = none
  dv : Hd G x.v x.f.toD
  hk : x.bs.length ≤ x.f.kids.length
  ok : x.f.ok
structure InvR (G0 H0 : Hp) (a n s : Addr) (xs : List FrR) (rows : List Row) (G H : Hp) : Prop where
  gh : Same G H
  g0 : Same G0 G
  keep : ∀ q o, H0 q = some o → H q = some o
  free : ∀ q, H0 q ≠ none → G0 q = none → G q = none
  ha : ∃ rvs, H a = some (.lst rvs) ∧ HdAll G rvs (rows.map rowD)
  ga : G a = none
  za : H0 a = none
  hn : ∃ kvs : List (Row × V), H n = some (.dT kvs) ∧ kvs.length = rows.length ∧ ∀ r, valV kvs r = (findR r rows).map fun i : Nat => V.int (i : Int)
  gn : G n = none
  zn : H0 n = none
  hs : H s = some (.lst (xs.map fun x => V.ref x.t).reverse)
  gs : G s = none
  zs : H0 s = none
  fr : ∀ x ∈ xs, FrROk G H H0 x
  nd : (a :: s :: xs.map (·.b)).Nodup
variable {K : PySem.W.Frag} {G0 H0 G H G' H' : Hp} {a n s : Addr} {xs r : List FrR} {x y : FrR} {rows : List Row}
theorem InvR.more (I : InvR G0 H0 a n s xs rows G H) (g1 : Same G G') (g2 : Same G' H') (kp : ∀ q o, H q = some o → H' q = some o) (fr : ∀ q, H q ≠ none → G q = none → G' q = none) : InvR G0 H0 a n s xs rows G' H' := by
  have nn : ∀ {q : Addr} {o : HO}, H q = some o → H q ≠ none := fun h z => by rw [h] at z; cases z
  obtain ⟨rvs, ha, hr⟩ := I.ha
  obtain ⟨kvs, hn, hl, hv⟩ := I.hn
  refine ⟨g2, fun b o h => g1 b o (I.g0 b o h), fun q o h => kp q o (I.keep q o h), fun q h1 h2 => ?_, ⟨rvs, kp _ _ ha, hr.mono g1⟩, fr _ (nn ha) I.ga, I.za, ⟨kvs, kp _ _ hn, hl, hv⟩, fr _ (nn hn) I.gn, I.zn, kp _ _ I.hs, fr _ (nn I.hs) I.gs, I.zs, fun z hz => ?_, I.nd⟩
  · cases e : H0 q with
    | none => exact absurd e h1
    | some o => exact fr q (nn (I.keep q o e)) (I.free q h1 h2)
  · have F := I.fr z hz
    exact ⟨kp _ _ F.ht, kp _ _ F.hb, fr _ (nn F.hb) F.gb, F.zb, F.dv.mono g1, F.hk, F.ok⟩
theorem alloc_more {q : Addr} {o : HO} (gh : Same G H) (hq : H q = none) : Same G (upd H q o) ∧ ∀ p o', H p = some o' → upd H q o p = some o' := by
  have h2 : ∀ p o', H p = some o' → upd H q o p = some o' := fun p o' h => by
    rw [upd_ne (ne_of_none h hq)]
    exact h
  exact ⟨fun p o' h => h2 p o' (gh p o' h), h2⟩
theorem InvR.alloc {q : Addr} {o : HO} (I : InvR G0 H0 a n s xs rows G H) (hq : H q = none) : InvR G0 H0 a n s xs rows G (upd H q o) :=
  I.more (Same.refl _) (alloc_more I.gh hq).1 (alloc_more I.gh hq).2 fun _ _ h => h
theorem gnone_of {q : Addr} (gh : Same G H) (hq : H q = none) : G q = none := by
  cases e : G q with
  | none => rfl
  | some o => rw [gh q o e] at hq; cases hq
theorem InvR.laid {q : Addr} {o : HO} (I : InvR G0 H0 a n s xs rows G H) (hq : H q = none) : InvR G0 H0 a n s xs rows (upd G q o) (upd H q o) := by
  refine I.more (sameNew (gnone_of I.gh hq)) (fun b o' h => ?_) (alloc_more I.gh hq).2 fun p h1 h2 => ?_
  · by_cases e : b = q
    · subst e; rw [upd_same] at h ⊢; exact h
    · rw [upd_ne e] at h ⊢; exact I.gh b o' h
  · rw [upd_ne (fun e => h1 (by rw [e]; exact hq))]
    exact h2
theorem tl_ne {p q : Addr} {us vs : List V} (h : H p = some (.tup us)) (h' : H q = some (.lst vs)) : p ≠ q := fun e => by
  rw [e, h'] at h; cases h
theorem dl_ne {p q : Addr} {us : List (Row × V)} {vs : List V} (h : H p = some (.dT us)) (h' : H q = some (.lst vs)) : p ≠ q := fun e => by
  rw [e, h'] at h; cases h
theorem td_ne {p q : Addr} {us : List V} {vs : List (Row × V)} (h : H p = some (.tup us)) (h' : H q = some (.dT vs)) : p ≠ q := fun e => by
  rw [e, h'] at h; cases h
/-- a write at a place of one's own: what else stands, stands -/
theorem wr_same {q : Addr} {o : HO} (gh : Same G H) (gq : G q = none) : Same G (upd H q o) := fun b o' h => by
  rw [upd_ne (ne_of_none h gq)]
  exact gh b o' h
theorem wr_keep {q : Addr} {o : HO} (kp : ∀ q o, H0 q = some o → H q = some o) (zq : H0 q = none) : ∀ p o', H0 p = some o' → upd H q o p = some o' := fun p o' h => by
  rw [upd_ne (ne_of_none h zq)]
  exact kp p o' h
theorem FrROk.wr {q : Addr} {o : HO} (h : FrROk G H H0 x) (n1 : x.t ≠ q) (n2 : x.b ≠ q) : FrROk G (upd H q o) H0 x :=
  ⟨by rw [upd_ne n1]; exact h.ht, by rw [upd_ne n2]; exact h.hb, h.gb, h.zb, h.dv, h.hk, h.ok⟩
theorem InvR.dist (I : InvR G0 H0 a n s xs rows G H) : a ≠ s ∧ (∀ z ∈ xs, z.b ≠ a) ∧ ∀ z ∈ xs, z.b ≠ s := by
  have nd := I.nd
  rw [List.nodup_cons, List.nodup_cons] at nd
  refine ⟨fun e => nd.1 (by rw [e]; exact List.mem_cons_self), fun z hz e => nd.1 (List.mem_cons_of_mem _ (by rw [← e]; exact List.mem_map_of_mem hz)), fun z hz e => nd.2.1 (by rw [← e]; exact List.mem_map_of_mem hz)⟩
theorem InvR.push {t' b' : Addr} {u : V} {c : Fm} (I : InvR G0 H0 a n s xs rows G H) (du : Hd G u c.toD) (oc : c.ok) (hb : H b' = none) (ht : (upd H b' (.lst [])) t' = none) :
    InvR G0 H0 a n s (⟨t', b', u, c, []⟩ :: xs) rows G (upd (upd (upd H b' (.lst [])) t' (.tup [u, .ref b'])) s (.lst ((xs.map fun x => V.ref x.t).reverse ++ [V.ref t']))) := by
  have tb : t' ≠ b' := fun e => by subst e; rw [upd_same] at ht; cases ht
  have J := (I.alloc (o := .lst []) hb).alloc (o := .tup [u, .ref b']) ht
  have sb : s ≠ b' := ne_of_none I.hs hb
  have st : s ≠ t' := ne_of_none ((I.alloc (o := .lst []) hb).hs) ht
  obtain ⟨das, dba, dbs⟩ := I.dist
  obtain ⟨rvs, ha, hr⟩ := J.ha
  obtain ⟨kvs, hn, hl, hv⟩ := J.hn
  have ab : a ≠ b' := by
    obtain ⟨rv, h, _⟩ := I.ha
    exact ne_of_none h hb
  have zb : H0 b' = none := by
    cases e : H0 b' with
    | none => rfl
    | some o => rw [I.keep _ _ e] at hb; cases hb
  refine ⟨wr_same J.gh J.gs, J.g0, wr_keep J.keep J.zs, J.free, ⟨rvs, by rw [upd_ne das]; exact ha, hr⟩, J.ga, J.za, ⟨kvs, by rw [upd_ne (dl_ne hn J.hs)]; exact hn, hl, hv⟩, J.gn, J.zn, ?_, J.gs, J.zs, fun z hz => ?_, ?_⟩
  · rw [upd_same, List.map_cons (f := fun x : FrR => V.ref x.t) (a := (⟨t', b', u, c, []⟩ : FrR)), List.reverse_cons]
  · rcases List.mem_cons.mp hz with e | hz
    · subst e
      refine ⟨?_, ?_, gnone_of I.gh hb, zb, du, Nat.zero_le _, oc⟩
      · show upd _ s _ t' = _
        rw [upd_ne st.symm, upd_same]
      · show upd _ s _ b' = _
        rw [upd_ne sb.symm, upd_ne tb.symm, upd_same]
        rfl
    · exact (J.fr z hz).wr (tl_ne (J.fr z hz).ht J.hs) (dbs z hz)
  · rw [List.map_cons, List.nodup_cons, List.nodup_cons, List.nodup_cons]
    have nd := I.nd
    rw [List.nodup_cons, List.nodup_cons] at nd
    refine ⟨fun z => ?_, fun z => ?_, fun z => ?_, nd.2.2⟩
    · rcases List.mem_cons.mp z with e | z
      · exact das e
      · rcases List.mem_cons.mp z with e | z
        · exact ab e
        · exact nd.1 (List.mem_cons_of_mem _ z)
    · rcases List.mem_cons.mp z with e | z
      · exact sb e
      · exact nd.2.1 z
    · obtain ⟨g, hg, e⟩ := List.mem_map.mp z
      exact ne_of_none (I.fr g hg).hb hb e
theorem InvR.pop (I : InvR G0 H0 a n s (x :: r) rows G H) : InvR G0 H0 a n s r rows G (upd H s (.lst (r.map fun x => V.ref x.t).reverse)) := by
  obtain ⟨das, dba, dbs⟩ := I.dist
  obtain ⟨rvs, ha, hr⟩ := I.ha
  obtain ⟨kvs, hn, hl, hv⟩ := I.hn
  refine ⟨wr_same I.gh I.gs, I.g0, wr_keep I.keep I.zs, I.free, ⟨rvs, by rw [upd_ne das]; exact ha, hr⟩, I.ga, I.za, ⟨kvs, by rw [upd_ne (dl_ne hn I.hs)]; exact hn, hl, hv⟩, I.gn, I.zn, upd_same, I.gs, I.zs, fun z hz => ?_, ?_⟩
  · have F := I.fr z (List.mem_cons_of_mem _ hz)
    exact F.wr (tl_ne F.ht I.hs) (dbs z (List.mem_cons_of_mem _ hz))
  · have nd := I.nd
    rw [List.map_cons, List.nodup_cons, List.nodup_cons, List.nodup_cons] at nd
    rw [List.nodup_cons, List.nodup_cons]
    refine ⟨fun z => nd.1 ?_, fun z => nd.2.1 (List.mem_cons_of_mem _ z), nd.2.2.2⟩
    rcases List.mem_cons.mp z with e | z
    · rw [e]; exact List.mem_cons_self
    · exact List.mem_cons_of_mem _ (List.mem_cons_of_mem _ z)
theorem InvR.put {i : Int} (I : InvR G0 H0 a n s (x :: r) rows G H) (hk : x.bs.length < x.f.kids.length) : InvR G0 H0 a n s ({ x with bs := x.bs ++ [i] } :: r) rows G (upd H x.b (.lst (x.bs.map V.int ++ [V.int i]))) := by
  have F := I.fr x (by simp)
  obtain ⟨das, dba, dbs⟩ := I.dist
  obtain ⟨rvs, ha, hr⟩ := I.ha
  obtain ⟨kvs, hn, hl, hv⟩ := I.hn
  have nd := I.nd
  rw [List.map_cons, List.nodup_cons, List.nodup_cons, List.nodup_cons] at nd
  refine ⟨wr_same I.gh F.gb, I.g0, wr_keep I.keep F.zb, I.free, ⟨rvs, by rw [upd_ne (dba x (by simp)).symm]; exact ha, hr⟩, I.ga, I.za, ⟨kvs, by rw [upd_ne (dl_ne hn F.hb)]; exact hn, hl, hv⟩, I.gn, I.zn, ?_, I.gs, I.zs, fun z hz => ?_, I.nd⟩
  · rw [upd_ne (dbs x (by simp)).symm]
    exact I.hs
  · rcases List.mem_cons.mp hz with e | hz
    · subst e
      refine ⟨?_, ?_, F.gb, F.zb, F.dv, ?_, F.ok⟩
      · show upd H x.b _ x.t = _
        rw [upd_ne (tl_ne F.ht F.hb)]
        exact F.ht
      · show upd H x.b _ x.b = _
        rw [upd_same, List.map_append]
        rfl
      · show (x.bs ++ [i]).length ≤ _
        simp
        omega
    · have Fz := I.fr z (List.mem_cons_of_mem _ hz)
      refine Fz.wr (tl_ne Fz.ht F.hb) fun e => nd.2.2.1 ?_
      rw [← e]
      exact List.mem_map_of_mem hz
/-- a row more: the dict first, the list then -/
theorem InvR.row {rb : Addr} {q : Row} (I : InvR G0 H0 a n s xs rows G H) (gr : G rb = some (.tup (q.map kV))) (new : findR q rows = none) {kvs : List (Row × V)} {rvs : List V} (hn : H n = some (.dT kvs)) (hl : kvs.length = rows.length) (hv : ∀ r, valV kvs r = (findR r rows).map fun i : Nat => V.int (i : Int)) (ha : H a = some (.lst rvs)) (hr : HdAll G rvs (rows.map rowD)) :
    InvR G0 H0 a n s xs (rows ++ [q]) G (upd (upd H n (.dT (kvs ++ [(q, V.int (rows.length : Nat))]))) a (.lst (rvs ++ [V.ref rb]))) := by
  obtain ⟨das, dba, dbs⟩ := I.dist
  have na : n ≠ a := dl_ne hn ha
  have hd : ∀ q : Row, HdAll G (q.map kV) (q.map keyD) := fun q => by
    induction q with
    | nil => exact .nil
    | cons k q ih =>
      refine .cons ?_ ih
      cases k with
      | inl i => exact .int i
      | inr t => exact .str t
  refine ⟨wr_same (wr_same I.gh I.gn) I.ga, I.g0, wr_keep (wr_keep I.keep I.zn) I.za, I.free, ⟨_, upd_same, ?_⟩, I.ga, I.za, ⟨_, by rw [upd_ne na, upd_same], by simp [hl], fun j => ?_⟩, I.gn, I.zn, ?_, I.gs, I.zs, fun z hz => ?_, I.nd⟩
  · rw [List.map_append]
    exact hr.app (.cons (.tup gr (hd q)) .nil)
  · have none_ : valV kvs q = none := by rw [hv, new]; rfl
    rw [valV_snoc q j _ kvs none_, findR_snoc new, hv]
    by_cases e : j = q
    · rw [if_pos e, if_pos e]; rfl
    · rw [if_neg e, if_neg e]
  · rw [upd_ne das.symm, upd_ne (dl_ne hn I.hs).symm]
    exact I.hs
  · have F := I.fr z hz
    exact (F.wr (td_ne F.ht hn) (dl_ne hn F.hb).symm).wr (tl_ne F.ht ha) (dba z hz)
end DL

namespace DL
open PySem PySem.Spec PyProof.Rows L2
variable {K : PySem.W.Frag} {G0 H0 G H G' H' : Hp} {a n s : Addr} {xs r : List FrR} {x y : FrR} {rows : List Row}
/-- what stands within a formula, told of where it lies -/
def spW (K : PySem.W.Frag) : Sp := fun vs H Q _ => ∃ (G : Hp) (v : V) (f : Fm), vs = [v] ∧ Same G H ∧ Hd G v f.toD ∧ f.ok ∧
  ∀ v' G' H', Same G G' → Same G' H' → (∀ q o, H q = some o → H' q = some o) → (∀ q, H q ≠ none → G q = none → G' q = none) → Hd G' v' (.tuple (f.kids.map Fm.toD)) → Q v' H'
abbrev tTru (K : PySem.W.Frag) (j : Nat) : TT := fun σ H Q => tVar j σ H fun x H' => ∃ k, TruV K x H' k ∧ Q k H'
abbrev tTop3 (K : PySem.W.Frag) : TE := tOp (rIx K) (tVar 3) (tUn (rU fun i => V.int (-i)) (tC (V.int 1)))
def TfrEnd (K : PySem.W.Frag) : TS := tSeq (tIfS (tNot (tTru K 3)) (tRet (tDGet (tVar 1) (tVar 7))) tNext) (tDrop (tBM K "list" rAppend (tOp (rIx K) (tTop3 K) (tC (V.int 1))) (tCons (tDGet (tVar 1) (tVar 7)) tNil)))
def TfrNew (K : PySem.W.Frag) : TS := tIfS (tB (tDNotIn (tVar 7) (tVar 1))) (tSeq (sDPut (tVar 1) (tVar 7) (tLenQ K 0)) (tDrop (tBM K "list" rAppend (tVar 0) (tCons (tVar 7) tNil)))) tNext
def TfrRow (K : PySem.W.Frag) : TS := tAsg (tIf (tTru K 6) (tTup (tCons (tOp (rIx K) (tVar 4) (tC (V.int 0))) (StX.tStar K (tVar 5) tNil))) (tVar 4)) (gName 7)
def TfrIn (K : PySem.W.Frag) : TS := tIfS (tTest (tOp (rI0 fun i j => V.bl (decide (i < j))) (tLenQ K 5) (tLenQ K 6)))
  (tSeq (tDrop (tBM K "list" rAppend (tVar 3) (tCons (tTup (tCons (tOp (rIx K) (tVar 6) (tLenQ K 5)) (tCons (tLst tNil) tNil))) tNil))) tCont) tNext
def TfrBody (K : PySem.W.Frag) (sp : Sp) : TS :=
  tSeq (tAsg (tTop3 K) (gTup K 2 (gCons (gName 4) (gCons (gName 5) gNil)))) (tSeq (tAsg (tCall sp [] L2.E0 (tCons (tVar 4) tNil)) (gName 6)) (tSeq (TfrIn K)
    (tSeq (tDrop (tBM0 K "list" rPop (tVar 3))) (tSeq (TfrRow K) (tSeq (TfrNew K) (TfrEnd K))))))
def Tar (K : PySem.W.Frag) (sp : Sp) : TS :=
  tSeq (tAsg (tLst (tCons (tTup (tCons (tVar 2) (tCons (tLst tNil) tNil))) tNil)) (gName 3)) (tWhile (tB (tC (V.bl true))) (TfrBody K sp))
def Tfr (K : PySem.W.Frag) (sp : Sp) : TS :=
  tSeq (tAsg (tLst tNil) (gName 1)) (tSeq (tDrop (tCall sp [] L2.E0 (tCons (tVar 1) (tCons tDNewT (tCons (tVar 0) tNil))))) (tRet (tVar 1)))
theorem atI_revR (f : FrR) (r : List FrR) : atI ((f :: r).map fun f => V.ref f.t).reverse (-1) = some (V.ref f.t) := by
  rw [List.map_cons, List.reverse_cons]
  exact atI_last _ _
theorem upd_none {p q : Addr} {o : HO} (h : upd H q o p = none) : p ≠ q ∧ H p = none := by
  have e : p ≠ q := fun z => by subst z; rw [upd_same] at h; cases h
  exact ⟨e, by rwa [upd_ne e] at h⟩
theorem InvR.init {v : V} {f0 : Fm} {b t : Addr} (gh0 : Same G0 H0) (dv : Hd G0 v f0.toD) (ok : f0.ok) (ha : H0 a = none) (hn : upd H0 a (.lst []) n = none) (hb : upd (upd H0 a (.lst [])) n (.dT []) b = none)
    (ht : upd (upd (upd H0 a (.lst [])) n (.dT [])) b (.lst []) t = none) (hs : upd (upd (upd (upd H0 a (.lst [])) n (.dT [])) b (.lst [])) t (.tup [v, .ref b]) s = none) :
    InvR G0 H0 a n s [⟨t, b, v, f0, []⟩] [] G0 (upd (upd (upd (upd (upd H0 a (.lst [])) n (.dT [])) b (.lst [])) t (.tup [v, .ref b])) s (.lst [V.ref t])) := by
  obtain ⟨na, hn0⟩ := upd_none hn
  obtain ⟨bn, hb1⟩ := upd_none hb
  obtain ⟨ba, hb0⟩ := upd_none hb1
  obtain ⟨tb, ht1⟩ := upd_none ht
  obtain ⟨tn, ht2⟩ := upd_none ht1
  obtain ⟨ta, ht0⟩ := upd_none ht2
  obtain ⟨st, hs1⟩ := upd_none hs
  obtain ⟨sb, hs2⟩ := upd_none hs1
  obtain ⟨sn, hs3⟩ := upd_none hs2
  obtain ⟨sa, hs0⟩ := upd_none hs3
  have kp : ∀ q o, H0 q = some o → (upd (upd (upd (upd (upd H0 a (.lst [])) n (.dT [])) b (.lst [])) t (.tup [v, .ref b])) s (.lst [V.ref t])) q = some o := fun q o h => by
    rw [upd_ne (ne_of_none h hs0), upd_ne (ne_of_none h ht0), upd_ne (ne_of_none h hb0), upd_ne (ne_of_none h hn0), upd_ne (ne_of_none h ha)]
    exact h
  have gn : ∀ {q : Addr}, H0 q = none → G0 q = none := fun h => gnone_of gh0 h
  refine ⟨fun q o h => kp q o (gh0 q o h), Same.refl _, kp, fun q _ h => h, ⟨[], ?_, .nil⟩, gn ha, ha, ⟨[], ?_, rfl, fun r => rfl⟩, gn hn0, hn0, upd_same, gn hs0, hs0, fun z hz => ?_, ?_⟩
  · rw [upd_ne sa.symm, upd_ne ta.symm, upd_ne ba.symm, upd_ne na.symm, upd_same]
  · rw [upd_ne sn.symm, upd_ne tn.symm, upd_ne bn.symm, upd_same]
  · simp only [List.mem_singleton] at hz
    subst hz
    refine ⟨?_, ?_, gn hb0, hb0, dv, Nat.zero_le _, ok⟩
    · show upd _ s _ t = _
      rw [upd_ne st.symm, upd_same]
    · show upd _ s _ b = _
      rw [upd_ne sb.symm, upd_ne tb.symm, upd_same]
      rfl
  · simp [sa.symm, ba.symm, sb]
/-! one formula's own tuple -/
theorem fm_tup {v : V} : ∀ {f : Fm}, Hd G v f.toD → ∃ p us, v = .ref p ∧ G p = some (.tup (.str f.head :: us)) ∧ (f.kids = [] → V.str f.head :: us = (mkR f []).map kV)
  | .tt, h => by
    cases h with
    | tup g da =>
      cases da with
      | cons h1 t1 =>
        cases h1
        cases t1
        exact ⟨_, _, rfl, g, fun _ => rfl⟩
  | .word w, h => by
    cases h with
    | tup g da =>
      cases da with
      | cons h1 t1 =>
        cases h1
        cases t1 with
        | cons h2 t2 =>
          cases h2
          cases t2
          exact ⟨_, _, rfl, g, fun _ => rfl⟩
  | .un k a, h => by
    cases h with
    | tup g da =>
      cases da with
      | cons h1 t1 =>
        cases h1
        exact ⟨_, _, rfl, g, fun z => by cases z⟩
  | .bin k a b, h => by
    cases h with
    | tup g da =>
      cases da with
      | cons h1 t1 =>
        cases h1
        exact ⟨_, _, rfl, g, fun z => by cases z⟩
theorem mkR_node : ∀ {f : Fm} (bs : List Int), f.kids ≠ [] → (mkR f bs).map kV = .str f.head :: (bs.map V.int ++ [])
  | .tt, bs, h => absurd rfl h
  | .word w, bs, h => absurd rfl h
  | .un k a, bs, _ => by
    show V.str k :: (bs.map Sum.inl).map kV = _
    rw [List.map_map, List.append_nil]
    rfl
  | .bin k a b, bs, _ => by
    show V.str k :: (bs.map Sum.inl).map kV = _
    rw [List.map_map, List.append_nil]
    rfl
theorem mkR_leaf : ∀ {f : Fm} {bs : List Int}, f.kids = [] → mkR f bs = mkR f []
  | .tt, bs, h => rfl
  | .word w, bs, h => rfl
  | .un k a, bs, h => by cases h
  | .bin k a b, bs, h => by cases h
theorem kids_ok : ∀ {f c : Fm}, f.ok → c ∈ f.kids → c.ok
  | .tt, c, h, m => by cases m
  | .word w, c, h, m => by cases m
  | .un k a, c, h, m => by
    simp [Fm.kids] at m
    subst m
    exact h.2.2
  | .bin k a b, c, h, m => by
    simp [Fm.kids] at m
    rcases m with e | e
    · subst e; exact h.2.2.1
    · subst e; exact h.2.2.2
/-- the row's tuple is made or is the piece's own -/
theorem row_ev {D : Ends} {v : V} {p : Addr} {ys : List V} (I : InvR G0 H0 a n s xs rows G H) (dv : Hd G x.v x.f.toD) (hb : H x.b = some (.lst (x.bs.map V.int))) (hk : x.bs.length = x.f.kids.length) (gp : G p = some (.tup ys)) (hy : HdAll G ys (x.f.kids.map Fm.toD)) {x7 : Option V}
    (q : ∀ rb G2 H2, InvR G0 H0 a n s xs rows G2 H2 → G2 rb = some (.tup ((mkR x.f x.bs).map kV)) → D.nx [some (.ref a), some (.ref n), some v, some (.ref s), some x.v, some (.ref x.b), some (.ref p), some (.ref rb)] H2) :
    TfrRow K D [some (.ref a), some (.ref n), some v, some (.ref s), some x.v, some (.ref x.b), some (.ref p), x7] H := by
  obtain ⟨pa, us, ev, ga, le⟩ := fm_tup dv
  have ly : ys.length = x.f.kids.length := by rw [hy.length, List.length_map]
  refine ⟨.ref p, rfl, _, .inr (.inl ⟨ys, .inl (.inl (I.gh _ _ gp)), rfl⟩), ?_⟩
  by_cases hz : x.f.kids = []
  · have : ys = [] := List.length_eq_zero_iff.mp (by rw [ly, hz]; rfl)
    subst this
    refine (if_neg (c := (!List.isEmpty ([] : List V)) = true) (by decide)).mpr ⟨x.v, rfl, ?_⟩
    have e : some x.v = some (V.ref pa) := by rw [ev]
    have := q pa G H I (by rw [mkR_leaf hz, ← le hz]; exact ga)
    rw [ev] at this ⊢
    exact this
  · have hne : ys.isEmpty = false := by
      cases ys with
      | nil =>
        refine absurd ?_ hz
        exact List.length_eq_zero_iff.mp ly.symm
      | cons _ _ => rfl
    rw [hne]
    refine (if_pos (c := (!false) = true) rfl).mpr ⟨x.v, rfl, ?_⟩
    have e0 : atI (V.str x.f.head :: us) 0 = some (.str x.f.head) := atI_0
    have hl : (x.bs.map V.int).length ≤ 2 := by
      rw [List.length_map, hk]
      cases x.f <;> simp [Fm.kids]
    rw [ev]
    refine rIx_at (.inr (.inl (.inl (I.gh _ _ ga)))) e0 ⟨.ref x.b, rfl, x.b, _, rfl, .inr (SqL.of hb), ?_, fun rb hrb => ?_⟩
    · rw [sizeLine_eq]
      simp only [List.length_cons, List.length_append, List.length_nil]
      omega
    · have := q rb _ _ (I.laid (o := .tup (.str x.f.head :: (x.bs.map V.int ++ []))) hrb) (by rw [upd_same, mkR_node x.bs hz])
      rw [ev] at this
      exact this
/-- what is put to the open list below -/
theorem end_ev {D : Ends} {v : V} {σ4 σ5 σ6 : Option V} {rb : Addr} {q : Row} {i : Nat} {kvs : List (Row × V)} (I : InvR G0 H0 a n s xs rows G H) (gr : G rb = some (.tup (q.map kV))) (hn : H n = some (.dT kvs)) (hv : valV kvs q = some (.int (i : Int)))
    (hk : ∀ y r, xs = y :: r → y.bs.length < y.f.kids.length)
    (k : (xs = [] → D.rt (.int (i : Int)) H) ∧ ∀ y r, xs = y :: r → ∀ H', InvR G0 H0 a n s ({ y with bs := y.bs ++ [(i : Int)] } :: r) rows G H' → D.nx [some (.ref a), some (.ref n), some v, some (.ref s), σ4, σ5, σ6, some (.ref rb)] H') :
    TfrEnd K D [some (.ref a), some (.ref n), some v, some (.ref s), σ4, σ5, σ6, some (.ref rb)] H := by
  refine ⟨.ref s, rfl, _, .inl ⟨_, SqL.of I.hs, rfl⟩, ?_⟩
  cases xs with
  | nil =>
    refine (if_pos (c := (!(!(List.map (fun x : FrR => V.ref x.t) []).reverse.isEmpty)) = true) (by decide)).mpr ?_
    exact ⟨.ref n, rfl, .ref rb, rfl, n, .int (i : Int), rfl, .inr ⟨kvs, q, rb, .inl hn, rfl, I.gh _ _ gr, hv.symm⟩, k.1 rfl⟩
  | cons y r =>
    have hne : ((y :: r).map fun f : FrR => V.ref f.t).reverse.isEmpty = false := by
      rw [List.isEmpty_reverse]
      rfl
    rw [hne]
    refine (if_neg (c := (!(!false)) = true) (by decide)).mpr ?_
    have F := I.fr y (by simp)
    have e1 : atI [y.v, V.ref y.b] 1 = some (V.ref y.b) := atI_1
    have lt := hk y r rfl
    have l2 : y.f.kids.length ≤ 2 := by cases y.f <;> simp [Fm.kids]
    refine ⟨.ref s, rfl, 1, rfl, rIx_at (.inl (SqL.of I.hs)) (atI_revR y r) (rIx_at (.inr (.inl (.inl F.ht))) e1 ⟨.inl ⟨rfl, _, SqL.of F.hb⟩, ?_⟩)⟩
    refine ⟨.ref n, rfl, .ref rb, rfl, n, .int (i : Int), rfl, .inr ⟨kvs, q, rb, .inl hn, rfl, I.gh _ _ gr, hv.symm⟩, y.b, _, .int (i : Int), rfl, rfl, F.hb, ?_, ?_⟩
    · rw [sizeLine_eq, List.length_map]
      omega
    · exact k.2 y r rfl _ (I.put lt)
/-- a row that is new is kept -/
theorem new_ev {D : Ends} {v : V} {σ4 σ5 σ6 : Option V} {rb : Addr} {q : Row} (I : InvR G0 H0 a n s xs rows G H) (gr : G rb = some (.tup (q.map kV))) (hl : rows.length ≤ 8000000)
    (k : ∀ H' kvs, InvR G0 H0 a n s xs (addR q rows).1 G H' → H' n = some (.dT kvs) → valV kvs q = some (.int ((addR q rows).2 : Int)) → D.nx [some (.ref a), some (.ref n), some v, some (.ref s), σ4, σ5, σ6, some (.ref rb)] H') :
    TfrNew K D [some (.ref a), some (.ref n), some v, some (.ref s), σ4, σ5, σ6, some (.ref rb)] H := by
  obtain ⟨kvs, hn, hkl, hv⟩ := I.hn
  obtain ⟨rvs, ha, hr⟩ := I.ha
  have lr : rvs.length = rows.length := by rw [hr.length, List.length_map]
  refine ⟨.ref rb, rfl, .ref n, rfl, n, _, rfl, .inr ⟨kvs, q, rb, .inl hn, rfl, I.gh _ _ gr, rfl⟩, _, rfl, ?_⟩
  rw [hv q]
  cases e : findR q rows with
  | some i =>
    have ad : addR q rows = (rows, i) := by unfold addR; rw [e]
    refine (if_neg (c := (!((Option.map (fun i : Nat => V.int (i : Int)) (some i)).isSome)) = true) (by simp)).mpr ?_
    rw [ad] at k
    exact k H kvs I hn (by rw [hv q, e]; rfl)
  | none =>
    have ad : addR q rows = (rows ++ [q], rows.length) := by unfold addR; rw [e]
    have nv : valV kvs q = none := by rw [hv q, e]; rfl
    refine (if_pos (c := (!((Option.map (fun i : Nat => V.int (i : Int)) (none : Option Nat)).isSome)) = true) rfl).mpr ?_
    have na : a ≠ n := (dl_ne hn ha).symm
    refine ⟨.ref a, rfl, a, rvs, rfl, .inl (SqL.of ha), .ref n, rfl, .ref rb, rfl, n, upd H n (.dT (kvs ++ [(q, V.int (rows.length : Nat))])), rfl, .inr ⟨kvs, q, rb, hn, rfl, I.gh _ _ gr, by rw [sizeLine_eq]; omega, by rw [putK_new _ nv, lr]⟩, ?_⟩
    have ha2 : upd H n (.dT (kvs ++ [(q, V.int (rows.length : Nat))])) a = some (.lst rvs) := by rw [upd_ne na]; exact ha
    refine ⟨.ref a, rfl, .inl ⟨rfl, _, SqL.of ha2⟩, .ref rb, rfl, a, rvs, .ref rb, rfl, rfl, ha2, by rw [sizeLine_eq]; omega, ?_⟩
    rw [ad] at k
    refine k _ (kvs ++ [(q, V.int (rows.length : Nat))]) (I.row gr e hn hkl hv ha hr) ?_ ?_
    · rw [upd_ne na.symm, upd_same]
    · rw [valV_snoc q q _ kvs nv, if_pos rfl]
theorem addR_len (q : Row) (rows : List Row) : (addR q rows).1.length ≤ rows.length + 1 := by
  unfold addR
  cases findR q rows <;> simp
end DL

namespace DL
open PySem PySem.Spec PyProof.Rows L2
variable {K : PySem.W.Frag} {G0 H0 G H G' H' : Hp} {a n s : Addr} {xs r : List FrR} {x y : FrR} {rows : List Row}
/-- each open list below waits for one -/
def Waits : List FrR → Prop
  | [] => True
  | y :: r => y.bs.length < y.f.kids.length ∧ Waits r
theorem muRT_pop {i : Int} (h : x.bs.length = x.f.kids.length) : muRT (x :: y :: r) = 1 + muRT ({ y with bs := y.bs ++ [i] } :: r) := by
  have e : x.f.kids.drop x.bs.length = [] := by rw [h, List.drop_length]
  show 1 + wts (x.f.kids.drop x.bs.length) + (1 + wts (y.f.kids.drop (y.bs.length + 1)) + muRR r) = 1 + (1 + wts (y.f.kids.drop (y.bs ++ [i]).length) + muRR r)
  rw [e, List.length_append]
  simp [wts]
theorem muRT_len : ∀ xs : List FrR, xs.length ≤ muRT xs
  | [] => Nat.le_refl _
  | y :: r => by
    have h : ∀ r : List FrR, r.length ≤ muRR r := fun r => by
      induction r with
      | nil => exact Nat.le_refl _
      | cons y r ih =>
        show r.length + 1 ≤ 1 + wts (y.f.kids.drop (y.bs.length + 1)) + muRR r
        omega
    have := h r
    show r.length + 1 ≤ 1 + wts (y.f.kids.drop y.bs.length) + muRR r
    omega
theorem ar_core {v : V} {f0 : Fm} {D : Ends} (gh0 : Same G0 H0) (dv : Hd G0 v f0.toD) (ok : f0.ok) (hw : f0.wt ≤ 4000000) (ha : H0 a = none) (hn : upd H0 a (.lst []) n = none)
    (q : ∀ (i : Int) rvs G' H', Same G0 G' → Same G' H' → (∀ q o, H0 q = some o → H' q = some o) → (∀ q, H0 q ≠ none → G0 q = none → G' q = none) → G' a = none → H' a = some (.lst rvs) → HdAll G' rvs ((rowsOf f0 []).1.map rowD) → D.rt (.int i) H') :
    Tar K (spW K) D [some (.ref a), some (.ref n), some v, none, none, none, none, none] (upd (upd H0 a (.lst [])) n (.dT [])) := by
  have s1 : 1 ≤ sizeLine := by decide
  have s2 : 2 ≤ sizeLine := by decide
  refine ⟨v, rfl, Nat.zero_le _, fun b hb => ⟨s2, fun t ht => ⟨s1, fun s hs => ?_⟩⟩⟩
  have I0 := InvR.init gh0 dv ok ha hn hb ht hs
  refine ⟨fun m σ H => ∃ G xs rows x4 x5 x6 x7, σ = [some (.ref a), some (.ref n), some v, some (.ref s), x4, x5, x6, x7] ∧ InvR G0 H0 a n s xs rows G H ∧ contR xs rows = (rowsOf f0 []).1 ∧ rows.length + muRT xs ≤ f0.wt ∧ Waits xs.tail ∧ xs ≠ [] ∧ muRT xs = m,
    ⟨_, G0, _, [], none, none, none, none, rfl, I0, contR_start, ?_, trivial, List.cons_ne_nil _ _, rfl⟩, fun m σ H hW => ?_⟩
  · show 0 + (1 + wts (f0.kids.drop 0) + 0) ≤ f0.wt
    rw [List.drop_zero, wt_kids f0]
    omega
  obtain ⟨G, xs, rows, x4, x5, x6, x7, rfl, I, hc, hb, hwt, hx, rfl⟩ := hW
  refine ⟨true, rfl, ?_⟩
  cases xs with
  | nil => exact absurd rfl hx
  | cons x r =>
    refine (if_pos (c := true = true) rfl).mpr ⟨fun σ' H' => ∃ m', m' < muRT (x :: r) ∧ ∃ G xs rows x4 x5 x6 x7, σ' = [some (.ref a), some (.ref n), some v, some (.ref s), x4, x5, x6, x7] ∧ InvR G0 H0 a n s xs rows G H' ∧ contR xs rows = (rowsOf f0 []).1 ∧ rows.length + muRT xs ≤ f0.wt ∧ Waits xs.tail ∧ xs ≠ [] ∧ muRT xs = m', fun _ _ h => h, ?_⟩
    have F := I.fr x (by simp)
    have ml := muRT_len (x :: r)
    simp only [List.length_cons] at ml
    -- piece, built = stack[-1]
    refine ⟨.ref s, rfl, 1, rfl, rIx_at (.inl (SqL.of I.hs)) (atI_revR x r) ?_⟩
    refine ⟨x.t, [x.v, .ref x.b], rfl, .inl (.inl F.ht), rfl, x.v, [.ref x.b], rfl, .ref x.b, [], rfl, rfl, ?_⟩
    -- within
    refine ⟨x.v, rfl, G, x.v, x.f, rfl, I.gh, F.dv, F.ok, fun v' G1 H1 g1 g2 kp fr hv' => ?_⟩
    have J := I.more g1 g2 kp fr
    have FJ := J.fr x (by simp)
    obtain ⟨p, ys, rfl, gp, hy⟩ : ∃ p ys, v' = .ref p ∧ G1 p = some (.tup ys) ∧ HdAll G1 ys (x.f.kids.map Fm.toD) := by
      cases hv' with
      | tup g da => exact ⟨_, _, rfl, g, da⟩
    have ly : ys.length = x.f.kids.length := by rw [hy.length, List.length_map]
    refine ⟨.ref x.b, rfl, x.b, _, rfl, .inl (SqL.of FJ.hb), .ref p, rfl, p, ys, rfl, .inr (.inl (.inl (g2 _ _ gp))), _, _, rfl, rfl, _, rfl, ?_⟩
    by_cases hlt : (((x.bs.map V.int).length : Nat) : Int) < (ys.length : Int)
    · refine (if_pos (c := decide ((((x.bs.map V.int).length : Nat) : Int) < (ys.length : Int)) = true) (decide_eq_true hlt)).mpr ?_
      have hk : x.bs.length < x.f.kids.length := by
        rw [List.length_map] at hlt
        omega
      obtain ⟨c, hc1⟩ : ∃ c, x.f.kids[x.bs.length]? = some c := ⟨_, List.getElem?_eq_getElem hk⟩
      obtain ⟨z, hz, dz⟩ := hy.get (i := x.bs.length) (d := c.toD) (by rw [List.getElem?_map, hc1]; rfl)
      have hz2 : atI ys (((x.bs.map V.int).length : Nat) : Int) = some z := by
        rw [List.length_map]
        exact atI_nat hz
      have wd := wts_drop _ _ hc1
      have wk := wt_kids c
      refine ⟨.ref s, rfl, .inl ⟨rfl, _, SqL.of J.hs⟩, .ref p, rfl, .ref x.b, rfl, x.b, _, rfl, .inl (SqL.of FJ.hb), rIx_at (.inr (.inl (.inl (g2 _ _ gp)))) hz2 ⟨Nat.zero_le _, fun b' hb' => ⟨s2, fun t' ht' => ?_⟩⟩⟩
      have J2 := ((J.alloc (o := .lst []) hb').alloc (o := .tup [z, .ref b']) ht').hs
      refine ⟨s, _, .ref t', rfl, rfl, J2, ?_, ?_⟩
      · rw [sizeLine_eq, List.length_reverse, List.length_map, List.length_cons]
        omega
      · have mu2 : muRT (⟨t', b', z, c, []⟩ :: x :: r) = 1 + wts (c.kids.drop 0) + (1 + wts (x.f.kids.drop (x.bs.length + 1)) + muRR r) := rfl
        have mu1 : muRT (x :: r) = 1 + wts (x.f.kids.drop x.bs.length) + muRR r := rfl
        rw [List.drop_zero] at mu2
        have oc := kids_ok F.ok (List.mem_of_getElem? hc1)
        refine ⟨_, ?_, G1, ⟨t', b', z, c, []⟩ :: x :: r, rows, _, _, _, _, rfl, J.push dz oc hb' ht', ?_, ?_, ⟨hk, hwt⟩, List.cons_ne_nil _ _, rfl⟩
        · omega
        · rw [contR_push hc1]
          exact hc
        · omega
    · refine (if_neg (c := decide ((((x.bs.map V.int).length : Nat) : Int) < (ys.length : Int)) = true) (by rw [decide_eq_true_iff]; exact hlt)).mpr ?_
      have hk : x.bs.length = x.f.kids.length := by
        have := F.hk
        rw [List.length_map] at hlt
        omega
      have er : ((x :: r).map fun f => V.ref f.t).reverse = (r.map fun f => V.ref f.t).reverse ++ [V.ref x.t] := by
        rw [List.map_cons, List.reverse_cons]
      have ed : (((x :: r).map fun f => V.ref f.t).reverse).dropLast = (r.map fun f => V.ref f.t).reverse := by
        rw [er, List.dropLast_concat]
      refine ⟨.ref s, rfl, .inl ⟨rfl, _, SqL.of J.hs⟩, s, _, .ref x.t, rfl, rfl, J.hs, ?_, ?_⟩
      · rw [er, List.length_append]
        simp
      rw [ed]
      have P := J.pop
      have sb : x.b ≠ s := J.dist.2.2 x (by simp)
      refine row_ev P FJ.dv (by rw [upd_ne sb]; exact FJ.hb) hk gp hy (fun rb G2 H2 I2 g2rb => ?_)
      refine new_ev I2 g2rb (by omega) (fun H3 kvs I3 hn3 hv3 => ?_)
      have al := addR_len (mkR x.f x.bs) rows
      have lt_ : ∀ y r', r = y :: r' → y.bs.length < y.f.kids.length := fun y r' e => by
        subst e
        exact hwt.1
      refine end_ev I3 g2rb hn3 hv3 lt_ ⟨fun e => ?_, fun y r' e H4 I4 => ?_⟩
      · subst e
        rw [contR_last hk] at hc
        obtain ⟨rvs, h1, h2⟩ := I3.ha
        refine q _ rvs G2 H3 I3.g0 I3.gh I3.keep I3.free I3.ga h1 ?_
        rw [← hc]
        exact h2
      · subst e
        have mp : muRT (x :: y :: r') = 1 + muRT ({ y with bs := y.bs ++ [((addR (mkR x.f x.bs) rows).2 : Int)] } :: r') := muRT_pop hk
        rw [contR_pop hk] at hc
        refine ⟨_, ?_, G2, _, _, _, _, _, _, rfl, I4, hc, ?_, hwt.2, List.cons_ne_nil _ _, rfl⟩
        · omega
        · omega
end DL

namespace DL
open PySem PySem.Spec PyProof.Rows L2
variable {K : PySem.W.Frag} {G0 H0 G H G' H' : Hp}
/-! ## the defs around formula_rows -/
def Twi (K : PySem.W.Frag) : TS :=
  tSeq (tIfS (tTest (tOp (rIn K false) (tOp (rIx K) (tVar 0) (tC (V.int 0))) (tTup (tCons (tC (V.str "true")) (tCons (tC (V.str "word")) tNil))))) (tRet (tTup tNil)) tNext)
    (tRet (tSl (rSlA K) (tVar 0) (tPart (tC (V.int 1))) tNoPart))
theorem upd_grow {q : Addr} {o : HO} (gh : Same G H) (hq : H q = none) : Same G (upd G q o) ∧ Same (upd G q o) (upd H q o) ∧ (∀ p o', H p = some o' → upd H q o p = some o') ∧ ∀ p, H p ≠ none → G p = none → upd G q o p = none := by
  refine ⟨sameNew (gnone_of gh hq), fun b o' h => ?_, (alloc_more gh hq).2, fun p h1 h2 => ?_⟩
  · by_cases e : b = q
    · subst e; rw [upd_same] at h ⊢; exact h
    · rw [upd_ne e] at h ⊢; exact gh b o' h
  · rw [upd_ne (fun e => h1 (by rw [e]; exact hq))]
    exact h2
theorem fm_items {v : V} : ∀ {f : Fm}, f.kids ≠ [] → Hd G v f.toD → ∃ p us, v = .ref p ∧ G p = some (.tup (.str f.head :: us)) ∧ HdAll G us (f.kids.map Fm.toD)
  | .tt, h, _ => absurd rfl h
  | .word _, h, _ => absurd rfl h
  | .un k a, _, h => by
    cases h with
    | tup g da =>
      cases da with
      | cons h1 t1 =>
        cases h1
        exact ⟨_, _, rfl, g, t1⟩
  | .bin k a b, _, h => by
    cases h with
    | tup g da =>
      cases da with
      | cons h1 t1 =>
        cases h1
        exact ⟨_, _, rfl, g, t1⟩
theorem head_leaf {f : Fm} (h : f.kids = []) : (f.head == ("true" : Str) || f.head == ("word" : Str)) = true := by
  cases f with
  | tt => decide +kernel
  | word w =>
    show (("word" : Str) == ("true" : Str) || ("word" : Str) == ("word" : Str)) = true
    decide +kernel
  | un _ _ => cases h
  | bin _ _ _ => cases h
theorem head_node {f : Fm} (h : f.kids ≠ []) (ok : f.ok) : (f.head == ("true" : Str) || f.head == ("word" : Str)) = false := by
  cases f with
  | tt => exact absurd rfl h
  | word _ => exact absurd rfl h
  | un k a =>
    have h1 : (k == ("true" : Str)) = false := beq_eq_false_iff_ne.mpr ok.1
    have h2 : (k == ("word" : Str)) = false := beq_eq_false_iff_ne.mpr ok.2.1
    show (k == ("true" : Str) || k == ("word" : Str)) = false
    rw [h1, h2]
    rfl
  | bin k a b =>
    have h1 : (k == ("true" : Str)) = false := beq_eq_false_iff_ne.mpr ok.1
    have h2 : (k == ("word" : Str)) = false := beq_eq_false_iff_ne.mpr ok.2.1
    show (k == ("true" : Str) || k == ("word" : Str)) = false
    rw [h1, h2]
    rfl
theorem wi_core {v : V} {f : Fm} {D : Ends} (gh : Same G H) (dv : Hd G v f.toD) (ok : f.ok)
    (q : ∀ v' G' H', Same G G' → Same G' H' → (∀ q o, H q = some o → H' q = some o) → (∀ q, H q ≠ none → G q = none → G' q = none) → Hd G' v' (.tuple (f.kids.map Fm.toD)) → D.rt v' H') : Twi K D [some v] H := by
  obtain ⟨p, us, ev, ga, le⟩ := fm_tup dv
  have s2 : 2 ≤ sizeLine := by decide
  have e0 : atI (V.str f.head :: us) 0 = some (.str f.head) := atI_0
  refine ⟨v, rfl, ?_⟩
  rw [ev]
  refine rIx_at (.inr (.inl (.inl (gh _ _ ga)))) e0 ⟨s2, fun t ht => ?_⟩
  have u1 := upd_grow (o := .tup [.str "true", .str "word"]) gh ht
  have iv : inV (V.str f.head) [.str "true", .str "word"] = (f.head == ("true" : Str) || f.head == ("word" : Str)) := by
    unfold inV
    simp only [List.any_cons, List.any_nil, Bool.or_false]
    have c1 : ∀ a b : Str, eqV (.str a) (.str b) = (b == a) := fun a b => by
      show (a == b) = (b == a)
      exact BEq.comm
    rw [c1, c1]
  refine ⟨t, _, rfl, .inr (.inl (.inl upd_same)), rfl, rfl, _, rfl, ?_⟩
  rw [if_neg (by decide : ¬ (false = true)), iv]
  by_cases hz : f.kids = []
  · rw [head_leaf hz]
    refine (if_pos (c := true = true) rfl).mpr ⟨Nat.zero_le _, fun l hl => ?_⟩
    obtain ⟨g1, g2, g3, g4⟩ := u1
    have u2 := upd_grow (o := .tup []) g2 hl
    refine q (.ref l) _ _ (fun b o h => u2.1 b o (g1 b o h)) u2.2.1 (fun b o h => u2.2.2.1 b o (g3 b o h)) (fun b h1 h2 => u2.2.2.2 b ?_ (g4 b h1 h2)) ?_
    · cases e : H b with
      | none => exact absurd e h1
      | some o => rw [g3 b o e]; exact fun z => by cases z
    · rw [hz]
      exact .tup upd_same .nil
  · rw [head_node hz ok]
    refine (if_neg (c := false = true) (by decide)).mpr ?_
    obtain ⟨p2, us2, ev2, ga2, da⟩ := fm_items hz dv
    rw [ev] at ev2
    cases ev2
    rw [ga] at ga2
    cases ga2
    obtain ⟨g1, g2, g3, g4⟩ := u1
    have hp : upd H t (.tup [.str "true", .str "word"]) p = some (.tup (.str f.head :: us)) := g3 _ _ (gh _ _ ga)
    have cv : cutV (V.str f.head :: us) (some 1) none = us := by
      unfold cutV
      rw [show HT.sIx (V.str f.head :: us).length 0 (some 1) = min 1 (V.str f.head :: us).length from HT.sIx_nat _ 0 1, HT.sIx_none]
      simp only [List.length_cons]
      rw [Nat.min_eq_left (by omega)]
      simp
    refine ⟨.ref p, rfl, ?_⟩
    refine ⟨1, rfl, p, _, rfl, .inl (.inl hp), fun z => ?_, fun _ l hl => ?_⟩
    · exfalso
      have := z.1
      rw [show HT.sIx (V.str f.head :: us).length 0 (some 1) = min 1 (V.str f.head :: us).length from HT.sIx_nat _ 0 1] at this
      simp only [List.length_cons] at this
      omega
    · rw [cv]
      have u2 := upd_grow (o := .tup us) g2 hl
      refine q (.ref l) _ _ (fun b o h => u2.1 b o (g1 b o h)) u2.2.1 (fun b o h => u2.2.2.1 b o (g3 b o h)) (fun b h1 h2 => u2.2.2.2 b ?_ (g4 b h1 h2)) ?_
      · cases e : H b with
        | none => exact absurd e h1
        | some o => rw [g3 b o e]; exact fun z => by cases z
      · exact .tup upd_same ((da.mono g1).mono u2.1)
abbrev N_arw : List Str := ["rows", "numbers", "formula", "stack", "piece", "built", "within", "row"]
abbrev N_frw : List Str := ["formula", "rows"]
section
variable {P : Program} {w : World} {mg : Str → Option Value} {base : Heap} {x qual : Str} {st : Stmt} {f : Addr} {fd : FuncData} {k : Nat}
theorem one_of {vs : List V} {G : Hp} {as : List Sl} {d : PyData} (hA : ArgsV K G H vs [.dat d]) : ∃ v, vs = [v] ∧ Dd K G v d := by
  obtain ⟨v, hv, dv⟩ := hA.dat 0 d rfl
  have hl := hA.len
  cases vs with
  | nil => simp at hl
  | cons u us =>
    cases us with
    | nil =>
      simp at hv
      subst hv
      exact ⟨_, rfl, dv⟩
    | cons _ _ => simp at hl
theorem fn_within (F : Fun K x qual st f fd) (Sc : FnScope ["piece"] ["piece"] (defScope st))
    (hbody : ∀ (cdv : Value) (A : Around) (outer : List Env) (s : Shared) (H : Hp) (E : XK), Room k (A.deeper (envOfC qual (defScope st) s.heap.objs.size f cdv)) →
      PSs (cxOf CX0 P w K mg base ["piece"] qual (defScope st) f cdv A outer s H E).nox (defBody st) (Twi K)) : FnOk P w K mg base CX0 (k + 1) f fd ["piece"] (spW K) := by
  refine F.ok Sc (fun vs H Q E h => ?_) (fun cdv A outer s H vs Q E hr h => ⟨_, hbody cdv A outer s H E hr, ?_⟩)
  · obtain ⟨G, v, f, rfl, _⟩ := h
    rfl
  · obtain ⟨G, v, f, rfl, gh, dv, ok, post⟩ := h
    exact wi_core gh dv ok post
def spFR (K : PySem.W.Frag) : Sp := fun vs H Q _ => ∃ (G : Hp) (v : V) (f0 : Fm), vs = [v] ∧ Same G H ∧ Hd G v f0.toD ∧ f0.ok ∧ f0.wt ≤ 4000000 ∧
  ∀ p rvs G' H', Same G G' → Same G' H' → (∀ q o, H q = some o → H' q = some o) → (∀ q, H q ≠ none → G q = none → G' q = none) → H p = none → G' p = none → H' p = some (.lst rvs) → HdAll G' rvs ((rowsOf f0 []).1.map rowD) → Q (.ref p) H'
/-- what add_rows does to a new list and a new dict -/
def spAR (K : PySem.W.Frag) : Sp := fun vs H Q _ => ∃ (G0 H0 : Hp) (a n : Addr) (v : V) (f0 : Fm), vs = [.ref a, .ref n, v] ∧ Same G0 H0 ∧ Hd G0 v f0.toD ∧ f0.ok ∧ f0.wt ≤ 4000000 ∧ H0 a = none ∧ upd H0 a (.lst []) n = none ∧ H = upd (upd H0 a (.lst [])) n (.dT []) ∧
  ∀ (i : Int) rvs G' H', Same G0 G' → Same G' H' → (∀ q o, H0 q = some o → H' q = some o) → (∀ q, H0 q ≠ none → G0 q = none → G' q = none) → G' a = none → H' a = some (.lst rvs) → HdAll G' rvs ((rowsOf f0 []).1.map rowD) → Q (.int i) H'
theorem fn_arows (F : Fun K x qual st f fd) (Sc : FnScope N_arw ["rows", "numbers", "formula"] (defScope st))
    (hbody : ∀ (cdv : Value) (A : Around) (outer : List Env) (s : Shared) (H : Hp) (E : XK), Room k (A.deeper (envOfC qual (defScope st) s.heap.objs.size f cdv)) →
      PSs (cxOf CX0 P w K mg base N_arw qual (defScope st) f cdv A outer s H E).nox (defBody st) (Tar K (spW K))) : FnOk P w K mg base CX0 (k + 1) f fd ["rows", "numbers", "formula"] (spAR K) := by
  refine F.ok Sc (fun vs H Q E h => ?_) (fun cdv A outer s H vs Q E hr h => ⟨_, hbody cdv A outer s H E hr, ?_⟩)
  · obtain ⟨G0, H0, a, n, v, f0, rfl, _⟩ := h
    rfl
  · obtain ⟨G0, H0, a, n, v, f0, rfl, gh, dv, ok, hw, ha, hn, rfl, post⟩ := h
    exact ar_core gh dv ok hw ha hn post
theorem fn_frows (F : Fun K x qual st f fd) (Sc : FnScope N_frw ["formula"] (defScope st))
    (hbody : ∀ (cdv : Value) (A : Around) (outer : List Env) (s : Shared) (H : Hp) (E : XK), Room k (A.deeper (envOfC qual (defScope st) s.heap.objs.size f cdv)) →
      PSs (cxOf CX0 P w K mg base N_frw qual (defScope st) f cdv A outer s H E).nox (defBody st) (Tfr K (spAR K))) : FnOk P w K mg base CX0 (k + 1) f fd ["formula"] (spFR K) := by
  refine F.ok Sc (fun vs H Q E h => ?_) (fun cdv A outer s H vs Q E hr h => ⟨_, hbody cdv A outer s H E hr, ?_⟩)
  · obtain ⟨G, v, f, rfl, _⟩ := h
    rfl
  · obtain ⟨G, v, f0, rfl, gh, dv, ok, hw, post⟩ := h
    refine ⟨Nat.zero_le _, fun a ha => ⟨.ref a, rfl, fun n hn => ⟨v, rfl, ?_⟩⟩⟩
    exact ⟨G, H, a, n, v, f0, rfl, gh, dv, ok, hw, ha, hn, rfl, fun i rvs G' H' g1 g2 kp fr ga ha' da => ⟨.ref a, rfl, post a rvs G' H' g1 g2 kp fr ha ga ha' da⟩⟩
/-- the rows of a formula, as data -/
def S_rows : PSp := fun as R => ∃ (d : PyData) (f : Fm), as = [.dat d] ∧ froz d = f.toD ∧ f.ok ∧ f.wt ≤ 4000000 ∧ wgt d ≤ sizeLine ∧ R (.new ((rowsOf f []).1.map rowD)) as
def Trows (K : PySem.W.Frag) : TS := tRet (tCall (spFR K) [] L2.E0 (tCons (tCall (spFH K) [] L2.E0 (tCons (tVar 0) tNil)) tNil))
theorem fn_rows (F : Fun K x qual st f fd) (Sc : FnScope ["formula"] ["formula"] (defScope st))
    (hbody : ∀ (cdv : Value) (A : Around) (outer : List Env) (s : Shared) (H : Hp) (E : XK), Room k (A.deeper (envOfC qual (defScope st) s.heap.objs.size f cdv)) →
      PSs (cxOf CX0 P w K mg base ["formula"] qual (defScope st) f cdv A outer s H E).nox (defBody st) (Trows K)) : FnOk P w K mg base CX0 (k + 1) f fd ["formula"] (spS K S_rows) := by
  refine F.ok Sc (fun vs H Q E h => ?_) (fun cdv A outer s H vs Q E hr h => ⟨_, hbody cdv A outer s H E hr, ?_⟩)
  · obtain ⟨G, as, R, _, hA, ⟨d, f, rfl, _⟩, _⟩ := h
    rw [hA.len]
    rfl
  · obtain ⟨G, as, R, gh, hA, ⟨d, f0, rfl, hf, ok, hw, hd, hR⟩, post⟩ := h
    obtain ⟨v, rfl, dv⟩ := one_of (as := []) hA
    refine ⟨v, rfl, G, v, d, rfl, gh, dv, hd, fun v1 G1 H1 g1 g2 g3 g4 h1 => ?_⟩
    rw [hf] at h1
    refine ⟨G1, v1, f0, rfl, g2, h1, ok, hw, fun p rvs G2 H2 k1 k2 k3 k4 hp gp hp2 da => ?_⟩
    have nn : ∀ {q : Addr}, H q ≠ none → H1 q ≠ none := fun {q} h => by
      cases e : H q with
      | none => exact absurd e h
      | some o => rw [g3 q o e]; exact fun z => by cases z
    have nn1 : ∀ {q : Addr}, H1 q ≠ none → H2 q ≠ none := fun {q} h => by
      cases e : H1 q with
      | none => exact absurd e h
      | some o => rw [k3 q o e]; exact fun z => by cases z
    refine post (.ref p) G2 H2 _ (.new ((rowsOf f0 []).1.map rowD)) ⟨g1.trans k1, k2, fun q o h _ => k3 q o (g3 q o h), fun q h => nn1 (nn h), fun q h h' => k4 q (nn h) (g4 q h h'), KS.refl _, fun i ds h => ?_, p, rvs, rfl, gp, hp2, da.dd, ?_⟩ hR
    · cases i with
      | zero => cases h
      | succ i => simp at h
    · show H p = none
      cases e : H p with
      | none => rfl
      | some o => rw [g3 p o e] at hp; cases hp
end
end DL

namespace DL
open PySem PySem.Spec PyProof.Rows L2
section
variable {X : Cx} {K : PySem.W.Frag} {a b c e tg elt iter : Expr} {es tgs ifs : List Expr} {Wa Wb Wc We : WE} {Wr Wr' : WA} {pos : Pos} {WT' : WT} {ts us : List Nat}
/-! ## a module's constants that are data -/
structure GD (K : PySem.W.Frag) (mg : Str → Option Value) (x : Str) (d : PyData) : Prop where
  ex : ∃ (v : V) (u : Value), mg x = some u ∧ RelV v u ∧ ∀ G, Dd K G v d
theorem de_gdat {x : Str} {d : PyData} {p : Pos} (hg : Gl X x) (h : GD X.K X.mg x d) (hd : (x == ("__debug__" : Str)) = false := by decide) : DE X (.Name x p) (wC d) := by
  obtain ⟨v, u, h1, h2, h3⟩ := h.ex
  exact ⟨_, pe_glob hg h1 h2 hd, re_c h3⟩
/-! ## x in a tuple of data -/
def rInT (K : PySem.W.Frag) : R2 := fun x y H Q => ∃ d ds, Dp K H x d ∧ Dp K H y (.tuple ds) ∧ SeqAt.shaped d = true ∧ SeqAt.shaped (.tuple ds) = true ∧ Q (.bl (ds.any fun z => PyData.eqv z d)) H
theorem layAll_of {ds : List PyData} (h : SeqAt.shaped (.tuple ds) = true) : PyData.canLayAll0 ds = true := SeqAt.canLay_of_shaped h
theorem op_inT (hu : X.A.units + 65 < cLine) : OpR X (compareOp .In) (rInT X.K) := by
  intro pins s σ H x y v u Q I rx ry h
  obtain ⟨d, ds, hd, he, sd, se, q⟩ := h
  obtain ⟨as, r1⟩ := Dp.reads I d x v hd rx
  obtain ⟨bs, r2⟩ := Dp.reads I (.tuple ds) y u he ry
  exact SeqAt.in_tuple_reads r2 r1 (layAll_of se) (SeqAt.canLay_of_shaped sd) (room_in_shaped sd hu) ⟨V.bl (ds.any fun y => y.eqv d), H, I, rfl, q⟩
@[irreducible] def inTD : F2
  | d, .tuple es, k => SeqAt.shaped d = true ∧ SeqAt.shaped (.tuple es) = true ∧ k (.bool (es.any fun z => PyData.eqv z d))
  | _, _, _ => False
theorem rv_inT : RV2 K (rInT K) inTD := by
  intro B Γ σ H G x y dx dy Q Q' E h1 h2 w k
  unfold inTD at w
  cases h2 with
  | @tup _ _ ds ga da =>
    obtain ⟨w1, w2, w3⟩ : SeqAt.shaped dx = true ∧ SeqAt.shaped (.tuple ds) = true ∧ Q (.bool (ds.any fun z => PyData.eqv z dx)) := w
    exact ⟨dx, ds, (h1.mono E.gh).dp, ((Dd.tup ga da).mono E.gh).dp, w1, w2, k _ H G _ E (Same.refl _) (.bl _) w3⟩
  | _ => exact w.elim
theorem de_inT (hu : X.A.units + 65 < cLine) (ha : DE X a Wa) (hb : DE X b Wb) (hm : behindInMarks .In b = false := by rfl) : DE X (.Compare a [.In] [b] pos) (wOp inTD Wa Wb) := de_cmp (op_inT hu) rv_inT ha hb hm
theorem dt_inT (hu : X.A.units + 65 < cLine) (ha : DE X a Wa) (hb : DE X b Wb) (hm : behindInMarks .In b = false := by rfl) : DT X (.Compare a [.In] [b] pos) (wB (wOp inTD Wa Wb)) := dt_cmp (op_inT hu) rv_inT ha hb hm
/-! ## a list of one's own that is changed no more -/
theorem En.drop {B : Bs} {σ : L2.St} {H G : Hp} {Γ : Gam} (E : En K B σ H G Γ) (i : Nat) : En K B σ H G (Γ.set i .un) := by
  have at_ : ∀ (k : Nat) (s : Sl), (Γ.set i .un)[k]? = some s → s ≠ .un → Γ[k]? = some s := fun k s h n => by
    by_cases e : k = i
    · subst e
      by_cases hl : k < Γ.length
      · rw [List.getElem?_set_self hl] at h; cases h; exact absurd rfl n
      · rw [List.getElem?_eq_none (by simpa using hl)] at h; cases h
    · rwa [List.getElem?_set_ne (Ne.symm e)] at h
  have own_ : ∀ (k : Nat) ds, Own (Γ.set i .un) k ds → Own Γ k ds := fun k ds o => by
    rcases o with o | o
    · exact .inl (at_ k _ o (fun z => by cases z))
    · exact .inr (at_ k _ o (fun z => by cases z))
  exact ⟨by simp [E.len], E.gh, E.g0, E.h0, E.bh, E.f0, E.nn, fun k d h => E.dat k d (at_ k _ h (fun z => by cases z)), fun k ds o => E.mine k ds (own_ k ds o), fun k ds o => E.new k ds (at_ k _ o (fun z => by cases z)),
    fun k ds o => E.par k ds (at_ k _ o (fun z => by cases z)), fun k ds o => E.scr k ds (at_ k _ o (fun z => by cases z)), fun k m p ds es o1 o2 h1 h2 => E.inj k m p ds es (own_ k ds o1) (own_ m es o2) h1 h2⟩
theorem En.own_no {B : Bs} {σ : L2.St} {H G : Hp} {Γ : Gam} {i : Nat} {ds : List PyData} {p : Addr} (E : En K B σ H G Γ) (o : Own Γ i ds) (hp : σ[i]? = some (some (V.ref p))) : ∀ (k : Nat) es, Own (Γ.set i .un) k es → σ[k]? ≠ some (some (V.ref p)) := fun k es ok h => by
  have hk : k ≠ i := fun e => by
    subst e
    rcases ok with ok | ok <;>
      (by_cases hl : k < Γ.length
       · rw [List.getElem?_set_self hl] at ok; cases ok
       · rw [List.getElem?_eq_none (by simpa using hl)] at ok; cases ok)
  have ok' : Own Γ k es := by
    unfold Own at ok ⊢
    rwa [List.getElem?_set_ne (Ne.symm hk)] at ok
  exact hk (E.inj k i p es ds ok' o h hp)
@[simp] def wFrz (j : Nat) (W : WS) : WS := fun D Γ => match Γ[j]? with
  | some (.own ds) => W D (Γ.set j (.dat (.list ds)))
  | _ => False
theorem dss_frz {st : List Stmt} {W : WS} (j : Nat) (h : DSs X st W) : DSs X st (wFrz j W) := by
  obtain ⟨t, p, r⟩ := h.ex
  refine ⟨t, p, ?_⟩
  intro B Γ σ H G D D' E w l
  unfold wFrz at w
  split at w
  · rename_i ds q
    obtain ⟨p, vs, h1, h2, h3, h4, h5⟩ := E.mine j ds (.inl q)
    obtain ⟨p', h1', n⟩ := E.new j ds q
    rw [h1] at h1'
    cases h1'
    have E2 := (E.drop j).freeze h3 h2 (l.nb p n) (E.own_no (.inl q) h1)
    have sg : Same G (upd G p (.lst vs)) := sameNew h2
    have E3 := E2.setDat (v := .ref p) (d := .list ds) j (.lst upd_same (h4.mono sg))
    have e1 : σ.set j (some (V.ref p)) = σ := by
      refine List.ext_getElem? fun k => ?_
      by_cases e : k = j
      · subst e
        have hl := (List.getElem?_eq_some_iff.mp h1).1
        rw [List.getElem?_set_self hl, h1]
      · rw [List.getElem?_set_ne (Ne.symm e)]
    have e2 : (Γ.set j .un).set j (.dat (.list ds)) = Γ.set j (.dat (.list ds)) := List.set_set ..
    rw [e1, e2] at E3
    exact r B _ σ H _ D D' E3 w (l.mono sg)
  · exact w.elim
/-! ## one's own list and another: a new one -/
@[simp] def wAddO (Wo : WP) (Wb : WE) : WA := fun Γ Q => Wo Γ fun o Γ1 => Wb Γ1 fun y Γ2 => match o.rd Γ2, y with
  | some (.list ds), .list es => ds.length + es.length ≤ sizeLine ∧ Q (ds ++ es) Γ2
  | _, _ => False
theorem dn_addO {Wo : WP} (ha : DP X a Wo) (hb : DE X b Wb) : DN X (.BinOp a .Add b pos) (wAddO Wo Wb) := by
  obtain ⟨ta, pa, ra⟩ := ha.ex
  obtain ⟨tb, pb, rb⟩ := hb.ex
  refine ⟨_, pe_op op_addU pa pb, ?_⟩
  intro B Γ σ H G Q Q' E w k
  refine ra B Γ σ H G _ _ E w fun v H1 G1 o Γ1 E1 s1 k1 o1 w1 => ?_
  refine rb B Γ1 σ H1 G1 _ _ E1 w1 fun u H2 G2 y Γ2 E2 s2 k2 d2 w2 => ?_
  cases q : o.rd Γ2 with
  | none => rw [q] at w2; exact w2.elim
  | some x =>
    rw [q] at w2
    cases x with
    | list ds =>
      cases d2 with
      | @lst b2 ys es gb db =>
        obtain ⟨w3, w4⟩ : ds.length + es.length ≤ sizeLine ∧ Q (ds ++ es) Γ2 := w2
        obtain ⟨p, vs, rfl, hp, dp⟩ := ((o1.mono s2).bd E2 q).lst E2
        refine .inr (.inr (.inl ⟨p, b2, vs, ys, rfl, rfl, hp, E2.gh _ _ gb, by rw [dp.length, db.length]; exact w3, fun c hc => ?_⟩))
        exact k c (vs ++ ys) _ G2 (ds ++ es) Γ2 (E2.laidN hc) (s1.trans s2) (k1.trans k2) (E2.gnone hc) upd_same (dp.app db) (E2.bnone hc) (E2.nn c hc) (fresh_own E2 hc) w4
      | _ => exact w2.elim
    | _ => exact w2.elim
end
end DL
namespace DL
open PySem PySem.Spec PyProof.Rows L2
theorem r65 {k : Nat} {A : Around} (h : Room k A) : A.units + 65 < cLine := by have := h.un; omega
theorem r1 {k : Nat} {A : Around} (h : Room k A) : A.units + 1 < cLine := by have := h.un; omega
end DL
namespace DL
open PySem PySem.Spec PyProof.Rows L2
section
variable {X : Cx} {K : PySem.W.Frag} {a b c : Expr} {Wa Wb Wc : WE} {pos : Pos}
@[simp] def wPar3 (i j l : Nat) (Wa Wb Wc : WE) : WS := fun D Γ => Wa Γ fun x Γ1 => Wb Γ1 fun y Γ2 => Wc Γ2 fun z Γ3 => D.nx (((Γ3.set i (.dat x)).set j (.dat y)).set l (.dat z))
theorem ds_par3 {i j l : Nat} {x y z : Str} {px py pz pt : Pos} {kt k2 pt2} (hc : X.calm = true) (hN : X.N.Nodup) (hi : X.N[i]? = some x) (hj : X.N[j]? = some y) (hl : X.N[l]? = some z) (hij : i ≠ j) (hil : i ≠ l) (hjl : j ≠ l)
    (hx : X.env.scope.names.lookup x = some .local) (hy : X.env.scope.names.lookup y = some .local) (hz : X.env.scope.names.lookup z = some .local) (ha : DE X a Wa) (hb : DE X b Wb) (hcc : DE X c Wc)
    (hw : swappedStores [.Tuple [.Name x px, .Name y py, .Name z pz] kt pt] (.Tuple [a, b, c] k2 pt2) X.env = pure (some [x, y, z]))
    (hs : swapsWithSole [.Tuple [.Name x px, .Name y py, .Name z pz] kt pt] (.Tuple [a, b, c] k2 pt2) pos.line X.env = pure false := by rfl) (h1 : starEach [a, b, c] X.env = (false, eval a X.env) :: starEach [b, c] X.env := by rfl) (h2 : starEach [b, c] X.env = (false, eval b X.env) :: starEach [c] X.env := by rfl) (h3 : starEach [c] X.env = (false, eval c X.env) :: starEach [] X.env := by rfl) :
    DS X (.Assign [.Tuple [.Name x px, .Name y py, .Name z pz] kt pt] (.Tuple [a, b, c] k2 pt2) pos) (wPar3 i j l Wa Wb Wc) := by
  obtain ⟨t, p, r⟩ := ha.ex
  obtain ⟨t', p', r'⟩ := hb.ex
  obtain ⟨t'', p'', r''⟩ := hcc.ex
  refine ⟨_, ps_par3 hc hN hi hj hl hij hil hjl hx hy hz (pa_cons p (pa_cons p' (pa_cons p'' pa_nil h3) h2) h1) hw hs, ?_⟩
  intro B Γ σ H G D D' E w l
  refine r B Γ σ H G _ _ E w fun v H1 G1 d Γ1 E1 s1 k1 d1 w1 => ?_
  refine r' B Γ1 σ H1 G1 _ _ E1 w1 fun u H2 G2 e Γ2 E2 s2 k2 d2 w2 => ?_
  refine r'' B Γ2 σ H2 G2 _ _ E2 w2 fun o H3 G3 e3 Γ3 E3 s3 k3 d3 w3 => ?_
  exact ⟨v, u, o, rfl, l.nx _ H3 G3 _ (((E3.setDat i (d1.mono (s2.trans s3))).setDat j (d2.mono s3)).setDat _ d3) (s1.trans (s2.trans s3)) w3⟩
end
end DL

namespace DL
open PySem PySem.Spec PyProof.Rows L2
/-- the promise that is never asked -/
def noS : PSp := fun _ _ => False
theorem fn_no {P : Program} {w : World} {K : PySem.W.Frag} {mg : Str → Option Value} {base : Heap} {k : Nat} {f : Addr} {fd : FuncData} {ps : List Str} : FnOk P w K mg base CX0 k f fd ps (spS K noS) :=
  ⟨fun vs H Q E h => by obtain ⟨G, as, R, _, _, h, _⟩ := h; exact h.elim, fun A outer s H args us vs Q E hr he hb hv h => by obtain ⟨G, as, R, _, _, h, _⟩ := h; exact h.elim⟩
/-- a tuple of the module -/
theorem dd_mod {K : PySem.W.Frag} {G : Hp} {a : Addr} {td : Option Addr} {its : Array Value} {tn : Nat} {ts : Array (Option Value)} {ds : List PyData} (xs : List V) (h : K.lookup a = some ⟨.type "tuple", td, .seq its tn, ts⟩) (hz : its.size ≤ sizeLine) (r : Vals xs its.toList) (da : DdAll K G xs ds) : Dd K G (.ref a) (.tuple ds) :=
  .tup (.inr ⟨_, its, tn, h, rfl, rfl, hz, r⟩) da
end DL

namespace DL
open PySem PySem.Spec PyProof.Rows L2
/-! ## defs that may raise -/
abbrev PSpX := List Sl → (Rs → List Sl → Prop) → (Exn → List Sl → Prop) → Prop
def spSX (K : PySem.W.Frag) (S : PSpX) : Sp := fun vs H Q E => ∃ (G : Hp) (as : List Sl) (R : Rs → List Sl → Prop) (RX : Exn → List Sl → Prop), Same G H ∧ ArgsV K G H vs as ∧ S as R RX ∧
  (∀ v G' H' as' r, PostV K G H vs as G' H' as' v r → R r as' → Q v H') ∧ ∀ d G' H' as' x, PostV K G H vs as G' H' as' .non (.dat .none) → ExOk K G' d x → RX x as' → E (.ref x.C) d H'
/-- where it does not raise -/
def noX (S : PSpX) : PSp := fun as R => S as R fun _ _ => False
abbrev WEX := Gam → (PyData → Gam → Prop) → (Exn → Gam → Prop) → Prop
def REX (K : PySem.W.Frag) (Wx : WX) (t : TE) (W : WEX) : Prop :=
  ∀ (B : Bs) (Γ : Gam) (σ : L2.St) (H G : Hp) (Q : PyData → Gam → Prop) (QX : Exn → Gam → Prop) (Q' : VK), En K B σ H G Γ → W Γ Q QX →
    (∀ v H' G' d Γ', En K B σ H' G' Γ' → Same G G' → KS Γ Γ' → Dd K G' v d → Q d Γ' → Q' v H') → (∀ d H' G' Γ' x, En K B σ H' G' Γ' → Same G G' → ExOk K G' d x → QX x Γ' → Wx (.ref x.C) d σ H') → t σ H Q'
structure DEX (X : Cx) (e : Expr) (W : WEX) : Prop where
  ex : ∃ t, PE X e t ∧ REX X.K (Wcan X) t W
@[simp] def wCallX (S : PSpX) (Wr : WPA) : WEX := fun Γ Q QX => Wr Γ fun os Γ1 => match argsOf Γ1 os with
  | some as => (varsOf os).Nodup ∧ S as (fun r as' => match r with
    | .dat d => Q d (putB Γ1 os as')
    | .new ds => Q (.list ds) (putB Γ1 os as')) fun x as' => QX x (putB Γ1 os as')
  | none => False
section
variable {X : Cx} {K : PySem.W.Frag} {Wx : WX} {a b c e : Expr} {es : List Expr} {Wa : WE} {Wr : WPA} {pos : Pos}
theorem rex_call {S : PSpX} {t : TA} (r : RPA K t Wr) : REX K Wx (tCallS (spSX K S) (L2.WE Wx) t) (wCallX S Wr) := by
  intro B Γ σ H G Q QX Q' E w k kx
  refine r B Γ σ H G _ _ E w fun vs H1 G1 os Γ1 E1 s1 k1 o1 w1 => ?_
  cases q : argsOf Γ1 os with
  | none => simp only [q] at w1
  | some as =>
    simp only [q] at w1
    obtain ⟨hn, hS⟩ := w1
    refine ⟨G1, as, _, _, E1.gh, argsV_of E1 o1 q hn, hS, fun v G' H' as' r Po hR => ?_, fun d G' H' as' x Po xo hX => ?_⟩
    · have E2 := E1.called o1 q hn Po
      have k2 : KS Γ (putB Γ1 os as') := k1.trans putB_KS
      cases r with
      | dat d => exact k v H' G' d _ E2 (s1.trans Po.gg) k2 Po.res hR
      | new ds =>
        obtain ⟨p, us, rfl, h1, h2, h3, h4⟩ := Po.res
        have no : ∀ (i : Nat) es, Own (putB Γ1 os as') i es → σ[i]? ≠ some (some (V.ref p)) := fun i es ow z => by
          obtain ⟨es0, o0⟩ := (putB_KS (os := os) (as := as')).mineB ow
          obtain ⟨p', us', g1, g2, g3, _⟩ := E1.mine i es0 o0
          rw [z] at g1
          cases g1
          rw [h4] at g3
          cases g3
        exact k (.ref p) H' (upd G' p (.lst us)) (.list ds) _ (E2.freeze h2 h1 (E1.bnone h4) no) ((s1.trans Po.gg).trans (sameNew h1)) k2 (.lst upd_same (h3.mono (sameNew h1))) hR
    · exact kx d H' G' _ x (E1.called o1 q hn Po) (s1.trans Po.gg) xo hX
/-- a def that may raise, by its name -/
structure CalX (P : Program) (w : World) (K : PySem.W.Frag) (mg : Str → Option Value) (base : Heap) (x : Str) (ps : List Str) (k : Nat) (S : PSpX) : Prop where
  ex : ∃ (f : Addr) (fd : FuncData), mg x = some (.ref f) ∧ PySem.W.keepIn K (.ref f) = true ∧ Binds K fd ps [] ∧ FnOk P w K mg base (L2.CX P w) k f fd ps (spSX K S)
theorem CalX.mono {P : Program} {w : World} {mg : Str → Option Value} {base : Heap} {x : Str} {ps : List Str} {k j : Nat} {S : PSpX} (h : k ≤ j) (C : CalX P w K mg base x ps k S) : CalX P w K mg base x ps j S := by
  obtain ⟨f, fd, h1, h2, h3, h4⟩ := C.ex
  exact ⟨f, fd, h1, h2, h3, h4.mono h⟩
theorem fn_calX {P : Program} {w : World} {mg : Str → Option Value} {base : Heap} {x qual : Str} {st : Stmt} {f : Addr} {fd : FuncData} {ps : List Str} {k : Nat} {S : PSpX} (hm : mg x = some (.ref f)) (F : Fun K x qual st f fd) (hb : Binds K fd ps []) (G : FnOk P w K mg base (L2.CX P w) k f fd ps (spSX K S)) : CalX P w K mg base x ps k S := ⟨f, fd, hm, F.kp, hb, G⟩
theorem dex_call {S : PSpX} {k : Nat} {ps : List Str} {x : Str} {p : Pos} (C : CalX X.prog X.w X.K X.mg X.base x ps k S) (hr : Room k X.A) (hg : Gl X x) (ha : DPA X (e :: es) Wr)
    (hdb : (x == ("__debug__" : Str)) = false := by decide) (he : starEach (e :: es) X.env = (false, eval e X.env) :: starEach es X.env := by rfl) (hpl : (backTo pos (starEach es X.env)).any (·.1) = false := by rfl) :
    DEX X (.Call (.Name x p) (e :: es) [] pos) (wCallX S Wr) := by
  obtain ⟨f, fd, h1, h2, h3, h4⟩ := C.ex
  obtain ⟨t, pa, ra⟩ := ha.ex
  exact ⟨_, pe_callS h4 hr hg h1 h2 h3 (fun σ => passAt takes_c σ) pa hdb he hpl, rex_call ra⟩
theorem passN {P : Program} {w : World} {X : Cx} : Passes (L2.CX P w) X L2.E0 := fun _ _ _ _ _ _ _ h => by
  obtain ⟨_, _, _, _, _, _, _, _, _, _, _, _, q⟩ := h
  exact q.elim
/-- .. where it does not raise -/
theorem de_callV {S : PSpX} {k : Nat} {ps : List Str} {x : Str} {p : Pos} (C : CalX X.prog X.w X.K X.mg X.base x ps k S) (hr : Room k X.A) (hg : Gl X x) (ha : DPA X (e :: es) Wr)
    (hdb : (x == ("__debug__" : Str)) = false := by decide) (he : starEach (e :: es) X.env = (false, eval e X.env) :: starEach es X.env := by rfl) (hpl : (backTo pos (starEach es X.env)).any (·.1) = false := by rfl) :
    DE X (.Call (.Name x p) (e :: es) [] pos) (wCall (noX S) Wr) := by
  obtain ⟨f, fd, h1, h2, h3, h4⟩ := C.ex
  obtain ⟨t, pa, ra⟩ := ha.ex
  have F : FnOk X.prog X.w X.K X.mg X.base (L2.CX X.prog X.w) k f fd ps (spS X.K (noX S)) := by
    refine ⟨fun vs H Q E h => ?_, fun A outer s H args us vs Q E hr he hb hv h => ?_⟩
    · obtain ⟨G, as, R, gh, hA, hS, hQ⟩ := h
      exact h4.len vs H Q E ⟨G, as, R, _, gh, hA, hS, hQ, fun _ _ _ _ _ _ _ z => z.elim⟩
    · obtain ⟨G, as, R, gh, hA, hS, hQ⟩ := h
      exact h4.run A outer s H args us vs Q E hr he hb hv ⟨G, as, R, _, gh, hA, hS, hQ, fun _ _ _ _ _ _ _ z => z.elim⟩
  exact ⟨_, pe_call (dvs := []) (E := L2.E0) F hr hg h1 h2 h3 .nil passN pa hdb he hpl, re_call ra⟩
/-! statements -/
@[simp] def wSetX (i : Nat) (W : WEX) : WS := fun D Γ => W Γ (fun d Γ1 => D.nx (Γ1.set i (.dat d))) fun x Γ1 => D.ex x Γ1
theorem ds_setX {i : Nat} {x : Str} {pos' : Pos} {W : WEX} (hN : X.N.Nodup) (hi : X.N[i]? = some x) (hx : Loc X.env.scope x) (h : DEX X e W) (hs : swapsWith e (some (.Name x pos')) pos.line X.env = pure false := by rfl) (hf : X.fn x = true ∨ X.env.scope.names.lookup x = some .local := by first | exact .inl rfl | exact .inr rfl | assumption) :
    DS X (.Assign [.Name x pos'] e pos) (wSetX i W) := by
  obtain ⟨t, p, r⟩ := h.ex
  refine ⟨_, ps_set hN hi hx p hs hf, ?_⟩
  intro B Γ σ H G D D' E w l
  exact r B Γ σ H G _ _ _ E w (fun v H1 G1 d Γ1 E1 s1 k1 d1 w1 => l.nx _ H1 G1 _ (E1.setDat i d1) s1 w1) fun d H1 G1 Γ1 x E1 s1 xo w1 => l.ex d σ H1 G1 Γ1 x E1 s1 xo w1
@[simp] def wRetX (W : WEX) : WS := fun D Γ => W Γ (fun d Γ1 => D.rt (.dat d) Γ1) fun x Γ1 => D.ex x Γ1
theorem ds_retX {W : WEX} (h : DEX X e W) : DS X (.Return (some e) pos) (wRetX W) := by
  obtain ⟨t, p, r⟩ := h.ex
  refine ⟨_, ps_ret p, ?_⟩
  intro B Γ σ H G D D' E w l
  exact r B Γ σ H G _ _ _ E w (fun v H1 G1 d Γ1 E1 s1 k1 d1 w1 => l.rt σ v H1 G1 Γ1 (.dat d) E1 s1 d1 w1) fun d H1 G1 Γ1 x E1 s1 xo w1 => l.ex d σ H1 G1 Γ1 x E1 s1 xo w1
@[simp] def wDropX (W : WEX) : WS := fun D Γ => W Γ (fun _ Γ1 => D.nx Γ1) fun x Γ1 => D.ex x Γ1
theorem ds_exprX {W : WEX} (h : DEX X e W) (hs : swapsWith e none pos.line X.env = pure false := by rfl) : DS X (.Expr e pos) (wDropX W) := by
  obtain ⟨t, p, r⟩ := h.ex
  refine ⟨_, ps_expr p hs, ?_⟩
  intro B Γ σ H G D D' E w l
  exact r B Γ σ H G _ _ _ E w (fun v H1 G1 d Γ1 E1 s1 k1 d1 w1 => l.nx σ H1 G1 Γ1 E1 s1 w1) fun d H1 G1 Γ1 x E1 s1 xo w1 => l.ex d σ H1 G1 Γ1 x E1 s1 xo w1
/-- raise C(e), one field -/
@[simp] def wRaise1 (C : Addr) (f : Str) (Wa : WE) : WS := fun D Γ => Wa Γ fun d Γ1 => D.ex ⟨C, [(f, d)]⟩ Γ1
def tMk1 (C : Addr) (f : Str) (ta : TA) : L2.St → Hp → XK → Prop := fun σ H Q => ta σ H fun vs H1 => ∃ v, vs = [v] ∧ ∀ d, H1 d = none → Q (.ref C) (some d) (upd H1 d (.xd [(f, v)]))
theorem ds_raise1 {C : Addr} {f : Str} (hc : X.calm = true) (ha : DE X a Wa) (pm : ∀ {ta : TA}, PA X [a] ta → PMk X e (tMk1 C f ta)) (h1 : starEach [a] X.env = (false, eval a X.env) :: starEach [] X.env := by rfl) :
    DS X (.Raise (some e) none pos) (wRaise1 C f Wa) := by
  obtain ⟨t, p, r⟩ := ha.ex
  refine ⟨_, ps_raise hc takes_c (pm (pa_cons p pa_nil h1)), ?_⟩
  intro B Γ σ H G D D' E w l
  refine r B Γ σ H G _ _ E w fun v H1 G1 d Γ1 E1 s1 k1 d1 w1 => ?_
  refine ⟨v, rfl, fun dd hd => ?_⟩
  have gd := E1.gnone hd
  exact l.ex (some dd) σ _ _ Γ1 ⟨C, [(f, d)]⟩ (E1.laid (o := .xd [(f, v)]) hd) (s1.trans (sameNew gd)) (.inr ⟨dd, _, rfl, upd_same, .cons (d1.mono (sameNew gd)) .nil⟩) w1
end
/-! ## such a def keeps its promise -/
@[simp] def endsX (as : List Sl) (R : Rs → List Sl → Prop) (RX : Exn → List Sl → Prop) : EndsD :=
  { endsF as R with ex := fun x Γ => match parO as Γ with
    | some as' => RX x as'
    | none => False }
section
variable {P : Program} {w : World} {K : PySem.W.Frag} {mg : Str → Option Value} {base : Heap}
theorem post_end {N : List Str} {vs : List V} {as as' : List Sl} {H G H' G' : Hp} {σ : L2.St} {v : V} {Γ : Gam} {r : Rs} (hA : ArgsV K G H vs as) (E1 : En K (bsOf H G vs as) σ H' G' Γ) (s1 : Same G G') (vr : VR K (fun q => H q = none) G' H' v r) (hp : parO as Γ = some as') :
    PostV K G H vs as G' H' as' v r := by
  obtain ⟨l, h1, h2⟩ := parO_at hp
  refine ⟨s1, E1.gh, fun q o h hn => E1.h0 q o h fun ⟨i, ds, e1, e2⟩ => hn i ds e1 e2, fun q h => E1.bh q h, fun q h h' => E1.f0 q h h', ⟨l, h1⟩, fun i ds h => ?_, vr⟩
  have h3 := h2 i ds h
  obtain ⟨p, us, g1, g2, g3, g4, g5⟩ := E1.mine i ds (.inr h3)
  have g6 := E1.par i ds h3
  rw [g1] at g6
  have g7 : p = addrAt (vs[i]?) := V.ref.inj (Option.some.inj (Option.some.inj g6))
  have li : i < as.length := by
    have := (List.getElem?_eq_some_iff.mp h).1
    omega
  have ha : as[i]? = some as[i] := List.getElem?_eq_getElem li
  have kk := h1 i _ _ ha h
  cases e : as[i] with
  | par es =>
    rw [e] at ha
    obtain ⟨p', us', q1, q2, q3, q4⟩ := hA.par i es ha
    rw [q1] at g7
    have g7 : p = p' := g7
    subst g7
    exact ⟨p, us, q1, g3, g4⟩
  | un => rw [e] at kk; exact kk.elim
  | dat _ => rw [e] at kk; exact kk.elim
  | own _ => rw [e] at kk; exact kk.elim
  | scr _ => rw [e] at kk; exact kk.elim
theorem fn_okX {x qual : Str} {st : Stmt} {f : Addr} {fd : FuncData} {N ps : List Str} {k : Nat} {S : PSpX} {W : WS} (F : Fun K x qual st f fd) (Sc : FnScope N ps (defScope st)) (len : ∀ as R RX, S as R RX → as.length = ps.length)
    (hbody : ∀ (cdv : Value) (A : Around) (outer : List Env) (s : Shared) (H : Hp) (E : XK), Room k (A.deeper (envOfC qual (defScope st) s.heap.objs.size f cdv)) →
      DSs (cxOf (L2.CX P w) P w K mg base N qual (defScope st) f cdv A outer s H E) (defBody st) W)
    (hW : ∀ as R RX, S as R RX → W (endsX as R RX) (startG N as)) : FnOk P w K mg base (L2.CX P w) (k + 1) f fd ps (spSX K S) := by
  refine F.okX Sc (fun vs H Q E h => ?_) (fun cdv A outer s H vs Q E hr h => ?_)
  · obtain ⟨G, as, R, RX, _, hA, hS, _⟩ := h
    rw [hA.len, len as R RX hS]
  · obtain ⟨t, p, r⟩ := (hbody cdv A outer s H E hr).ex
    refine ⟨t, p, ?_⟩
    obtain ⟨G, as, R, RX, gh, hA, hS, hQ, hX⟩ := h
    have E0 := en_start (N := N) gh hA
    refine r _ _ _ _ G (endsX as R RX) _ E0 (hW as R RX hS) ⟨fun σ H' G' Γ E1 s1 q => ?_, fun σ H' G' Γ E1 s1 q => q.elim, fun σ H' G' Γ E1 s1 q => q.elim, fun σ v H' G' Γ r E1 s1 vr q => ?_, fun _ h => h, fun d σ H' G' Γ x E1 s1 xo q => ?_⟩
    · have q : (match parO as Γ with
        | some as' => R (.dat .none) as'
        | none => False) := q
      cases q1 : parO as Γ with
      | none => rw [q1] at q; exact q.elim
      | some as' =>
        rw [q1] at q
        exact hQ .non G' H' as' (.dat .none) (post_end (N := N) hA E1 s1 Dd.non q1) q
    · have q : (match parO as Γ with
        | some as' => R r as'
        | none => False) := q
      cases q1 : parO as Γ with
      | none => rw [q1] at q; exact q.elim
      | some as' =>
        rw [q1] at q
        exact hQ v G' H' as' r (post_end (N := N) hA E1 s1 vr q1) q
    · have q : (match parO as Γ with
        | some as' => RX x as'
        | none => False) := q
      cases q1 : parO as Γ with
      | none => rw [q1] at q; exact q.elim
      | some as' =>
        rw [q1] at q
        exact ⟨fun cls d _ H => E cls d H, takes_of rfl rfl rfl rfl, hX d G' H' as' x (post_end (N := N) hA E1 s1 Dd.non q1) xo q⟩
end
end DL

namespace DL
open PySem PySem.Spec PyProof.Rows L2
/-! ## try: .. except C as n: x = [..] -/
theorem En.setUn {K : PySem.W.Frag} {B : Bs} {σ : L2.St} {H G : Hp} {Γ : Gam} (E : En K B σ H G Γ) (i : Nat) (u : Option V) : En K B (σ.set i u) H G (Γ.set i .un) := by
  have at_ : ∀ (k : Nat) (s : Sl), (Γ.set i .un)[k]? = some s → s ≠ .un → k ≠ i ∧ Γ[k]? = some s := fun k s h n => by
    by_cases e : k = i
    · subst e
      by_cases hl : k < Γ.length
      · rw [List.getElem?_set_self hl] at h; cases h; exact absurd rfl n
      · rw [List.getElem?_eq_none (by simpa using hl)] at h; cases h
    · exact ⟨e, by rwa [List.getElem?_set_ne (Ne.symm e)] at h⟩
  have own_ : ∀ (k : Nat) ds, Own (Γ.set i .un) k ds → k ≠ i ∧ Own Γ k ds := fun k ds o => by
    rcases o with o | o
    · obtain ⟨e, h⟩ := at_ k _ o (fun z => by cases z); exact ⟨e, .inl h⟩
    · obtain ⟨e, h⟩ := at_ k _ o (fun z => by cases z); exact ⟨e, .inr h⟩
  refine ⟨by simp [E.len], E.gh, E.g0, E.h0, E.bh, E.f0, E.nn, fun k d h => ?_, fun k ds o => ?_, fun k ds h => ?_, fun k ds h => ?_, fun k ds h => ?_, fun k m p ds es o1 o2 h1 h2 => ?_⟩
  · obtain ⟨e, h⟩ := at_ k _ h (fun z => by cases z)
    rw [List.getElem?_set_ne (Ne.symm e)]
    exact E.dat k d h
  · obtain ⟨e, h⟩ := own_ k ds o
    rw [List.getElem?_set_ne (Ne.symm e)]
    exact E.mine k ds h
  · obtain ⟨e, h⟩ := at_ k _ h (fun z => by cases z)
    rw [List.getElem?_set_ne (Ne.symm e)]
    exact E.new k ds h
  · obtain ⟨e, h⟩ := at_ k _ h (fun z => by cases z)
    rw [List.getElem?_set_ne (Ne.symm e)]
    exact E.par k ds h
  · obtain ⟨e, h⟩ := at_ k _ h (fun z => by cases z)
    rw [List.getElem?_set_ne (Ne.symm e)]
    exact E.scr k ds h
  · obtain ⟨e1, g1⟩ := own_ k ds o1
    obtain ⟨e2, g2⟩ := own_ m es o2
    rw [List.getElem?_set_ne (Ne.symm e1)] at h1
    rw [List.getElem?_set_ne (Ne.symm e2)] at h2
    exact E.inj k m p ds es g1 g2 h1 h2
/-- the reading of a suite, whatever takes what it lets out -/
def canS (K : PySem.W.Frag) (W : WS) (Wx : WX) : TS := fun D' σ H => ∃ (B : Bs) (Γ : Gam) (G : Hp) (D : EndsD), En K B σ H G Γ ∧ W D Γ ∧ Lk K Wx B G D D'
theorem pss_can {X : Cx} {body : List Stmt} {W : WS} {Wx : WX} (h : DSs X body W) (tk : Takes X Wx) : PSs X body (canS X.K W Wx) := by
  obtain ⟨t, p, r⟩ := h.ex
  refine ⟨fun pins s σ H D' I q => ?_⟩
  obtain ⟨B, Γ, G, D, E, w, l⟩ := q
  exact p.run pins s σ H D' I (r B Γ σ H G D D' E w ⟨l.nx, l.bk, l.ct, l.rt, l.nb, fun d σ1 H1 G1 Γ1 x E1 s1 xo q1 => ⟨Wx, tk, l.ex d σ1 H1 G1 Γ1 x E1 s1 xo q1⟩⟩)
/-- an item of the list that the suite makes, by what was raised -/
structure SI (X : Cx) (i : Nat) (a C : Addr) (d : Option Addr) (e : Expr) (f : Exn → Option PyData) : Prop where
  ex : ∃ t, PE X e t ∧ ∀ (σ : L2.St) (H G : Hp) (x : Exn) (dd : PyData) (Q : VK), σ[i]? = some (some (V.ref a)) → Same G H → ExOk X.K G d x → f x = some dd → (∀ v, Dd X.K G v dd → Q v H) → t σ H Q
structure SIs (X : Cx) (i : Nat) (a C : Addr) (d : Option Addr) (es : List Expr) (f : Exn → Option (List PyData)) : Prop where
  ex : ∃ t, PA X es t ∧ ∀ (σ : L2.St) (H G : Hp) (x : Exn) (ds : List PyData) (Q : List V → Hp → Prop), σ[i]? = some (some (V.ref a)) → Same G H → ExOk X.K G d x → f x = some ds → (∀ vs, DdAll X.K G vs ds → Q vs H) → t σ H Q
def consI (f : Exn → Option PyData) (g : Exn → Option (List PyData)) : Exn → Option (List PyData) := fun x => match f x, g x with
  | some d, some ds => some (d :: ds)
  | _, _ => none
section
variable {X : Cx} {i : Nat} {a C : Addr} {d : Option Addr} {e : Expr} {es : List Expr}
theorem sis_nil : SIs X i a C d [] (fun _ => some []) := ⟨_, pa_nil, fun σ H G x ds Q _ _ _ h k => by cases h; exact k [] .nil⟩
theorem sis_cons {f : Exn → Option PyData} {g : Exn → Option (List PyData)} (h : SI X i a C d e f) (h' : SIs X i a C d es g) (hs : starEach (e :: es) X.env = (false, eval e X.env) :: starEach es X.env := by rfl) : SIs X i a C d (e :: es) (consI f g) := by
  obtain ⟨t, p, r⟩ := h.ex
  obtain ⟨t', p', r'⟩ := h'.ex
  refine ⟨_, pa_cons p p' hs, fun σ H G x ds Q hσ gh xo hf k => ?_⟩
  unfold consI at hf
  cases q1 : f x with
  | none => simp only [q1] at hf; cases hf
  | some d1 =>
    cases q2 : g x with
    | none => simp only [q1, q2] at hf; cases hf
    | some ds1 =>
      simp only [q1, q2] at hf
      cases hf
      exact r σ H G x d1 _ hσ gh xo q1 fun v dv => r' σ H G x ds1 _ hσ gh xo q2 fun vs dvs => k (v :: vs) (.cons dv dvs)
theorem si_str {z : Str} {j p} : SI X i a C d (.Constant (.str z) j p) (fun _ => some (.str z)) := ⟨_, pe_str, fun σ H G x dd Q _ _ _ h k => by cases h; exact k _ (.str z)⟩
theorem si_int {z : Int} {j p} : SI X i a C d (.Constant (.int z) j p) (fun _ => some (.int z)) := ⟨_, pe_int, fun σ H G x dd Q _ _ _ h k => by cases h; exact k _ (.int z)⟩
/-- the first field -/
def fld1 (f : Str) : Exn → Option PyData := fun x => match x.fs with
  | [(g, d)] => if g = f then some d else none
  | _ => none
theorem fld1_of {K : PySem.W.Frag} {G : Hp} {d : Option Addr} {x : Exn} {f : Str} {dd : PyData} (xo : ExOk K G d x) (h : fld1 f x = some dd) : ∃ da v, d = some da ∧ G da = some (.xd [(f, v)]) ∧ Dd K G v dd := by
  unfold fld1 at h
  rcases xo with ⟨_, e⟩ | ⟨da, vs, e1, e2, e3⟩
  · rw [e] at h; cases h
  · cases x with
    | mk C fs =>
      cases fs with
      | nil => cases h
      | cons p r =>
        obtain ⟨g, dg⟩ := p
        cases r with
        | cons _ _ => cases h
        | nil =>
          simp only at h
          by_cases eg : g = f
          · rw [if_pos eg] at h
            cases h
            subst eg
            cases e3 with
            | cons h1 t1 =>
              cases t1
              exact ⟨da, _, e1, e2, h1⟩
          · rw [if_neg eg] at h; cases h
end
/-- what the clause 'except C as n' (n in slot i) puts in slot j -/
@[simp] def wTry1 (i j : Nat) (C : Addr) (f : Exn → Option (List PyData)) (Wb : WS) : WS := fun D Γ => Wb { D with ex := fun x Γ1 => x.C = C ∧ i < Γ1.length ∧ ∃ ds, f x = some ds ∧ ds.length ≤ sizeLine ∧ D.nx (((Γ1.set i .un).set j (.dat (.list ds))).set i .un) } Γ
section
variable {X : Cx} {i j : Nat} {C : Addr} {x n y : Str} {es : List Expr} {body : List Stmt} {np yp lp ap pos' pos : Pos} {Wb : WS} {f : Exn → Option (List PyData)}
def tSu (K : PySem.W.Frag) (i j : Nat) (C : Addr) (f : Exn → Option (List PyData)) : Addr → Value → Option Addr → TS := fun a cls d D' σ H => cls = .ref C ∧ ∃ (G : Hp) (x : Exn) (ds : List PyData), σ[i]? = some (some (V.ref a)) ∧ Same G H ∧ ExOk K G d x ∧ f x = some ds ∧ ds.length ≤ sizeLine ∧
  ∀ vs p, DdAll K G vs ds → H p = none → D'.nx (σ.set j (some (.ref p))) (upd H p (.lst vs))
theorem ds_try1 (hs : X.stack = X.env :: X.outer) (hf : X.env.frame = some X.env.locals) (hN : X.N.Nodup) (hi : X.N[i]? = some n) (hln : X.env.kindOf n = some .local) (hc : Names X x (.ref C)) (te : PySem.W.exmOne X.K (.ref C) (.ref C) = some true)
    (hb : ∀ (pn : List (Addr × Obj)) (xe : Value → Shared → Prop), DSs (X.tr pn xe) body Wb)
    (tk : Takes X fun _ _ _ _ => False)
    (hsu : ∀ (a : Addr) (oe : Obj) (d : Option Addr) (pn : List (Addr × Obj)), Zc (.ref C) d oe → (∃ vs, oe.data = .fields vs) → SIs (X.suite a ((a, oe) :: pn)) i a C d es f)
    (hset : ∀ (a : Addr) (oe : Obj) (pn : List (Addr × Obj)) (t : TE), PE (X.suite a ((a, oe) :: pn)) (.List es lp) t → PS (X.suite a ((a, oe) :: pn)) (.Assign [.Name y yp] (.List es lp) ap) (tAsg t (gName j))) :
    DS X (.Try body [.ExceptHandler (some (.Name x np)) (some n) [.Assign [.Name y yp] (.List es lp) ap] pos'] [] [] pos) (wTry1 i j C f Wb) := by
  refine ⟨_, ps_try_as (tb := fun W => canS X.K Wb W) (ts := tSu X.K i j C f) (Wout := fun _ _ _ _ => False) hs hf hN hi hln hc tk (fun W pn xe t1 _ => pss_can (hb pn xe) t1) (fun a oe cls d pn hz hfl => ?_), ?_⟩
  · refine ⟨fun pins s σ H D I q => ?_⟩
    obtain ⟨rfl, G, x, ds, hσ, gh, xo, hx, hl, k⟩ := q
    obtain ⟨t, p, r⟩ := (hsu a oe d pn hz hfl).ex
    refine (pss_one (hset a oe pn _ (pe_lst p))).run pins s σ H D I ?_
    refine r σ H G x ds _ hσ gh xo hx fun vs dv => ?_
    refine ⟨by rw [dv.length]; exact hl, fun p hp => ?_⟩
    exact k vs p dv hp
  · intro B Γ σ H G D D' E w l
    refine ⟨B, Γ, G, _, E, w, l.nx, l.bk, l.ct, l.rt, l.nb, fun d σ1 H1 G1 Γ1 x E1 s1 xo q => ?_⟩
    obtain ⟨hC, hlt, ds, hx, hl, q⟩ := q
    rw [hC]
    refine ⟨true, te, fun _ a ha => ⟨rfl, G1, x, ds, ?_, E1.gh, xo, hx, hl, fun vs p dv hp => ?_⟩, fun z => nomatch z⟩
    · exact List.getElem?_set_self (by rw [E1.len]; exact hlt)
    · have gp := E1.gnone hp
      have E2 := (((E1.setUn i (some (V.ref a))).laid (o := .lst vs) hp).setDat j (Dd.lst (a := p) upd_same (dv.mono (sameNew gp)))).setUn i none
      exact l.nx _ _ _ _ E2 (s1.trans (sameNew gp)) q
end
end DL

namespace DL
open PySem PySem.Spec PyProof.Rows L2
/-! ## isinstance(n, B) in such a suite -/
structure IsiC (K : PySem.W.Frag) (C CM : Addr) : Prop where
  hd : PySem.W.hasDictIn K C = true
  ga : PySem.W.findIn K (.ref C) "__getattribute__" = some (some (.builtin "BaseException.__getattribute__"))
  gg : PySem.W.findIn K (.ref C) "__getattr__" = some none
  sb : PySem.W.subIn K (.ref C) (.type "BaseException") = some true
  ha : PySem.W.findIn K (.ref C) "__class__" = some (some (.builtin "object.__class__"))
  hn : PySem.W.specialIn K (.builtin "object.__class__") "__get__" = some (some (.builtin "getset_descriptor.__get__"))
  ht : PySem.W.takesIn K (.builtin "object.__class__") = some true
  hm : PySem.W.mroIn K C (.type "object") = some true
  kit : PySem.W.kitOne K (.ref C) (.ref CM) = some true
def rIsD (K : PySem.W.Frag) (CM a : Addr) (d : Option Addr) : List V → Hp → VK → Prop := fun xs H Q => ∃ (x : Exn) (G : Hp), xs = [.ref a, .ref CM] ∧ Same G H ∧ ExOk K G d x ∧ Q (.bl true) H
section
variable {X : Cx} {i : Nat} {a C CM : Addr} {oe : Obj} {d : Option Addr} {pn : List (Addr × Obj)} {e : Expr} {pos : Pos}
theorem call_isD (T : IsiC X.K C CM) (hz : Zc (.ref C) d oe) (hf : ∃ vs, oe.data = .fields vs) : CallR (X.suite a ((a, oe) :: pn)) (.builtin "isinstance") (rIsD X.K CM a d) := by
  intro pins s σ H xs us Q I r h
  obtain ⟨x, G, rfl, gh, xo, q⟩ := h
  cases r with
  | cons rx rr =>
    cases rr with
    | cons rt rr =>
      cases rr
      cases rx
      cases rt
      obtain ⟨hget, _⟩ := I.pin (a, oe) (List.mem_append.mpr (.inl List.mem_cons_self))
      obtain ⟨vs, hv⟩ := hf
      have hcl : (PySem.W.clsIn X.K C).isSome = true := by
        have h0 := T.hd
        unfold PySem.W.hasDictIn at h0
        cases q0 : PySem.W.clsIn X.K C with
        | none => rw [q0] at h0; cases h0
        | some _ => rfl
      have J : ∃ od, PySem.W.InstAt s.heap a oe C od := by
        rcases xo with ⟨e1, _⟩ | ⟨dd, fs, e1, e2, _⟩
        · subst e1
          obtain ⟨oc, od, oda, osl⟩ := oe
          obtain ⟨h1, h2⟩ := hz
          dsimp only at h1 h2 hv
          subst h1 h2 hv
          exact ⟨none, hget, rfl, rfl, trivial⟩
        · subst e1
          obtain ⟨mA, hns, _⟩ := (I.hok dd _ (gh _ _ e2) : ObjOk X.prog X.w H s.heap dd (.xd fs))
          obtain ⟨od, ho, _⟩ := lookIn_ns hns
          refine ⟨some od, hget, hz.1, ?_, ?_⟩
          · unfold PySem.W.notCls
            rw [hv] <;> rfl
          · rw [hz.2]
            exact ho
      obtain ⟨od, J⟩ := J
      exact PySem.W.kia_one (PySem.W.kitx_exc (od := od) hcl T.ga T.gg T.sb T.ha T.hn T.ht T.hm) I.kIn J T.kit (fun z => nomatch z) fun tk => ⟨.bl true, H, I.kept (t' := tk) fun _ _ z => z, rfl, q⟩
theorem si_isi {M : Str} {p p2 : Pos} (T : IsiC X.K C CM) (hz : Zc (.ref C) d oe) (hf : ∃ vs, oe.data = .fields vs) (he : PE (X.suite a ((a, oe) :: pn)) e (tVar i)) (hg : Gl X "isinstance") (hm : X.mg "isinstance" = none) (hgM : Gl X M) (mM : X.mg M = some (.ref CM))
    (hdM : (M == ("__debug__" : Str)) = false := by decide)
    (h1 : starEach [e, .Name M p2] X.env = (false, eval e X.env) :: starEach [.Name M p2] X.env := by rfl) (h2 : starEach [.Name M p2] X.env = (false, eval (.Name M p2) X.env) :: starEach [] X.env := by rfl) (hpl : (backTo pos (starEach [.Name M p2] X.env)).any (·.1) = false := by rfl) :
    SI (X.suite a ((a, oe) :: pn)) i a C d (.Call (.Name "isinstance" p) [e, .Name M p2] [] pos) (fun _ => some (.bool true)) := by
  refine ⟨_, pe_callB (call_isD T hz hf) hg hm DL.boot_isinstance (pa_cons he (pa_cons (pe_glob (v := .ref CM) hgM mM rfl hdM) pa_nil h2) h1) (by decide) (by decide) h1 hpl, fun σ H G x dd Q hσ gh xo h k => ?_⟩
  cases h
  exact ⟨_, hσ, x, G, rfl, gh, xo, k _ (.bl true)⟩
end
end DL

namespace DL
open PySem PySem.Spec PyProof.Rows L2
/-! ## reversed(range(n)) -/
def rngD (n : Nat) : List PyData := (List.range n).map fun i => .int (((n - 1 - i : Nat)) : Int)
section
variable {X : Cx} {K : PySem.W.Frag} {a b c e tg : Expr} {Wa : WE} {pos : Pos}
theorem dwalk_rangeD {G0 : Hp} {lo : Int} {n m : Nat} (hm : m = n) (hl : lo = (n : Int) - 1) : DWalk K (Itc lo (-1) m) G0 (rngD n) := by
  subst hm hl
  intro B Γ σ H G E s i
  have hl : (rngD m).length = m := by unfold rngD; simp
  refine ⟨fun hi => by rw [hl] at hi; exact Nat.le_of_eq hi.symm, fun d hd => ?_⟩
  have hi : i < m := by
    have := (List.getElem?_eq_some_iff.mp hd).1
    rwa [hl] at this
  have hd' : d = .int ((m : Int) - 1 + (i : Nat) * (-1)) := by
    unfold rngD at hd
    rw [List.getElem?_map, List.getElem?_range hi] at hd
    have hd := Option.some.inj hd
    have e : ((m - 1 - i : Nat) : Int) = (m : Int) - 1 + (i : Nat) * (-1) := by omega
    rw [← hd]
    exact congrArg PyData.int e
  subst hd'
  refine ⟨hi, fun x H' y => ?_⟩
  obtain ⟨e, ex⟩ := y
  subst e ex
  exact ⟨G, E, Same.refl _, .int _, Same.refl _⟩
@[simp] def wRngD (Wa : WE) : WI := fun Γ Q => Wa Γ fun d Γ1 => match d with
  | .int n => n < 2 ^ 62 ∧ -(2 ^ 62) ≤ n ∧ Q (rngD n.toNat) Γ1
  | _ => False
theorem di_revR {p p2 pos2 : Pos} (hg : Gl X "reversed") (hm : X.mg "reversed" = none) (hg2 : Gl X "range") (hm2 : X.mg "range" = none) (ha : DE X a Wa) (hs : starEach [.Call (.Name "range" p2) [a] [] pos2] X.env = (false, eval (.Call (.Name "range" p2) [a] [] pos2) X.env) :: starEach [] X.env := by rfl) (hs2 : starEach [a] X.env = (false, eval a X.env) :: starEach [] X.env := by rfl) :
    DI X tg (.Call (.Name "reversed" p) [.Call (.Name "range" p2) [a] [] pos2] [] pos) (wRngD Wa) := by
  obtain ⟨t, pa, r⟩ := ha.ex
  refine ⟨_, pi_revR hg hm (prg_1 hg2 hm2 pa hs2) hs, ?_⟩
  intro B Γ σ H G Q R E w k
  refine r B Γ σ H G _ _ E w fun v H1 G1 d Γ1 E1 s1 k1 d1 w1 => ?_
  cases d1 with
  | int n =>
    refine ⟨n, rfl, by decide, by decide, w1.2.1, w1.1, k _ H1 G1 _ Γ1 E1 s1 k1 (dwalk_rangeD (by rw [Int.sub_zero]) ?_) w1.2.2⟩
    rw [Int.sub_zero]
    by_cases h0 : n < 0
    · have : n.toNat = 0 := by omega
      rw [this]; omega
    · omega
  | _ => exact w1.elim
end
end DL

namespace PySem
namespace NoNumberX
open PySem.W PySem.Calls PyProof.Rows PySem.HandSPX
/-! ### the text of __init__ -/
def iA (p1 p2 : Pos) : Arguments := { posonlyargs := [], args := [{ arg := "self", annotation := none, pos := p1 }, { arg := "number", annotation := none, pos := p2 }], vararg := none, kwonlyargs := [], kw_defaults := [], kwarg := none, defaults := [] }
def iB (q1 q2 q3 q4 : Pos) : List Stmt := [.Assign [.Attribute (.Name "self" q1) "number" q2] (.Name "number" q3) q4]
def iS : Scope := { kind := .function, names := [(PySem.Str.ofString "self", .local), (PySem.Str.ofString "number", .local)], isGenerator := false, isCoroutine := false, more := [] }
/-- what the written part says of Low, at C, and of its __init__, at fI -/
structure NoNumberTxt (K : Frag) (mg : Str → Option Value) (C fI : Addr) : Prop where
  gC : mg "NoNumber" = some (.ref C)
  cls : ∃ nm q N bs bm sn sub ab col dd k0 k1 k2 k3 k5, K.lookup C = some (excClassObj nm q C N bs bm true sn sub ab col dd k0 k1 k2 k3 k5 "ValueError.__new__") ∧ refsVE bm = true
  sa : findIn K (.ref C) "__setattr__" = some (some (.builtin "object.__setattr__"))
  ga : findIn K (.ref C) "__getattribute__" = some (some (.builtin "BaseException.__getattribute__"))
  gg : findIn K (.ref C) "__getattr__" = some none
  noN : findIn K (.ref C) "number" = some none
  iC : findIn K (.ref C) "__init__" = some (some (.ref fI))
  tC : typeIn K (.ref fI) = some (.type "function")
  kC : keepIn K (.ref C) = true
  exC : subIn K (.ref C) (.type "BaseException") = some true
  tyC : typeIn K (.ref C) = some (.type "type")
  hdC : hasDictIn K C = true
  te : exmOne K (.ref C) (.ref C) = some true
  fn : ∃ (oc : Value) (od : Option Addr) (doc pm : Value) (an : Option Addr) (cdv ct : Value) (osl : Array (Option Value)) (p1 p2 q1 q2 q3 q4 : Pos),
    K.lookup fI = some ⟨oc, od, .func (fnOf "__init__" "NoNumber.__init__" (iA p1 p2) (iB q1 q2 q3 q4) iS .none .none doc pm an cdv ct), osl⟩ ∧ codeIn K cdv "NoNumber.__init__" = true
theorem one_size (v : Value) : [v].length ≤ sizeLine := by
  rw [sizeLine_eq]
  exact (by decide : 1 ≤ 16777216)
theorem kept_but {K : Frag} {h h' : Heap} {x : Addr} (X : K.In h) (hx : K.lookup x = none) (k : ∀ b o, b ≠ x → h.get? b = some o → h'.get? b = some o) : K.In h' := fun a o e =>
  k a o (fun z => by rw [z, hx] at e; cases e) (X a o e)
theorem ldC {M : Model} {s : Shared} {name : Str} {scope : Scope} {L a : Addr} {cd : Value} {m : Str → Option Value} {x : Str} {pos : Pos} {v : Value} {Q : Value → Shared → Prop} {A : Around} {E : Value → Shared → Prop} (hn : s.heap.Ns L m) (hv : m x = some v) (h : Q v s)
    (hk : scope.kind = .function := by rfl) (hl : (envOfC name scope L a cd).kindOf x = some .local := by rfl) (hd : (x == ("__debug__" : Str)) = false := by decide) :
    wpAny M A (eval (.Name x pos) (envOfC name scope L a cd)) Q E s := wpAny_Name (wpAny_loadName_local hk hl hn hv h) hd
/-- what __init__ leaves of a fresh exception at x -/
structure InitEnd (h h' : Heap) (x C dx t1 : Addr) (v : Value) : Prop where
  keep : ∀ b o, b ≠ x → h.get? b = some o → h'.get? b = some o
  obj : h'.get? x = some { cls := .ref C, dict := some dx, data := .fields #[.ref t1, .none, .none, .none, .bool false, .none] }
  dbig : h.objs.size ≤ dx
  dne : dx ≠ x
  ns : h'.Ns1 dx (fun y => if y = "number" then some v else none)
/-- a made Low -/
structure OwnMade (h h' : Heap) (e C d : Addr) (v : Value) : Prop where
  keep : ∀ b o, h.get? b = some o → h'.get? b = some o
  new : h.objs.size ≤ e
  obj : ∃ oe vs, h'.get? e = some oe ∧ oe.cls = .ref C ∧ oe.dict = some d ∧ oe.data = .fields vs ∧ vs[1]? = some .none
  dbig : h.objs.size ≤ d
  dne : d ≠ e
  ns : h'.Ns1 d (fun y => if y = "number" then some v else none)
section
variable {prog : Program} {w : World} {A : Around} {E : Value → Shared → Prop} {R : Result → Shared → Prop} {s : Shared} {K : Frag} {mg : Str → Option Value} {C fI : Addr}
theorem low_init_NoNumber (T : NoNumberTxt K mg C fI) {x t0 : Addr} {v : Value} (X : K.In s.heap) (hlim : s.heap.NoLimit) (hx : s.heap.get? x = some (excO C t0)) (hnx : K.lookup x = none) (hroom : A.depth < recursionLimit)
    (hq : ∀ h' tk dx, InitEnd s.heap h' x C dx t0 v → R (.ok (.ret .none)) { s with heap := h', toks := tk }) :
    codeAny (model prog w) A (.call (.ref fI) ⟨[.ref x, v], []⟩) R s := by
  obtain ⟨oc, od, doc, pm, an, cdv, ct, osl, p1, p2, q1, q2, q3, q4, ho, hcd⟩ := T.fn
  obtain ⟨nm, q, N, bs, bm, sn, sub, ab, col, dd, k0, k1, k2, k3, k5, hC, hbm⟩ := T.cls
  have hcl : clsIn K C = some { name := nm, bases := bs, mro := .ref C :: bm, ns := N, qualname := q, hasDict := true, slotNames := sn, subclasses := sub, abstract := ab, collection := col, hasDel := false } := by unfold clsIn; rw [hC] <;> rfl
  refine Att.call_fn (binds := [("self", .ref x), ("number", v)]) X hlim ho hcd hroom (BindsTo.of_eq (by first | rfl | with_unfolding_all rfl)) (by first | rfl | decide | with_unfolding_all rfl) (fun s₁ IC => ?_) rfl rfl rfl
  obtain ⟨h₁, tk₁, rfl⟩ := IC.toInCall.same
  have k : ∀ b o, s.heap.get? b = some o → h₁.get? b = some o := IC.toInCall.keep
  have hn := IC.toInCall.ns
  have hxL : s.heap.objs.size ≠ x := Nat.ne_of_gt (Heap.lt_size hx)
  have X₁ : K.In h₁ := X.keeps k
  have hx₁ := k _ _ hx
  -- self.by = by
  show wpAny _ _ (execs _ _) _ _ _
  refine wpAny_execs_cons (plainObj_wpAny_Assign_Attribute ?_)
  refine ldC (v := v) hn (by first | rfl | with_unfolding_all rfl | kernel_rfl) (ldC (v := .ref x) hn (by first | rfl | with_unfolding_all rfl | kernel_rfl) ?_)
  refine set_plain X₁ (ox := excO C t0) (od := none) ⟨hx₁, rfl, rfl, trivial⟩ T.sa ?_
  refine exc_osa X₁ hx₁ hcl (show refsVE (.ref C :: bm) = true from hbm) rfl T.noN (fun h₃ tk₃ dx k₃ dn dne hx₃ hn₃ => ?_)
  show wpAny _ _ (execs _ _) _ _ _
  have z : s.heap.objs.size < h₁.objs.size := hn.lt
  exact wpAny_execs_nil (hq h₃ tk₃ dx ⟨fun b o hb e => k₃ b o hb (k b o e), hx₃, Nat.le_of_lt (Nat.lt_of_lt_of_le z dn), dne, hn₃⟩)
theorem low_made_NoNumber (T : NoNumberTxt K mg C fI) {v : Value} (X : K.In s.heap) (hlim : s.heap.NoLimit) (hroom : A.depth + 1 < recursionLimit)
    (hq : ∀ h' tk e d, OwnMade s.heap h' e C d v → R (.ok (.ret (.ref e))) { s with heap := h', toks := tk }) :
    codeAny (model prog w) A (.call (.ref C) ⟨[v], []⟩) R s := by
  obtain ⟨nm, q, N, bs, bm, sn, sub, ab, col, dd, k0, k1, k2, k3, k5, hC, hbm⟩ := T.cls
  obtain ⟨hp, g, dr, tk, os⟩ := s
  have k : ∀ b o, hp.get? b = some o → ((hp.push (kdv_tup [v])).push (excO C hp.objs.size)).get? b = some o := fun b o e => Heap.get?_push_of_some _ (Heap.get?_push_of_some _ e)
  have hget : ((hp.push (kdv_tup [v])).push (excO C hp.objs.size)).get? (hp.objs.size + 1) = some (excO C hp.objs.size) := by heap_get
  have hnx : K.lookup (hp.objs.size + 1) = none := by
    cases e : K.lookup (hp.objs.size + 1) with
    | none => rfl
    | some o =>
      have z : hp.get? (hp.objs.size + 1) = some o := X _ _ e
      exact absurd (Nat.lt_of_succ_lt (Heap.lt_size z)) (Nat.lt_irrefl _)
  refine call_own F.excBase_ValueError (fun X => refsVE_contains X bm hbm) (X _ _ hC) (looks_findIn X T.iC) (fun self => bind_fn X self T.tC) (one_size v) ?_
  refine low_init_NoNumber (s := ⟨(hp.push (kdv_tup [v])).push (excO C hp.objs.size), g, dr, tk, os⟩) T (X.keeps k) (hlim.keeps k) hget hnx ?_ fun h' tk' dx ⟨k', hx, dn, dne, hns⟩ => ?_
  · show A.depth + 1 < recursionLimit
    exact hroom
  · have old : ∀ b o, hp.get? b = some o → h'.get? b = some o := fun b o e => k' b o (Nat.ne_of_lt (Nat.lt_succ_of_lt (Heap.lt_size e))) (k b o e)
    have z : hp.objs.size + 1 + 1 ≤ dx := by
      first
        | (simpa only [Heap.size_push] using dn)
        | exact dn
        | (have q := dn; rw [Heap.size_push, Heap.size_push] at q; exact q)
    exact ⟨rfl, hq h' tk' (hp.objs.size + 1) dx ⟨old, Nat.le_succ _, ⟨_, _, hx, rfl, rfl, rfl, rfl⟩, Nat.le_trans (Nat.le_trans (Nat.le_succ _) (Nat.le_succ _)) z, dne, hns⟩⟩
end
end NoNumberX
end PySem
namespace L2
open PySem PySem.Spec PyProof.Rows
theorem relO_low_NoNumber {v : V} {v' : Value} (r : RelV v v') (f : Str) : RelO (List.lookup f [(("number" : Str), v)]) (if f = "number" then some v' else none) := by
  by_cases hw : f = "number"
  · subst hw
    rw [if_pos rfl]
    have q : List.lookup ("number" : Str) [(("number" : Str), v)] = some v := by simp [List.lookup]
    rw [q]
    exact r
  · rw [if_neg hw]
    have qw : (f == ("number" : Str)) = false := by simpa using hw
    have q2 : List.lookup f [(("number" : Str), v)] = none := by simp [List.lookup, qw]
    rw [q2]
    trivial
section
variable {X : Cx} {C fI : Addr}
/-- Low(e) -/
def tMkLow_NoNumber (C : Addr) (ta : TA) : St → Hp → XK → Prop := fun σ H Q => ta σ H fun vs H1 => ∃ v, vs = [v] ∧ ∀ d, H1 d = none → Q (.ref C) (some d) (upd H1 d (.xd [(("number" : Str), v)]))
theorem pmk_low_NoNumber {a : Expr} {ta : TA} {p pos : Pos} {k : Nat} (T : PySem.NoNumberX.NoNumberTxt X.K X.mg C fI) (hr : Room k X.A) (ha : PA X [a] ta) (hg : Gl X "NoNumber" := by rfl)
    (he : starEach (a :: []) X.env = (false, eval a X.env) :: starEach [] X.env := by rfl) (hpl : (backTo pos (starEach [] X.env)).any (·.1) = false := by rfl) :
    PMk X (.Call (.Name "NoNumber" p) [a] [] pos) (tMkLow_NoNumber C ta) := by
  intro pins s σ H Q I h
  refine wpAny_Call_Name_kw (ld_glob I hg T.gC ?_)
  refine PySem.W.callWith_K (h₀ := X.base) I.ok.mod.kin T.kC (thn (ha.run pos pins s σ H _ I h) fun us s1 hh => ?_) he hpl
  obtain ⟨vs, H1, I1, r1, v, ev, q1⟩ := hh
  subst ev
  refine ⟨I1.kIn, ?_⟩
  cases r1 with
  | cons rv rn =>
    rename_i v' us'
    cases rn
    show wpAny _ _ (call (.ref C) [v']) _ _ _
    have hlim := I1.nolimit
    obtain ⟨hp, g, dr, tk, os⟩ := s1
    refine wpAny_call (PySem.NoNumberX.low_made_NoNumber T I1.kIn hlim (by have := hr.dp; omega) fun h' tk' e d M => ?_)
    show MkP X pins σ Q (.ref e) ⟨h', g, dr, tk', os⟩
    obtain ⟨oe, fv, hoe, hc, hd, hdat, h1⟩ := M.obj
    have hns := M.ns
    obtain ⟨G', g1, g2⟩ := restrict h' fun b => decide (b ≠ e)
    have gk : ∀ b, b ≠ e → G'.get? b = h'.get? b := fun b hb => g1 b (decide_eq_true hb)
    have ge : G'.get? e = none := g2 e (by simp)
    have old : ∀ b o, hp.get? b = some o → G'.get? b = some o := fun b o q => (gk b (Nat.ne_of_lt (Nat.lt_of_lt_of_le (Heap.lt_size q) M.new))).trans (M.keep b o q)
    have ob : ObjOk X.prog X.w (upd H1 d (.xd [(("number" : Str), v)])) G' d (.xd [(("number" : Str), v)]) :=
      ⟨_, hns.at (fun o q => (gk d M.dne).trans q), fun f => relO_low_NoNumber rv f⟩
    have J : Inv X pins σ (upd H1 d (.xd [(("number" : Str), v)])) ⟨G', g, dr, tk', os⟩ := I1.laid (t' := tk') old M.dbig ob
    refine ⟨e, oe, fv, ⟨G', g, dr, tk', os⟩, _, .ref C, some d, rfl, J, fun b o q => ?_, ge, hoe, ⟨hc, hd⟩, hdat, h1, ?_, rfl, I1.bare, raises_own T.exC T.tyC, q1 d (I1.hok.fresh M.dbig)⟩
    · by_cases hb : b = e
      · have q' : G'.get? b = some o := q
        rw [hb, ge] at q'; cases q'
      · exact (gk b hb).symm.trans q
    · rw [upd_ne (Ne.symm M.dne)]
      exact I1.hok.fresh M.new
/-- raise Low(e) -/
def tRaiseLow_NoNumber (C : Addr) (W : WX) (ta : TA) : TS := fun _ σ H => tMkLow_NoNumber C ta σ H fun cls d H' => W cls d σ H'
theorem ps_raiseLow_NoNumber {a : Expr} {ta : TA} {W : WX} {p pos pos2 : Pos} {k : Nat} (hc : X.calm = true) (T : PySem.NoNumberX.NoNumberTxt X.K X.mg C fI) (hr : Room k X.A) (tk : Takes X W) (ha : PA X [a] ta) (hg : Gl X "NoNumber" := by rfl)
    (he : starEach (a :: []) X.env = (false, eval a X.env) :: starEach [] X.env := by rfl) (hpl : (backTo pos (starEach [] X.env)).any (·.1) = false := by rfl) :
    PS X (.Raise (some (.Call (.Name "NoNumber" p) [a] [] pos)) none pos2) (tRaiseLow_NoNumber C W ta) := ps_raise hc tk (pmk_low_NoNumber T hr ha hg he hpl)
/-- low.by, low the exception that the suite holds (at a; its class cls, its dict d) -/
def tByLow_NoNumber (C : Addr) (a : Addr) (cls : Value) (d : Option Addr) (te : TE) : TE := fun σ H Q => te σ H fun x H1 => x = .ref a ∧ cls = .ref C ∧ ∃ (dd : Addr) (v : V), d = some dd ∧ H1 dd = some (.xd [(("number" : Str), v)]) ∧ Q v H1
theorem pe_byLow_NoNumber {a : Addr} {oe : Obj} {cls : Value} {d : Option Addr} {pn : List (Addr × Obj)} {e : Expr} {te : TE} {pos : Pos} (T : PySem.NoNumberX.NoNumberTxt X.K X.mg C fI) (hz : Zc cls d oe) (hf : ∃ vs, oe.data = .fields vs) (he : PE (X.suite a ((a, oe) :: pn)) e te)
    (hb : attributeBase e "number" X.env (eval e X.env) = eval e X.env := by rfl) :
    PE (X.suite a ((a, oe) :: pn)) (.Attribute e "number" pos) (tByLow_NoNumber C a cls d te) := by
  refine ⟨fun pins s σ H Q I h => ?_⟩
  refine attr_of hb (thn (he.run pins s σ H _ I h) fun u s1 hh => ?_)
  obtain ⟨x, H1, I1, rx, ex, ec, dd, v, ed, ea, q⟩ := hh
  subst ex
  obtain rfl : u = Value.ref a := rx
  subst ec
  subst ed
  obtain ⟨ha, _⟩ := I1.pin (a, oe) (List.mem_append_left _ List.mem_cons_self)
  obtain ⟨vs, hd⟩ := hf
  have hx : ObjOk X.prog X.w H1 s1.heap dd (.xd [(("number" : Str), v)]) := I1.hok dd _ ea
  obtain ⟨mA, hns, hr⟩ := hx
  obtain ⟨od, ho, hl⟩ := lookIn_ns hns
  have l : List.lookup ("number" : Str) [(("number" : Str), v)] = some v := by simp [List.lookup]
  obtain ⟨u, hu, ru⟩ := RelO.some_of (v := v) (o := mA "number") (by rw [← l]; exact hr "number")
  have J : PySem.W.InstAt s1.heap a oe C (some od) := ⟨ha, hz.1, by unfold PySem.W.notCls; rw [hd] <;> rfl, by rw [hz.2]; exact ho⟩
  exact HandSPX.exc_get I1.kIn J T.ga T.gg T.exC (PySem.W.findObj_own T.hdC T.noN rfl (by rw [hl, hu])) (handed_of ru) ⟨v, H1, I1.tok _, ru, q⟩
end
end L2

namespace DL
open PySem PySem.Spec PyProof.Rows L2
section
variable {X : Cx} {C fI : Addr}
theorem pmk1_NoNumber {a : Expr} {p pos : Pos} {k : Nat} (T : PySem.NoNumberX.NoNumberTxt X.K X.mg C fI) (hr : Room k X.A) (hg : Gl X "NoNumber" := by rfl)
    (he : starEach (a :: []) X.env = (false, eval a X.env) :: starEach [] X.env := by rfl) (hpl : (backTo pos (starEach [] X.env)).any (·.1) = false := by rfl) {ta : TA} (ha : PA X [a] ta) :
    PMk X (.Call (.Name "NoNumber" p) [a] [] pos) (tMk1 C "number" ta) := pmk_low_NoNumber T hr ha hg he hpl
theorem si_fld_NoNumber {i : Nat} {a : Addr} {oe : Obj} {d : Option Addr} {pn : List (Addr × Obj)} {e : Expr} {pos : Pos} (T : PySem.NoNumberX.NoNumberTxt X.K X.mg C fI) (hz : Zc (.ref C) d oe) (hf : ∃ vs, oe.data = .fields vs) (he : PE (X.suite a ((a, oe) :: pn)) e (tVar i))
    (hb : attributeBase e "number" X.env (eval e X.env) = eval e X.env := by rfl) : SI (X.suite a ((a, oe) :: pn)) i a C d (.Attribute e "number" pos) (fld1 "number") := by
  refine ⟨_, pe_byLow_NoNumber (cls := .ref C) T hz hf he hb, fun σ H G x dd Q hσ gh xo h k => ?_⟩
  obtain ⟨da, v, rfl, h2, h3⟩ := fld1_of xo h
  exact ⟨_, hσ, rfl, rfl, da, v, rfl, gh _ _ h2, k v h3⟩
end
end DL


namespace DL
open PySem PySem.Spec PyProof.Rows L2
theorem takes_not {X : Cx} : Takes X fun _ _ _ _ => False := fun _ _ ⟨_, _, _, _, _, _, _, _, _, _, _, _, _, _, _, _, q⟩ => q.elim
/-! ## a def that may raise, called by keywords where it does not -/
theorem fn_calm {P : Program} {w : World} {K : PySem.W.Frag} {mg : Str → Option Value} {base : Heap} {k : Nat} {f : Addr} {fd : FuncData} {ps : List Str} {S : PSpX} (h4 : FnOk P w K mg base (L2.CX P w) k f fd ps (spSX K S)) :
    FnOk P w K mg base (L2.CX P w) k f fd ps (spS K (noX S)) := by
  refine ⟨fun vs H Q E h => ?_, fun A outer s H args us vs Q E hr he hb hv h => ?_⟩
  · obtain ⟨G, as, R, gh, hA, hS, hQ⟩ := h
    exact h4.len vs H Q E ⟨G, as, R, _, gh, hA, hS, hQ, fun _ _ _ _ _ _ _ z => z.elim⟩
  · obtain ⟨G, as, R, gh, hA, hS, hQ⟩ := h
    exact h4.run A outer s H args us vs Q E hr he hb hv ⟨G, as, R, _, gh, hA, hS, hQ, fun _ _ _ _ _ _ _ z => z.elim⟩
structure CalKX (P : Program) (w : World) (K : PySem.W.Frag) (mg : Str → Option Value) (base : Heap) (x : Str) (ps : List Str) (k : Nat) (S : PSpX) (n : Nat) (ks : List Str) (is : List Nat) : Prop where
  ex : ∃ (f : Addr) (fd : FuncData), mg x = some (.ref f) ∧ PySem.W.keepIn K (.ref f) = true ∧ KBn K fd ps n ks (fun us ws => pick is (us ++ ws)) (fun us ws => pick is (us ++ ws)) ∧ FnOk P w K mg base (L2.CX P w) k f fd ps (spSX K S)
section
variable {X : Cx} {e : Expr} {es : List Expr} {pos : Pos}
theorem de_callK0V {S : PSpX} {k : Nat} {ps ks : List Str} {is : List Nat} {x : Str} {p : Pos} {kws : List Keyword} {Wk : WPA} (C : CalKX X.prog X.w X.K X.mg X.base x ps k S 0 ks is) (hr : Room k X.A) (hg : Gl X x) (hk : DPK X kws Wk)
    (hall : (backToKw pos (keywordEach kws X.env)).all (·.1.isSome) = true := by rfl) (hks : (backToKw pos (keywordEach kws X.env)).filterMap (·.1) = ks := by rfl)
    (hdb : (x == ("__debug__" : Str)) = false := by decide) (hpl : ((backTo pos (starEach [] X.env)).any (·.1) || (backToKw pos (keywordEach kws X.env)).any (·.1.isNone)) = false := by rfl) :
    DE X (.Call (.Name x p) [] kws pos) (wCallK (noX S) wPNil Wk 0 ks.length is) := by
  obtain ⟨f, fd, h1, h2, h3, h4⟩ := C.ex
  obtain ⟨t, pk, rk⟩ := hk.ex
  refine ⟨_, pe_callN0 (E' := L2.E0) (fn_calm h4) hr hg h1 h2 h3 passN pk hall hks hdb hpl, re_callK ?_ rk⟩
  intro B Γ σ H G Q Q' E w k
  exact k [] H G [] Γ E (Same.refl _) (KS.refl _) .nil w
theorem de_callKCV {S : PSpX} {k n : Nat} {ps ks : List Str} {is : List Nat} {x : Str} {p : Pos} {kws : List Keyword} {Wr Wk : WPA} (C : CalKX X.prog X.w X.K X.mg X.base x ps k S n ks is) (hr : Room k X.A) (hg : Gl X x) (ha : DPA X (e :: es) Wr) (hk : DPK X kws Wk)
    (hall : (backToKw pos (keywordEach kws X.env)).all (·.1.isSome) = true := by rfl) (hks : (backToKw pos (keywordEach kws X.env)).filterMap (·.1) = ks := by rfl)
    (hdb : (x == ("__debug__" : Str)) = false := by decide) (he : starEach (e :: es) X.env = (false, eval e X.env) :: starEach es X.env := by rfl)
    (hpl : ((backTo pos (starEach (e :: es) X.env)).any (·.1) || (backToKw pos (keywordEach kws X.env)).any (·.1.isNone)) = false := by rfl) :
    DE X (.Call (.Name x p) (e :: es) kws pos) (wCallK (noX S) Wr Wk n ks.length is) := by
  obtain ⟨f, fd, h1, h2, h3, h4⟩ := C.ex
  obtain ⟨t, pk, rk⟩ := hk.ex
  obtain ⟨ta, pa, ra⟩ := ha.ex
  exact ⟨_, pe_callN (E := L2.E0) (fn_calm h4) hr hg h1 h2 h3 passN pa pk hall hks hdb he hpl, re_callK ra rk⟩
end
end DL

namespace DL
open PySem PySem.Spec PyProof.Rows L2
/-- an error of the class at S is what 'except S' names -/
theorem exm_self {K : PySem.W.Frag} {S : Addr} (h1 : PySem.W.subIn K (.ref S) (.type "BaseException") = some true) (h2 : PySem.W.isClsIn K S = true) (h3 : PySem.W.typeIn K (.ref S) = some (.type "type")) (h4 : PySem.W.subIn K (.ref S) (.ref S) = some true) :
    PySem.W.exmOne K (.ref S) (.ref S) = some true := by
  have e2 : (PySem.W.clsIn K S).isSome = true := h2
  simp [PySem.W.exmOne, PySem.W.kitCls, h1, e2, h3, h4]
/-- .. and of a class under M -/
theorem kit_sub {K : PySem.W.Frag} {C M : Addr} (h2 : PySem.W.isClsIn K M = true) (h3 : PySem.W.typeIn K (.ref M) = some (.type "type")) (h4 : PySem.W.subIn K (.ref C) (.ref M) = some true) : PySem.W.kitOne K (.ref C) (.ref M) = some true := by
  have e2 : (PySem.W.clsIn K M).isSome = true := h2
  unfold PySem.W.kitOne
  split
  · rfl
  · simp [PySem.W.kitCls, e2, h3, h4]
end DL

namespace K28
open PySem PySem.Spec PyProof.Rows L2 DL
def topS (i : Nat) : Stmt := PySem.Challenge.pw_runclaims_k28_what_formulas_mean.main.body.getD i (.Pass ⟨0, 0, 0, 0⟩)
abbrev s_formula_rows : Stmt := topS 1
abbrev N_formula_rows : List Str := ["formula", "rows"]
theorem sc_formula_rows : FnScope N_formula_rows ["formula"] (defScope s_formula_rows) := ⟨rfl, rfl, rfl, by decide +kernel, rfl, by decide +kernel, by decide +kernel⟩
abbrev s_add_rows : Stmt := topS 2
abbrev N_add_rows : List Str := ["rows", "numbers", "formula", "stack", "piece", "built", "within", "row"]
theorem sc_add_rows : FnScope N_add_rows ["rows", "numbers", "formula"] (defScope s_add_rows) := ⟨rfl, rfl, rfl, by decide +kernel, rfl, by decide +kernel, by decide +kernel⟩
abbrev s_within_piece : Stmt := topS 3
abbrev N_within_piece : List Str := ["piece"]
theorem sc_within_piece : FnScope N_within_piece ["piece"] (defScope s_within_piece) := ⟨rfl, rfl, rfl, by decide +kernel, rfl, by decide +kernel, by decide +kernel⟩
abbrev s_truths_of : Stmt := topS 4
abbrev N_truths_of : List Str := ["rows", "sets", "back", "found", "row"]
theorem sc_truths_of : FnScope N_truths_of ["rows", "sets", "back"] (defScope s_truths_of) := ⟨rfl, rfl, rfl, by decide +kernel, rfl, by decide +kernel, by decide +kernel⟩
abbrev s_truths_formulaparts : Stmt := topS 5
abbrev N_truths_formulaparts : List Str := ["row", "sets", "back", "found", "kind", "one", "other", "_", "told", "there", "here"]
theorem sc_truths_formulaparts : FnScope N_truths_formulaparts ["row", "sets", "back", "found"] (defScope s_truths_formulaparts) := ⟨rfl, rfl, rfl, by decide +kernel, rfl, by decide +kernel, by decide +kernel⟩
abbrev s__lasting : Stmt := topS 7
abbrev N__lasting : List Str := ["one", "other", "back", "for_ever", "found", "_", "behind", "at"]
theorem sc__lasting : FnScope N__lasting ["one", "other", "back", "for_ever"] (defScope s__lasting) := ⟨rfl, rfl, rfl, by decide +kernel, rfl, by decide +kernel, by decide +kernel⟩
abbrev s_frozen : Stmt := topS 12
abbrev N_frozen : List Str := ["given", "stack", "source", "built", "item"]
theorem sc_frozen : FnScope N_frozen ["given"] (defScope s_frozen) := ⟨rfl, rfl, rfl, by decide +kernel, rfl, by decide +kernel, by decide +kernel⟩
abbrev s_place_of_run : Stmt := topS 14
abbrev N_place_of_run : List Str := ["front", "circle", "number"]
theorem sc_place_of_run : FnScope N_place_of_run ["front", "circle", "number"] (defScope s_place_of_run) := ⟨rfl, rfl, rfl, by decide +kernel, rfl, by decide +kernel, by decide +kernel⟩
abbrev s_places_true : Stmt := topS 16
abbrev N_places_true : List Str := ["formula", "loop", "at", "there"]
theorem sc_places_true : FnScope N_places_true ["formula", "loop"] (defScope s_places_true) := ⟨rfl, rfl, rfl, by decide +kernel, rfl, by decide +kernel, by decide +kernel⟩
abbrev s_is_true : Stmt := topS 17
abbrev N_is_true : List Str := ["formula", "loop"]
theorem sc_is_true : FnScope N_is_true ["formula", "loop"] (defScope s_is_true) := ⟨rfl, rfl, rfl, by decide +kernel, rfl, by decide +kernel, by decide +kernel⟩
abbrev s_true_at : Stmt := topS 18
abbrev N_true_at : List Str := ["formula", "loop", "number", "front", "circle", "place"]
theorem sc_true_at : FnScope N_true_at ["formula", "loop", "number"] (defScope s_true_at) := ⟨rfl, rfl, rfl, by decide +kernel, rfl, by decide +kernel, by decide +kernel⟩
abbrev s__rows : Stmt := topS 19
abbrev N__rows : List Str := ["formula"]
theorem sc__rows : FnScope N__rows ["formula"] (defScope s__rows) := ⟨rfl, rfl, rfl, by decide +kernel, rfl, by decide +kernel, by decide +kernel⟩
abbrev s_truths_formulas : Stmt := topS 20
abbrev N_truths_formulas : List Str := ["formula", "loop", "front", "circle"]
theorem sc_truths_formulas : FnScope N_truths_formulas ["formula", "loop"] (defScope s_truths_formulas) := ⟨rfl, rfl, rfl, by decide +kernel, rfl, by decide +kernel, by decide +kernel⟩
abbrev s__law_box : Stmt := topS 23
abbrev N__law_box : List Str := ["script", "k", "bit_so"]
theorem sc__law_box : FnScope N__law_box ["script", "k"] (defScope s__law_box) := ⟨rfl, rfl, rfl, by decide +kernel, rfl, by decide +kernel, by decide +kernel⟩
abbrev s__law_take : Stmt := topS 24
abbrev N__law_take : List Str := ["urn", "low_so", "drawn", "once", "many_so", "twice"]
theorem sc__law_take : FnScope N__law_take ["urn", "low_so"] (defScope s__law_take) := ⟨rfl, rfl, rfl, by decide +kernel, rfl, by decide +kernel, by decide +kernel⟩
abbrev s__law_cells : Stmt := topS 25
abbrev N__law_cells : List Str := ["script", "roof_so", "bits_so", "k", "bit_so", "at_so"]
theorem sc__law_cells : FnScope N__law_cells ["script", "roof_so"] (defScope s__law_cells) := ⟨rfl, rfl, rfl, by decide +kernel, rfl, by decide +kernel, by decide +kernel⟩
abbrev s__law_of : Stmt := topS 26
abbrev N__law_of : List Str := ["urn", "some_so"]
theorem sc__law_of : FnScope N__law_of ["urn", "some_so"] (defScope s__law_of) := ⟨rfl, rfl, rfl, by decide +kernel, rfl, by decide +kernel, by decide +kernel⟩
abbrev s__law_lists : Stmt := topS 27
abbrev N__law_lists : List Str := ["matter", "bit"]
theorem sc__law_lists : FnScope N__law_lists ["matter"] (defScope s__law_lists) := ⟨rfl, rfl, rfl, by decide +kernel, rfl, by decide +kernel, by decide +kernel⟩
abbrev s__law_same : Stmt := topS 28
abbrev N__law_same : List Str := ["got", "due", "mine_so", "own"]
theorem sc__law_same : FnScope N__law_same ["got", "due"] (defScope s__law_same) := ⟨rfl, rfl, rfl, by decide +kernel, rfl, by decide +kernel, by decide +kernel⟩
abbrev s__law_set : Stmt := topS 29
abbrev N__law_set : List Str := ["urn", "tags_so", "own"]
theorem sc__law_set : FnScope N__law_set ["urn", "tags_so"] (defScope s__law_set) := ⟨rfl, rfl, rfl, by decide +kernel, rfl, by decide +kernel, by decide +kernel⟩
abbrev s__law_ring : Stmt := topS 30
abbrev N__law_ring : List Str := ["urn", "tags_so", "size_so", "wide_so", "ahead", "lap"]
theorem sc__law_ring : FnScope N__law_ring ["urn", "tags_so", "size_so", "wide_so"] (defScope s__law_ring) := ⟨rfl, rfl, rfl, by decide +kernel, rfl, by decide +kernel, by decide +kernel⟩
abbrev s__law_form : Stmt := topS 31
abbrev N__law_form : List Str := ["urn", "size_so", "tags_so", "still_so", "head", "less", "near"]
theorem sc__law_form : FnScope N__law_form ["urn", "size_so", "tags_so", "still_so"] (defScope s__law_form) := ⟨rfl, rfl, rfl, by decide +kernel, rfl, by decide +kernel, by decide +kernel⟩
abbrev s__law_at : Stmt := topS 32
abbrev N__law_at : List Str := ["ring", "k", "ahead", "tail_so"]
theorem sc__law_at : FnScope N__law_at ["ring", "k"] (defScope s__law_at) := ⟨rfl, rfl, rfl, by decide +kernel, rfl, by decide +kernel, by decide +kernel⟩
abbrev s__law_goes : Stmt := topS 33
abbrev N__law_goes : List Str := ["head", "near", "far", "walk", "k"]
theorem sc__law_goes : FnScope N__law_goes ["head", "near", "far", "walk"] (defScope s__law_goes) := ⟨rfl, rfl, rfl, by decide +kernel, rfl, by decide +kernel, by decide +kernel⟩
abbrev s__law_rows : Stmt := topS 34
abbrev N__law_rows : List Str := ["form", "ring", "sets_so", "head", "near", "size", "far", "walks_so", "own", "k", "lap", "walk"]
theorem sc__law_rows : FnScope N__law_rows ["form", "ring"] (defScope s__law_rows) := ⟨rfl, rfl, rfl, by decide +kernel, rfl, by decide +kernel, by decide +kernel⟩
abbrev s__law_kit : Stmt := topS 35
abbrev N__law_kit : List Str := []
theorem sc__law_kit : FnScope N__law_kit [] (defScope s__law_kit) := ⟨rfl, rfl, rfl, by decide +kernel, rfl, by decide +kernel, by decide +kernel⟩
abbrev s__law_heard : Stmt := topS 36
abbrev N__law_heard : List Str := ["form", "ring", "k", "caught", "told_so", "error"]
theorem sc__law_heard : FnScope N__law_heard ["form", "ring", "k"] (defScope s__law_heard) := ⟨rfl, rfl, rfl, by decide +kernel, rfl, by decide +kernel, by decide +kernel⟩
abbrev s__law_spots : Stmt := topS 37
abbrev N__law_spots : List Str := ["form", "ring", "k", "own"]
theorem sc__law_spots : FnScope N__law_spots ["form", "ring"] (defScope s__law_spots) := ⟨rfl, rfl, rfl, by decide +kernel, rfl, by decide +kernel, by decide +kernel⟩
abbrev s__law_by_hand_right : Stmt := topS 38
abbrev N__law_by_hand_right : List Str := ["a", "b", "near", "far", "lot_so", "got", "due", "lone_so", "long_so", "soft", "own", "k"]
theorem sc__law_by_hand_right : FnScope N__law_by_hand_right [] (defScope s__law_by_hand_right) := ⟨rfl, rfl, rfl, by decide +kernel, rfl, by decide +kernel, by decide +kernel⟩
abbrev s__law_right : Stmt := topS 39
abbrev N__law_right : List Str := ["tin", "ring", "lap", "form", "rows_so", "k", "got", "due"]
theorem sc__law_right : FnScope N__law_right ["tin"] (defScope s__law_right) := ⟨rfl, rfl, rfl, by decide +kernel, rfl, by decide +kernel, by decide +kernel⟩
abbrev s_law : Stmt := topS 40
abbrev N_law : List Str := ["script", "cells", "k"]
theorem sc_law : FnScope N_law ["script"] (defScope s_law) := ⟨rfl, rfl, rfl, by decide +kernel, rfl, by decide +kernel, by decide +kernel⟩
structure Txt (K : PySem.W.Frag) (mg : Str → Option Value) : Prop where
  z_abs : mg "abs" = none
  z_all : mg "all" = none
  z_bool : mg "bool" = none
  z_enumerate : mg "enumerate" = none
  z_int : mg "int" = none
  z_isinstance : mg "isinstance" = none
  z_len : mg "len" = none
  z_list : mg "list" = none
  z_range : mg "range" = none
  z_reversed : mg "reversed" = none
  z_str : mg "str" = none
  z_tuple : mg "tuple" = none
  z_zip : mg "zip" = none

theorem d_formula_rows {P : Program} {w : World} {K : PySem.W.Frag} {mg : Str → Option Value} {base : Heap} {k : Nat} (T : Txt K mg) {fa : Addr} {fda : FuncData} {spA : Sp} (mA : mg "add_rows" = some (.ref fa)) (kA : PySem.W.keepIn K (.ref fa) = true) (bA : Binds K fda ["rows", "numbers", "formula"] []) (FA : FnOk P w K mg base CX0 k fa fda ["rows", "numbers", "formula"] spA) {f : Addr} {cdv : Value} {A : Around} {outer : List Env} {s : Shared} {H : Hp} {E : XK} (hr : Room k (A.deeper (envOfC "formula_rows" (defScope s_formula_rows) s.heap.objs.size f cdv))) :
    PSs (cxOf CX0 P w K mg base N_formula_rows "formula_rows" (defScope s_formula_rows) f cdv A outer s H E).nox (defBody s_formula_rows) (Tfr K spA) :=
  (pss_cons (ps_set (i := 1) sc_formula_rows.nd rfl (by first | exact Or.inl rfl | exact Or.inr rfl) (pe_lst pa_nil))
    (pss_cons (ps_expr (pe_call (dvs := []) (E := L2.E0) FA hr (by rfl) mA kA bA .nil pass0 (pa_cons (pv 1) (pa_cons pe_dnewT (pa_cons (pv 0) pa_nil)))))
    (pss_one (ps_ret (pv 1)))))
theorem d_add_rows {P : Program} {w : World} {K : PySem.W.Frag} {mg : Str → Option Value} {base : Heap} {k : Nat} (T : Txt K mg) {fw : Addr} {fdw : FuncData} {spW : Sp} (mW : mg "within_piece" = some (.ref fw)) (kW : PySem.W.keepIn K (.ref fw) = true) (bW : Binds K fdw ["piece"] []) (FW : FnOk P w K mg base CX0 k fw fdw ["piece"] spW) {f : Addr} {cdv : Value} {A : Around} {outer : List Env} {s : Shared} {H : Hp} {E : XK} (hr : Room k (A.deeper (envOfC "add_rows" (defScope s_add_rows) s.heap.objs.size f cdv))) :
    PSs (cxOf CX0 P w K mg base N_add_rows "add_rows" (defScope s_add_rows) f cdv A outer s H E).nox (defBody s_add_rows) (Tar K spW) :=
  (pss_cons (ps_set (i := 3) sc_add_rows.nd rfl (by first | exact Or.inl rfl | exact Or.inr rfl) (pe_lst (pa_cons (pe_tup (pa_cons (pv 2) (pa_cons (pe_lst pa_nil) pa_nil))) pa_nil)))
    (pss_one (ps_while PassesOwn.never (pt_val pe_bl (by intro _; rfl))
      (pss_cons (ps_asg (pe_ix ix_seq (pv 3) (pe_un un_neg pe_int) (fun _ _ => rfl)) (pg_tup (n := 2) rfl (pgs_cons (pg_name (i := 4) sc_add_rows.nd rfl (by first | exact Or.inl rfl | exact Or.inr rfl)) (pgs_cons (pg_name (i := 5) sc_add_rows.nd rfl (by first | exact Or.inl rfl | exact Or.inr rfl)) pgs_nil))))
      (pss_cons (ps_set (i := 6) sc_add_rows.nd rfl (by first | exact Or.inl rfl | exact Or.inr rfl) (pe_call (dvs := []) (E := L2.E0) FW hr (by rfl) mW kW bW .nil pass0 (pa_cons (pv 4) pa_nil)))
      (pss_cons (ps_if (pt_cmpR op_lt (pe_callB call_len_seq (by rfl) T.z_len PySem.boot_len (pa_cons (pv 5) pa_nil)) (pe_callB call_len_seq (by rfl) T.z_len PySem.boot_len (pa_cons (pv 6) pa_nil)) (nomark _))
        (pss_cons (ps_expr (pe_bm PySem.F.plainAttrs_list PySem.F.slot_list_append PySem.F.type_list_append mt_append (pv 3) (pa_cons (pe_tup (pa_cons (pe_ix ix_seq (pv 6) (pe_callB call_len_seq (by rfl) T.z_len PySem.boot_len (pa_cons (pv 5) pa_nil)) (fun _ _ => rfl)) (pa_cons (pe_lst pa_nil) pa_nil))) pa_nil)))
        (pss_one ps_continue)) pss_nil)
      (pss_cons (ps_expr (pe_bm0 PySem.F.plainAttrs_list PySem.F.slot_list_pop PySem.F.type_list_pop mt_pop (pv 3)))
      (pss_cons (ps_set (i := 7) sc_add_rows.nd rfl (by first | exact Or.inl rfl | exact Or.inr rfl) (pe_ifExp (pt_truth (pv 6) (by intro _; rfl)) (pe_tup (pa_cons (pe_ix ix_seq (pv 4) pe_int (fun _ _ => rfl)) (StX.pa_star (pv 5) pa_nil))) (pv 4)))
      (pss_cons (ps_if (pt_cmp (pc_dnotin (r1 hr) (pv 7) (pv 1)))
        (pss_cons (ps_dput (r1 hr) (pv 1) (pv 7) (pe_callB call_len_seq (by rfl) T.z_len PySem.boot_len (pa_cons (pv 0) pa_nil)) rfl)
        (pss_one (ps_expr (pe_bm PySem.F.plainAttrs_list PySem.F.slot_list_append PySem.F.type_list_append mt_append (pv 0) (pa_cons (pv 7) pa_nil))))) pss_nil)
      (pss_cons (ps_if (pt_not (pt_truth (pv 3) (by intro _; rfl))) (pss_one (ps_ret (pe_dget (r1 hr) (pv 1) (pv 7) (fun _ _ => rfl)))) pss_nil)
      (pss_one (ps_expr (pe_bm PySem.F.plainAttrs_list PySem.F.slot_list_append PySem.F.type_list_append mt_append (pe_ix ix_seq (pe_ix ix_seq (pv 3) (pe_un un_neg pe_int) (fun _ _ => rfl)) pe_int (fun _ _ => rfl)) (pa_cons (pe_dget (r1 hr) (pv 1) (pv 7) (fun _ _ => rfl)) pa_nil))))))))))))))
theorem d_within_piece {P : Program} {w : World} {K : PySem.W.Frag} {mg : Str → Option Value} {base : Heap} {k : Nat} (T : Txt K mg) {f : Addr} {cdv : Value} {A : Around} {outer : List Env} {s : Shared} {H : Hp} {E : XK} (hr : Room k (A.deeper (envOfC "within_piece" (defScope s_within_piece) s.heap.objs.size f cdv))) :
    PSs (cxOf CX0 P w K mg base N_within_piece "within_piece" (defScope s_within_piece) f cdv A outer s H E).nox (defBody s_within_piece) (Twi K) :=
  (pss_cons (ps_if (pt_cmpR op_in_seq (pe_ix ix_seq (pv 0) pe_int (fun _ _ => rfl)) (pe_tup (pa_cons pe_str (pa_cons pe_str pa_nil))) (by rfl)) (pss_one (ps_ret (pe_tup pa_nil))) pss_nil)
    (pss_one (ps_ret (pe_slice sl_tupA (pv 0) (po_some pe_int) po_none))))
theorem d_frozen {P : Program} {w : World} {K : PySem.W.Frag} {mg : Str → Option Value} {base : Heap} {k : Nat} (T : Txt K mg) {f : Addr} {cdv : Value} {A : Around} {outer : List Env} {s : Shared} {H : Hp} {E : XK} (hr : Room k (A.deeper (envOfC "frozen" (defScope s_frozen) s.heap.objs.size f cdv))) :
    PSs (cxOf CX0 P w K mg base N_frozen "frozen" (defScope s_frozen) f cdv A outer s H E).nox (defBody s_frozen) (Tfz K) :=
  (pss_cons (ps_if (pt_not (pt_val (pe_callB call_isiT (by rfl) T.z_isinstance DL.boot_isinstance (pa_cons (pv 0) (pa_cons (pe_tup (pa_cons (pe_ty (T := "list") (by rfl) T.z_list (by decide +kernel)) (pa_cons (pe_ty (T := "tuple") (by rfl) T.z_tuple (by decide +kernel)) pa_nil))) pa_nil)) (by decide) (by decide)) (by intro _; rfl))) (pss_one (ps_ret (pv 0))) pss_nil)
    (pss_cons (ps_set (i := 1) sc_frozen.nd rfl (by first | exact Or.inl rfl | exact Or.inr rfl) (pe_lst (pa_cons (pe_tup (pa_cons (pv 0) (pa_cons (pe_lst pa_nil) pa_nil))) pa_nil)))
    (pss_one (ps_while PassesOwn.never (pt_val pe_bl (by intro _; rfl))
      (pss_cons (ps_asg (pe_ix ix_seq (pv 1) (pe_un un_neg pe_int) (fun _ _ => rfl)) (pg_tup rfl (pgs_cons (pg_name (i := 2) sc_frozen.nd rfl (by first | exact Or.inl rfl | exact Or.inr rfl)) (pgs_cons (pg_name (i := 3) sc_frozen.nd rfl (by first | exact Or.inl rfl | exact Or.inr rfl)) pgs_nil))))
      (pss_one (ps_if (pt_cmpR op_lt (pe_callB call_len_seq (by rfl) T.z_len PySem.boot_len (pa_cons (pv 3) pa_nil)) (pe_callB call_len_seq (by rfl) T.z_len PySem.boot_len (pa_cons (pv 2) pa_nil)) (nomark _))
        (pss_cons (ps_set (i := 4) sc_frozen.nd rfl (by first | exact Or.inl rfl | exact Or.inr rfl) (pe_ix ix_seq (pv 2) (pe_callB call_len_seq (by rfl) T.z_len PySem.boot_len (pa_cons (pv 3) pa_nil)) (fun _ _ => rfl)))
        (pss_one (ps_if (pt_val (pe_callB call_isiT (by rfl) T.z_isinstance DL.boot_isinstance (pa_cons (pv 4) (pa_cons (pe_tup (pa_cons (pe_ty (T := "list") (by rfl) T.z_list (by decide +kernel)) (pa_cons (pe_ty (T := "tuple") (by rfl) T.z_tuple (by decide +kernel)) pa_nil))) pa_nil)) (by decide) (by decide)) (by intro _; rfl)) (pss_one (ps_expr (pe_bm PySem.F.plainAttrs_list PySem.F.slot_list_append PySem.F.type_list_append mt_append (pv 1) (pa_cons (pe_tup (pa_cons (pv 4) (pa_cons (pe_lst pa_nil) pa_nil))) pa_nil)))) (pss_one (ps_expr (pe_bm PySem.F.plainAttrs_list PySem.F.slot_list_append PySem.F.type_list_append mt_append (pv 3) (pa_cons (pv 4) pa_nil)))))))
        (pss_cons (ps_expr (pe_bm0 PySem.F.plainAttrs_list PySem.F.slot_list_pop PySem.F.type_list_pop mt_pop (pv 1)))
        (pss_cons (ps_if (pt_not (pt_truth (pv 1) (by intro _; rfl))) (pss_one (ps_ret (pe_callTy call_tuple_of (by rfl) T.z_tuple (by decide +kernel) (pa_cons (pv 3) pa_nil) (by decide) (by decide)))) pss_nil)
        (pss_one (ps_expr (pe_bm PySem.F.plainAttrs_list PySem.F.slot_list_append PySem.F.type_list_append mt_append (pe_ix ix_seq (pe_ix ix_seq (pv 1) (pe_un un_neg pe_int) (fun _ _ => rfl)) pe_int (fun _ _ => rfl)) (pa_cons (pe_callTy call_tuple_of (by rfl) T.z_tuple (by decide +kernel) (pa_cons (pv 3) pa_nil) (by decide) (by decide)) pa_nil)))))))))))))
theorem d__rows {P : Program} {w : World} {K : PySem.W.Frag} {mg : Str → Option Value} {base : Heap} {k : Nat} (T : Txt K mg) {fr ff : Addr} {fdr fdf : FuncData} {spR spF : Sp} (mR : mg "formula_rows" = some (.ref fr)) (kR : PySem.W.keepIn K (.ref fr) = true) (bR : Binds K fdr ["formula"] []) (FR : FnOk P w K mg base CX0 k fr fdr ["formula"] spR) (mF : mg "frozen" = some (.ref ff)) (kF : PySem.W.keepIn K (.ref ff) = true) (bF : Binds K fdf ["given"] []) (FF : FnOk P w K mg base CX0 k ff fdf ["given"] spF) {f : Addr} {cdv : Value} {A : Around} {outer : List Env} {s : Shared} {H : Hp} {E : XK} (hr : Room k (A.deeper (envOfC "_rows" (defScope s__rows) s.heap.objs.size f cdv))) :
    PSs (cxOf CX0 P w K mg base N__rows "_rows" (defScope s__rows) f cdv A outer s H E).nox (defBody s__rows) (tRet (tCall spR [] L2.E0 (tCons (tCall spF [] L2.E0 (tCons (tVar 0) tNil)) tNil))) :=
  (pss_one (ps_ret (pe_call (dvs := []) (E := L2.E0) FR hr (by rfl) mR kR bR .nil pass0 (pa_cons (pe_call (dvs := []) (E := L2.E0) FF hr (by rfl) mF kF bF .nil pass0 (pa_cons (pv 0) pa_nil)) pa_nil))))
def W_truths_of (S_truths_formulaparts : PSp) : WS :=
  (wSeq (wAsgL 3 (wLst wNil))
    (wSeq (wFor (wSeqI (wVar 0)) (wgName 4) (wApp 3 (wCall S_truths_formulaparts (wPCons (wD (wVar 4)) (wPCons (wD (wVar 1)) (wPCons (wD (wVar 2)) (wPCons (wO 3) wPNil)))))))
    (wRetO 3)))
theorem d_truths_of {P : Program} {w : World} {K : PySem.W.Frag} {mg : Str → Option Value} {base : Heap} {k : Nat} {S_truths_formulaparts : PSp} (T : Txt K mg) (C_truths_formulaparts : Cal P w K mg base "truths_formulaparts" ["row", "sets", "back", "found"] k S_truths_formulaparts) {f : Addr} {cdv : Value} {A : Around} {outer : List Env} {s : Shared} {H : Hp} {E : XK} (hr : Room k (A.deeper (envOfC "truths_of" (defScope s_truths_of) s.heap.objs.size f cdv))) :
    DSs (cxOf CX0 P w K mg base N_truths_of "truths_of" (defScope s_truths_of) f cdv A outer s H E).nox (defBody s_truths_of) (W_truths_of S_truths_formulaparts) :=
  (dss_cons (ds_setL (i := 3) sc_truths_of.nd rfl (by first | exact Or.inl rfl | exact Or.inr rfl) (dn_lst da_nil))
    (dss_cons (ds_for PassesOwn.never rfl (di_seq (de_var 0 (pv 0))) (dg_name (i := 4) sc_truths_of.nd rfl (by first | exact Or.inl rfl | exact Or.inr rfl)) (dss_one (ds_app 3 (t0 := tVar 3) (pv 3) (de_callC C_truths_formulaparts hr (by rfl) (dpa_cons (DE.dp (de_var 4 (pv 4))) (dpa_cons (DE.dp (de_var 1 (pv 1))) (dpa_cons (DE.dp (de_var 2 (pv 2))) (dpa_cons (dp_own 3 (pv 3)) dpa_nil))))) (fun pe => pe_bm PySem.F.plainAttrs_list PySem.F.slot_list_append PySem.F.type_list_append mt_append (pv 3) (pa_cons pe pa_nil)))))
    (dss_one (ds_retO 3 (pv 3)))))
def W_truths_formulaparts (S__lasting : PSp) : WS :=
  (wSeq (wAsg 4 (wOp ixD (wVar 0) (wC (.int 0))))
    (wSeq (wIfS (wB (wOp eqD (wVar 4) (wC (.str "true")))) (wRetL (wLc (wSeqI (wVar 1)) (wgName 7) wYes (wC (.bool true)) [7])) wNext)
    (wSeq (wIfS (wB (wOp eqD (wVar 4) (wC (.str "word")))) (wRetL (wLc (wSeqI (wVar 1)) (wgName 8) wYes (wOp inD (wOp ixD (wVar 0) (wC (.int 1))) (wVar 8)) [8])) wNext)
    (wSeq (wAsg 5 (wIxO (wO 3) (wOp ixD (wVar 0) (wC (.int 1)))))
    (wSeq (wIfS (wB (wOp eqD (wVar 4) (wC (.str "not")))) (wRetL (wLc (wSeqI (wVar 5)) (wgName 9) wYes (wNotV (wVar 9)) [9])) wNext)
    (wSeq (wIfS (wB (wOp eqD (wVar 4) (wC (.str "next")))) (wRet (wOp addD (wSl (wVar 5) (wSome (wC (.int 1))) wNone) (wL (wLst (wCons (wOp ixD (wVar 5) (wVar 2)) wNil))))) wNext)
    (wSeq (wIfS (wB (wOp eqD (wVar 4) (wC (.str "ever")))) (wRet (wCall S__lasting (wPCons (wD (wL (wLc (wSeqI (wVar 1)) (wgName 7) wYes (wC (.bool true)) [7]))) (wPCons (wD (wVar 5)) (wPCons (wD (wVar 2)) (wPCons (wD (wC (.bool false))) wPNil)))))) wNext)
    (wSeq (wIfS (wB (wOp eqD (wVar 4) (wC (.str "always")))) (wRet (wCall S__lasting (wPCons (wD (wVar 5)) (wPCons (wD (wL (wLc (wSeqI (wVar 1)) (wgName 7) wYes (wC (.bool false)) [7]))) (wPCons (wD (wVar 2)) (wPCons (wD (wC (.bool true))) wPNil)))))) wNext)
    (wSeq (wAsg 6 (wIxO (wO 3) (wOp ixD (wVar 0) (wC (.int 2)))))
    (wSeq (wIfS (wB (wOp eqD (wVar 4) (wC (.str "and")))) (wRetL (wLc (wZip (wVar 5) (wVar 6)) (wgTup 2 (wgCons (wgName 10) (wgCons (wgName 9) wgNil))) wYes (wAndV (wVar 10) (wVar 9)) [10, 9])) wNext)
    (wSeq (wIfS (wB (wOp eqD (wVar 4) (wC (.str "or")))) (wRetL (wLc (wZip (wVar 5) (wVar 6)) (wgTup 2 (wgCons (wgName 10) (wgCons (wgName 9) wgNil))) wYes (wOrV (wVar 10) (wVar 9)) [10, 9])) wNext)
    (wRet (wCall S__lasting (wPCons (wD (wVar 5)) (wPCons (wD (wVar 6)) (wPCons (wD (wVar 2)) (wPCons (wD (wOp eqD (wVar 4) (wC (.str "unless")))) wPNil)))))))))))))))))
theorem d_truths_formulaparts {P : Program} {w : World} {K : PySem.W.Frag} {mg : Str → Option Value} {base : Heap} {k : Nat} {S__lasting : PSp} (T : Txt K mg) (C__lasting : Cal P w K mg base "_lasting" ["one", "other", "back", "for_ever"] k S__lasting) {f : Addr} {cdv : Value} {A : Around} {outer : List Env} {s : Shared} {H : Hp} {E : XK} (hr : Room k (A.deeper (envOfC "_truths" (defScope s_truths_formulaparts) s.heap.objs.size f cdv))) :
    DSs (cxOf CX0 P w K mg base N_truths_formulaparts "_truths" (defScope s_truths_formulaparts) f cdv A outer s H E).nox (defBody s_truths_formulaparts) (W_truths_formulaparts S__lasting) :=
  (dss_cons (ds_set (i := 4) sc_truths_formulaparts.nd rfl (by first | exact Or.inl rfl | exact Or.inr rfl) (de_ix (de_var 0 (pv 0)) de_int))
    (dss_cons (ds_if (dt_eq hr.units (de_var 4 (pv 4)) de_str) (dss_one (ds_retL (dn_lc rfl sc_truths_formulaparts.nd (own := [("_", 7)]) (di_seq (de_var 1 (pv 1))) (blkOk_by (own := [("_", 7)]) (N := N_truths_formulaparts) (sc := defScope s_truths_formulaparts) (by decide +kernel)) (fun _ _ _ _ _ => (dg_name (i := 7) sc_truths_formulaparts.nd rfl (by first | exact Or.inl rfl | exact Or.inr rfl))) (fun _ _ _ _ _ => dts_nil) (fun _ _ _ _ _ => de_bl) (by decide)))) dss_nil)
    (dss_cons (ds_if (dt_eq hr.units (de_var 4 (pv 4)) de_str) (dss_one (ds_retL (dn_lc rfl sc_truths_formulaparts.nd (own := [("told", 8)]) (di_seq (de_var 1 (pv 1))) (blkOk_by (own := [("told", 8)]) (N := N_truths_formulaparts) (sc := defScope s_truths_formulaparts) (by decide +kernel)) (fun _ _ _ _ _ => (dg_name (i := 8) sc_truths_formulaparts.nd rfl (by first | exact Or.inl rfl | exact Or.inr rfl))) (fun _ _ _ _ _ => dts_nil) (fun _ _ _ _ _ => (de_in (de_ix (de_var 0 (pv 0)) de_int) (de_var 8 (pv 8)))) (by decide)))) dss_nil)
    (dss_cons (ds_set (i := 5) sc_truths_formulaparts.nd rfl (by first | exact Or.inl rfl | exact Or.inr rfl) (de_ixO (dp_own 3 (pv 3)) (de_ix (de_var 0 (pv 0)) de_int)))
    (dss_cons (ds_if (dt_eq hr.units (de_var 4 (pv 4)) de_str) (dss_one (ds_retL (dn_lc rfl sc_truths_formulaparts.nd (own := [("there", 9)]) (di_seq (de_var 5 (pv 5))) (blkOk_by (own := [("there", 9)]) (N := N_truths_formulaparts) (sc := defScope s_truths_formulaparts) (by decide +kernel)) (fun _ _ _ _ _ => (dg_name (i := 9) sc_truths_formulaparts.nd rfl (by first | exact Or.inl rfl | exact Or.inr rfl))) (fun _ _ _ _ _ => dts_nil) (fun _ _ _ _ _ => (de_not (de_var 9 (pv 9)))) (by decide)))) dss_nil)
    (dss_cons (ds_if (dt_eq hr.units (de_var 4 (pv 4)) de_str) (dss_one (ds_ret (de_add (de_slice (de_var 5 (pv 5)) (do_some de_int) do_none) (DN.de (dn_lst (da_cons (de_ix (de_var 5 (pv 5)) (de_var 2 (pv 2))) da_nil)))))) dss_nil)
    (dss_cons (ds_if (dt_eq hr.units (de_var 4 (pv 4)) de_str) (dss_one (ds_ret (de_callC C__lasting hr (by rfl) (dpa_cons (DE.dp (DN.de (dn_lc rfl sc_truths_formulaparts.nd (own := [("_", 7)]) (di_seq (de_var 1 (pv 1))) (blkOk_by (own := [("_", 7)]) (N := N_truths_formulaparts) (sc := defScope s_truths_formulaparts) (by decide +kernel)) (fun _ _ _ _ _ => (dg_name (i := 7) sc_truths_formulaparts.nd rfl (by first | exact Or.inl rfl | exact Or.inr rfl))) (fun _ _ _ _ _ => dts_nil) (fun _ _ _ _ _ => de_bl) (by decide)))) (dpa_cons (DE.dp (de_var 5 (pv 5))) (dpa_cons (DE.dp (de_var 2 (pv 2))) (dpa_cons (DE.dp de_bl) dpa_nil))))))) dss_nil)
    (dss_cons (ds_if (dt_eq hr.units (de_var 4 (pv 4)) de_str) (dss_one (ds_ret (de_callC C__lasting hr (by rfl) (dpa_cons (DE.dp (de_var 5 (pv 5))) (dpa_cons (DE.dp (DN.de (dn_lc rfl sc_truths_formulaparts.nd (own := [("_", 7)]) (di_seq (de_var 1 (pv 1))) (blkOk_by (own := [("_", 7)]) (N := N_truths_formulaparts) (sc := defScope s_truths_formulaparts) (by decide +kernel)) (fun _ _ _ _ _ => (dg_name (i := 7) sc_truths_formulaparts.nd rfl (by first | exact Or.inl rfl | exact Or.inr rfl))) (fun _ _ _ _ _ => dts_nil) (fun _ _ _ _ _ => de_bl) (by decide)))) (dpa_cons (DE.dp (de_var 2 (pv 2))) (dpa_cons (DE.dp de_bl) dpa_nil))))))) dss_nil)
    (dss_cons (ds_set (i := 6) sc_truths_formulaparts.nd rfl (by first | exact Or.inl rfl | exact Or.inr rfl) (de_ixO (dp_own 3 (pv 3)) (de_ix (de_var 0 (pv 0)) de_int)))
    (dss_cons (ds_if (dt_eq hr.units (de_var 4 (pv 4)) de_str) (dss_one (ds_retL (dn_lc rfl sc_truths_formulaparts.nd (own := [("here", 10), ("there", 9)]) (di_zip (by rfl) T.z_zip (de_var 5 (pv 5)) (de_var 6 (pv 6))) (blkOk_by (own := [("here", 10), ("there", 9)]) (N := N_truths_formulaparts) (sc := defScope s_truths_formulaparts) (by decide +kernel)) (fun _ _ _ _ _ => (dg_tup rfl (dgs_cons (dg_name (i := 10) sc_truths_formulaparts.nd rfl (by first | exact Or.inl rfl | exact Or.inr rfl)) (dgs_cons (dg_name (i := 9) sc_truths_formulaparts.nd rfl (by first | exact Or.inl rfl | exact Or.inr rfl)) dgs_nil)))) (fun _ _ _ _ _ => dts_nil) (fun _ _ _ _ _ => (de_and (de_var 10 (pv 10)) (de_one (de_var 9 (pv 9))))) (by decide)))) dss_nil)
    (dss_cons (ds_if (dt_eq hr.units (de_var 4 (pv 4)) de_str) (dss_one (ds_retL (dn_lc rfl sc_truths_formulaparts.nd (own := [("here", 10), ("there", 9)]) (di_zip (by rfl) T.z_zip (de_var 5 (pv 5)) (de_var 6 (pv 6))) (blkOk_by (own := [("here", 10), ("there", 9)]) (N := N_truths_formulaparts) (sc := defScope s_truths_formulaparts) (by decide +kernel)) (fun _ _ _ _ _ => (dg_tup rfl (dgs_cons (dg_name (i := 10) sc_truths_formulaparts.nd rfl (by first | exact Or.inl rfl | exact Or.inr rfl)) (dgs_cons (dg_name (i := 9) sc_truths_formulaparts.nd rfl (by first | exact Or.inl rfl | exact Or.inr rfl)) dgs_nil)))) (fun _ _ _ _ _ => dts_nil) (fun _ _ _ _ _ => (de_or (de_var 10 (pv 10)) (de_one (de_var 9 (pv 9))))) (by decide)))) dss_nil)
    (dss_one (ds_ret (de_callC C__lasting hr (by rfl) (dpa_cons (DE.dp (de_var 5 (pv 5))) (dpa_cons (DE.dp (de_var 6 (pv 6))) (dpa_cons (DE.dp (de_var 2 (pv 2))) (dpa_cons (DE.dp (de_eq hr.units (de_var 4 (pv 4)) de_str)) dpa_nil))))))))))))))))))
def W__lasting : WS :=
  (wSeq (wAsgL 4 (wLc (wSeqI (wVar 0)) (wgName 5) wYes (wVar 3) [5]))
    (wSeq (wFor (wRng1 (wC (.int 2))) (wgName 5) (wSeq (wAsg 6 (wIxO (wO 4) (wVar 2)))
    (wFor (wRngD (wCB lenD (wCons (wVar 0) wNil))) (wgName 7) (wSeq (wAsg 6 (wOrV (wOp ixD (wVar 1) (wVar 7)) (wAndV (wOp ixD (wVar 0) (wVar 7)) (wVar 6))))
    (wSetI 4 (wVar 7) (wVar 6))))))
    (wRetO 4)))
theorem d__lasting {P : Program} {w : World} {K : PySem.W.Frag} {mg : Str → Option Value} {base : Heap} {k : Nat} (T : Txt K mg) {f : Addr} {cdv : Value} {A : Around} {outer : List Env} {s : Shared} {H : Hp} {E : XK} (hr : Room k (A.deeper (envOfC "_lasting" (defScope s__lasting) s.heap.objs.size f cdv))) :
    DSs (cxOf CX0 P w K mg base N__lasting "_lasting" (defScope s__lasting) f cdv A outer s H E).nox (defBody s__lasting) (W__lasting) :=
  (dss_cons (ds_setLcL (i := 4) rfl sc__lasting.nd rfl rfl (sw_true rfl rfl rfl (by decide +kernel)) (own := [("_", 5)]) (di_seq (de_var 0 (pv 0))) (blkOk_by (own := [("_", 5)]) (N := N__lasting) (sc := defScope s__lasting) (by decide +kernel)) (fun _ _ _ _ _ => (dg_name (i := 5) sc__lasting.nd rfl (by first | exact Or.inl rfl | exact Or.inr rfl))) (fun _ _ _ _ _ => dts_nil) (fun _ _ _ _ _ => (de_var 3 (pv 3))) (by decide))
    (dss_cons (ds_for PassesOwn.never rfl (di_range1 (by rfl) T.z_range de_int) (dg_name (i := 5) sc__lasting.nd rfl (by first | exact Or.inl rfl | exact Or.inr rfl)) (dss_cons (ds_set (i := 6) sc__lasting.nd rfl (by first | exact Or.inl rfl | exact Or.inr rfl) (de_ixO (dp_own 4 (pv 4)) (de_var 2 (pv 2))))
    (dss_one (ds_for PassesOwn.never rfl (di_revR (by rfl) T.z_reversed (by rfl) T.z_range (de_len (by rfl) T.z_len (de_var 0 (pv 0)))) (dg_name (i := 7) sc__lasting.nd rfl (by first | exact Or.inl rfl | exact Or.inr rfl)) (dss_cons (ds_set (i := 6) sc__lasting.nd rfl (by first | exact Or.inl rfl | exact Or.inr rfl) (de_or (de_ix (de_var 1 (pv 1)) (de_var 7 (pv 7))) (de_one (de_and (de_ix (de_var 0 (pv 0)) (de_var 7 (pv 7))) (de_one (de_var 6 (pv 6)))))))
    (dss_one (ds_setI 4 (pv 4) (de_var 7 (pv 7)) (de_var 6 (pv 6)))))))))
    (dss_one (ds_retO 4 (pv 4)))))
def W_place_of_run (CE_NoNumber : Addr) : WS :=
  (wSeq (wIfS (wB (wOp ltD (wVar 2) (wC (.int 0)))) (wRaise1 CE_NoNumber "number" (wVar 2)) wNext)
    (wSeq (wIfS (wB (wOp ltD (wVar 2) (wCB lenD (wCons (wVar 0) wNil)))) (wRet (wVar 2)) wNext)
    (wRet (wOp addD (wCB lenD (wCons (wVar 0) wNil)) (wOp modD (wOp subD (wVar 2) (wCB lenD (wCons (wVar 0) wNil))) (wCB lenD (wCons (wVar 1) wNil)))))))
theorem d_place_of_run {P : Program} {w : World} {K : PySem.W.Frag} {mg : Str → Option Value} {base : Heap} {k : Nat} {CE_NoNumber fI_NoNumber : Addr} (T : Txt K mg) (TX_NoNumber : PySem.NoNumberX.NoNumberTxt K mg CE_NoNumber fI_NoNumber) {f : Addr} {cdv : Value} {A : Around} {outer : List Env} {s : Shared} {H : Hp} {E : XK} (hr : Room k (A.deeper (envOfC "place_of_run" (defScope s_place_of_run) s.heap.objs.size f cdv))) :
    DSs (cxOf (L2.CX P w) P w K mg base N_place_of_run "place_of_run" (defScope s_place_of_run) f cdv A outer s H E) (defBody s_place_of_run) (W_place_of_run CE_NoNumber) :=
  (dss_cons (ds_if (dt_lt (de_var 2 (pv 2)) de_int) (dss_one (ds_raise1 (C := CE_NoNumber) (f := "number") rfl (de_var 2 (pv 2)) (fun pa => pmk1_NoNumber TX_NoNumber hr (by rfl) (by rfl) (by rfl) pa))) dss_nil)
    (dss_cons (ds_if (dt_lt (de_var 2 (pv 2)) (de_len (by rfl) T.z_len (de_var 0 (pv 0)))) (dss_one (ds_ret (de_var 2 (pv 2)))) dss_nil)
    (dss_one (ds_ret (de_add (de_len (by rfl) T.z_len (de_var 0 (pv 0))) (de_mod (de_sub (de_var 2 (pv 2)) (de_len (by rfl) T.z_len (de_var 0 (pv 0)))) (de_len (by rfl) T.z_len (de_var 1 (pv 1)))))))))
def W_places_true (S_truths_formulas : PSp) : WS :=
  (wRet (wCB tupT (wCons (wL (wLc (wEnum (wCall S_truths_formulas (wPCons (wD (wVar 0)) (wPCons (wD (wVar 1)) wPNil)))) (wgTup 2 (wgCons (wgName 2) (wgCons (wgName 3) wgNil))) (wB (wVar 3)) (wVar 2) [2, 3])) wNil)))
theorem d_places_true {P : Program} {w : World} {K : PySem.W.Frag} {mg : Str → Option Value} {base : Heap} {k : Nat} {S_truths_formulas : PSp} (T : Txt K mg) (C_truths_formulas : Cal P w K mg base "truths_formulas" ["formula", "loop"] k S_truths_formulas) {f : Addr} {cdv : Value} {A : Around} {outer : List Env} {s : Shared} {H : Hp} {E : XK} (hr : Room k (A.deeper (envOfC "places_true" (defScope s_places_true) s.heap.objs.size f cdv))) :
    DSs (cxOf CX0 P w K mg base N_places_true "places_true" (defScope s_places_true) f cdv A outer s H E).nox (defBody s_places_true) (W_places_true S_truths_formulas) :=
  (dss_one (ds_ret (de_tupT (by rfl) T.z_tuple (DN.de (dn_lc rfl sc_places_true.nd (own := [("at", 2), ("there", 3)]) (di_enum (by rfl) T.z_enumerate (de_callC C_truths_formulas hr (by rfl) (dpa_cons (DE.dp (de_var 0 (pv 0))) (dpa_cons (DE.dp (de_var 1 (pv 1))) dpa_nil)))) (blkOk_by (own := [("at", 2), ("there", 3)]) (N := N_places_true) (sc := defScope s_places_true) (by decide +kernel)) (fun _ _ _ _ _ => (dg_tup rfl (dgs_cons (dg_name (i := 2) sc_places_true.nd rfl (by first | exact Or.inl rfl | exact Or.inr rfl)) (dgs_cons (dg_name (i := 3) sc_places_true.nd rfl (by first | exact Or.inl rfl | exact Or.inr rfl)) dgs_nil)))) (fun _ _ _ _ _ => (dts_one (dt_val (de_var 3 (pv 3))))) (fun _ _ _ _ _ => (de_var 2 (pv 2))) (by decide))))))
def W_is_true (S_truths_formulas : PSp) : WS :=
  (wRet (wOp ixD (wCall S_truths_formulas (wPCons (wD (wVar 0)) (wPCons (wD (wVar 1)) wPNil))) (wC (.int 0))))
theorem d_is_true {P : Program} {w : World} {K : PySem.W.Frag} {mg : Str → Option Value} {base : Heap} {k : Nat} {S_truths_formulas : PSp} (T : Txt K mg) (C_truths_formulas : Cal P w K mg base "truths_formulas" ["formula", "loop"] k S_truths_formulas) {f : Addr} {cdv : Value} {A : Around} {outer : List Env} {s : Shared} {H : Hp} {E : XK} (hr : Room k (A.deeper (envOfC "is_true" (defScope s_is_true) s.heap.objs.size f cdv))) :
    DSs (cxOf CX0 P w K mg base N_is_true "is_true" (defScope s_is_true) f cdv A outer s H E).nox (defBody s_is_true) (W_is_true S_truths_formulas) :=
  (dss_one (ds_ret (de_ix (de_callC C_truths_formulas hr (by rfl) (dpa_cons (DE.dp (de_var 0 (pv 0))) (dpa_cons (DE.dp (de_var 1 (pv 1))) dpa_nil))) de_int)))
def W_true_at (S_frozen : PSp) (S_place_of_run : PSpX) (S_truths_formulas : PSp) : WS :=
  (wSeq (wAsgG (wgTup 2 (wgCons (wgName 3) (wgCons (wgName 4) wgNil))) (wCall S_frozen (wPCons (wD (wVar 1)) wPNil)))
    (wSeq (wSetX 5 (wCallX S_place_of_run (wPCons (wD (wVar 3)) (wPCons (wD (wVar 4)) (wPCons (wD (wVar 2)) wPNil)))))
    (wRet (wOp ixD (wCall S_truths_formulas (wPCons (wD (wVar 0)) (wPCons (wD (wVar 1)) wPNil))) (wVar 5)))))
theorem d_true_at {P : Program} {w : World} {K : PySem.W.Frag} {mg : Str → Option Value} {base : Heap} {k : Nat} {S_frozen : PSp} {S_place_of_run : PSpX} {S_truths_formulas : PSp} (T : Txt K mg) (C_frozen : Cal P w K mg base "frozen" ["given"] k S_frozen) (C_place_of_run : CalX P w K mg base "place_of_run" ["front", "circle", "number"] k S_place_of_run) (C_truths_formulas : Cal P w K mg base "truths_formulas" ["formula", "loop"] k S_truths_formulas) {f : Addr} {cdv : Value} {A : Around} {outer : List Env} {s : Shared} {H : Hp} {E : XK} (hr : Room k (A.deeper (envOfC "true_at" (defScope s_true_at) s.heap.objs.size f cdv))) :
    DSs (cxOf (L2.CX P w) P w K mg base N_true_at "true_at" (defScope s_true_at) f cdv A outer s H E) (defBody s_true_at) (W_true_at S_frozen S_place_of_run S_truths_formulas) :=
  (dss_cons (ds_asg (de_callC C_frozen hr (by rfl) (dpa_cons (DE.dp (de_var 1 (pv 1))) dpa_nil)) (dg_tup rfl (dgs_cons (dg_name (i := 3) sc_true_at.nd rfl (by first | exact Or.inl rfl | exact Or.inr rfl)) (dgs_cons (dg_name (i := 4) sc_true_at.nd rfl (by first | exact Or.inl rfl | exact Or.inr rfl)) dgs_nil))))
    (dss_cons (ds_setX (i := 5) sc_true_at.nd rfl (by first | exact Or.inl rfl | exact Or.inr rfl) (dex_call C_place_of_run hr (by rfl) (dpa_cons (DE.dp (de_var 3 (pv 3))) (dpa_cons (DE.dp (de_var 4 (pv 4))) (dpa_cons (DE.dp (de_var 2 (pv 2))) dpa_nil)))))
    (dss_one (ds_ret (de_ix (de_callC C_truths_formulas hr (by rfl) (dpa_cons (DE.dp (de_var 0 (pv 0))) (dpa_cons (DE.dp (de_var 1 (pv 1))) dpa_nil))) (de_var 5 (pv 5)))))))
def W_truths_formulas (S_frozen : PSp) (S_truths_of : PSp) (S__rows : PSp) : WS :=
  (wSeq (wAsgG (wgTup 2 (wgCons (wgName 2) (wgCons (wgName 3) wgNil))) (wCall S_frozen (wPCons (wD (wVar 1)) wPNil)))
    (wRet (wOp ixD (wCall S_truths_of (wPCons (wD (wCall S__rows (wPCons (wD (wVar 0)) wPNil))) (wPCons (wD (wOp addD (wVar 2) (wVar 3))) (wPCons (wD (wCB lenD (wCons (wVar 2) wNil))) wPNil)))) (wNeg (wC (.int 1))))))
theorem d_truths_formulas {P : Program} {w : World} {K : PySem.W.Frag} {mg : Str → Option Value} {base : Heap} {k : Nat} {S_frozen : PSp} {S_truths_of : PSp} {S__rows : PSp} (T : Txt K mg) (C_frozen : Cal P w K mg base "frozen" ["given"] k S_frozen) (C_truths_of : Cal P w K mg base "truths_of" ["rows", "sets", "back"] k S_truths_of) (C__rows : Cal P w K mg base "_rows" ["formula"] k S__rows) {f : Addr} {cdv : Value} {A : Around} {outer : List Env} {s : Shared} {H : Hp} {E : XK} (hr : Room k (A.deeper (envOfC "_truths" (defScope s_truths_formulas) s.heap.objs.size f cdv))) :
    DSs (cxOf CX0 P w K mg base N_truths_formulas "_truths" (defScope s_truths_formulas) f cdv A outer s H E).nox (defBody s_truths_formulas) (W_truths_formulas S_frozen S_truths_of S__rows) :=
  (dss_cons (ds_asg (de_callC C_frozen hr (by rfl) (dpa_cons (DE.dp (de_var 1 (pv 1))) dpa_nil)) (dg_tup rfl (dgs_cons (dg_name (i := 2) sc_truths_formulas.nd rfl (by first | exact Or.inl rfl | exact Or.inr rfl)) (dgs_cons (dg_name (i := 3) sc_truths_formulas.nd rfl (by first | exact Or.inl rfl | exact Or.inr rfl)) dgs_nil))))
    (dss_one (ds_ret (de_ix (de_callC C_truths_of hr (by rfl) (dpa_cons (DE.dp (de_callC C__rows hr (by rfl) (dpa_cons (DE.dp (de_var 0 (pv 0))) dpa_nil))) (dpa_cons (DE.dp (de_add (de_var 2 (pv 2)) (de_var 3 (pv 3)))) (dpa_cons (DE.dp (de_len (by rfl) T.z_len (de_var 2 (pv 2)))) dpa_nil)))) (de_neg de_int)))))
def W__law_box : WS :=
  (wSeq (wAsg 2 (wIf (wB (wOp ltD (wVar 1) (wCB lenD (wCons (wVar 0) wNil)))) (wOp ixD (wVar 0) (wVar 1)) (wC (.int 0))))
    (wRetL (wLst (wCons (wOp mulD (wCB absD (wCons (wVar 2) wNil)) (wCB intT (wCons (wOp geD (wCB absD (wCons (wVar 2) wNil)) (wOp powD (wC (.int 10)) (wC (.int 18)))) wNil))) (wCons (wOp addD (wOp addD (wOp modD (wCB intT (wCons (wVar 2) wNil)) (wC (.int 2305843009213693951))) (wOp mulD (wC (.int 39373)) (wVar 1))) (wC (.int 1937028))) (wCons (wC (.int 0)) wNil))))))
theorem d__law_box {P : Program} {w : World} {K : PySem.W.Frag} {mg : Str → Option Value} {base : Heap} {k : Nat} (T : Txt K mg) {f : Addr} {cdv : Value} {A : Around} {outer : List Env} {s : Shared} {H : Hp} {E : XK} (hr : Room k (A.deeper (envOfC "_law_box" (defScope s__law_box) s.heap.objs.size f cdv))) :
    DSs (cxOf CX0 P w K mg base N__law_box "_law_box" (defScope s__law_box) f cdv A outer s H E).nox (defBody s__law_box) (W__law_box) :=
  (dss_cons (ds_set (i := 2) sc__law_box.nd rfl (by first | exact Or.inl rfl | exact Or.inr rfl) (de_if (dt_lt (de_var 1 (pv 1)) (de_len (by rfl) T.z_len (de_var 0 (pv 0)))) (de_ix (de_var 0 (pv 0)) (de_var 1 (pv 1))) de_int))
    (dss_one (ds_retL (dn_lst (da_cons (de_mul (de_abs (by rfl) T.z_abs (de_var 2 (pv 2))) (de_intT (by rfl) T.z_int (de_ge (de_abs (by rfl) T.z_abs (de_var 2 (pv 2))) (de_pow de_int de_int)))) (da_cons (de_add (de_add (de_mod (de_intT (by rfl) T.z_int (de_var 2 (pv 2))) de_int) (de_mul de_int (de_var 1 (pv 1)))) de_int) (da_cons de_int da_nil)))))))
def W__law_take : WS :=
  (wSeq (wIfS (wB (wOp gtD (wIxO (wO 0) (wC (.int 0))) (wC (.int 0)))) (wSeq (wAsg 2 (wOp modD (wCB intT (wCons (wIxO (wO 0) (wC (.int 0))) wNil)) (wVar 1)))
    (wSeq (wSetI 0 (wC (.int 0)) (wOp fdivD (wIxO (wO 0) (wC (.int 0))) (wVar 1)))
    (wRet (wVar 2)))) wNext)
    (wSeq (wSetI 0 (wC (.int 2)) (wOp addD (wIxO (wO 0) (wC (.int 2))) (wC (.int 1))))
    (wSeq (wAsg 3 (wOp modD (wCB intT (wCons (wOp mulD (wOp addD (wIxO (wO 0) (wC (.int 1))) (wOp mulD (wC (.int 48271)) (wIxO (wO 0) (wC (.int 2))))) (wOp addD (wC (.int 39373)) (wIxO (wO 0) (wC (.int 2))))) wNil)) (wC (.int 2147483647))))
    (wSeq (wAsg 4 (wOp addD (wOp modD (wCB intT (wCons (wVar 3) wNil)) (wC (.int 40009))) (wC (.int 7))))
    (wSeq (wAsg 5 (wOp modD (wCB intT (wCons (wOp mulD (wOp addD (wOp addD (wVar 3) (wIxO (wO 0) (wC (.int 2)))) (wOp fdivD (wIxO (wO 0) (wC (.int 1))) (wC (.int 1000003)))) (wVar 4)) wNil)) (wC (.int 2147483629))))
    (wRet (wOp modD (wCB intT (wCons (wOp fdivD (wOp modD (wCB intT (wCons (wOp addD (wOp mulD (wVar 5) (wC (.int 48271))) (wVar 3)) wNil)) (wC (.int 2147483587))) (wC (.int 64))) wNil)) (wVar 1))))))))
theorem d__law_take {P : Program} {w : World} {K : PySem.W.Frag} {mg : Str → Option Value} {base : Heap} {k : Nat} (T : Txt K mg) {f : Addr} {cdv : Value} {A : Around} {outer : List Env} {s : Shared} {H : Hp} {E : XK} (hr : Room k (A.deeper (envOfC "_law_take" (defScope s__law_take) s.heap.objs.size f cdv))) :
    DSs (cxOf CX0 P w K mg base N__law_take "_law_take" (defScope s__law_take) f cdv A outer s H E).nox (defBody s__law_take) (W__law_take) :=
  (dss_cons (ds_if (dt_gt (de_ixO (dp_own 0 (pv 0)) de_int) de_int) (dss_cons (ds_set (i := 2) sc__law_take.nd rfl (by first | exact Or.inl rfl | exact Or.inr rfl) (de_mod (de_intT (by rfl) T.z_int (de_ixO (dp_own 0 (pv 0)) de_int)) (de_var 1 (pv 1))))
    (dss_cons (ds_setI 0 (pv 0) de_int (de_fdiv (de_ixO (dp_own 0 (pv 0)) de_int) (de_var 1 (pv 1))))
    (dss_one (ds_ret (de_var 2 (pv 2)))))) dss_nil)
    (dss_cons (ds_setI 0 (pv 0) de_int (de_add (de_ixO (dp_own 0 (pv 0)) de_int) de_int))
    (dss_cons (ds_set (i := 3) sc__law_take.nd rfl (by first | exact Or.inl rfl | exact Or.inr rfl) (de_mod (de_intT (by rfl) T.z_int (de_mul (de_add (de_ixO (dp_own 0 (pv 0)) de_int) (de_mul de_int (de_ixO (dp_own 0 (pv 0)) de_int))) (de_add de_int (de_ixO (dp_own 0 (pv 0)) de_int)))) de_int))
    (dss_cons (ds_set (i := 4) sc__law_take.nd rfl (by first | exact Or.inl rfl | exact Or.inr rfl) (de_add (de_mod (de_intT (by rfl) T.z_int (de_var 3 (pv 3))) de_int) de_int))
    (dss_cons (ds_set (i := 5) sc__law_take.nd rfl (by first | exact Or.inl rfl | exact Or.inr rfl) (de_mod (de_intT (by rfl) T.z_int (de_mul (de_add (de_add (de_var 3 (pv 3)) (de_ixO (dp_own 0 (pv 0)) de_int)) (de_fdiv (de_ixO (dp_own 0 (pv 0)) de_int) de_int)) (de_var 4 (pv 4)))) de_int))
    (dss_one (ds_ret (de_mod (de_intT (by rfl) T.z_int (de_fdiv (de_mod (de_intT (by rfl) T.z_int (de_add (de_mul (de_var 5 (pv 5)) de_int) (de_var 3 (pv 3)))) de_int) de_int)) (de_var 1 (pv 1))))))))))
def W__law_cells : WS :=
  (wSeq (wAsgL 2 (wOrL (wListO (wD (wSlS 0 wNone (wSome (wVar 1))))) (wLst (wCons (wC (.int 0)) wNil))))
    (wSeq (wFor (wEnum (wSlS 0 (wSome (wVar 1)) (wSome (wC (.int 63))))) (wgTup 2 (wgCons (wgName 3) (wgCons (wgName 4) wgNil))) (wSeq (wAsg 5 (wOp modD (wCB intT (wCons (wVar 3) wNil)) (wVar 1)))
    (wSetI 2 (wVar 5) (wOp addD (wIxO (wO 2) (wVar 5)) (wOp mulD (wVar 4) (wOp addD (wVar 3) (wC (.int 2))))))))
    (wRetO 2)))
theorem d__law_cells {P : Program} {w : World} {K : PySem.W.Frag} {mg : Str → Option Value} {base : Heap} {k : Nat} (T : Txt K mg) {f : Addr} {cdv : Value} {A : Around} {outer : List Env} {s : Shared} {H : Hp} {E : XK} (hr : Room k (A.deeper (envOfC "_law_cells" (defScope s__law_cells) s.heap.objs.size f cdv))) :
    DSs (cxOf CX0 P w K mg base N__law_cells "_law_cells" (defScope s__law_cells) f cdv A outer s H E).nox (defBody s__law_cells) (W__law_cells) :=
  (dss_cons (ds_setL (i := 2) sc__law_cells.nd rfl (by first | exact Or.inl rfl | exact Or.inr rfl) (dn_or (dn_listO (by rfl) T.z_list (DE.dp (de_sliceS 0 (pv 0) do_none (do_some (de_var 1 (pv 1)))))) (dn_lst (da_cons de_int da_nil))))
    (dss_cons (ds_for PassesOwn.never rfl (di_enum (by rfl) T.z_enumerate (de_sliceS 0 (pv 0) (do_some (de_var 1 (pv 1))) (do_some de_int))) (dg_tup rfl (dgs_cons (dg_name (i := 3) sc__law_cells.nd rfl (by first | exact Or.inl rfl | exact Or.inr rfl)) (dgs_cons (dg_name (i := 4) sc__law_cells.nd rfl (by first | exact Or.inl rfl | exact Or.inr rfl)) dgs_nil))) (dss_cons (ds_set (i := 5) sc__law_cells.nd rfl (by first | exact Or.inl rfl | exact Or.inr rfl) (de_mod (de_intT (by rfl) T.z_int (de_var 3 (pv 3))) (de_var 1 (pv 1))))
    (dss_one (ds_setI 2 (pv 2) (de_var 5 (pv 5)) (de_add (de_ixO (dp_own 2 (pv 2)) (de_var 5 (pv 5))) (de_mul (de_var 4 (pv 4)) (de_add (de_var 3 (pv 3)) de_int)))))))
    (dss_one (ds_retO 2 (pv 2)))))
def W__law_of (S__law_take : PSp) : WS :=
  (wRet (wOp ixD (wVar 1) (wCall S__law_take (wPCons (wO 0) (wPCons (wD (wCB lenD (wCons (wVar 1) wNil))) wPNil)))))
theorem d__law_of {P : Program} {w : World} {K : PySem.W.Frag} {mg : Str → Option Value} {base : Heap} {k : Nat} {S__law_take : PSp} (T : Txt K mg) (C__law_take : Cal P w K mg base "_law_take" ["urn", "low_so"] k S__law_take) {f : Addr} {cdv : Value} {A : Around} {outer : List Env} {s : Shared} {H : Hp} {E : XK} (hr : Room k (A.deeper (envOfC "_law_of" (defScope s__law_of) s.heap.objs.size f cdv))) :
    DSs (cxOf CX0 P w K mg base N__law_of "_law_of" (defScope s__law_of) f cdv A outer s H E).nox (defBody s__law_of) (W__law_of S__law_take) :=
  (dss_one (ds_ret (de_ix (de_var 1 (pv 1)) (de_callC C__law_take hr (by rfl) (dpa_cons (dp_own 0 (pv 0)) (dpa_cons (DE.dp (de_len (by rfl) T.z_len (de_var 1 (pv 1)))) dpa_nil))))))
def W__law_lists (S__law_lists : PSp) : WS :=
  (wRet (wIf (wB (wIsi2 "list" "tuple" (wVar 0))) (wL (wLc (wSeqI (wVar 0)) (wgName 1) wYes (wCall S__law_lists (wPCons (wD (wVar 1)) wPNil)) [1])) (wVar 0)))
theorem d__law_lists {P : Program} {w : World} {K : PySem.W.Frag} {mg : Str → Option Value} {base : Heap} {k : Nat} {S__law_lists : PSp} (T : Txt K mg) (C__law_lists : Cal P w K mg base "_law_lists" ["matter"] k S__law_lists) {f : Addr} {cdv : Value} {A : Around} {outer : List Env} {s : Shared} {H : Hp} {E : XK} (hr : Room k (A.deeper (envOfC "_law_lists" (defScope s__law_lists) s.heap.objs.size f cdv))) :
    DSs (cxOf CX0 P w K mg base N__law_lists "_law_lists" (defScope s__law_lists) f cdv A outer s H E).nox (defBody s__law_lists) (W__law_lists S__law_lists) :=
  (dss_one (ds_ret (de_if (dt_val (de_isi2 (by rfl) T.z_isinstance kit_list kit_tuple (pe_ty (by rfl) T.z_list (by decide +kernel)) (pe_ty (by rfl) T.z_tuple (by decide +kernel)) (de_var 0 (pv 0)))) (DN.de (dn_lc rfl sc__law_lists.nd (own := [("bit", 1)]) (di_seq (de_var 0 (pv 0))) (blkOk_by (own := [("bit", 1)]) (N := N__law_lists) (sc := defScope s__law_lists) (by decide +kernel)) (fun _ _ _ _ _ => (dg_name (i := 1) sc__law_lists.nd rfl (by first | exact Or.inl rfl | exact Or.inr rfl))) (fun _ _ _ _ _ => dts_nil) (fun _ _ _ _ _ => (de_callC C__law_lists hr (by rfl) (dpa_cons (DE.dp (de_var 1 (pv 1))) dpa_nil))) (by decide))) (de_var 0 (pv 0)))))
def W__law_same (S__law_same : PSp) : WS :=
  (wSeq (wIfS (wB (wIsi2 "list" "tuple" (wVar 1))) (wSeq (wIfS (wOr (wB (wOp neD (wIsi "list" (wVar 0)) (wIsi "list" (wVar 1)))) (wB (wOp neD (wIsi "tuple" (wVar 0)) (wIsi "tuple" (wVar 1))))) (wRet (wC (.bool false))) wNext)
    (wRet (wAndV (wOp eqD (wCB lenD (wCons (wVar 0) wNil)) (wCB lenD (wCons (wVar 1) wNil))) (wCB allB (wCons (wL (wLc (wZip (wVar 0) (wVar 1)) (wgTup 2 (wgCons (wgName 2) (wgCons (wgName 3) wgNil))) wYes (wCall S__law_same (wPCons (wD (wVar 2)) (wPCons (wD (wVar 3)) wPNil))) [2, 3])) wNil))))) wNext)
    (wSeq (wIfS (wOr (wB (wOp isND (wVar 1) (wC .none))) (wB (wIsi2 "bool" "str" (wVar 1)))) (wRet (wAndV (wOp eqD (wVar 0) (wVar 1)) (wAndV (wOp eqD (wIsi "bool" (wVar 0)) (wIsi "bool" (wVar 1))) (wOp eqD (wOp isND (wVar 0) (wC .none)) (wOp isND (wVar 1) (wC .none)))))) wNext)
    (wRet (wAndV (wIsi "int" (wVar 0)) (wAndV (wNotV (wIsi "bool" (wVar 0))) (wOp eqD (wVar 0) (wVar 1)))))))
theorem d__law_same {P : Program} {w : World} {K : PySem.W.Frag} {mg : Str → Option Value} {base : Heap} {k : Nat} {S__law_same : PSp} (T : Txt K mg) (C__law_same : Cal P w K mg base "_law_same" ["got", "due"] k S__law_same) {f : Addr} {cdv : Value} {A : Around} {outer : List Env} {s : Shared} {H : Hp} {E : XK} (hr : Room k (A.deeper (envOfC "_law_same" (defScope s__law_same) s.heap.objs.size f cdv))) :
    DSs (cxOf CX0 P w K mg base N__law_same "_law_same" (defScope s__law_same) f cdv A outer s H E).nox (defBody s__law_same) (W__law_same S__law_same) :=
  (dss_cons (ds_if (dt_val (de_isi2 (by rfl) T.z_isinstance kit_list kit_tuple (pe_ty (by rfl) T.z_list (by decide +kernel)) (pe_ty (by rfl) T.z_tuple (by decide +kernel)) (de_var 1 (pv 1)))) (dss_cons (ds_if (DW.dt (dw_or (dt_ne hr.units (de_isi (by rfl) T.z_isinstance kit_list (pe_ty (by rfl) T.z_list (by decide +kernel)) (de_var 0 (pv 0))) (de_isi (by rfl) T.z_isinstance kit_list (pe_ty (by rfl) T.z_list (by decide +kernel)) (de_var 1 (pv 1)))) (dw_or1 (dt_ne hr.units (de_isi (by rfl) T.z_isinstance kit_tuple (pe_ty (by rfl) T.z_tuple (by decide +kernel)) (de_var 0 (pv 0))) (de_isi (by rfl) T.z_isinstance kit_tuple (pe_ty (by rfl) T.z_tuple (by decide +kernel)) (de_var 1 (pv 1))))))) (dss_one (ds_ret de_bl)) dss_nil)
    (dss_one (ds_ret (de_and (de_eq hr.units (de_len (by rfl) T.z_len (de_var 0 (pv 0))) (de_len (by rfl) T.z_len (de_var 1 (pv 1)))) (de_one (de_all rfl (by rfl) T.z_all (DN.de (dn_lc rfl sc__law_same.nd (own := [("mine_so", 2), ("own", 3)]) (di_zip (by rfl) T.z_zip (de_var 0 (pv 0)) (de_var 1 (pv 1))) (blkOk_by (own := [("mine_so", 2), ("own", 3)]) (N := N__law_same) (sc := defScope s__law_same) (by decide +kernel)) (fun _ _ _ _ _ => (dg_tup rfl (dgs_cons (dg_name (i := 2) sc__law_same.nd rfl (by first | exact Or.inl rfl | exact Or.inr rfl)) (dgs_cons (dg_name (i := 3) sc__law_same.nd rfl (by first | exact Or.inl rfl | exact Or.inr rfl)) dgs_nil)))) (fun _ _ _ _ _ => dts_nil) (fun _ _ _ _ _ => (de_callC C__law_same hr (by rfl) (dpa_cons (DE.dp (de_var 2 (pv 2))) (dpa_cons (DE.dp (de_var 3 (pv 3))) dpa_nil)))) (by decide))))))))) dss_nil)
    (dss_cons (ds_if (DW.dt (dw_or (dt_isN (de_var 1 (pv 1)) de_non) (dw_or1 (dt_val (de_isi2 (by rfl) T.z_isinstance kit_bool kit_str (pe_ty (by rfl) T.z_bool (by decide +kernel)) (pe_ty (by rfl) T.z_str (by decide +kernel)) (de_var 1 (pv 1))))))) (dss_one (ds_ret (de_and (de_eq hr.units (de_var 0 (pv 0)) (de_var 1 (pv 1))) (de_and (de_eq hr.units (de_isi (by rfl) T.z_isinstance kit_bool (pe_ty (by rfl) T.z_bool (by decide +kernel)) (de_var 0 (pv 0))) (de_isi (by rfl) T.z_isinstance kit_bool (pe_ty (by rfl) T.z_bool (by decide +kernel)) (de_var 1 (pv 1)))) (de_one (de_eq hr.units (de_isN (de_var 0 (pv 0)) de_non) (de_isN (de_var 1 (pv 1)) de_non))))))) dss_nil)
    (dss_one (ds_ret (de_and (de_isi (by rfl) T.z_isinstance kit_int (pe_ty (by rfl) T.z_int (by decide +kernel)) (de_var 0 (pv 0))) (de_and (de_not (de_isi (by rfl) T.z_isinstance kit_bool (pe_ty (by rfl) T.z_bool (by decide +kernel)) (de_var 0 (pv 0)))) (de_one (de_eq hr.units (de_var 0 (pv 0)) (de_var 1 (pv 1))))))))))
def W__law_set (S__law_take : PSp) : WS :=
  (wRet (wCB tupT (wCons (wL (wLc (wSeqI (wVar 1)) (wgName 2) (wB (wOp eqD (wCall S__law_take (wPCons (wO 0) (wPCons (wD (wC (.int 2))) wPNil))) (wC (.int 0)))) (wVar 2) [2])) wNil)))
theorem d__law_set {P : Program} {w : World} {K : PySem.W.Frag} {mg : Str → Option Value} {base : Heap} {k : Nat} {S__law_take : PSp} (T : Txt K mg) (C__law_take : Cal P w K mg base "_law_take" ["urn", "low_so"] k S__law_take) {f : Addr} {cdv : Value} {A : Around} {outer : List Env} {s : Shared} {H : Hp} {E : XK} (hr : Room k (A.deeper (envOfC "_law_set" (defScope s__law_set) s.heap.objs.size f cdv))) :
    DSs (cxOf CX0 P w K mg base N__law_set "_law_set" (defScope s__law_set) f cdv A outer s H E).nox (defBody s__law_set) (W__law_set S__law_take) :=
  (dss_one (ds_ret (de_tupT (by rfl) T.z_tuple (DN.de (dn_lc rfl sc__law_set.nd (own := [("own", 2)]) (di_seq (de_var 1 (pv 1))) (blkOk_by (own := [("own", 2)]) (N := N__law_set) (sc := defScope s__law_set) (by decide +kernel)) (fun _ _ _ _ _ => (dg_name (i := 2) sc__law_set.nd rfl (by first | exact Or.inl rfl | exact Or.inr rfl))) (fun _ _ _ _ _ => (dts_one (dt_eq hr.units (de_callC C__law_take hr (by rfl) (dpa_cons (dp_own 0 (pv 0)) (dpa_cons (DE.dp de_int) dpa_nil))) de_int))) (fun _ _ _ _ _ => (de_var 2 (pv 2))) (by decide))))))
def W__law_ring (S__law_take : PSp) (S__law_set : PSp) : WS :=
  (wSeq (wAsg 4 (wCB tupT (wCons (wL (wLc (wRng1 (wCall S__law_take (wPCons (wO 0) (wPCons (wD (wOp addD (wVar 2) (wC (.int 1)))) wPNil)))) (wgName 5) wYes (wCall S__law_set (wPCons (wO 0) (wPCons (wD (wVar 1)) wPNil))) [5])) wNil)))
    (wRet (wTup (wCons (wVar 4) (wCons (wCB tupT (wCons (wL (wLc (wRng1 (wOp addD (wC (.int 1)) (wCall S__law_take (wPCons (wO 0) (wPCons (wD (wVar 3)) wPNil))))) (wgName 5) wYes (wCall S__law_set (wPCons (wO 0) (wPCons (wD (wVar 1)) wPNil))) [5])) wNil)) wNil)))))
theorem d__law_ring {P : Program} {w : World} {K : PySem.W.Frag} {mg : Str → Option Value} {base : Heap} {k : Nat} {S__law_take : PSp} {S__law_set : PSp} (T : Txt K mg) (C__law_take : Cal P w K mg base "_law_take" ["urn", "low_so"] k S__law_take) (C__law_set : Cal P w K mg base "_law_set" ["urn", "tags_so"] k S__law_set) {f : Addr} {cdv : Value} {A : Around} {outer : List Env} {s : Shared} {H : Hp} {E : XK} (hr : Room k (A.deeper (envOfC "_law_ring" (defScope s__law_ring) s.heap.objs.size f cdv))) :
    DSs (cxOf CX0 P w K mg base N__law_ring "_law_ring" (defScope s__law_ring) f cdv A outer s H E).nox (defBody s__law_ring) (W__law_ring S__law_take S__law_set) :=
  (dss_cons (ds_set (i := 4) sc__law_ring.nd rfl (by first | exact Or.inl rfl | exact Or.inr rfl) (de_tupT (by rfl) T.z_tuple (DN.de (dn_lc rfl sc__law_ring.nd (own := [("lap", 5)]) (di_range1 (by rfl) T.z_range (de_callC C__law_take hr (by rfl) (dpa_cons (dp_own 0 (pv 0)) (dpa_cons (DE.dp (de_add (de_var 2 (pv 2)) de_int)) dpa_nil)))) (blkOk_by (own := [("lap", 5)]) (N := N__law_ring) (sc := defScope s__law_ring) (by decide +kernel)) (fun _ _ _ _ _ => (dg_name (i := 5) sc__law_ring.nd rfl (by first | exact Or.inl rfl | exact Or.inr rfl))) (fun _ _ _ _ _ => dts_nil) (fun _ _ _ _ _ => (de_callC C__law_set hr (by rfl) (dpa_cons (dp_own 0 (pv 0)) (dpa_cons (DE.dp (de_var 1 (pv 1))) dpa_nil)))) (by decide)))))
    (dss_one (ds_ret (de_tup (da_cons (de_var 4 (pv 4)) (da_cons (de_tupT (by rfl) T.z_tuple (DN.de (dn_lc rfl sc__law_ring.nd (own := [("lap", 5)]) (di_range1 (by rfl) T.z_range (de_add de_int (de_callC C__law_take hr (by rfl) (dpa_cons (dp_own 0 (pv 0)) (dpa_cons (DE.dp (de_var 3 (pv 3))) dpa_nil))))) (blkOk_by (own := [("lap", 5)]) (N := N__law_ring) (sc := defScope s__law_ring) (by decide +kernel)) (fun _ _ _ _ _ => (dg_name (i := 5) sc__law_ring.nd rfl (by first | exact Or.inl rfl | exact Or.inr rfl))) (fun _ _ _ _ _ => dts_nil) (fun _ _ _ _ _ => (de_callC C__law_set hr (by rfl) (dpa_cons (dp_own 0 (pv 0)) (dpa_cons (DE.dp (de_var 1 (pv 1))) dpa_nil)))) (by decide)))) da_nil))))))
def W__law_form (S__law_take : PSp) (S__law_of : PSp) (S__law_form : PSp) : WS :=
  (wSeq (wIfS (wOr (wB (wOp ltD (wVar 1) (wC (.int 2)))) (wB (wOp eqD (wCall S__law_take (wPCons (wO 0) (wPCons (wD (wC (.int 6))) wPNil))) (wC (.int 0))))) (wRet (wIf (wB (wOp eqD (wCall S__law_take (wPCons (wO 0) (wPCons (wD (wC (.int 8))) wPNil))) (wC (.int 0)))) (wTup (wCons (wC (.str "true")) wNil)) (wTup (wCons (wC (.str "word")) (wCons (wCall S__law_of (wPCons (wO 0) (wPCons (wD (wVar 2)) wPNil))) wNil))))) wNext)
    (wSeq (wIfS (wOr (wB (wOp eqD (wVar 1) (wC (.int 2)))) (wB (wOp eqD (wCall S__law_take (wPCons (wO 0) (wPCons (wD (wC (.int 2))) wPNil))) (wC (.int 0))))) (wSeq (wAsg 4 (wCall S__law_of (wPCons (wO 0) (wPCons (wD (wL (wLst (wCons (wC (.str "not")) (wCons (wC (.str "ever")) (wCons (wC (.str "always")) (wCons (wIf (wB (wVar 3)) (wC (.str "not")) (wC (.str "next"))) wNil))))))) wPNil))))
    (wRet (wTup (wCons (wVar 4) (wCons (wCall S__law_form (wPCons (wO 0) (wPCons (wD (wOp subD (wVar 1) (wC (.int 1)))) (wPCons (wD (wVar 2)) (wPCons (wD (wVar 3)) wPNil))))) wNil))))) wNext)
    (wSeq (wAsg 5 (wOp addD (wC (.int 1)) (wCall S__law_take (wPCons (wO 0) (wPCons (wD (wOp subD (wVar 1) (wC (.int 2)))) wPNil)))))
    (wSeq (wPar 4 6 (wCall S__law_of (wPCons (wO 0) (wPCons (wD (wL (wLst (wCons (wC (.str "and")) (wCons (wC (.str "or")) (wCons (wC (.str "until")) (wCons (wC (.str "unless")) wNil))))))) wPNil))) (wCall S__law_form (wPCons (wO 0) (wPCons (wD (wVar 5)) (wPCons (wD (wVar 2)) (wPCons (wD (wVar 3)) wPNil))))))
    (wRet (wTup (wCons (wVar 4) (wCons (wVar 6) (wCons (wCall S__law_form (wPCons (wO 0) (wPCons (wD (wOp subD (wOp subD (wVar 1) (wC (.int 1))) (wVar 5))) (wPCons (wD (wVar 2)) (wPCons (wD (wVar 3)) wPNil))))) wNil)))))))))
theorem d__law_form {P : Program} {w : World} {K : PySem.W.Frag} {mg : Str → Option Value} {base : Heap} {k : Nat} {S__law_take : PSp} {S__law_of : PSp} {S__law_form : PSp} (T : Txt K mg) (C__law_take : Cal P w K mg base "_law_take" ["urn", "low_so"] k S__law_take) (C__law_of : Cal P w K mg base "_law_of" ["urn", "some_so"] k S__law_of) (C__law_form : Cal P w K mg base "_law_form" ["urn", "size_so", "tags_so", "still_so"] k S__law_form) {f : Addr} {cdv : Value} {A : Around} {outer : List Env} {s : Shared} {H : Hp} {E : XK} (hr : Room k (A.deeper (envOfC "_law_form" (defScope s__law_form) s.heap.objs.size f cdv))) :
    DSs (cxOf CX0 P w K mg base N__law_form "_law_form" (defScope s__law_form) f cdv A outer s H E).nox (defBody s__law_form) (W__law_form S__law_take S__law_of S__law_form) :=
  (dss_cons (ds_if (DW.dt (dw_or (dt_lt (de_var 1 (pv 1)) de_int) (dw_or1 (dt_eq hr.units (de_callC C__law_take hr (by rfl) (dpa_cons (dp_own 0 (pv 0)) (dpa_cons (DE.dp de_int) dpa_nil))) de_int)))) (dss_one (ds_ret (de_if (dt_eq hr.units (de_callC C__law_take hr (by rfl) (dpa_cons (dp_own 0 (pv 0)) (dpa_cons (DE.dp de_int) dpa_nil))) de_int) (de_tup (da_cons de_str da_nil)) (de_tup (da_cons de_str (da_cons (de_callC C__law_of hr (by rfl) (dpa_cons (dp_own 0 (pv 0)) (dpa_cons (DE.dp (de_var 2 (pv 2))) dpa_nil))) da_nil)))))) dss_nil)
    (dss_cons (ds_if (DW.dt (dw_or (dt_eq hr.units (de_var 1 (pv 1)) de_int) (dw_or1 (dt_eq hr.units (de_callC C__law_take hr (by rfl) (dpa_cons (dp_own 0 (pv 0)) (dpa_cons (DE.dp de_int) dpa_nil))) de_int)))) (dss_cons (ds_set (i := 4) sc__law_form.nd rfl (by first | exact Or.inl rfl | exact Or.inr rfl) (de_callC C__law_of hr (by rfl) (dpa_cons (dp_own 0 (pv 0)) (dpa_cons (DE.dp (DN.de (dn_lst (da_cons de_str (da_cons de_str (da_cons de_str (da_cons (de_if (dt_val (de_var 3 (pv 3))) de_str de_str) da_nil))))))) dpa_nil))))
    (dss_one (ds_ret (de_tup (da_cons (de_var 4 (pv 4)) (da_cons (de_callC C__law_form hr (by rfl) (dpa_cons (dp_own 0 (pv 0)) (dpa_cons (DE.dp (de_sub (de_var 1 (pv 1)) de_int)) (dpa_cons (DE.dp (de_var 2 (pv 2))) (dpa_cons (DE.dp (de_var 3 (pv 3))) dpa_nil))))) da_nil)))))) dss_nil)
    (dss_cons (ds_set (i := 5) sc__law_form.nd rfl (by first | exact Or.inl rfl | exact Or.inr rfl) (de_add de_int (de_callC C__law_take hr (by rfl) (dpa_cons (dp_own 0 (pv 0)) (dpa_cons (DE.dp (de_sub (de_var 1 (pv 1)) de_int)) dpa_nil)))))
    (dss_cons (ds_par (i := 4) (j := 6) rfl sc__law_form.nd rfl rfl (by decide) rfl rfl (de_callC C__law_of hr (by rfl) (dpa_cons (dp_own 0 (pv 0)) (dpa_cons (DE.dp (DN.de (dn_lst (da_cons de_str (da_cons de_str (da_cons de_str (da_cons de_str da_nil))))))) dpa_nil))) (de_callC C__law_form hr (by rfl) (dpa_cons (dp_own 0 (pv 0)) (dpa_cons (DE.dp (de_var 5 (pv 5))) (dpa_cons (DE.dp (de_var 2 (pv 2))) (dpa_cons (DE.dp (de_var 3 (pv 3))) dpa_nil))))) (by rfl))
    (dss_one (ds_ret (de_tup (da_cons (de_var 4 (pv 4)) (da_cons (de_var 6 (pv 6)) (da_cons (de_callC C__law_form hr (by rfl) (dpa_cons (dp_own 0 (pv 0)) (dpa_cons (DE.dp (de_sub (de_sub (de_var 1 (pv 1)) de_int) (de_var 5 (pv 5)))) (dpa_cons (DE.dp (de_var 2 (pv 2))) (dpa_cons (DE.dp (de_var 3 (pv 3))) dpa_nil))))) da_nil))))))))))
def W__law_at : WS :=
  (wSeq (wAsgG (wgTup 2 (wgCons (wgName 2) (wgCons (wgName 3) wgNil))) (wVar 0))
    (wRet (wIf (wB (wOp ltD (wVar 1) (wCB lenD (wCons (wVar 2) wNil)))) (wVar 1) (wOp addD (wCB lenD (wCons (wVar 2) wNil)) (wOp modD (wCB intT (wCons (wOp subD (wVar 1) (wCB lenD (wCons (wVar 2) wNil))) wNil)) (wCB lenD (wCons (wVar 3) wNil)))))))
theorem d__law_at {P : Program} {w : World} {K : PySem.W.Frag} {mg : Str → Option Value} {base : Heap} {k : Nat} (T : Txt K mg) {f : Addr} {cdv : Value} {A : Around} {outer : List Env} {s : Shared} {H : Hp} {E : XK} (hr : Room k (A.deeper (envOfC "_law_at" (defScope s__law_at) s.heap.objs.size f cdv))) :
    DSs (cxOf CX0 P w K mg base N__law_at "_law_at" (defScope s__law_at) f cdv A outer s H E).nox (defBody s__law_at) (W__law_at) :=
  (dss_cons (ds_asg (de_var 0 (pv 0)) (dg_tup rfl (dgs_cons (dg_name (i := 2) sc__law_at.nd rfl (by first | exact Or.inl rfl | exact Or.inr rfl)) (dgs_cons (dg_name (i := 3) sc__law_at.nd rfl (by first | exact Or.inl rfl | exact Or.inr rfl)) dgs_nil))))
    (dss_one (ds_ret (de_if (dt_lt (de_var 1 (pv 1)) (de_len (by rfl) T.z_len (de_var 2 (pv 2)))) (de_var 1 (pv 1)) (de_add (de_len (by rfl) T.z_len (de_var 2 (pv 2))) (de_mod (de_intT (by rfl) T.z_int (de_sub (de_var 1 (pv 1)) (de_len (by rfl) T.z_len (de_var 2 (pv 2))))) (de_len (by rfl) T.z_len (de_var 3 (pv 3)))))))))
def W__law_goes : WS :=
  (wSeq (wIfS (wB (wOp eqD (wVar 0) (wC (.str "ever")))) (wRet (wOp neD (wL (wLc (wSeqI (wVar 3)) (wgName 4) (wB (wOp ixD (wVar 1) (wVar 4))) (wVar 4) [4])) (wL (wLst wNil)))) wNext)
    (wSeq (wIfS (wB (wOp eqD (wVar 0) (wC (.str "always")))) (wRet (wOp eqD (wL (wLc (wSeqI (wVar 3)) (wgName 4) (wNot (wB (wOp ixD (wVar 1) (wVar 4)))) (wVar 4) [4])) (wL (wLst wNil)))) wNext)
    (wSeq (wFor (wSeqI (wVar 3)) (wgName 4) (wIfS (wOr (wB (wOp ixD (wVar 2) (wVar 4))) (wNot (wB (wOp ixD (wVar 1) (wVar 4))))) (wRet (wOp ixD (wVar 2) (wVar 4))) wNext))
    (wRet (wOp eqD (wVar 0) (wC (.str "unless")))))))
theorem d__law_goes {P : Program} {w : World} {K : PySem.W.Frag} {mg : Str → Option Value} {base : Heap} {k : Nat} (T : Txt K mg) {f : Addr} {cdv : Value} {A : Around} {outer : List Env} {s : Shared} {H : Hp} {E : XK} (hr : Room k (A.deeper (envOfC "_law_goes" (defScope s__law_goes) s.heap.objs.size f cdv))) :
    DSs (cxOf CX0 P w K mg base N__law_goes "_law_goes" (defScope s__law_goes) f cdv A outer s H E).nox (defBody s__law_goes) (W__law_goes) :=
  (dss_cons (ds_if (dt_eq hr.units (de_var 0 (pv 0)) de_str) (dss_one (ds_ret (de_ne hr.units (DN.de (dn_lc rfl sc__law_goes.nd (own := [("k", 4)]) (di_seq (de_var 3 (pv 3))) (blkOk_by (own := [("k", 4)]) (N := N__law_goes) (sc := defScope s__law_goes) (by decide +kernel)) (fun _ _ _ _ _ => (dg_name (i := 4) sc__law_goes.nd rfl (by first | exact Or.inl rfl | exact Or.inr rfl))) (fun _ _ _ _ _ => (dts_one (dt_val (de_ix (de_var 1 (pv 1)) (de_var 4 (pv 4)))))) (fun _ _ _ _ _ => (de_var 4 (pv 4))) (by decide))) (DN.de (dn_lst da_nil))))) dss_nil)
    (dss_cons (ds_if (dt_eq hr.units (de_var 0 (pv 0)) de_str) (dss_one (ds_ret (de_eq hr.units (DN.de (dn_lc rfl sc__law_goes.nd (own := [("k", 4)]) (di_seq (de_var 3 (pv 3))) (blkOk_by (own := [("k", 4)]) (N := N__law_goes) (sc := defScope s__law_goes) (by decide +kernel)) (fun _ _ _ _ _ => (dg_name (i := 4) sc__law_goes.nd rfl (by first | exact Or.inl rfl | exact Or.inr rfl))) (fun _ _ _ _ _ => (dts_one (dt_not (dt_val (de_ix (de_var 1 (pv 1)) (de_var 4 (pv 4))))))) (fun _ _ _ _ _ => (de_var 4 (pv 4))) (by decide))) (DN.de (dn_lst da_nil))))) dss_nil)
    (dss_cons (ds_for PassesOwn.never rfl (di_seq (de_var 3 (pv 3))) (dg_name (i := 4) sc__law_goes.nd rfl (by first | exact Or.inl rfl | exact Or.inr rfl)) (dss_one (ds_if (DW.dt (dw_or (dt_val (de_ix (de_var 2 (pv 2)) (de_var 4 (pv 4)))) (dw_or1 (dt_not (dt_val (de_ix (de_var 1 (pv 1)) (de_var 4 (pv 4)))))))) (dss_one (ds_ret (de_ix (de_var 2 (pv 2)) (de_var 4 (pv 4))))) dss_nil)))
    (dss_one (ds_ret (de_eq hr.units (de_var 0 (pv 0)) de_str))))))
def W__law_rows (S__law_rows : PSp) (S__law_at : PSp) (S__law_goes : PSp) : WS :=
  (wSeq (wAsgG (wgTup 2 (wgCons (wgName 2) (wgCons (wgName 3) wgNil))) (wTup (wCons (wOp addD (wOp ixD (wVar 1) (wC (.int 0))) (wOp ixD (wVar 1) (wC (.int 1)))) (wCons (wOp ixD (wVar 0) (wC (.int 0))) wNil))))
    (wSeq (wIfS (wB (wOp inD (wVar 3) (wTup (wCons (wC (.str "true")) (wCons (wC (.str "word")) wNil))))) (wRetL (wLc (wSeqI (wVar 2)) (wgName 8) wYes (wOrV (wOp eqD (wVar 3) (wC (.str "true"))) (wOp inD (wOp ixD (wVar 0) (wC (.int 1))) (wVar 8))) [8])) wNext)
    (wSeq (wAsgG (wgTup 2 (wgCons (wgName 4) (wgCons (wgName 5) wgNil))) (wTup (wCons (wCall S__law_rows (wPCons (wD (wOp ixD (wVar 0) (wC (.int 1)))) (wPCons (wD (wVar 1)) wPNil))) (wCons (wCB lenD (wCons (wVar 2) wNil)) wNil))))
    (wSeq (wAsg 6 (wIf (wB (wOp gtD (wCB lenD (wCons (wVar 0) wNil)) (wC (.int 2)))) (wCall S__law_rows (wPCons (wD (wOp ixD (wVar 0) (wC (.int 2)))) (wPCons (wD (wVar 1)) wPNil))) (wVar 4)))
    (wSeq (wIfS (wB (wOp eqD (wVar 3) (wC (.str "not")))) (wRetL (wLc (wSeqI (wVar 4)) (wgName 8) wYes (wNotV (wVar 8)) [8])) wNext)
    (wSeq (wIfS (wB (wOp eqD (wVar 3) (wC (.str "next")))) (wRetL (wLc (wRng1 (wVar 5)) (wgName 9) wYes (wOp ixD (wVar 4) (wCall S__law_at (wPCons (wD (wVar 1)) (wPCons (wD (wOp addD (wVar 9) (wC (.int 1)))) wPNil)))) [9])) wNext)
    (wSeq (wIfS (wB (wOp eqD (wVar 3) (wC (.str "and")))) (wRetL (wLc (wRng1 (wVar 5)) (wgName 9) wYes (wAndV (wOp ixD (wVar 4) (wVar 9)) (wOp ixD (wVar 6) (wVar 9))) [9])) wNext)
    (wSeq (wIfS (wB (wOp eqD (wVar 3) (wC (.str "or")))) (wRetL (wLc (wRng1 (wVar 5)) (wgName 9) wYes (wOrV (wOp ixD (wVar 4) (wVar 9)) (wOp ixD (wVar 6) (wVar 9))) [9])) wNext)
    (wSeq (wAsg 7 (wL (wLc (wRng1 (wVar 5)) (wgName 9) wYes (wL (wLc (wRng1 (wVar 5)) (wgName 10) wYes (wCall S__law_at (wPCons (wD (wVar 1)) (wPCons (wD (wOp addD (wVar 9) (wVar 10))) wPNil))) [10])) [9])))
    (wRetL (wLc (wSeqI (wVar 7)) (wgName 11) wYes (wCall S__law_goes (wPCons (wD (wVar 3)) (wPCons (wD (wVar 4)) (wPCons (wD (wVar 6)) (wPCons (wD (wVar 11)) wPNil))))) [11])))))))))))
theorem d__law_rows {P : Program} {w : World} {K : PySem.W.Frag} {mg : Str → Option Value} {base : Heap} {k : Nat} {S__law_rows : PSp} {S__law_at : PSp} {S__law_goes : PSp} (T : Txt K mg) (C__law_rows : Cal P w K mg base "_law_rows" ["form", "ring"] k S__law_rows) (C__law_at : Cal P w K mg base "_law_at" ["ring", "k"] k S__law_at) (C__law_goes : Cal P w K mg base "_law_goes" ["head", "near", "far", "walk"] k S__law_goes) {f : Addr} {cdv : Value} {A : Around} {outer : List Env} {s : Shared} {H : Hp} {E : XK} (hr : Room k (A.deeper (envOfC "_law_rows" (defScope s__law_rows) s.heap.objs.size f cdv))) :
    DSs (cxOf CX0 P w K mg base N__law_rows "_law_rows" (defScope s__law_rows) f cdv A outer s H E).nox (defBody s__law_rows) (W__law_rows S__law_rows S__law_at S__law_goes) :=
  (dss_cons (ds_asg (de_tup (da_cons (de_add (de_ix (de_var 1 (pv 1)) de_int) (de_ix (de_var 1 (pv 1)) de_int)) (da_cons (de_ix (de_var 0 (pv 0)) de_int) da_nil))) (dg_tup rfl (dgs_cons (dg_name (i := 2) sc__law_rows.nd rfl (by first | exact Or.inl rfl | exact Or.inr rfl)) (dgs_cons (dg_name (i := 3) sc__law_rows.nd rfl (by first | exact Or.inl rfl | exact Or.inr rfl)) dgs_nil))))
    (dss_cons (ds_if (dt_in (de_var 3 (pv 3)) (de_tup (da_cons de_str (da_cons de_str da_nil)))) (dss_one (ds_retL (dn_lc rfl sc__law_rows.nd (own := [("own", 8)]) (di_seq (de_var 2 (pv 2))) (blkOk_by (own := [("own", 8)]) (N := N__law_rows) (sc := defScope s__law_rows) (by decide +kernel)) (fun _ _ _ _ _ => (dg_name (i := 8) sc__law_rows.nd rfl (by first | exact Or.inl rfl | exact Or.inr rfl))) (fun _ _ _ _ _ => dts_nil) (fun _ _ _ _ _ => (de_or (de_eq hr.units (de_var 3 (pv 3)) de_str) (de_one (de_in (de_ix (de_var 0 (pv 0)) de_int) (de_var 8 (pv 8)))))) (by decide)))) dss_nil)
    (dss_cons (ds_asg (de_tup (da_cons (de_callC C__law_rows hr (by rfl) (dpa_cons (DE.dp (de_ix (de_var 0 (pv 0)) de_int)) (dpa_cons (DE.dp (de_var 1 (pv 1))) dpa_nil))) (da_cons (de_len (by rfl) T.z_len (de_var 2 (pv 2))) da_nil))) (dg_tup rfl (dgs_cons (dg_name (i := 4) sc__law_rows.nd rfl (by first | exact Or.inl rfl | exact Or.inr rfl)) (dgs_cons (dg_name (i := 5) sc__law_rows.nd rfl (by first | exact Or.inl rfl | exact Or.inr rfl)) dgs_nil))))
    (dss_cons (ds_set (i := 6) sc__law_rows.nd rfl (by first | exact Or.inl rfl | exact Or.inr rfl) (de_if (dt_gt (de_len (by rfl) T.z_len (de_var 0 (pv 0))) de_int) (de_callC C__law_rows hr (by rfl) (dpa_cons (DE.dp (de_ix (de_var 0 (pv 0)) de_int)) (dpa_cons (DE.dp (de_var 1 (pv 1))) dpa_nil))) (de_var 4 (pv 4))))
    (dss_cons (ds_if (dt_eq hr.units (de_var 3 (pv 3)) de_str) (dss_one (ds_retL (dn_lc rfl sc__law_rows.nd (own := [("own", 8)]) (di_seq (de_var 4 (pv 4))) (blkOk_by (own := [("own", 8)]) (N := N__law_rows) (sc := defScope s__law_rows) (by decide +kernel)) (fun _ _ _ _ _ => (dg_name (i := 8) sc__law_rows.nd rfl (by first | exact Or.inl rfl | exact Or.inr rfl))) (fun _ _ _ _ _ => dts_nil) (fun _ _ _ _ _ => (de_not (de_var 8 (pv 8)))) (by decide)))) dss_nil)
    (dss_cons (ds_if (dt_eq hr.units (de_var 3 (pv 3)) de_str) (dss_one (ds_retL (dn_lc rfl sc__law_rows.nd (own := [("k", 9)]) (di_range1 (by rfl) T.z_range (de_var 5 (pv 5))) (blkOk_by (own := [("k", 9)]) (N := N__law_rows) (sc := defScope s__law_rows) (by decide +kernel)) (fun _ _ _ _ _ => (dg_name (i := 9) sc__law_rows.nd rfl (by first | exact Or.inl rfl | exact Or.inr rfl))) (fun _ _ _ _ _ => dts_nil) (fun _ _ _ _ _ => (de_ix (de_var 4 (pv 4)) (de_callC C__law_at hr (by rfl) (dpa_cons (DE.dp (de_var 1 (pv 1))) (dpa_cons (DE.dp (de_add (de_var 9 (pv 9)) de_int)) dpa_nil))))) (by decide)))) dss_nil)
    (dss_cons (ds_if (dt_eq hr.units (de_var 3 (pv 3)) de_str) (dss_one (ds_retL (dn_lc rfl sc__law_rows.nd (own := [("k", 9)]) (di_range1 (by rfl) T.z_range (de_var 5 (pv 5))) (blkOk_by (own := [("k", 9)]) (N := N__law_rows) (sc := defScope s__law_rows) (by decide +kernel)) (fun _ _ _ _ _ => (dg_name (i := 9) sc__law_rows.nd rfl (by first | exact Or.inl rfl | exact Or.inr rfl))) (fun _ _ _ _ _ => dts_nil) (fun _ _ _ _ _ => (de_and (de_ix (de_var 4 (pv 4)) (de_var 9 (pv 9))) (de_one (de_ix (de_var 6 (pv 6)) (de_var 9 (pv 9)))))) (by decide)))) dss_nil)
    (dss_cons (ds_if (dt_eq hr.units (de_var 3 (pv 3)) de_str) (dss_one (ds_retL (dn_lc rfl sc__law_rows.nd (own := [("k", 9)]) (di_range1 (by rfl) T.z_range (de_var 5 (pv 5))) (blkOk_by (own := [("k", 9)]) (N := N__law_rows) (sc := defScope s__law_rows) (by decide +kernel)) (fun _ _ _ _ _ => (dg_name (i := 9) sc__law_rows.nd rfl (by first | exact Or.inl rfl | exact Or.inr rfl))) (fun _ _ _ _ _ => dts_nil) (fun _ _ _ _ _ => (de_or (de_ix (de_var 4 (pv 4)) (de_var 9 (pv 9))) (de_one (de_ix (de_var 6 (pv 6)) (de_var 9 (pv 9)))))) (by decide)))) dss_nil)
    (dss_cons (ds_setLc (i := 7) rfl sc__law_rows.nd rfl rfl (sw_true rfl rfl rfl (by decide +kernel)) (own := [("k", 9)]) (di_range1 (by rfl) T.z_range (de_var 5 (pv 5))) (blkOk_by (own := [("k", 9)]) (N := N__law_rows) (sc := defScope s__law_rows) (by decide +kernel)) (fun _ _ _ _ _ => (dg_name (i := 9) sc__law_rows.nd rfl (by first | exact Or.inl rfl | exact Or.inr rfl))) (fun _ _ _ _ _ => dts_nil) (fun _ _ _ _ _ => (DN.de (dn_lc rfl sc__law_rows.nd (own := [("lap", 10)]) (di_range1 (by rfl) T.z_range (de_var 5 (pv 5))) (by refine blkOk_by (own := [("lap", 10)]) ?_; rfl) (fun _ _ _ _ _ => (dg_name (i := 10) sc__law_rows.nd rfl (by first | exact Or.inl rfl | exact Or.inr rfl))) (fun _ _ _ _ _ => dts_nil) (fun _ _ _ _ _ => (de_callC C__law_at hr (by rfl) (dpa_cons (DE.dp (de_var 1 (pv 1))) (dpa_cons (DE.dp (de_add (de_var 9 (pv 9)) (de_var 10 (pv 10)))) dpa_nil)))) (by decide)))) (by decide))
    (dss_one (ds_retL (dn_lc rfl sc__law_rows.nd (own := [("walk", 11)]) (di_seq (de_var 7 (pv 7))) (blkOk_by (own := [("walk", 11)]) (N := N__law_rows) (sc := defScope s__law_rows) (by decide +kernel)) (fun _ _ _ _ _ => (dg_name (i := 11) sc__law_rows.nd rfl (by first | exact Or.inl rfl | exact Or.inr rfl))) (fun _ _ _ _ _ => dts_nil) (fun _ _ _ _ _ => (de_callC C__law_goes hr (by rfl) (dpa_cons (DE.dp (de_var 3 (pv 3))) (dpa_cons (DE.dp (de_var 4 (pv 4))) (dpa_cons (DE.dp (de_var 6 (pv 6))) (dpa_cons (DE.dp (de_var 11 (pv 11))) dpa_nil)))))) (by decide)))))))))))))
def W__law_kit : WS :=
  (wRet (wTup (wCons (wTup (wCons (wC (.str "word")) (wCons (wC (.str "a")) wNil))) (wCons (wTup (wCons (wC (.str "word")) (wCons (wC (.str "b")) wNil))) (wCons (wTup (wCons (wTup (wCons (wTup (wCons (wC (.str "a")) wNil)) wNil)) (wCons (wTup (wCons (wTup (wCons (wC (.str "b")) wNil)) (wCons (wTup wNil) wNil))) wNil))) (wCons (wTup (wCons (wTup wNil) (wCons (wTup (wCons (wTup (wCons (wC (.str "a")) (wCons (wC (.str "b")) wNil))) (wCons (wTup (wCons (wC (.str "a")) wNil)) (wCons (wTup wNil) wNil)))) wNil))) wNil))))))
theorem d__law_kit {P : Program} {w : World} {K : PySem.W.Frag} {mg : Str → Option Value} {base : Heap} {k : Nat} (T : Txt K mg) {f : Addr} {cdv : Value} {A : Around} {outer : List Env} {s : Shared} {H : Hp} {E : XK} (hr : Room k (A.deeper (envOfC "_law_kit" (defScope s__law_kit) s.heap.objs.size f cdv))) :
    DSs (cxOf CX0 P w K mg base N__law_kit "_law_kit" (defScope s__law_kit) f cdv A outer s H E).nox (defBody s__law_kit) (W__law_kit) :=
  (dss_one (ds_ret (de_tup (da_cons (de_tup (da_cons de_str (da_cons de_str da_nil))) (da_cons (de_tup (da_cons de_str (da_cons de_str da_nil))) (da_cons (de_tup (da_cons (de_tup (da_cons (de_tup (da_cons de_str da_nil)) da_nil)) (da_cons (de_tup (da_cons (de_tup (da_cons de_str da_nil)) (da_cons (de_tup da_nil) da_nil))) da_nil))) (da_cons (de_tup (da_cons (de_tup da_nil) (da_cons (de_tup (da_cons (de_tup (da_cons de_str (da_cons de_str da_nil))) (da_cons (de_tup (da_cons de_str da_nil)) (da_cons (de_tup da_nil) da_nil)))) da_nil))) da_nil)))))))
def W__law_heard (CE_NoNumber : Addr) (S_true_at : PSpX) : WS :=
  (wSeq (wAsgG (wgTup 2 (wgCons (wgName 3) (wgCons (wgName 4) wgNil))) (wTup (wCons (wC .none) (wCons (wC .none) wNil))))
    (wSeq (wTry1 5 3 CE_NoNumber (consI (fun _ => some (.str "number")) (consI (fld1 "number") (consI (fun _ => some (.bool true)) (fun _ => some [])))) (wSetX 4 (wCallX S_true_at (wPCons (wD (wVar 0)) (wPCons (wD (wVar 1)) (wPCons (wD (wVar 2)) wPNil))))))
    (wRet (wIf (wB (wOp isND (wVar 3) (wC .none))) (wVar 4) (wVar 3)))))
theorem d__law_heard {P : Program} {w : World} {K : PySem.W.Frag} {mg : Str → Option Value} {base : Heap} {k : Nat} {CE_NoNumber fI_NoNumber : Addr} {CB_ModelError : Addr} {S_true_at : PSpX} (T : Txt K mg) (TX_NoNumber : PySem.NoNumberX.NoNumberTxt K mg CE_NoNumber fI_NoNumber) (TI_NoNumber_ModelError : IsiC K CE_NoNumber CB_ModelError) (mB_ModelError : mg "ModelError" = some (.ref CB_ModelError)) (C_true_at : CalX P w K mg base "true_at" ["formula", "loop", "number"] k S_true_at) {f : Addr} {cdv : Value} {A : Around} {outer : List Env} {s : Shared} {H : Hp} {E : XK} (hr : Room k (A.deeper (envOfC "_law_heard" (defScope s__law_heard) s.heap.objs.size f cdv))) :
    DSs (cxOf CX0 P w K mg base N__law_heard "_law_heard" (defScope s__law_heard) f cdv A outer s H E).nox (defBody s__law_heard) (W__law_heard CE_NoNumber S_true_at) :=
  (dss_cons (ds_asg (de_tup (da_cons de_non (da_cons de_non da_nil))) (dg_tup rfl (dgs_cons (dg_name (i := 3) sc__law_heard.nd rfl (by first | exact Or.inl rfl | exact Or.inr rfl)) (dgs_cons (dg_name (i := 4) sc__law_heard.nd rfl (by first | exact Or.inl rfl | exact Or.inr rfl)) dgs_nil))))
    (dss_cons (ds_try1 (i := 5) (j := 3) rfl rfl sc__law_heard.nd rfl (by rfl) ⟨by rfl, by decide, .inl TX_NoNumber.gC⟩ TX_NoNumber.te (fun pn xe => (dss_one (ds_setX (i := 4) sc__law_heard.nd rfl (by first | exact Or.inl rfl | exact Or.inr rfl) (dex_call C_true_at hr (by rfl) (dpa_cons (DE.dp (de_var 0 (pv 0))) (dpa_cons (DE.dp (de_var 1 (pv 1))) (dpa_cons (DE.dp (de_var 2 (pv 2))) dpa_nil))))))) takes_not (fun a oe d pn hz hf => (sis_cons si_str (sis_cons (si_fld_NoNumber TX_NoNumber hz hf (pv 5)) (sis_cons (si_isi TI_NoNumber_ModelError hz hf (pv 5) (by rfl) T.z_isinstance (by rfl) mB_ModelError) sis_nil)))) (fun a oe pn t h => ps_set (i := 3) sc__law_heard.nd rfl (by first | exact Or.inl rfl | exact Or.inr rfl) h))
    (dss_one (ds_ret (de_if (dt_isN (de_var 3 (pv 3)) de_non) (de_var 4 (pv 4)) (de_var 3 (pv 3)))))))
def W__law_spots (S__law_rows : PSp) : WS :=
  (wRet (wCB tupT (wCons (wL (wLc (wEnum (wCall S__law_rows (wPCons (wD (wVar 0)) (wPCons (wD (wVar 1)) wPNil)))) (wgTup 2 (wgCons (wgName 2) (wgCons (wgName 3) wgNil))) (wB (wVar 3)) (wVar 2) [2, 3])) wNil)))
theorem d__law_spots {P : Program} {w : World} {K : PySem.W.Frag} {mg : Str → Option Value} {base : Heap} {k : Nat} {S__law_rows : PSp} (T : Txt K mg) (C__law_rows : Cal P w K mg base "_law_rows" ["form", "ring"] k S__law_rows) {f : Addr} {cdv : Value} {A : Around} {outer : List Env} {s : Shared} {H : Hp} {E : XK} (hr : Room k (A.deeper (envOfC "_law_spots" (defScope s__law_spots) s.heap.objs.size f cdv))) :
    DSs (cxOf CX0 P w K mg base N__law_spots "_law_spots" (defScope s__law_spots) f cdv A outer s H E).nox (defBody s__law_spots) (W__law_spots S__law_rows) :=
  (dss_one (ds_ret (de_tupT (by rfl) T.z_tuple (DN.de (dn_lc rfl sc__law_spots.nd (own := [("k", 2), ("own", 3)]) (di_enum (by rfl) T.z_enumerate (de_callC C__law_rows hr (by rfl) (dpa_cons (DE.dp (de_var 0 (pv 0))) (dpa_cons (DE.dp (de_var 1 (pv 1))) dpa_nil)))) (blkOk_by (own := [("k", 2), ("own", 3)]) (N := N__law_spots) (sc := defScope s__law_spots) (by decide +kernel)) (fun _ _ _ _ _ => (dg_tup rfl (dgs_cons (dg_name (i := 2) sc__law_spots.nd rfl (by first | exact Or.inl rfl | exact Or.inr rfl)) (dgs_cons (dg_name (i := 3) sc__law_spots.nd rfl (by first | exact Or.inl rfl | exact Or.inr rfl)) dgs_nil)))) (fun _ _ _ _ _ => (dts_one (dt_val (de_var 3 (pv 3))))) (fun _ _ _ _ _ => (de_var 2 (pv 2))) (by decide))))))
def W__law_by_hand_right (S__law_kit : PSp) (S_is_true : PSp) (S_places_true : PSp) (S_true_at : PSpX) (S__law_heard : PSp) (S__law_same : PSp) : WS :=
  (wSeq (wAsgG (wgTup 4 (wgCons (wgName 0) (wgCons (wgName 1) (wgCons (wgName 2) (wgCons (wgName 3) wgNil))))) (wCall S__law_kit wPNil))
    (wSeq (wAsg 4 (wL (wLst (wCons (wTup (wCons (wC (.str "true")) wNil)) (wCons (wVar 0) (wCons (wVar 1) (wCons (wTup (wCons (wC (.str "not")) (wCons (wVar 0) wNil))) (wCons (wTup (wCons (wC (.str "and")) (wCons (wVar 0) (wCons (wVar 1) wNil)))) (wCons (wTup (wCons (wC (.str "or")) (wCons (wVar 0) (wCons (wVar 1) wNil)))) (wCons (wTup (wCons (wC (.str "next")) (wCons (wVar 1) wNil))) (wCons (wTup (wCons (wC (.str "next")) (wCons (wVar 0) wNil))) wNil)))))))))))
    (wSeq (wAsg 4 (wOp addD (wVar 4) (wL (wLst (wCons (wTup (wCons (wC (.str "until")) (wCons (wVar 0) (wCons (wVar 1) wNil)))) (wCons (wTup (wCons (wC (.str "until")) (wCons (wTup (wCons (wC (.str "true")) wNil)) (wCons (wVar 1) wNil)))) (wCons (wTup (wCons (wC (.str "ever")) (wCons (wVar 0) wNil))) (wCons (wTup (wCons (wC (.str "always")) (wCons (wTup (wCons (wC (.str "or")) (wCons (wVar 0) (wCons (wVar 1) wNil)))) wNil))) wNil))))))))
    (wSeq (wAsg 4 (wOp addD (wVar 4) (wL (wLst (wCons (wTup (wCons (wC (.str "always")) (wCons (wTup (wCons (wC (.str "ever")) (wCons (wVar 1) wNil))) wNil))) (wCons (wTup (wCons (wC (.str "ever")) (wCons (wTup (wCons (wC (.str "always")) (wCons (wTup (wCons (wC (.str "not")) (wCons (wVar 0) wNil))) wNil))) wNil))) (wCons (wTup (wCons (wC (.str "unless")) (wCons (wVar 0) (wCons (wVar 1) wNil)))) wNil)))))))
    (wSeq (wAsg 4 (wOp addD (wVar 4) (wL (wLst (wCons (wTup (wCons (wC (.str "unless")) (wCons (wTup (wCons (wC (.str "not")) (wCons (wVar 0) wNil))) (wCons (wVar 0) wNil)))) (wCons (wTup (wCons (wC (.str "until")) (wCons (wTup (wCons (wC (.str "not")) (wCons (wVar 0) wNil))) (wCons (wVar 0) wNil)))) (wCons (wTup (wCons (wC (.str "not")) (wCons (wTup (wCons (wC (.str "until")) (wCons (wVar 0) (wCons (wVar 1) wNil)))) wNil))) wNil)))))))
    (wSeq (wAsg 4 (wOp addD (wVar 4) (wL (wLst (wCons (wTup (wCons (wC (.str "next")) (wCons (wTup (wCons (wC (.str "next")) (wCons (wVar 1) wNil))) wNil))) (wCons (wTup (wCons (wC (.str "until")) (wCons (wTup (wCons (wC (.str "not")) (wCons (wVar 1) wNil))) (wCons (wVar 1) wNil)))) (wCons (wTup (wCons (wC (.str "word")) (wCons (wC (.str "c")) wNil))) (wCons (wTup (wCons (wC (.str "always")) (wCons (wTup (wCons (wC (.str "word")) (wCons (wC (.str "c")) wNil))) wNil))) wNil))))))))
    (wSeq (wAsgL 5 (wLst (wCons (wL (wLc (wSeqI (wVar 4)) (wgName 10) wYes (wCall S_places_true (wPCons (wD (wVar 10)) (wPCons (wD (wVar 2)) wPNil))) [10])) (wCons (wL (wLc (wSeqI (wVar 4)) (wgName 10) wYes (wCall S_is_true (wPCons (wD (wVar 10)) (wPCons (wD (wVar 2)) wPNil))) [10])) wNil))))
    (wSeq (wAsg 6 (wL (wLst (wCons (wTup (wCons (wC (.int 0)) (wCons (wC (.int 1)) (wCons (wC (.int 2)) wNil)))) (wCons (wTup (wCons (wC (.int 0)) wNil)) (wCons (wTup (wCons (wC (.int 1)) wNil)) (wCons (wTup (wCons (wC (.int 1)) (wCons (wC (.int 2)) wNil))) (wCons (wTup wNil) (wCons (wTup (wCons (wC (.int 0)) (wCons (wC (.int 1)) wNil))) (wCons (wTup (wCons (wC (.int 0)) (wCons (wC (.int 2)) wNil))) (wCons (wTup wNil) wNil)))))))))))
    (wSeq (wAsg 6 (wOp addD (wVar 6) (wL (wLst (wCons (wTup (wCons (wC (.int 0)) (wCons (wC (.int 1)) wNil))) (wCons (wTup (wCons (wC (.int 0)) (wCons (wC (.int 1)) (wCons (wC (.int 2)) wNil)))) (wCons (wTup (wCons (wC (.int 0)) wNil)) (wCons (wTup wNil) wNil))))))))
    (wSeq (wAsg 6 (wOp addD (wVar 6) (wL (wLst (wCons (wTup (wCons (wC (.int 0)) (wCons (wC (.int 1)) (wCons (wC (.int 2)) wNil)))) (wCons (wTup (wCons (wC (.int 0)) (wCons (wC (.int 1)) (wCons (wC (.int 2)) wNil)))) (wCons (wTup (wCons (wC (.int 0)) (wCons (wC (.int 1)) wNil))) wNil)))))))
    (wSeq (wAsg 6 (wOp addD (wVar 6) (wL (wLst (wCons (wTup (wCons (wC (.int 0)) (wCons (wC (.int 1)) (wCons (wC (.int 2)) wNil)))) (wCons (wTup (wCons (wC (.int 0)) wNil)) (wCons (wTup (wCons (wC (.int 2)) wNil)) wNil)))))))
    (wSeq (wAsg 6 (wOp addD (wVar 6) (wL (wLst (wCons (wTup (wCons (wC (.int 1)) wNil)) (wCons (wTup (wCons (wC (.int 0)) (wCons (wC (.int 1)) (wCons (wC (.int 2)) wNil)))) (wCons (wTup wNil) (wCons (wTup wNil) wNil))))))))
    (wSeq (wAsgL 6 (wLst (wCons (wVar 6) (wCons (wL (wLc (wSeqI (wVar 6)) (wgName 10) wYes (wOp eqD (wSl (wVar 10) wNone (wSome (wC (.int 1)))) (wTup (wCons (wC (.int 0)) wNil))) [10])) wNil))))
    (wSeq (wAsg 4 (wL (wLst (wCons (wTup (wCons (wC (.str "and")) (wCons (wVar 0) (wCons (wVar 1) wNil)))) (wCons (wTup (wCons (wC (.str "always")) (wCons (wVar 0) wNil))) (wCons (wTup (wCons (wC (.str "ever")) (wCons (wTup (wCons (wC (.str "not")) (wCons (wVar 0) wNil))) wNil))) (wCons (wTup (wCons (wC (.str "until")) (wCons (wVar 0) (wCons (wTup (wCons (wC (.str "not")) (wCons (wVar 0) wNil))) wNil)))) (wCons (wTup (wCons (wC (.str "next")) (wCons (wTup (wCons (wC (.str "until")) (wCons (wVar 1) (wCons (wVar 0) wNil)))) wNil))) wNil))))))))
    (wSeq (wAsg 4 (wOp addD (wVar 4) (wL (wLst (wCons (wTup (wCons (wC (.str "unless")) (wCons (wVar 1) (wCons (wTup (wCons (wC (.str "not")) (wCons (wVar 0) wNil))) wNil)))) (wCons (wTup (wCons (wC (.str "until")) (wCons (wVar 1) (wCons (wVar 0) wNil)))) (wCons (wTup (wCons (wC (.str "always")) (wCons (wTup (wCons (wC (.str "ever")) (wCons (wTup (wCons (wC (.str "and")) (wCons (wVar 0) (wCons (wVar 1) wNil)))) wNil))) wNil))) wNil)))))))
    (wSeq (wApp 5 (wL (wLc (wSeqI (wVar 4)) (wgName 10) wYes (wCall S_places_true (wPCons (wD (wVar 10)) (wPCons (wD (wVar 3)) wPNil))) [10])))
    (wSeq (wApp 6 (wL (wLst (wCons (wTup (wCons (wC (.int 0)) wNil)) (wCons (wTup wNil) (wCons (wTup (wCons (wC (.int 0)) (wCons (wC (.int 1)) (wCons (wC (.int 2)) wNil)))) (wCons (wTup (wCons (wC (.int 0)) (wCons (wC (.int 1)) (wCons (wC (.int 2)) wNil)))) (wCons (wTup (wCons (wC (.int 0)) (wCons (wC (.int 2)) wNil))) (wCons (wTup (wCons (wC (.int 2)) wNil)) (wCons (wTup (wCons (wC (.int 0)) (wCons (wC (.int 1)) wNil))) (wCons (wTup (wCons (wC (.int 0)) (wCons (wC (.int 1)) (wCons (wC (.int 2)) wNil)))) wNil)))))))))))
    (wSeq (wAsgL 5 (wAddO (wO 5) (wL (wLst (wCons (wL (wLc (wRng1 (wC (.int 6))) (wgName 11) wYes (wCall (noX S_true_at) (wPCons (wD (wVar 1)) (wPCons (wD (wVar 2)) (wPCons (wD (wVar 11)) wPNil)))) [11])) (wCons (wL (wLc (wSeqI (wTup (wCons (wC (.int 0)) (wCons (wC (.int 1)) wNil)))) (wgName 11) wYes (wCall (noX S_true_at) (wPCons (wD (wVar 1)) (wPCons (wD (wVar 2)) (wPCons (wD (wOp addD (wOp powD (wC (.int 10)) (wC (.int 30))) (wVar 11))) wPNil)))) [11])) wNil))))))
    (wSeq (wAsgL 6 (wAddO (wO 6) (wL (wLst (wCons (wL (wLst (wCons (wC (.bool false)) (wCons (wC (.bool true)) (wCons (wC (.bool false)) (wCons (wC (.bool true)) (wCons (wC (.bool false)) (wCons (wC (.bool true)) wNil)))))))) (wCons (wL (wLst (wCons (wC (.bool false)) (wCons (wC (.bool true)) wNil)))) wNil))))))
    (wSeq (wAsgG (wgTup 2 (wgCons (wgName 7) (wgCons (wgName 8) wgNil))) (wTup (wCons (wTup (wCons (wTup wNil) (wCons (wTup (wCons (wTup wNil) wNil)) wNil))) (wCons (wTup (wCons (wTup (wCons (wTup (wCons (wC (.str "a")) wNil)) (wCons (wTup (wCons (wC (.str "a")) wNil)) (wCons (wTup wNil) wNil)))) (wCons (wTup (wCons (wTup (wCons (wC (.str "b")) wNil)) wNil)) wNil))) wNil))))
    (wSeq (wAsg 4 (wL (wLst (wCons (wTup (wCons (wC (.str "always")) (wCons (wTup (wCons (wC (.str "not")) (wCons (wVar 0) wNil))) wNil))) (wCons (wTup (wCons (wC (.str "until")) (wCons (wVar 0) (wCons (wVar 1) wNil)))) (wCons (wTup (wCons (wC (.str "unless")) (wCons (wVar 0) (wCons (wVar 1) wNil)))) (wCons (wTup (wCons (wC (.str "next")) (wCons (wTup (wCons (wC (.str "true")) wNil)) wNil))) (wCons (wTup (wCons (wC (.str "ever")) (wCons (wVar 0) wNil))) wNil))))))))
    (wSeq (wAsgL 5 (wAddO (wO 5) (wL (wLst (wCons (wL (wLc (wSeqI (wVar 4)) (wgName 10) wYes (wCall S_is_true (wPCons (wD (wVar 10)) (wPCons (wD (wVar 7)) wPNil))) [10])) (wCons (wL (wLc (wSeqI (wVar 4)) (wgName 10) wYes (wCall S_places_true (wPCons (wD (wVar 10)) (wPCons (wD (wVar 8)) wPNil))) [10])) wNil))))))
    (wSeq (wAsgL 6 (wAddO (wO 6) (wL (wLst (wCons (wL (wLst (wCons (wC (.bool true)) (wCons (wC (.bool false)) (wCons (wC (.bool false)) (wCons (wC (.bool true)) (wCons (wC (.bool false)) wNil))))))) (wCons (wL (wLst (wCons (wTup (wCons (wC (.int 2)) (wCons (wC (.int 3)) wNil))) (wCons (wTup (wCons (wC (.int 3)) wNil)) (wCons (wTup (wCons (wC (.int 3)) wNil)) (wCons (wTup (wCons (wC (.int 0)) (wCons (wC (.int 1)) (wCons (wC (.int 2)) (wCons (wC (.int 3)) wNil))))) (wCons (wTup (wCons (wC (.int 0)) (wCons (wC (.int 1)) wNil))) wNil))))))) wNil))))))
    (wSeq (wApp 5 (wL (wLc (wSeqI (wTup (wCons (wNeg (wC (.int 1))) (wCons (wNeg (wOp powD (wC (.int 10)) (wC (.int 9)))) wNil)))) (wgName 10) wYes (wCall S__law_heard (wPCons (wD (wVar 1)) (wPCons (wD (wVar 2)) (wPCons (wD (wVar 10)) wPNil)))) [10])))
    (wSeq (wApp 6 (wL (wLst (wCons (wL (wLst (wCons (wC (.str "number")) (wCons (wNeg (wC (.int 1))) (wCons (wC (.bool true)) wNil))))) (wCons (wL (wLst (wCons (wC (.str "number")) (wCons (wNeg (wOp powD (wC (.int 10)) (wC (.int 9)))) (wCons (wC (.bool true)) wNil))))) wNil)))))
    (wSeq (wAsg 9 (wL (wLst (wCons (wL (wLst (wCons (wC (.str "until")) (wCons (wL (wLst (wCons (wC (.str "word")) (wCons (wC (.str "a")) wNil)))) (wCons (wL (wLst (wCons (wC (.str "word")) (wCons (wC (.str "b")) wNil)))) wNil))))) (wCons (wL (wLst (wCons (wL (wLst (wCons (wL (wLst (wCons (wC (.str "a")) wNil))) wNil))) (wCons (wL (wLst (wCons (wL (wLst (wCons (wC (.str "b")) wNil))) (wCons (wL (wLst wNil)) wNil)))) wNil)))) wNil)))))
    (wSeq (wAsgL 5 (wAddO (wO 5) (wL (wLst (wCons (wCallK S_places_true wPNil (wPCons (wD (wOp ixD (wVar 9) (wC (.int 1)))) (wPCons (wD (wOp ixD (wVar 9) (wC (.int 0)))) wPNil)) 0 2 [1, 0]) (wCons (wCallK S_is_true wPNil (wPCons (wD (wOp ixD (wVar 9) (wC (.int 1)))) (wPCons (wD (wOp ixD (wVar 9) (wC (.int 0)))) wPNil)) 0 2 [1, 0]) wNil))))))
    (wSeq (wAsgL 5 (wAddO (wO 5) (wL (wLst (wCons (wCallK (noX S_true_at) wPNil (wPCons (wD (wC (.int 2))) (wPCons (wD (wOp ixD (wVar 9) (wC (.int 1)))) (wPCons (wD (wOp ixD (wVar 9) (wC (.int 0)))) wPNil))) 0 3 [2, 1, 0]) (wCons (wVar 9) wNil))))))
    (wFrz 5 (wSeq (wAsgL 6 (wAddO (wO 6) (wL (wLst (wCons (wTup (wCons (wC (.int 0)) (wCons (wC (.int 1)) wNil))) (wCons (wC (.bool true)) (wCons (wC (.bool false)) (wCons (wL (wLst (wCons (wL (wLst (wCons (wC (.str "until")) (wCons (wL (wLst (wCons (wC (.str "word")) (wCons (wC (.str "a")) wNil)))) (wCons (wL (wLst (wCons (wC (.str "word")) (wCons (wC (.str "b")) wNil)))) wNil))))) (wCons (wL (wLst (wCons (wL (wLst (wCons (wL (wLst (wCons (wC (.str "a")) wNil))) wNil))) (wCons (wL (wLst (wCons (wL (wLst (wCons (wC (.str "b")) wNil))) (wCons (wL (wLst wNil)) wNil)))) wNil)))) wNil)))) wNil))))))))
    (wFrz 6 (wRet (wCall S__law_same (wPCons (wD (wVar 5)) (wPCons (wD (wVar 6)) wPNil)))))))))))))))))))))))))))))))))))
theorem d__law_by_hand_right {P : Program} {w : World} {K : PySem.W.Frag} {mg : Str → Option Value} {base : Heap} {k : Nat} {S__law_kit : PSp} {S_is_true : PSp} {S_places_true : PSp} {S_true_at : PSpX} {S__law_heard : PSp} {S__law_same : PSp} (T : Txt K mg) (C__law_kit : Cal P w K mg base "_law_kit" [] k S__law_kit) (C_is_true : Cal P w K mg base "is_true" ["formula", "loop"] k S_is_true) (C_places_true : Cal P w K mg base "places_true" ["formula", "loop"] k S_places_true) (C_true_at : CalX P w K mg base "true_at" ["formula", "loop", "number"] k S_true_at) (C__law_heard : Cal P w K mg base "_law_heard" ["form", "ring", "k"] k S__law_heard) (C__law_same : Cal P w K mg base "_law_same" ["got", "due"] k S__law_same) (K_is_true_0_loop_formula : CalK P w K mg base "is_true" ["formula", "loop"] k S_is_true 0 ["loop", "formula"] [1, 0]) (K_places_true_0_loop_formula : CalK P w K mg base "places_true" ["formula", "loop"] k S_places_true 0 ["loop", "formula"] [1, 0]) (K_true_at_0_number_loop_formula : CalKX P w K mg base "true_at" ["formula", "loop", "number"] k S_true_at 0 ["number", "loop", "formula"] [2, 1, 0]) {f : Addr} {cdv : Value} {A : Around} {outer : List Env} {s : Shared} {H : Hp} {E : XK} (hr : Room k (A.deeper (envOfC "_law_by_hand_right" (defScope s__law_by_hand_right) s.heap.objs.size f cdv))) :
    DSs (cxOf CX0 P w K mg base N__law_by_hand_right "_law_by_hand_right" (defScope s__law_by_hand_right) f cdv A outer s H E).nox (defBody s__law_by_hand_right) (W__law_by_hand_right S__law_kit S_is_true S_places_true S_true_at S__law_heard S__law_same) :=
  (dss_cons (ds_asg (de_callC0 C__law_kit hr (by rfl)) (dg_tup rfl (dgs_cons (dg_name (i := 0) sc__law_by_hand_right.nd rfl (by first | exact Or.inl rfl | exact Or.inr rfl)) (dgs_cons (dg_name (i := 1) sc__law_by_hand_right.nd rfl (by first | exact Or.inl rfl | exact Or.inr rfl)) (dgs_cons (dg_name (i := 2) sc__law_by_hand_right.nd rfl (by first | exact Or.inl rfl | exact Or.inr rfl)) (dgs_cons (dg_name (i := 3) sc__law_by_hand_right.nd rfl (by first | exact Or.inl rfl | exact Or.inr rfl)) dgs_nil))))))
    (dss_cons (ds_set (i := 4) sc__law_by_hand_right.nd rfl (by first | exact Or.inl rfl | exact Or.inr rfl) (DN.de (dn_lst (da_cons (de_tup (da_cons de_str da_nil)) (da_cons (de_var 0 (pv 0)) (da_cons (de_var 1 (pv 1)) (da_cons (de_tup (da_cons de_str (da_cons (de_var 0 (pv 0)) da_nil))) (da_cons (de_tup (da_cons de_str (da_cons (de_var 0 (pv 0)) (da_cons (de_var 1 (pv 1)) da_nil)))) (da_cons (de_tup (da_cons de_str (da_cons (de_var 0 (pv 0)) (da_cons (de_var 1 (pv 1)) da_nil)))) (da_cons (de_tup (da_cons de_str (da_cons (de_var 1 (pv 1)) da_nil))) (da_cons (de_tup (da_cons de_str (da_cons (de_var 0 (pv 0)) da_nil))) da_nil)))))))))))
    (dss_cons (ds_set (i := 4) sc__law_by_hand_right.nd rfl (by first | exact Or.inl rfl | exact Or.inr rfl) (de_add (de_var 4 (pv 4)) (DN.de (dn_lst (da_cons (de_tup (da_cons de_str (da_cons (de_var 0 (pv 0)) (da_cons (de_var 1 (pv 1)) da_nil)))) (da_cons (de_tup (da_cons de_str (da_cons (de_tup (da_cons de_str da_nil)) (da_cons (de_var 1 (pv 1)) da_nil)))) (da_cons (de_tup (da_cons de_str (da_cons (de_var 0 (pv 0)) da_nil))) (da_cons (de_tup (da_cons de_str (da_cons (de_tup (da_cons de_str (da_cons (de_var 0 (pv 0)) (da_cons (de_var 1 (pv 1)) da_nil)))) da_nil))) da_nil))))))))
    (dss_cons (ds_set (i := 4) sc__law_by_hand_right.nd rfl (by first | exact Or.inl rfl | exact Or.inr rfl) (de_add (de_var 4 (pv 4)) (DN.de (dn_lst (da_cons (de_tup (da_cons de_str (da_cons (de_tup (da_cons de_str (da_cons (de_var 1 (pv 1)) da_nil))) da_nil))) (da_cons (de_tup (da_cons de_str (da_cons (de_tup (da_cons de_str (da_cons (de_tup (da_cons de_str (da_cons (de_var 0 (pv 0)) da_nil))) da_nil))) da_nil))) (da_cons (de_tup (da_cons de_str (da_cons (de_var 0 (pv 0)) (da_cons (de_var 1 (pv 1)) da_nil)))) da_nil)))))))
    (dss_cons (ds_set (i := 4) sc__law_by_hand_right.nd rfl (by first | exact Or.inl rfl | exact Or.inr rfl) (de_add (de_var 4 (pv 4)) (DN.de (dn_lst (da_cons (de_tup (da_cons de_str (da_cons (de_tup (da_cons de_str (da_cons (de_var 0 (pv 0)) da_nil))) (da_cons (de_var 0 (pv 0)) da_nil)))) (da_cons (de_tup (da_cons de_str (da_cons (de_tup (da_cons de_str (da_cons (de_var 0 (pv 0)) da_nil))) (da_cons (de_var 0 (pv 0)) da_nil)))) (da_cons (de_tup (da_cons de_str (da_cons (de_tup (da_cons de_str (da_cons (de_var 0 (pv 0)) (da_cons (de_var 1 (pv 1)) da_nil)))) da_nil))) da_nil)))))))
    (dss_cons (ds_set (i := 4) sc__law_by_hand_right.nd rfl (by first | exact Or.inl rfl | exact Or.inr rfl) (de_add (de_var 4 (pv 4)) (DN.de (dn_lst (da_cons (de_tup (da_cons de_str (da_cons (de_tup (da_cons de_str (da_cons (de_var 1 (pv 1)) da_nil))) da_nil))) (da_cons (de_tup (da_cons de_str (da_cons (de_tup (da_cons de_str (da_cons (de_var 1 (pv 1)) da_nil))) (da_cons (de_var 1 (pv 1)) da_nil)))) (da_cons (de_tup (da_cons de_str (da_cons de_str da_nil))) (da_cons (de_tup (da_cons de_str (da_cons (de_tup (da_cons de_str (da_cons de_str da_nil))) da_nil))) da_nil))))))))
    (dss_cons (ds_setL (i := 5) sc__law_by_hand_right.nd rfl (by first | exact Or.inl rfl | exact Or.inr rfl) (dn_lst (da_cons (DN.de (dn_lc rfl sc__law_by_hand_right.nd (own := [("own", 10)]) (di_seq (de_var 4 (pv 4))) (blkOk_by (own := [("own", 10)]) (N := N__law_by_hand_right) (sc := defScope s__law_by_hand_right) (by decide +kernel)) (fun _ _ _ _ _ => (dg_name (i := 10) sc__law_by_hand_right.nd rfl (by first | exact Or.inl rfl | exact Or.inr rfl))) (fun _ _ _ _ _ => dts_nil) (fun _ _ _ _ _ => (de_callC C_places_true hr (by rfl) (dpa_cons (DE.dp (de_var 10 (pv 10))) (dpa_cons (DE.dp (de_var 2 (pv 2))) dpa_nil)))) (by decide))) (da_cons (DN.de (dn_lc rfl sc__law_by_hand_right.nd (own := [("own", 10)]) (di_seq (de_var 4 (pv 4))) (blkOk_by (own := [("own", 10)]) (N := N__law_by_hand_right) (sc := defScope s__law_by_hand_right) (by decide +kernel)) (fun _ _ _ _ _ => (dg_name (i := 10) sc__law_by_hand_right.nd rfl (by first | exact Or.inl rfl | exact Or.inr rfl))) (fun _ _ _ _ _ => dts_nil) (fun _ _ _ _ _ => (de_callC C_is_true hr (by rfl) (dpa_cons (DE.dp (de_var 10 (pv 10))) (dpa_cons (DE.dp (de_var 2 (pv 2))) dpa_nil)))) (by decide))) da_nil))))
    (dss_cons (ds_set (i := 6) sc__law_by_hand_right.nd rfl (by first | exact Or.inl rfl | exact Or.inr rfl) (DN.de (dn_lst (da_cons (de_tup (da_cons de_int (da_cons de_int (da_cons de_int da_nil)))) (da_cons (de_tup (da_cons de_int da_nil)) (da_cons (de_tup (da_cons de_int da_nil)) (da_cons (de_tup (da_cons de_int (da_cons de_int da_nil))) (da_cons (de_tup da_nil) (da_cons (de_tup (da_cons de_int (da_cons de_int da_nil))) (da_cons (de_tup (da_cons de_int (da_cons de_int da_nil))) (da_cons (de_tup da_nil) da_nil)))))))))))
    (dss_cons (ds_set (i := 6) sc__law_by_hand_right.nd rfl (by first | exact Or.inl rfl | exact Or.inr rfl) (de_add (de_var 6 (pv 6)) (DN.de (dn_lst (da_cons (de_tup (da_cons de_int (da_cons de_int da_nil))) (da_cons (de_tup (da_cons de_int (da_cons de_int (da_cons de_int da_nil)))) (da_cons (de_tup (da_cons de_int da_nil)) (da_cons (de_tup da_nil) da_nil))))))))
    (dss_cons (ds_set (i := 6) sc__law_by_hand_right.nd rfl (by first | exact Or.inl rfl | exact Or.inr rfl) (de_add (de_var 6 (pv 6)) (DN.de (dn_lst (da_cons (de_tup (da_cons de_int (da_cons de_int (da_cons de_int da_nil)))) (da_cons (de_tup (da_cons de_int (da_cons de_int (da_cons de_int da_nil)))) (da_cons (de_tup (da_cons de_int (da_cons de_int da_nil))) da_nil)))))))
    (dss_cons (ds_set (i := 6) sc__law_by_hand_right.nd rfl (by first | exact Or.inl rfl | exact Or.inr rfl) (de_add (de_var 6 (pv 6)) (DN.de (dn_lst (da_cons (de_tup (da_cons de_int (da_cons de_int (da_cons de_int da_nil)))) (da_cons (de_tup (da_cons de_int da_nil)) (da_cons (de_tup (da_cons de_int da_nil)) da_nil)))))))
    (dss_cons (ds_set (i := 6) sc__law_by_hand_right.nd rfl (by first | exact Or.inl rfl | exact Or.inr rfl) (de_add (de_var 6 (pv 6)) (DN.de (dn_lst (da_cons (de_tup (da_cons de_int da_nil)) (da_cons (de_tup (da_cons de_int (da_cons de_int (da_cons de_int da_nil)))) (da_cons (de_tup da_nil) (da_cons (de_tup da_nil) da_nil))))))))
    (dss_cons (ds_setL (i := 6) sc__law_by_hand_right.nd rfl (by first | exact Or.inl rfl | exact Or.inr rfl) (dn_lst (da_cons (de_var 6 (pv 6)) (da_cons (DN.de (dn_lc rfl sc__law_by_hand_right.nd (own := [("own", 10)]) (di_seq (de_var 6 (pv 6))) (blkOk_by (own := [("own", 10)]) (N := N__law_by_hand_right) (sc := defScope s__law_by_hand_right) (by decide +kernel)) (fun _ _ _ _ _ => (dg_name (i := 10) sc__law_by_hand_right.nd rfl (by first | exact Or.inl rfl | exact Or.inr rfl))) (fun _ _ _ _ _ => dts_nil) (fun _ _ _ _ _ => (de_eq hr.units (de_slice (de_var 10 (pv 10)) do_none (do_some de_int)) (de_tup (da_cons de_int da_nil)))) (by decide))) da_nil))))
    (dss_cons (ds_set (i := 4) sc__law_by_hand_right.nd rfl (by first | exact Or.inl rfl | exact Or.inr rfl) (DN.de (dn_lst (da_cons (de_tup (da_cons de_str (da_cons (de_var 0 (pv 0)) (da_cons (de_var 1 (pv 1)) da_nil)))) (da_cons (de_tup (da_cons de_str (da_cons (de_var 0 (pv 0)) da_nil))) (da_cons (de_tup (da_cons de_str (da_cons (de_tup (da_cons de_str (da_cons (de_var 0 (pv 0)) da_nil))) da_nil))) (da_cons (de_tup (da_cons de_str (da_cons (de_var 0 (pv 0)) (da_cons (de_tup (da_cons de_str (da_cons (de_var 0 (pv 0)) da_nil))) da_nil)))) (da_cons (de_tup (da_cons de_str (da_cons (de_tup (da_cons de_str (da_cons (de_var 1 (pv 1)) (da_cons (de_var 0 (pv 0)) da_nil)))) da_nil))) da_nil))))))))
    (dss_cons (ds_set (i := 4) sc__law_by_hand_right.nd rfl (by first | exact Or.inl rfl | exact Or.inr rfl) (de_add (de_var 4 (pv 4)) (DN.de (dn_lst (da_cons (de_tup (da_cons de_str (da_cons (de_var 1 (pv 1)) (da_cons (de_tup (da_cons de_str (da_cons (de_var 0 (pv 0)) da_nil))) da_nil)))) (da_cons (de_tup (da_cons de_str (da_cons (de_var 1 (pv 1)) (da_cons (de_var 0 (pv 0)) da_nil)))) (da_cons (de_tup (da_cons de_str (da_cons (de_tup (da_cons de_str (da_cons (de_tup (da_cons de_str (da_cons (de_var 0 (pv 0)) (da_cons (de_var 1 (pv 1)) da_nil)))) da_nil))) da_nil))) da_nil)))))))
    (dss_cons (ds_app 5 (t0 := tVar 5) (pv 5) (DN.de (dn_lc rfl sc__law_by_hand_right.nd (own := [("own", 10)]) (di_seq (de_var 4 (pv 4))) (blkOk_by (own := [("own", 10)]) (N := N__law_by_hand_right) (sc := defScope s__law_by_hand_right) (by decide +kernel)) (fun _ _ _ _ _ => (dg_name (i := 10) sc__law_by_hand_right.nd rfl (by first | exact Or.inl rfl | exact Or.inr rfl))) (fun _ _ _ _ _ => dts_nil) (fun _ _ _ _ _ => (de_callC C_places_true hr (by rfl) (dpa_cons (DE.dp (de_var 10 (pv 10))) (dpa_cons (DE.dp (de_var 3 (pv 3))) dpa_nil)))) (by decide))) (fun pe => pe_bm PySem.F.plainAttrs_list PySem.F.slot_list_append PySem.F.type_list_append mt_append (pv 5) (pa_cons pe pa_nil)))
    (dss_cons (ds_app 6 (t0 := tVar 6) (pv 6) (DN.de (dn_lst (da_cons (de_tup (da_cons de_int da_nil)) (da_cons (de_tup da_nil) (da_cons (de_tup (da_cons de_int (da_cons de_int (da_cons de_int da_nil)))) (da_cons (de_tup (da_cons de_int (da_cons de_int (da_cons de_int da_nil)))) (da_cons (de_tup (da_cons de_int (da_cons de_int da_nil))) (da_cons (de_tup (da_cons de_int da_nil)) (da_cons (de_tup (da_cons de_int (da_cons de_int da_nil))) (da_cons (de_tup (da_cons de_int (da_cons de_int (da_cons de_int da_nil)))) da_nil)))))))))) (fun pe => pe_bm PySem.F.plainAttrs_list PySem.F.slot_list_append PySem.F.type_list_append mt_append (pv 6) (pa_cons pe pa_nil)))
    (dss_cons (ds_setL (i := 5) sc__law_by_hand_right.nd rfl (by first | exact Or.inl rfl | exact Or.inr rfl) (dn_addO (dp_own 5 (pv 5)) (DN.de (dn_lst (da_cons (DN.de (dn_lc rfl sc__law_by_hand_right.nd (own := [("k", 11)]) (di_range1 (by rfl) T.z_range de_int) (blkOk_by (own := [("k", 11)]) (N := N__law_by_hand_right) (sc := defScope s__law_by_hand_right) (by decide +kernel)) (fun _ _ _ _ _ => (dg_name (i := 11) sc__law_by_hand_right.nd rfl (by first | exact Or.inl rfl | exact Or.inr rfl))) (fun _ _ _ _ _ => dts_nil) (fun _ _ _ _ _ => (de_callV C_true_at hr (by rfl) (dpa_cons (DE.dp (de_var 1 (pv 1))) (dpa_cons (DE.dp (de_var 2 (pv 2))) (dpa_cons (DE.dp (de_var 11 (pv 11))) dpa_nil))))) (by decide))) (da_cons (DN.de (dn_lc rfl sc__law_by_hand_right.nd (own := [("k", 11)]) (di_seq (de_tup (da_cons de_int (da_cons de_int da_nil)))) (blkOk_by (own := [("k", 11)]) (N := N__law_by_hand_right) (sc := defScope s__law_by_hand_right) (by decide +kernel)) (fun _ _ _ _ _ => (dg_name (i := 11) sc__law_by_hand_right.nd rfl (by first | exact Or.inl rfl | exact Or.inr rfl))) (fun _ _ _ _ _ => dts_nil) (fun _ _ _ _ _ => (de_callV C_true_at hr (by rfl) (dpa_cons (DE.dp (de_var 1 (pv 1))) (dpa_cons (DE.dp (de_var 2 (pv 2))) (dpa_cons (DE.dp (de_add (de_pow de_int de_int) (de_var 11 (pv 11)))) dpa_nil))))) (by decide))) da_nil))))))
    (dss_cons (ds_setL (i := 6) sc__law_by_hand_right.nd rfl (by first | exact Or.inl rfl | exact Or.inr rfl) (dn_addO (dp_own 6 (pv 6)) (DN.de (dn_lst (da_cons (DN.de (dn_lst (da_cons de_bl (da_cons de_bl (da_cons de_bl (da_cons de_bl (da_cons de_bl (da_cons de_bl da_nil)))))))) (da_cons (DN.de (dn_lst (da_cons de_bl (da_cons de_bl da_nil)))) da_nil))))))
    (dss_cons (ds_asg (de_tup (da_cons (de_tup (da_cons (de_tup da_nil) (da_cons (de_tup (da_cons (de_tup da_nil) da_nil)) da_nil))) (da_cons (de_tup (da_cons (de_tup (da_cons (de_tup (da_cons de_str da_nil)) (da_cons (de_tup (da_cons de_str da_nil)) (da_cons (de_tup da_nil) da_nil)))) (da_cons (de_tup (da_cons (de_tup (da_cons de_str da_nil)) da_nil)) da_nil))) da_nil))) (dg_tup rfl (dgs_cons (dg_name (i := 7) sc__law_by_hand_right.nd rfl (by first | exact Or.inl rfl | exact Or.inr rfl)) (dgs_cons (dg_name (i := 8) sc__law_by_hand_right.nd rfl (by first | exact Or.inl rfl | exact Or.inr rfl)) dgs_nil))))
    (dss_cons (ds_set (i := 4) sc__law_by_hand_right.nd rfl (by first | exact Or.inl rfl | exact Or.inr rfl) (DN.de (dn_lst (da_cons (de_tup (da_cons de_str (da_cons (de_tup (da_cons de_str (da_cons (de_var 0 (pv 0)) da_nil))) da_nil))) (da_cons (de_tup (da_cons de_str (da_cons (de_var 0 (pv 0)) (da_cons (de_var 1 (pv 1)) da_nil)))) (da_cons (de_tup (da_cons de_str (da_cons (de_var 0 (pv 0)) (da_cons (de_var 1 (pv 1)) da_nil)))) (da_cons (de_tup (da_cons de_str (da_cons (de_tup (da_cons de_str da_nil)) da_nil))) (da_cons (de_tup (da_cons de_str (da_cons (de_var 0 (pv 0)) da_nil))) da_nil))))))))
    (dss_cons (ds_setL (i := 5) sc__law_by_hand_right.nd rfl (by first | exact Or.inl rfl | exact Or.inr rfl) (dn_addO (dp_own 5 (pv 5)) (DN.de (dn_lst (da_cons (DN.de (dn_lc rfl sc__law_by_hand_right.nd (own := [("own", 10)]) (di_seq (de_var 4 (pv 4))) (blkOk_by (own := [("own", 10)]) (N := N__law_by_hand_right) (sc := defScope s__law_by_hand_right) (by decide +kernel)) (fun _ _ _ _ _ => (dg_name (i := 10) sc__law_by_hand_right.nd rfl (by first | exact Or.inl rfl | exact Or.inr rfl))) (fun _ _ _ _ _ => dts_nil) (fun _ _ _ _ _ => (de_callC C_is_true hr (by rfl) (dpa_cons (DE.dp (de_var 10 (pv 10))) (dpa_cons (DE.dp (de_var 7 (pv 7))) dpa_nil)))) (by decide))) (da_cons (DN.de (dn_lc rfl sc__law_by_hand_right.nd (own := [("own", 10)]) (di_seq (de_var 4 (pv 4))) (blkOk_by (own := [("own", 10)]) (N := N__law_by_hand_right) (sc := defScope s__law_by_hand_right) (by decide +kernel)) (fun _ _ _ _ _ => (dg_name (i := 10) sc__law_by_hand_right.nd rfl (by first | exact Or.inl rfl | exact Or.inr rfl))) (fun _ _ _ _ _ => dts_nil) (fun _ _ _ _ _ => (de_callC C_places_true hr (by rfl) (dpa_cons (DE.dp (de_var 10 (pv 10))) (dpa_cons (DE.dp (de_var 8 (pv 8))) dpa_nil)))) (by decide))) da_nil))))))
    (dss_cons (ds_setL (i := 6) sc__law_by_hand_right.nd rfl (by first | exact Or.inl rfl | exact Or.inr rfl) (dn_addO (dp_own 6 (pv 6)) (DN.de (dn_lst (da_cons (DN.de (dn_lst (da_cons de_bl (da_cons de_bl (da_cons de_bl (da_cons de_bl (da_cons de_bl da_nil))))))) (da_cons (DN.de (dn_lst (da_cons (de_tup (da_cons de_int (da_cons de_int da_nil))) (da_cons (de_tup (da_cons de_int da_nil)) (da_cons (de_tup (da_cons de_int da_nil)) (da_cons (de_tup (da_cons de_int (da_cons de_int (da_cons de_int (da_cons de_int da_nil))))) (da_cons (de_tup (da_cons de_int (da_cons de_int da_nil))) da_nil))))))) da_nil))))))
    (dss_cons (ds_app 5 (t0 := tVar 5) (pv 5) (DN.de (dn_lc rfl sc__law_by_hand_right.nd (own := [("own", 10)]) (di_seq (de_tup (da_cons (de_neg de_int) (da_cons (de_neg (de_pow de_int de_int)) da_nil)))) (blkOk_by (own := [("own", 10)]) (N := N__law_by_hand_right) (sc := defScope s__law_by_hand_right) (by decide +kernel)) (fun _ _ _ _ _ => (dg_name (i := 10) sc__law_by_hand_right.nd rfl (by first | exact Or.inl rfl | exact Or.inr rfl))) (fun _ _ _ _ _ => dts_nil) (fun _ _ _ _ _ => (de_callC C__law_heard hr (by rfl) (dpa_cons (DE.dp (de_var 1 (pv 1))) (dpa_cons (DE.dp (de_var 2 (pv 2))) (dpa_cons (DE.dp (de_var 10 (pv 10))) dpa_nil))))) (by decide))) (fun pe => pe_bm PySem.F.plainAttrs_list PySem.F.slot_list_append PySem.F.type_list_append mt_append (pv 5) (pa_cons pe pa_nil)))
    (dss_cons (ds_app 6 (t0 := tVar 6) (pv 6) (DN.de (dn_lst (da_cons (DN.de (dn_lst (da_cons de_str (da_cons (de_neg de_int) (da_cons de_bl da_nil))))) (da_cons (DN.de (dn_lst (da_cons de_str (da_cons (de_neg (de_pow de_int de_int)) (da_cons de_bl da_nil))))) da_nil)))) (fun pe => pe_bm PySem.F.plainAttrs_list PySem.F.slot_list_append PySem.F.type_list_append mt_append (pv 6) (pa_cons pe pa_nil)))
    (dss_cons (ds_set (i := 9) sc__law_by_hand_right.nd rfl (by first | exact Or.inl rfl | exact Or.inr rfl) (DN.de (dn_lst (da_cons (DN.de (dn_lst (da_cons de_str (da_cons (DN.de (dn_lst (da_cons de_str (da_cons de_str da_nil)))) (da_cons (DN.de (dn_lst (da_cons de_str (da_cons de_str da_nil)))) da_nil))))) (da_cons (DN.de (dn_lst (da_cons (DN.de (dn_lst (da_cons (DN.de (dn_lst (da_cons de_str da_nil))) da_nil))) (da_cons (DN.de (dn_lst (da_cons (DN.de (dn_lst (da_cons de_str da_nil))) (da_cons (DN.de (dn_lst da_nil)) da_nil)))) da_nil)))) da_nil)))))
    (dss_cons (ds_setL (i := 5) sc__law_by_hand_right.nd rfl (by first | exact Or.inl rfl | exact Or.inr rfl) (dn_addO (dp_own 5 (pv 5)) (DN.de (dn_lst (da_cons (de_callK0 (ks := ["loop", "formula"]) (is := [1, 0]) K_places_true_0_loop_formula hr (by rfl) (dpk_cons (DE.dp (de_ix (de_var 9 (pv 9)) de_int)) (dpk_cons (DE.dp (de_ix (de_var 9 (pv 9)) de_int)) dpk_nil))) (da_cons (de_callK0 (ks := ["loop", "formula"]) (is := [1, 0]) K_is_true_0_loop_formula hr (by rfl) (dpk_cons (DE.dp (de_ix (de_var 9 (pv 9)) de_int)) (dpk_cons (DE.dp (de_ix (de_var 9 (pv 9)) de_int)) dpk_nil))) da_nil))))))
    (dss_cons (ds_setL (i := 5) sc__law_by_hand_right.nd rfl (by first | exact Or.inl rfl | exact Or.inr rfl) (dn_addO (dp_own 5 (pv 5)) (DN.de (dn_lst (da_cons (de_callK0V (ks := ["number", "loop", "formula"]) (is := [2, 1, 0]) K_true_at_0_number_loop_formula hr (by rfl) (dpk_cons (DE.dp de_int) (dpk_cons (DE.dp (de_ix (de_var 9 (pv 9)) de_int)) (dpk_cons (DE.dp (de_ix (de_var 9 (pv 9)) de_int)) dpk_nil)))) (da_cons (de_var 9 (pv 9)) da_nil))))))
    (dss_frz 5 (dss_cons (ds_setL (i := 6) sc__law_by_hand_right.nd rfl (by first | exact Or.inl rfl | exact Or.inr rfl) (dn_addO (dp_own 6 (pv 6)) (DN.de (dn_lst (da_cons (de_tup (da_cons de_int (da_cons de_int da_nil))) (da_cons de_bl (da_cons de_bl (da_cons (DN.de (dn_lst (da_cons (DN.de (dn_lst (da_cons de_str (da_cons (DN.de (dn_lst (da_cons de_str (da_cons de_str da_nil)))) (da_cons (DN.de (dn_lst (da_cons de_str (da_cons de_str da_nil)))) da_nil))))) (da_cons (DN.de (dn_lst (da_cons (DN.de (dn_lst (da_cons (DN.de (dn_lst (da_cons de_str da_nil))) da_nil))) (da_cons (DN.de (dn_lst (da_cons (DN.de (dn_lst (da_cons de_str da_nil))) (da_cons (DN.de (dn_lst da_nil)) da_nil)))) da_nil)))) da_nil)))) da_nil))))))))
    (dss_frz 6 (dss_one (ds_ret (de_callC C__law_same hr (by rfl) (dpa_cons (DE.dp (de_var 5 (pv 5))) (dpa_cons (DE.dp (de_var 6 (pv 6))) dpa_nil))))))))))))))))))))))))))))))))))))
def W__law_right (S__law_ring : PSp) (S__law_form : PSp) (S__law_rows : PSp) (S__law_take : PSp) (S_true_at : PSpX) (S_is_true : PSp) (S_places_true : PSp) (S__law_lists : PSp) (S__law_spots : PSp) (S__law_at : PSp) (S__law_same : PSp) : WS :=
  (wSeq (wAsg 1 (wCall S__law_ring (wPCons (wO 0) (wPCons (wD (wL (wLst (wCons (wC (.str "p")) (wCons (wC (.str "q")) wNil))))) (wPCons (wD (wC (.int 2))) (wPCons (wD (wC (.int 3))) wPNil))))))
    (wSeq (wFor (wRng1 (wC (.int 2))) (wgName 2) (wSeq (wAsg 3 (wCall S__law_form (wPCons (wO 0) (wPCons (wD (wC (.int 6))) (wPCons (wD (wL (wLst (wCons (wC (.str "p")) (wCons (wC (.str "q")) wNil))))) (wPCons (wD (wC (.bool false))) wPNil))))))
    (wSeq (wPar 4 5 (wCall S__law_rows (wPCons (wD (wVar 3)) (wPCons (wD (wVar 1)) wPNil))) (wCall S__law_take (wPCons (wO 0) (wPCons (wD (wC (.int 12))) wPNil))))
    (wSeq (wAsgL 6 (wLst (wCons (wCall S_places_true (wPCons (wD (wVar 3)) (wPCons (wD (wVar 1)) wPNil))) (wCons (wCall S_is_true (wPCons (wD (wVar 3)) (wPCons (wD (wVar 1)) wPNil))) (wCons (wCall (noX S_true_at) (wPCons (wD (wVar 3)) (wPCons (wD (wVar 1)) (wPCons (wD (wVar 5)) wPNil)))) wNil)))))
    (wSeq (wApp 6 (wCall S_places_true (wPCons (wD (wCall S__law_lists (wPCons (wD (wVar 3)) wPNil))) (wPCons (wD (wCall S__law_lists (wPCons (wD (wVar 1)) wPNil))) wPNil))))
    (wSeq (wAsg 7 (wL (wLst (wCons (wCall S__law_spots (wPCons (wD (wVar 3)) (wPCons (wD (wVar 1)) wPNil))) (wCons (wOp ixD (wVar 4) (wC (.int 0))) (wCons (wOp ixD (wVar 4) (wCall S__law_at (wPCons (wD (wVar 1)) (wPCons (wD (wVar 5)) wPNil)))) (wCons (wCall S__law_spots (wPCons (wD (wVar 3)) (wPCons (wD (wVar 1)) wPNil))) wNil)))))))
    (wFrz 6 (wIfS (wNot (wB (wCall S__law_same (wPCons (wD (wVar 6)) (wPCons (wD (wVar 7)) wPNil))))) (wRet (wC (.bool false))) wNext))))))))
    (wRet (wC (.bool true)))))
theorem d__law_right {P : Program} {w : World} {K : PySem.W.Frag} {mg : Str → Option Value} {base : Heap} {k : Nat} {S__law_ring : PSp} {S__law_form : PSp} {S__law_rows : PSp} {S__law_take : PSp} {S_true_at : PSpX} {S_is_true : PSp} {S_places_true : PSp} {S__law_lists : PSp} {S__law_spots : PSp} {S__law_at : PSp} {S__law_same : PSp} (T : Txt K mg) (C__law_ring : Cal P w K mg base "_law_ring" ["urn", "tags_so", "size_so", "wide_so"] k S__law_ring) (C__law_form : Cal P w K mg base "_law_form" ["urn", "size_so", "tags_so", "still_so"] k S__law_form) (C__law_rows : Cal P w K mg base "_law_rows" ["form", "ring"] k S__law_rows) (C__law_take : Cal P w K mg base "_law_take" ["urn", "low_so"] k S__law_take) (C_true_at : CalX P w K mg base "true_at" ["formula", "loop", "number"] k S_true_at) (C_is_true : Cal P w K mg base "is_true" ["formula", "loop"] k S_is_true) (C_places_true : Cal P w K mg base "places_true" ["formula", "loop"] k S_places_true) (C__law_lists : Cal P w K mg base "_law_lists" ["matter"] k S__law_lists) (C__law_spots : Cal P w K mg base "_law_spots" ["form", "ring"] k S__law_spots) (C__law_at : Cal P w K mg base "_law_at" ["ring", "k"] k S__law_at) (C__law_same : Cal P w K mg base "_law_same" ["got", "due"] k S__law_same) {f : Addr} {cdv : Value} {A : Around} {outer : List Env} {s : Shared} {H : Hp} {E : XK} (hr : Room k (A.deeper (envOfC "_law_right" (defScope s__law_right) s.heap.objs.size f cdv))) :
    DSs (cxOf CX0 P w K mg base N__law_right "_law_right" (defScope s__law_right) f cdv A outer s H E).nox (defBody s__law_right) (W__law_right S__law_ring S__law_form S__law_rows S__law_take S_true_at S_is_true S_places_true S__law_lists S__law_spots S__law_at S__law_same) :=
  (dss_cons (ds_set (i := 1) sc__law_right.nd rfl (by first | exact Or.inl rfl | exact Or.inr rfl) (de_callC C__law_ring hr (by rfl) (dpa_cons (dp_own 0 (pv 0)) (dpa_cons (DE.dp (DN.de (dn_lst (da_cons de_str (da_cons de_str da_nil))))) (dpa_cons (DE.dp de_int) (dpa_cons (DE.dp de_int) dpa_nil))))))
    (dss_cons (ds_for PassesOwn.never rfl (di_range1 (by rfl) T.z_range de_int) (dg_name (i := 2) sc__law_right.nd rfl (by first | exact Or.inl rfl | exact Or.inr rfl)) (dss_cons (ds_set (i := 3) sc__law_right.nd rfl (by first | exact Or.inl rfl | exact Or.inr rfl) (de_callC C__law_form hr (by rfl) (dpa_cons (dp_own 0 (pv 0)) (dpa_cons (DE.dp de_int) (dpa_cons (DE.dp (DN.de (dn_lst (da_cons de_str (da_cons de_str da_nil))))) (dpa_cons (DE.dp de_bl) dpa_nil))))))
    (dss_cons (ds_par (i := 4) (j := 5) rfl sc__law_right.nd rfl rfl (by decide) rfl rfl (de_callC C__law_rows hr (by rfl) (dpa_cons (DE.dp (de_var 3 (pv 3))) (dpa_cons (DE.dp (de_var 1 (pv 1))) dpa_nil))) (de_callC C__law_take hr (by rfl) (dpa_cons (dp_own 0 (pv 0)) (dpa_cons (DE.dp de_int) dpa_nil))) (by rfl))
    (dss_cons (ds_setL (i := 6) sc__law_right.nd rfl (by first | exact Or.inl rfl | exact Or.inr rfl) (dn_lst (da_cons (de_callC C_places_true hr (by rfl) (dpa_cons (DE.dp (de_var 3 (pv 3))) (dpa_cons (DE.dp (de_var 1 (pv 1))) dpa_nil))) (da_cons (de_callC C_is_true hr (by rfl) (dpa_cons (DE.dp (de_var 3 (pv 3))) (dpa_cons (DE.dp (de_var 1 (pv 1))) dpa_nil))) (da_cons (de_callV C_true_at hr (by rfl) (dpa_cons (DE.dp (de_var 3 (pv 3))) (dpa_cons (DE.dp (de_var 1 (pv 1))) (dpa_cons (DE.dp (de_var 5 (pv 5))) dpa_nil)))) da_nil)))))
    (dss_cons (ds_app 6 (t0 := tVar 6) (pv 6) (de_callC C_places_true hr (by rfl) (dpa_cons (DE.dp (de_callC C__law_lists hr (by rfl) (dpa_cons (DE.dp (de_var 3 (pv 3))) dpa_nil))) (dpa_cons (DE.dp (de_callC C__law_lists hr (by rfl) (dpa_cons (DE.dp (de_var 1 (pv 1))) dpa_nil))) dpa_nil))) (fun pe => pe_bm PySem.F.plainAttrs_list PySem.F.slot_list_append PySem.F.type_list_append mt_append (pv 6) (pa_cons pe pa_nil)))
    (dss_cons (ds_set (i := 7) sc__law_right.nd rfl (by first | exact Or.inl rfl | exact Or.inr rfl) (DN.de (dn_lst (da_cons (de_callC C__law_spots hr (by rfl) (dpa_cons (DE.dp (de_var 3 (pv 3))) (dpa_cons (DE.dp (de_var 1 (pv 1))) dpa_nil))) (da_cons (de_ix (de_var 4 (pv 4)) de_int) (da_cons (de_ix (de_var 4 (pv 4)) (de_callC C__law_at hr (by rfl) (dpa_cons (DE.dp (de_var 1 (pv 1))) (dpa_cons (DE.dp (de_var 5 (pv 5))) dpa_nil)))) (da_cons (de_callC C__law_spots hr (by rfl) (dpa_cons (DE.dp (de_var 3 (pv 3))) (dpa_cons (DE.dp (de_var 1 (pv 1))) dpa_nil))) da_nil)))))))
    (dss_frz 6 (dss_one (ds_if (dt_not (dt_val (de_callC C__law_same hr (by rfl) (dpa_cons (DE.dp (de_var 6 (pv 6))) (dpa_cons (DE.dp (de_var 7 (pv 7))) dpa_nil))))) (dss_one (ds_ret de_bl)) dss_nil)))))))))
    (dss_one (ds_ret de_bl))))
def W_law (S__law_by_hand_right : PSp) (S__law_cells : PSp) (S__law_right : PSp) (S__law_box : PSp) : WS :=
  (wSeq (wIfS (wNot (wB (wCall S__law_by_hand_right wPNil))) (wRet (wC (.bool false))) wNext)
    (wSeq (wAsg 1 (wCall S__law_cells (wPCons (wOs 0) (wPCons (wD (wC (.int 2))) wPNil))))
    (wRet (wCB allB (wCons (wL (wLc (wRng1 (wCB lenD (wCons (wVar 1) wNil))) (wgName 2) wYes (wCallN S__law_right (wCallL S__law_box (wPCons (wD (wVar 1)) (wPCons (wD (wVar 2)) wPNil)))) [2])) wNil)))))
theorem d_law {P : Program} {w : World} {K : PySem.W.Frag} {mg : Str → Option Value} {base : Heap} {k : Nat} {S__law_by_hand_right : PSp} {S__law_cells : PSp} {S__law_right : PSp} {S__law_box : PSp} (T : Txt K mg) (C__law_by_hand_right : Cal P w K mg base "_law_by_hand_right" [] k S__law_by_hand_right) (C__law_cells : Cal P w K mg base "_law_cells" ["script", "roof_so"] k S__law_cells) (C__law_right : Cal P w K mg base "_law_right" ["tin"] k S__law_right) (C__law_box : Cal P w K mg base "_law_box" ["script", "k"] k S__law_box) {f : Addr} {cdv : Value} {A : Around} {outer : List Env} {s : Shared} {H : Hp} {E : XK} (hr : Room k (A.deeper (envOfC "law" (defScope s_law) s.heap.objs.size f cdv))) :
    DSs (cxOf CX0 P w K mg base N_law "law" (defScope s_law) f cdv A outer s H E).nox (defBody s_law) (W_law S__law_by_hand_right S__law_cells S__law_right S__law_box) :=
  (dss_cons (ds_if (dt_not (dt_val (de_callC0 C__law_by_hand_right hr (by rfl)))) (dss_one (ds_ret de_bl)) dss_nil)
    (dss_cons (ds_set (i := 1) sc_law.nd rfl (by first | exact Or.inl rfl | exact Or.inr rfl) (de_callC C__law_cells hr (by rfl) (dpa_cons (dp_scr 0 (pv 0)) (dpa_cons (DE.dp de_int) dpa_nil))))
    (dss_one (ds_ret (de_all rfl (by rfl) T.z_all (DN.de (dn_lc rfl sc_law.nd (own := [("k", 2)]) (di_range1 (by rfl) T.z_range (de_len (by rfl) T.z_len (de_var 1 (pv 1)))) (blkOk_by (own := [("k", 2)]) (N := N_law) (sc := defScope s_law) (by decide +kernel)) (fun _ _ _ _ _ => (dg_name (i := 2) sc_law.nd rfl (by first | exact Or.inl rfl | exact Or.inr rfl))) (fun _ _ _ _ _ => dts_nil) (fun _ _ _ _ _ => (de_callN C__law_right hr (by rfl) (dn_callC C__law_box hr (by rfl) (dpa_cons (DE.dp (de_var 1 (pv 1))) (dpa_cons (DE.dp (de_var 2 (pv 2))) dpa_nil))))) (by decide))))))))
end K28

namespace K28
open PySem PySem.Spec PyProof.Rows L2 DL
/-! ## what the law's own helpers promise -/
/-- a box that is good for n more draws -/
def Box (n : Nat) (ds : List PyData) : Prop := ∃ a b c : Int, ds = [.int a, .int b, .int c] ∧ 0 ≤ a ∧ 0 ≤ c ∧ c + n ≤ 1152921504606846976
theorem Box.less {n m : Nat} {ds : List PyData} (h : Box n ds) (le : m ≤ n) : Box m ds := by
  obtain ⟨a, b, c, e, h1, h2, h3⟩ := h
  exact ⟨a, b, c, e, h1, h2, by omega⟩
theorem fmod_in {i m : Int} (h : 1 ≤ m) : 0 ≤ i.fmod m ∧ i.fmod m < m := by
  rw [Int.fmod_eq_emod_of_nonneg i (by omega)]
  exact ⟨Int.emod_nonneg i (by omega), Int.emod_lt_of_pos i (by omega)⟩
theorem fdiv_nn {i m : Int} (h0 : 0 ≤ i) (h : 1 ≤ m) : 0 ≤ i.fdiv m := by
  rw [Int.fdiv_eq_ediv_of_nonneg i (by omega)]
  exact Int.ediv_nonneg h0 (by omega)
def S_take : PSp := fun as R => ∃ (n : Nat) (ds : List PyData) (m : Int), as = [.par ds, .dat (.int m)] ∧ Box (n + 1) ds ∧ 1 ≤ m ∧ m < 1073741824 ∧
  ∀ (r : Int) ds', Box n ds' → 0 ≤ r → r < m → R (.dat (.int r)) [.par ds', .dat (.int m)]
theorem ix3_0 : ixN 3 0 = some 0 := by decide
theorem ix3_1 : ixN 3 1 = some 1 := by decide
theorem ix3_2 : ixN 3 2 = some 2 := by decide
theorem cmul_r {i j : Int} (h : 0 ≤ j) (h' : j < 18446744073709551616) : CMul i j := .inr ⟨by omega, by omega⟩
theorem cdiv_n {i j : Int} (h : 1 ≤ j) (h' : j < 1073741824) : CDivN i j := ⟨by omega, by omega⟩
theorem w_take {as : List Sl} {R : Rs → List Sl → Prop} (h : S_take as R) : W__law_take (endsF as R) (startG N__law_take as) := by
  obtain ⟨n, ds, m, rfl, ⟨a, b, c, rfl, ha, hc, hb⟩, h1, h2, k⟩ := h
  simp [W__law_take, wSeq, startG, ix3_0, ix3_1, ix3_2]
  have hm : m ≠ 0 := by omega
  have f := @fmod_in
  by_cases h0 : 0 < a
  · simp only [h0, if_true]
    refine ⟨hm, cdiv_n h1 h2, k _ _ ⟨_, b, c, rfl, fdiv_nn (by omega) h1, hc, by omega⟩ (f h1).1 (f h1).2⟩
  · simp only [h0, if_false]
    have h40 := @f ((b + 48271 * (c + 1)) * (39373 + (c + 1)) |>.fmod 2147483647) 40009 (by omega)
    refine ⟨cmul_r (by omega) (by omega), cmul_r (by omega) (by omega), cdiv_n (by omega) (by omega), cmul_r (by omega) (by omega), cmul_r (by omega) (by omega), cdiv_n (by omega) (by omega), hm, k _ _ ⟨a, b, c + 1, rfl, ha, by omega, by omega⟩ (f h1).1 (f h1).2⟩

def S_box : PSp := fun as R => ∃ (ns : List Int) (k : Nat), as = [.dat (.list (ns.map PyData.int)), .dat (.int (k : Int))] ∧ k ≤ 1000 ∧ ns.length ≤ 1000 ∧ ∀ ds, Box 1152921504606846976 ds → R (.new ds) as
theorem atI_ints {ns : List Int} {k : Nat} {n : Int} (h : ns[k]? = some n) : atI (ns.map PyData.int) (k : Int) = some (.int n) := by
  refine atI_nat ?_
  rw [List.getElem?_map, h]
  rfl
theorem w_box {as : List Sl} {R : Rs → List Sl → Prop} (h : S_box as R) : W__law_box (endsF as R) (startG N__law_box as) := by
  obtain ⟨ns, k, rfl, hk, hl, kR⟩ := h
  have p18 : CPow 10 18 := ⟨by omega, by omega, by decide⟩
  have fin : ∀ x : Int, CMul (if x < 0 then -x else x) (if 1000000000000000000 ≤ (if x < 0 then -x else x) then 1 else 0) := fun x => by
    refine cmul_r ?_ ?_ <;> split <;> omega
  have s3 : 3 ≤ sizeLine := by decide
  simp [W__law_box, wSeq, startG]
  by_cases h : (k : Int) < (ns.length : Int)
  · have hk' : k < ns.length := by omega
    have e := atI_ints (List.getElem?_eq_getElem hk')
    simp [hk', e]
    refine ⟨p18, fin _, cmul_r (by omega) (by omega), s3, kR _ ⟨_, _, 0, rfl, ?_, by omega, by omega⟩⟩
    refine Int.mul_nonneg ?_ ?_ <;> split <;> omega
  · have hk' : ¬ k < ns.length := by omega
    simp [hk']
    exact ⟨p18, cmul_r (by omega) (by omega), cmul_r (by omega) (by omega), s3, kR _ ⟨_, _, 0, rfl, by omega, by omega, by omega⟩⟩
def S_cells : PSp := fun as R => ∃ (ns : List Int) (t : Nat), as = [.scr (ns.map PyData.int), .dat (.int (t : Int))] ∧ ns.length ≤ 63 ∧ 1 ≤ t ∧ t ≤ 60 ∧ ∀ cs : List Int, 1 ≤ cs.length → cs.length ≤ t → R (.new (cs.map PyData.int)) as
theorem cut_lo {ns : List Int} {t : Nat} : DL.cutD (ns.map PyData.int) none (some (t : Int)) = (ns.take t).map PyData.int := by
  unfold DL.cutD
  rw [HT.sIx_none, HT.sIx_nat, List.length_map]
  simp [List.map_take]
theorem cut_hi {ns : List Int} {lo hi : Option Int} : ∃ xs : List Int, DL.cutD (ns.map PyData.int) lo hi = xs.map PyData.int ∧ (HT.sIx ns.length 0 lo = ns.length → xs = []) := by
  refine ⟨(ns.drop (HT.sIx ns.length 0 lo)).take (HT.sIx ns.length ns.length hi - HT.sIx ns.length 0 lo), ?_, fun h => ?_⟩
  · unfold DL.cutD
    rw [List.length_map, List.map_take, List.map_drop]
  · rw [h]
    simp
theorem w_cells {as : List Sl} {R : Rs → List Sl → Prop} (h : S_cells as R) : W__law_cells (endsF as R) (startG N__law_cells as) := by
  obtain ⟨ns, t, rfl, hl, h1, h2, k⟩ := h
  have loop : ∀ (xs : List Int) (k0 : Nat) (cs : List Int) (s3 s4 s5 : Sl), k0 + xs.length ≤ 100 → cs.length = t →
      forW (wgTup 2 (wgCons (wgName 3) (wgCons (wgName 4) wgNil))) (wSeq (wAsg 5 (wOp modD (wCB intT (wCons (wVar 3) wNil)) (wVar 1)))
        (wSetI 2 (wVar 5) (wOp addD (wIxO (wO 2) (wVar 5)) (wOp mulD (wVar 4) (wOp addD (wVar 3) (wC (.int 2)))))))
        { endsF [.scr (ns.map PyData.int), .dat (.int (t : Int))] R with nx := wRetO 2 (endsF [.scr (ns.map PyData.int), .dat (.int (t : Int))] R) } (enumFrom k0 (xs.map PyData.int))
        [.scr (ns.map PyData.int), .dat (.int (t : Int)), .own (cs.map PyData.int), s3, s4, s5] := by
    intro xs
    induction xs with
    | nil =>
      intro k0 cs s3 s4 s5 _ hc
      simp [enumFrom, forW, wRetO]
      exact k cs (by omega) (by omega)
    | cons x xs ih =>
      intro k0 cs s3 s4 s5 hk hc
      simp only [List.length_cons] at hk
      simp only [List.map_cons, enumFrom, forW]
      have ht : (t : Int) ≠ 0 := by omega
      obtain ⟨f0, f1⟩ := fmod_in (i := (k0 : Int)) (m := (t : Int)) (by omega)
      obtain ⟨j, hj⟩ : ∃ j : Nat, (k0 : Int).fmod t = (j : Int) := ⟨((k0 : Int).fmod t).toNat, by omega⟩
      rw [hj] at f0 f1
      have hlt : j < cs.length := by omega
      have ei : atI (cs.map PyData.int) (j : Int) = some (.int cs[j]) := atI_ints (List.getElem?_eq_getElem hlt)
      have ex : ixN cs.length (j : Int) = some j := by
        unfold ixN
        rw [if_pos f0, if_pos (by omega)]
        simp
      have ht' : ¬ t = 0 := by omega
      simp [wSeq, wAsg, wSetI, ht, ht', hj, ei, ex]
      refine ⟨cmul_r (by omega) (by omega), ?_⟩
      have e := ih (k0 + 1) (cs.set j (cs[j] + x * (k0 + 2))) (.dat (.int k0)) (.dat (.int x)) (.dat (.int j)) (by omega) (by simp [hc])
      rw [List.map_set] at e
      exact e
  simp [W__law_cells, wSeq, startG, cut_lo]
  obtain ⟨xs, ex, ez⟩ := cut_hi (ns := ns) (lo := some (t : Int)) (hi := some 63)
  have hx : xs.length ≤ 63 := by
    have : (DL.cutD (ns.map PyData.int) (some (t : Int)) (some 63)).length = xs.length := by rw [ex, List.length_map]
    unfold DL.cutD at this
    rw [List.length_take, List.length_drop, List.length_map] at this
    omega
  rw [ex]
  by_cases hlen : t ≤ ns.length
  · have ht : (ns.take t).length = t := by rw [List.length_take]; omega
    have hne : ¬ (ns.take t) = [] := fun z => by rw [z] at ht; simp at ht; omega
    have hne' : ¬ (t = 0 ∨ ns = []) := by
      rintro (z | z)
      · omega
      · subst z; simp at hlen; omega
    simp [hne']
    have := loop xs 0 (ns.take t) .un .un .un (by omega) ht
    rw [List.map_take] at this
    exact this
  · have z : xs = [] := ez (by rw [HT.sIx_nat]; omega)
    subst z
    simp [enumFrom, forW, wRetO]
    have s1 : 1 ≤ sizeLine := by decide
    by_cases hn : ns = []
    · subst hn
      simp
      exact ⟨s1, k [0] (by simp) (by simpa using h1)⟩
    · have h0 : ¬ (t = 0 ∨ ns = []) := by
        rintro (z | z)
        · omega
        · exact hn z
      rw [if_neg h0, ← List.map_take]
      have : 0 < ns.length := List.length_pos_iff.mpr hn
      exact k (ns.take t) (by rw [List.length_take]; omega) (by rw [List.length_take]; omega)
/-! one of the goods -/
def S_of : PSp := fun as R => ∃ (n : Nat) (ds goods : List PyData), as = [.par ds, .dat (.list goods)] ∧ Box (n + 1) ds ∧ goods ≠ [] ∧ goods.length < 1073741824 ∧
  ∀ g ds', g ∈ goods → Box n ds' → R (.dat g) [.par ds', .dat (.list goods)]
theorem atI_of {ds : List PyData} {r : Int} (h0 : 0 ≤ r) (h1 : r < ds.length) : ∃ d, d ∈ ds ∧ atI ds r = some d := by
  obtain ⟨j, rfl⟩ : ∃ j : Nat, r = (j : Int) := ⟨r.toNat, by omega⟩
  have hj : j < ds.length := by omega
  exact ⟨ds[j], List.getElem_mem hj, atI_nat (List.getElem?_eq_getElem hj)⟩
theorem w_of {as : List Sl} {R : Rs → List Sl → Prop} (h : S_of as R) : W__law_of S_take (endsF as R) (startG N__law_of as) := by
  obtain ⟨n, ds, goods, rfl, hB, hne, hl, k⟩ := h
  have hp : 0 < goods.length := List.length_pos_iff.mpr hne
  simp [W__law_of, startG]
  refine ⟨n, ds, _, rfl, hB, by omega, by omega, fun r ds' hB' h0 h1 => ?_⟩
  obtain ⟨d, hd, e⟩ := atI_of h0 h1
  simp [e]
  exact k d ds' hd hB'
/-! two alike are the same -/
def okD : Nat → PyData → Bool
  | _, .none => true
  | _, .bool _ => true
  | _, .int _ => true
  | _, .str s => PyData.strOk s
  | n + 1, .list xs => decide (xs.length ≤ 100000) && xs.all (okD n)
  | n + 1, .tuple xs => decide (xs.length ≤ 100000) && xs.all (okD n)
  | _, _ => false
def S_same (n : Nat) : PSp := fun as R => ∃ d, okD n d = true ∧ as = [.dat d, .dat d] ∧ R (.dat (.bool true)) as
theorem zipD_self_cons (x : PyData) (xs : List PyData) : zipD (x :: xs) (x :: xs) = .tuple [x, x] :: zipD xs xs := rfl
theorem same_loop {n : Nat} {Q : List PyData → Gam → Prop} {d : PyData} : ∀ (zs : List PyData) (m : Nat), zs.all (okD n) = true → m + zs.length ≤ 100000 → Q (List.replicate (m + zs.length) (.bool true)) [.dat d, .dat d, .un, .un] →
    lcD (wgTup 2 (wgCons (wgName 2) (wgCons (wgName 3) wgNil))) wYes (wCall (S_same n) (wPCons (wD (wVar 2)) (wPCons (wD (wVar 3)) wPNil))) [2, 3] Q (zipD zs zs) (List.replicate m (.bool true)) [.dat d, .dat d, .un, .un]
  | [], m, _, _, q => q
  | z :: zs, m, h, hl, q => by
    rw [List.all_cons, Bool.and_eq_true] at h
    simp only [List.length_cons] at hl q
    rw [zipD_self_cons]
    have hs : m < sizeLine := by rw [sizeLine_eq]; omega
    have ih := same_loop zs (m + 1) h.2 (by omega) (by rw [show m + 1 + zs.length = m + (zs.length + 1) by omega]; exact q)
    simp [lcD, wYes, wCall, wPCons, wD, wPNil]
    refine ⟨z, h.1, rfl, ?_⟩
    rw [List.replicate_succ'] at ih
    exact ⟨hs, ih⟩
theorem bools_rep : ∀ m : Nat, boolsD (List.replicate m (.bool true)) = some (List.replicate m true)
  | 0 => rfl
  | m + 1 => by
    rw [List.replicate_succ, List.replicate_succ]
    unfold boolsD
    rw [bools_rep m]
theorem allB_of {ds : List PyData} {bs : List Bool} {k : PyData → Prop} (h : boolsD ds = some bs) (q : k (.bool (bs.all id))) : DL.allB [.list ds] k := by
  show (match boolsD ds with
    | some bs => k (.bool (bs.all id))
    | none => False)
  rw [h]
  exact q
theorem w_same {n : Nat} {as : List Sl} {R : Rs → List Sl → Prop} (h : S_same (n + 1) as R) : W__law_same (S_same n) (endsF as R) (startG N__law_same as) := by
  obtain ⟨d, hd, rfl, k⟩ := h
  cases d with
  | list xs =>
    simp [okD] at hd
    simp [W__law_same, wSeq, wIfS, startG, wIsi2, wIsi, wZip, wNext, wRet, wLc]
    refine same_loop xs 0 (by simpa using hd.2) (by omega) ?_
    refine allB_of (bools_rep _) ?_
    simpa using k
  | tuple xs =>
    simp [okD] at hd
    simp [W__law_same, wSeq, wIfS, startG, wIsi2, wIsi, wZip, wNext, wRet, wLc]
    refine same_loop xs 0 (by simpa using hd.2) (by omega) ?_
    refine allB_of (bools_rep _) ?_
    simpa using k
  | none => simpa [W__law_same, wSeq, wIfS, startG, wIsi2, wIsi, wNext, wRet, eqD, SeqAt.shaped, PyData.canLay0, PyData.depth, PyData.eqv] using k
  | bool b => simpa [W__law_same, wSeq, wIfS, startG, wIsi2, wIsi, wNext, wRet] using k
  | int i => simpa [W__law_same, wSeq, wIfS, startG, wIsi2, wIsi, wNext, wRet] using k
  | str s =>
    simp [okD] at hd
    simpa [W__law_same, wSeq, wIfS, startG, wIsi2, wIsi, wNext, wRet, hd] using k
  | dict _ => simp [okD] at hd
end K28

namespace DL
open PySem PySem.Spec PyProof.Rows L2
/-! ## formulas as data: equal exactly if they are the same -/
theorem eqvAll_nil : PyData.eqvAll [] [] = true := by simp [PyData.eqvAll]
theorem eqvAll_cons {x y : PyData} {xs ys : List PyData} : PyData.eqvAll (x :: xs) (y :: ys) = (PyData.eqv x y && PyData.eqvAll xs ys) := by simp [PyData.eqvAll]
theorem eqv_tup {xs ys : List PyData} : PyData.eqv (.tuple xs) (.tuple ys) = PyData.eqvAll xs ys := by rw [PyData.eqv.eq_def]
theorem eqvAll_nc {y : PyData} {ys : List PyData} : PyData.eqvAll [] (y :: ys) = false := by simp [PyData.eqvAll]
theorem eqvAll_cn {y : PyData} {ys : List PyData} : PyData.eqvAll (y :: ys) [] = false := by simp [PyData.eqvAll]
theorem toD_tup (f : Fm) : ∃ xs, f.toD = .tuple xs := by
  cases f <;> exact ⟨_, rfl⟩
theorem eqv_st {s : Str} (f : Fm) : PyData.eqv (.str s) f.toD = false ∧ PyData.eqv f.toD (.str s) = false := by
  obtain ⟨xs, e⟩ := toD_tup f
  rw [e]
  constructor <;> rw [PyData.eqv.eq_def]
theorem str_beq_dec (a b : Str) : (a == b) = decide (a = b) := by
  by_cases h : a = b
  · subst h; simp
  · rw [decide_eq_false h]; exact beq_eq_false_iff_ne.mpr h
theorem eqv_toD : ∀ f g : Fm, PyData.eqv f.toD g.toD = decide (f = g) := by
  intro f
  induction f with
  | tt =>
    intro g
    cases g <;> simp [Fm.toD, eqv_tup, eqvAll_cons, eqvAll_nil, eqvAll_nc, eqvAll_cn]
  | word w =>
    intro g
    cases g with
    | un h a => simp [Fm.toD, eqv_tup, eqvAll_cons, eqvAll_nil, eqvAll_nc, eqvAll_cn, (eqv_st a).1]
    | word v => simp [Fm.toD, eqv_tup, eqvAll_cons, eqvAll_nil, str_beq_dec]
    | _ => simp [Fm.toD, eqv_tup, eqvAll_cons, eqvAll_nil, eqvAll_nc, eqvAll_cn]
  | un h a ih =>
    intro g
    cases g with
    | word w => simp [Fm.toD, eqv_tup, eqvAll_cons, eqvAll_nil, eqvAll_nc, eqvAll_cn, (eqv_st a).2]
    | un k b => simp [Fm.toD, eqv_tup, eqvAll_cons, eqvAll_nil, ih, str_beq_dec]
    | _ => simp [Fm.toD, eqv_tup, eqvAll_cons, eqvAll_nil, eqvAll_nc, eqvAll_cn]
  | bin h a b iha ihb =>
    intro g
    cases g with
    | bin k c d => simp [Fm.toD, eqv_tup, eqvAll_cons, eqvAll_nil, iha, ihb, str_beq_dec]
    | _ => simp [Fm.toD, eqv_tup, eqvAll_cons, eqvAll_nil, eqvAll_nc, eqvAll_cn]
/-! what may be compared -/
def Fm.sok : Fm → Bool
  | .tt => true
  | .word w => PyData.strOk w
  | .un h a => PyData.strOk h && a.sok
  | .bin h a b => PyData.strOk h && (a.sok && b.sok)
def Fm.ht : Fm → Nat
  | .tt => 1
  | .word _ => 1
  | .un _ a => 1 + a.ht
  | .bin _ a b => 1 + max a.ht b.ht
theorem lay_toD : ∀ f : Fm, f.sok = true → f.toD.canLay0 = true
  | .tt, _ => by decide +kernel
  | .word w, h => by
    have h2 : PyData.strOk ("word" : Str) = true := by decide +kernel
    simp [Fm.sok] at h
    simp [Fm.toD, PyData.canLay0, PyData.canLayAll0, h, h2]
  | .un k a, h => by
    simp [Fm.sok] at h
    simp [Fm.toD, PyData.canLay0, PyData.canLayAll0, h.1, lay_toD a h.2]
  | .bin k a b, h => by
    simp [Fm.sok] at h
    simp [Fm.toD, PyData.canLay0, PyData.canLayAll0, h.1, lay_toD a h.2.1, lay_toD b h.2.2]
theorem dep_toD : ∀ f : Fm, f.toD.depth ≤ 2 * f.ht
  | .tt => by simp [Fm.toD, PyData.depth, PyData.depthAll, Fm.ht]
  | .word w => by simp [Fm.toD, PyData.depth, PyData.depthAll, Fm.ht]
  | .un k a => by
    have := dep_toD a
    simp [Fm.toD, PyData.depth, PyData.depthAll, Fm.ht]
    omega
  | .bin k a b => by
    have := dep_toD a
    have := dep_toD b
    simp [Fm.toD, PyData.depth, PyData.depthAll, Fm.ht]
    omega
structure Fm.fine (f : Fm) : Prop where
  sok : f.sok = true
  ht : f.ht ≤ 30
theorem shaped_toD {f : Fm} (h : f.fine) : SeqAt.shaped f.toD = true := by
  unfold SeqAt.shaped
  have := dep_toD f
  have := h.ht
  rw [lay_toD f h.sok]
  simp
  omega
theorem shaped_two {f g : Fm} (h : f.fine) (h' : g.fine) : SeqAt.shaped (.tuple [f.toD, g.toD]) = true := by
  unfold SeqAt.shaped
  have := dep_toD f
  have := h.ht
  have := dep_toD g
  have := h'.ht
  simp [PyData.canLay0, PyData.canLayAll0, lay_toD f h.sok, lay_toD g h'.sok, PyData.depth, PyData.depthAll]
  omega
end DL
namespace K28
open PySem PySem.Spec PyProof.Rows L2 DL
abbrev yesF : Fm := .tt
abbrev noF : Fm := .un "not" .tt
theorem fine_yes : yesF.fine := ⟨by decide +kernel, by decide⟩
theorem fine_no : noF.fine := ⟨by decide +kernel, by decide⟩
theorem toD_yes : PyData.tuple [.str "true"] = yesF.toD := rfl
theorem toD_no : PyData.tuple [.str "not", .tuple [.str "true"]] = noF.toD := rfl
def eitherF (a b : Fm) : Fm := if a = yesF ∨ b = yesF then yesF else if a = noF then b else if b = noF then a else .bin "or" a b
def bothF (a b : Fm) : Fm := if a = noF ∨ b = noF then noF else if a = yesF then b else if b = yesF then a else .bin "and" a b
theorem eqD_fm {a b : Fm} {k : PyData → Prop} (ha : a.fine) (hb : b.fine) (q : k (.bool (decide (a = b)))) : eqD a.toD b.toD k := by
  unfold eqD
  refine ⟨shaped_toD ha, shaped_toD hb, ?_⟩
  rw [eqv_toD]
  exact q

theorem inT_fm {c a b : Fm} {k : PyData → Prop} (hc : c.fine) (ha : a.fine) (hb : b.fine) (q : k (.bool (decide (a = c ∨ b = c)))) : inTD c.toD (.tuple [a.toD, b.toD]) k := by
  unfold inTD
  refine ⟨shaped_toD hc, shaped_two ha hb, ?_⟩
  have e : (List.any [a.toD, b.toD] fun z => PyData.eqv z c.toD) = decide (a = c ∨ b = c) := by
    simp [eqv_toD]
  rw [e]
  exact q

theorem ite_t {c : Prop} [Decidable c] {p q : Prop} (h : c) (hp : p) : if decide c = true then p else q := by rw [if_pos (decide_eq_true h)]; exact hp

theorem ite_f {c : Prop} [Decidable c] {p q : Prop} (h : ¬ c) (hq : q) : if decide c = true then p else q := by rw [if_neg (by rw [decide_eq_true_iff]; exact h)]; exact hq

end K28

namespace DL
open PySem PySem.Spec PyProof.Rows L2
/-! ## rows and the formulas that they stand for -/
def PtsN (fs : List Fm) (i : Nat) : Fm → List Int → Prop
  | .tt, bs => bs = []
  | .word _, bs => bs = []
  | .un _ a, bs => ∃ j : Nat, bs = [(j : Int)] ∧ j < i ∧ fs[j]? = some a
  | .bin _ a b, bs => ∃ j l : Nat, bs = [(j : Int), (l : Int)] ∧ j < i ∧ l < i ∧ fs[j]? = some a ∧ fs[l]? = some b
structure Dec (rows : List Row) (fs : List Fm) : Prop where
  len : fs.length = rows.length
  at' : ∀ (i : Nat) f, fs[i]? = some f → ∃ bs, rows[i]? = some (mkR f bs) ∧ PtsN fs i f bs
theorem get_app {α : Type} {xs ys : List α} {i : Nat} {a : α} (h : xs[i]? = some a) : (xs ++ ys)[i]? = some a := by
  rw [List.getElem?_append_left (List.getElem?_eq_some_iff.mp h).1]
  exact h
theorem PtsN.app {fs gs : List Fm} {i : Nat} : ∀ {f : Fm} {bs : List Int}, PtsN fs i f bs → PtsN (fs ++ gs) i f bs
  | .tt, _, h => h
  | .word _, _, h => h
  | .un _ _, _, ⟨j, e, l, g⟩ => ⟨j, e, l, get_app g⟩
  | .bin _ _ _, _, ⟨j, l, e, h1, h2, g1, g2⟩ => ⟨j, l, e, h1, h2, get_app g1, get_app g2⟩
theorem mkR_inj {fs : List Fm} {i j : Nat} {f g : Fm} {bs cs : List Int} (hf : PtsN fs i f bs) (hg : PtsN fs j g cs) (e : mkR f bs = mkR g cs) : f = g := by
  cases f with
  | tt =>
    cases g with
    | tt => rfl
    | word w => simp [mkR] at e
    | un k a =>
      obtain ⟨j, rfl, _⟩ := hg
      simp [mkR] at e
    | bin k a b =>
      obtain ⟨j, l, rfl, _⟩ := hg
      simp [mkR] at e
  | word w =>
    cases g with
    | tt => simp [mkR] at e
    | word v => simp [mkR] at e; rw [e]
    | un k a =>
      obtain ⟨j, rfl, _⟩ := hg
      simp [mkR] at e
    | bin k a b =>
      obtain ⟨j, l, rfl, _⟩ := hg
      simp [mkR] at e
  | un h a =>
    obtain ⟨m, rfl, _, ga⟩ := hf
    cases g with
    | tt => simp [mkR] at e
    | word v => simp [mkR] at e
    | un k b =>
      obtain ⟨l, rfl, _, gb⟩ := hg
      simp [mkR] at e
      obtain ⟨e1, e2⟩ := e
      subst e1
      have e3 : m = l := by omega
      subst e3
      rw [ga] at gb
      cases gb
      rfl
    | bin k b c =>
      obtain ⟨l, o, rfl, _⟩ := hg
      simp [mkR] at e
  | bin h a b =>
    obtain ⟨m, n, rfl, _, _, ga, gb⟩ := hf
    cases g with
    | tt => simp [mkR] at e
    | word v => simp [mkR] at e
    | un k c =>
      obtain ⟨l, rfl, _, gc⟩ := hg
      simp [mkR] at e
    | bin k c d =>
      obtain ⟨l, o, rfl, _, _, gc, gd⟩ := hg
      simp [mkR] at e
      obtain ⟨e1, e2, e3⟩ := e
      subst e1
      have e4 : m = l := by omega
      have e5 : n = o := by omega
      subst e4 e5
      rw [ga] at gc
      rw [gb] at gd
      cases gc
      cases gd
      rfl
theorem findR_some {r : Row} {rows : List Row} {i : Nat} (h : findR r rows = some i) : rows[i]? = some r := by
  unfold findR at h
  rw [List.findIdx?_eq_some_iff_getElem] at h
  obtain ⟨hl, h1, _⟩ := h
  rw [List.getElem?_eq_getElem hl]
  simpa using h1
/-- one row more, or one that is there -/
theorem add_dec {rows : List Row} {fs : List Fm} {f : Fm} {bs : List Int} (D : Dec rows fs) (hp : PtsN fs rows.length f bs) :
    (∃ fs2, (fs2 = [] ∨ fs2 = [f]) ∧ Dec (addR (mkR f bs) rows).1 (fs ++ fs2) ∧ (fs ++ fs2)[(addR (mkR f bs) rows).2]? = some f) ∧ (f ∉ fs → addR (mkR f bs) rows = (rows ++ [mkR f bs], rows.length) ∧ Dec (rows ++ [mkR f bs]) (fs ++ [f])) := by
  have new_ : Dec (rows ++ [mkR f bs]) (fs ++ [f]) := by
    refine ⟨by simp [D.len], fun i g h => ?_⟩
    by_cases hi : i < fs.length
    · rw [List.getElem?_append_left hi] at h
      obtain ⟨cs, h1, h2⟩ := D.at' i g h
      exact ⟨cs, get_app h1, h2.app⟩
    · rw [List.getElem?_append_right (by omega)] at h
      have e : i - fs.length = 0 := by
        have := (List.getElem?_eq_some_iff.mp h).1
        simp at this
        omega
      rw [e] at h
      simp at h
      subst h
      have ei : i = rows.length := by have := D.len; omega
      subst ei
      exact ⟨bs, by simp, hp.app⟩
  cases e : findR (mkR f bs) rows with
  | some i =>
    have ad : addR (mkR f bs) rows = (rows, i) := by unfold addR; rw [e]
    have hi := findR_some e
    have hl : i < fs.length := by rw [D.len]; exact (List.getElem?_eq_some_iff.mp hi).1
    obtain ⟨g, hg⟩ : ∃ g, fs[i]? = some g := ⟨_, List.getElem?_eq_getElem hl⟩
    obtain ⟨cs, h1, h2⟩ := D.at' i g hg
    rw [hi] at h1
    have eg : f = g := mkR_inj hp h2 (Option.some.inj h1)
    subst eg
    refine ⟨⟨[], .inl rfl, ?_, ?_⟩, fun z => absurd (List.mem_of_getElem? hg) z⟩
    · rw [ad, List.append_nil]; exact D
    · rw [ad, List.append_nil]; exact hg
  | none =>
    have ad : addR (mkR f bs) rows = (rows ++ [mkR f bs], rows.length) := by unfold addR; rw [e]
    refine ⟨⟨[f], .inr rfl, by rw [ad]; exact new_, ?_⟩, fun _ => ⟨ad, new_⟩⟩
    rw [ad]
    show (fs ++ [f])[rows.length]? = some f
    rw [← D.len]
    simp
theorem add_mem {f : Fm} {P : Fm → Prop} {fs2 : List Fm} (h : fs2 = [] ∨ fs2 = [f]) (p : P f) : ∀ g ∈ fs2, P g := by
  rcases h with rfl | rfl
  · intro g hg; cases hg
  · intro g hg
    simp at hg
    subst hg
    exact p
theorem rows_dec {P : Fm → Prop} (her : ∀ f, P f → ∀ c ∈ f.kids, P c) : ∀ (f : Fm) (rows : List Row) (fs : List Fm), Dec rows fs → P f → ∃ fs2, Dec (rowsOf f rows).1 (fs ++ fs2) ∧ (fs ++ fs2)[(rowsOf f rows).2]? = some f ∧ (∀ g ∈ fs2, P g ∧ g.wt ≤ f.wt)
  | .tt, rows, fs, D, p => by
    obtain ⟨⟨fs2, e, h1, h2⟩, _⟩ := add_dec (f := .tt) (bs := []) D rfl
    exact ⟨fs2, h1, h2, add_mem (P := fun g => P g ∧ g.wt ≤ Fm.wt .tt) e ⟨p, Nat.le_refl _⟩⟩
  | .word w, rows, fs, D, p => by
    obtain ⟨⟨fs2, e, h1, h2⟩, _⟩ := add_dec (f := .word w) (bs := []) D rfl
    exact ⟨fs2, h1, h2, add_mem (P := fun g => P g ∧ g.wt ≤ Fm.wt (.word w)) e ⟨p, Nat.le_refl _⟩⟩
  | .un k a, rows, fs, D, p => by
    obtain ⟨fs1, D1, g1, m1⟩ := rows_dec her a rows fs D (her _ p a (by simp [Fm.kids]))
    have l1 := (List.getElem?_eq_some_iff.mp g1).1
    obtain ⟨⟨fs2, e, h1, h2⟩, _⟩ := add_dec (f := .un k a) (bs := [((rowsOf a rows).2 : Int)]) D1 ⟨_, rfl, by rw [← D1.len]; exact l1, g1⟩
    refine ⟨fs1 ++ fs2, by rw [← List.append_assoc]; exact h1, by rw [← List.append_assoc]; exact h2, fun g hg => ?_⟩
    rcases List.mem_append.mp hg with hg | hg
    · have := m1 g hg
      exact ⟨this.1, by simp only [Fm.wt]; omega⟩
    · exact add_mem (P := fun g => P g ∧ g.wt ≤ Fm.wt (.un k a)) e ⟨p, Nat.le_refl _⟩ g hg
  | .bin k a b, rows, fs, D, p => by
    obtain ⟨fs1, D1, g1, m1⟩ := rows_dec her a rows fs D (her _ p a (by simp [Fm.kids]))
    obtain ⟨fs2, D2, g2, m2⟩ := rows_dec her b (rowsOf a rows).1 (fs ++ fs1) D1 (her _ p b (by simp [Fm.kids]))
    have g1' := get_app (ys := fs2) g1
    have l1 := (List.getElem?_eq_some_iff.mp g1').1
    have l2 := (List.getElem?_eq_some_iff.mp g2).1
    obtain ⟨⟨fs3, e, h1, h2⟩, _⟩ := add_dec (f := .bin k a b) (bs := [((rowsOf a rows).2 : Int), ((rowsOf b (rowsOf a rows).1).2 : Int)]) D2 ⟨_, _, rfl, by rw [← D2.len]; exact l1, by rw [← D2.len]; exact l2, g1', g2⟩
    refine ⟨fs1 ++ fs2 ++ fs3, ?_, ?_, fun g hg => ?_⟩
    · rw [← List.append_assoc, ← List.append_assoc]; exact h1
    · rw [← List.append_assoc, ← List.append_assoc]; exact h2
    · rcases List.mem_append.mp hg with hg | hg
      · rcases List.mem_append.mp hg with hg | hg
        · have := m1 g hg
          exact ⟨this.1, by simp only [Fm.wt]; omega⟩
        · have := m2 g hg
          exact ⟨this.1, by simp only [Fm.wt]; omega⟩
      · exact add_mem (P := fun g => P g ∧ g.wt ≤ Fm.wt (.bin k a b)) e ⟨p, Nat.le_refl _⟩ g hg
theorem dec_nil : Dec [] [] := ⟨rfl, fun i f h => by simp at h⟩
/-- the rows of a formula: its own comes last -/
theorem rows_top {P : Fm → Prop} (her : ∀ f, P f → ∀ c ∈ f.kids, P c) (f : Fm) (p : P f) : ∃ fs, Dec (rowsOf f []).1 (fs ++ [f]) ∧ ∀ g ∈ fs ++ [f], P g := by
  cases f with
  | tt =>
    have := (add_dec (f := .tt) (bs := []) dec_nil rfl).2 (by simp)
    exact ⟨[], by rw [show (rowsOf .tt []).1 = [mkR .tt []] from rfl]; exact this.2, fun g hg => by simp at hg; subst hg; exact p⟩
  | word w =>
    have := (add_dec (f := .word w) (bs := []) dec_nil rfl).2 (by simp)
    exact ⟨[], by rw [show (rowsOf (.word w) []).1 = [mkR (.word w) []] from rfl]; exact this.2, fun g hg => by simp at hg; subst hg; exact p⟩
  | un k a =>
    obtain ⟨fs1, D1, g1, m1⟩ := rows_dec her a [] [] dec_nil (her _ p a (by simp [Fm.kids]))
    rw [List.nil_append] at D1 g1
    have l1 := (List.getElem?_eq_some_iff.mp g1).1
    have no : Fm.un k a ∉ fs1 := fun z => by
      have := (m1 _ z).2
      simp only [Fm.wt] at this
      omega
    obtain ⟨h1, h2⟩ := (add_dec (f := .un k a) (bs := [((rowsOf a []).2 : Int)]) D1 ⟨_, rfl, by rw [← D1.len]; exact l1, g1⟩).2 no
    refine ⟨fs1, ?_, fun g hg => ?_⟩
    · show Dec (addR (mkR (.un k a) [((rowsOf a []).2 : Int)]) (rowsOf a []).1).1 _
      rw [h1]
      exact h2
    · rcases List.mem_append.mp hg with hg | hg
      · exact (m1 g hg).1
      · simp at hg; subst hg; exact p
  | bin k a b =>
    obtain ⟨fs1, D1, g1, m1⟩ := rows_dec her a [] [] dec_nil (her _ p a (by simp [Fm.kids]))
    obtain ⟨fs2, D2, g2, m2⟩ := rows_dec her b (rowsOf a []).1 ([] ++ fs1) D1 (her _ p b (by simp [Fm.kids]))
    rw [List.nil_append] at D1 g1 D2 g2
    have g1' := get_app (ys := fs2) g1
    have l1 := (List.getElem?_eq_some_iff.mp g1').1
    have l2 := (List.getElem?_eq_some_iff.mp g2).1
    have no : Fm.bin k a b ∉ fs1 ++ fs2 := fun z => by
      rcases List.mem_append.mp z with z | z
      · have := (m1 _ z).2
        simp only [Fm.wt] at this
        omega
      · have := (m2 _ z).2
        simp only [Fm.wt] at this
        omega
    obtain ⟨h1, h2⟩ := (add_dec (f := .bin k a b) (bs := [((rowsOf a []).2 : Int), ((rowsOf b (rowsOf a []).1).2 : Int)]) D2 ⟨_, _, rfl, by rw [← D2.len]; exact l1, by rw [← D2.len]; exact l2, g1', g2⟩).2 no
    refine ⟨fs1 ++ fs2, ?_, fun g hg => ?_⟩
    · show Dec (addR (mkR (.bin k a b) [((rowsOf a []).2 : Int), ((rowsOf b (rowsOf a []).1).2 : Int)]) (rowsOf b (rowsOf a []).1).1).1 _
      rw [h1]
      exact h2
    · rcases List.mem_append.mp hg with hg | hg
      · rcases List.mem_append.mp hg with hg | hg
        · exact (m1 g hg).1
        · exact (m2 g hg).1
      · simp at hg; subst hg; exact p
end DL

namespace K28
open PySem PySem.Spec PyProof.Rows L2 DL
/-- the heads that a formula may have -/
def wfF : Fm → Prop
  | .tt => True
  | .word _ => True
  | .un h a => (h = "not" ∨ h = "next" ∨ h = "ever" ∨ h = "always") ∧ wfF a
  | .bin h a b => (h = "and" ∨ h = "or" ∨ h = "until" ∨ h = "unless") ∧ wfF a ∧ wfF b
theorem ok_of_wf : ∀ {f : Fm}, wfF f → f.ok
  | .tt, _ => trivial
  | .word _, _ => trivial
  | .un h a, ⟨k, ha⟩ => by
    have n1 : ∀ h : Str, (h = "not" ∨ h = "next" ∨ h = "ever" ∨ h = "always") → h ≠ "true" ∧ h ≠ "word" := by
      rintro h (rfl | rfl | rfl | rfl) <;> decide +kernel
    exact ⟨(n1 h k).1, (n1 h k).2, ok_of_wf ha⟩
  | .bin h a b, ⟨k, ha, hb⟩ => by
    have n1 : ∀ h : Str, (h = "and" ∨ h = "or" ∨ h = "until" ∨ h = "unless") → h ≠ "true" ∧ h ≠ "word" := by
      rintro h (rfl | rfl | rfl | rfl) <;> decide +kernel
    exact ⟨(n1 h k).1, (n1 h k).2, ok_of_wf ha, ok_of_wf hb⟩
theorem ht_pos (f : Fm) : 1 ≤ f.ht := by
  cases f <;> simp [Fm.ht] <;> omega
/-- how deep until and unless are nested -/
def unF : Fm → Nat
  | .tt => 0
  | .word _ => 0
  | .un _ a => unF a
  | .bin h a b => (if h = "and" ∨ h = "or" then 0 else 1) + max (unF a) (unF b)
end K28

namespace K28
open PySem PySem.Spec PyProof.Rows L2 DL
/-! ## words that are different -/
@[simp] theorem ok_true : PyData.strOk ("true" : Str) = true := by decide +kernel
@[simp] theorem ne_true_word : (("true" : Str) = "word") = False := by rw [eq_iff_iff, iff_false]; decide +kernel
@[simp] theorem ne_true_next : (("true" : Str) = "next") = False := by rw [eq_iff_iff, iff_false]; decide +kernel
@[simp] theorem ne_true_not : (("true" : Str) = "not") = False := by rw [eq_iff_iff, iff_false]; decide +kernel
@[simp] theorem ne_true_ever : (("true" : Str) = "ever") = False := by rw [eq_iff_iff, iff_false]; decide +kernel
@[simp] theorem ne_true_always : (("true" : Str) = "always") = False := by rw [eq_iff_iff, iff_false]; decide +kernel
@[simp] theorem ne_true_and : (("true" : Str) = "and") = False := by rw [eq_iff_iff, iff_false]; decide +kernel
@[simp] theorem ne_true_or : (("true" : Str) = "or") = False := by rw [eq_iff_iff, iff_false]; decide +kernel
@[simp] theorem ne_true_until : (("true" : Str) = "until") = False := by rw [eq_iff_iff, iff_false]; decide +kernel
@[simp] theorem ne_true_unless : (("true" : Str) = "unless") = False := by rw [eq_iff_iff, iff_false]; decide +kernel
@[simp] theorem ok_word : PyData.strOk ("word" : Str) = true := by decide +kernel
@[simp] theorem ne_word_true : (("word" : Str) = "true") = False := by rw [eq_iff_iff, iff_false]; decide +kernel
@[simp] theorem ne_word_next : (("word" : Str) = "next") = False := by rw [eq_iff_iff, iff_false]; decide +kernel
@[simp] theorem ne_word_not : (("word" : Str) = "not") = False := by rw [eq_iff_iff, iff_false]; decide +kernel
@[simp] theorem ne_word_ever : (("word" : Str) = "ever") = False := by rw [eq_iff_iff, iff_false]; decide +kernel
@[simp] theorem ne_word_always : (("word" : Str) = "always") = False := by rw [eq_iff_iff, iff_false]; decide +kernel
@[simp] theorem ne_word_and : (("word" : Str) = "and") = False := by rw [eq_iff_iff, iff_false]; decide +kernel
@[simp] theorem ne_word_or : (("word" : Str) = "or") = False := by rw [eq_iff_iff, iff_false]; decide +kernel
@[simp] theorem ne_word_until : (("word" : Str) = "until") = False := by rw [eq_iff_iff, iff_false]; decide +kernel
@[simp] theorem ne_word_unless : (("word" : Str) = "unless") = False := by rw [eq_iff_iff, iff_false]; decide +kernel
@[simp] theorem ok_next : PyData.strOk ("next" : Str) = true := by decide +kernel
@[simp] theorem ne_next_true : (("next" : Str) = "true") = False := by rw [eq_iff_iff, iff_false]; decide +kernel
@[simp] theorem ne_next_word : (("next" : Str) = "word") = False := by rw [eq_iff_iff, iff_false]; decide +kernel
@[simp] theorem ne_next_not : (("next" : Str) = "not") = False := by rw [eq_iff_iff, iff_false]; decide +kernel
@[simp] theorem ne_next_ever : (("next" : Str) = "ever") = False := by rw [eq_iff_iff, iff_false]; decide +kernel
@[simp] theorem ne_next_always : (("next" : Str) = "always") = False := by rw [eq_iff_iff, iff_false]; decide +kernel
@[simp] theorem ne_next_and : (("next" : Str) = "and") = False := by rw [eq_iff_iff, iff_false]; decide +kernel
@[simp] theorem ne_next_or : (("next" : Str) = "or") = False := by rw [eq_iff_iff, iff_false]; decide +kernel
@[simp] theorem ne_next_until : (("next" : Str) = "until") = False := by rw [eq_iff_iff, iff_false]; decide +kernel
@[simp] theorem ne_next_unless : (("next" : Str) = "unless") = False := by rw [eq_iff_iff, iff_false]; decide +kernel
@[simp] theorem ok_not : PyData.strOk ("not" : Str) = true := by decide +kernel
@[simp] theorem ne_not_true : (("not" : Str) = "true") = False := by rw [eq_iff_iff, iff_false]; decide +kernel
@[simp] theorem ne_not_word : (("not" : Str) = "word") = False := by rw [eq_iff_iff, iff_false]; decide +kernel
@[simp] theorem ne_not_next : (("not" : Str) = "next") = False := by rw [eq_iff_iff, iff_false]; decide +kernel
@[simp] theorem ne_not_ever : (("not" : Str) = "ever") = False := by rw [eq_iff_iff, iff_false]; decide +kernel
@[simp] theorem ne_not_always : (("not" : Str) = "always") = False := by rw [eq_iff_iff, iff_false]; decide +kernel
@[simp] theorem ne_not_and : (("not" : Str) = "and") = False := by rw [eq_iff_iff, iff_false]; decide +kernel
@[simp] theorem ne_not_or : (("not" : Str) = "or") = False := by rw [eq_iff_iff, iff_false]; decide +kernel
@[simp] theorem ne_not_until : (("not" : Str) = "until") = False := by rw [eq_iff_iff, iff_false]; decide +kernel
@[simp] theorem ne_not_unless : (("not" : Str) = "unless") = False := by rw [eq_iff_iff, iff_false]; decide +kernel
@[simp] theorem ok_ever : PyData.strOk ("ever" : Str) = true := by decide +kernel
@[simp] theorem ne_ever_true : (("ever" : Str) = "true") = False := by rw [eq_iff_iff, iff_false]; decide +kernel
@[simp] theorem ne_ever_word : (("ever" : Str) = "word") = False := by rw [eq_iff_iff, iff_false]; decide +kernel
@[simp] theorem ne_ever_next : (("ever" : Str) = "next") = False := by rw [eq_iff_iff, iff_false]; decide +kernel
@[simp] theorem ne_ever_not : (("ever" : Str) = "not") = False := by rw [eq_iff_iff, iff_false]; decide +kernel
@[simp] theorem ne_ever_always : (("ever" : Str) = "always") = False := by rw [eq_iff_iff, iff_false]; decide +kernel
@[simp] theorem ne_ever_and : (("ever" : Str) = "and") = False := by rw [eq_iff_iff, iff_false]; decide +kernel
@[simp] theorem ne_ever_or : (("ever" : Str) = "or") = False := by rw [eq_iff_iff, iff_false]; decide +kernel
@[simp] theorem ne_ever_until : (("ever" : Str) = "until") = False := by rw [eq_iff_iff, iff_false]; decide +kernel
@[simp] theorem ne_ever_unless : (("ever" : Str) = "unless") = False := by rw [eq_iff_iff, iff_false]; decide +kernel
@[simp] theorem ok_always : PyData.strOk ("always" : Str) = true := by decide +kernel
@[simp] theorem ne_always_true : (("always" : Str) = "true") = False := by rw [eq_iff_iff, iff_false]; decide +kernel
@[simp] theorem ne_always_word : (("always" : Str) = "word") = False := by rw [eq_iff_iff, iff_false]; decide +kernel
@[simp] theorem ne_always_next : (("always" : Str) = "next") = False := by rw [eq_iff_iff, iff_false]; decide +kernel
@[simp] theorem ne_always_not : (("always" : Str) = "not") = False := by rw [eq_iff_iff, iff_false]; decide +kernel
@[simp] theorem ne_always_ever : (("always" : Str) = "ever") = False := by rw [eq_iff_iff, iff_false]; decide +kernel
@[simp] theorem ne_always_and : (("always" : Str) = "and") = False := by rw [eq_iff_iff, iff_false]; decide +kernel
@[simp] theorem ne_always_or : (("always" : Str) = "or") = False := by rw [eq_iff_iff, iff_false]; decide +kernel
@[simp] theorem ne_always_until : (("always" : Str) = "until") = False := by rw [eq_iff_iff, iff_false]; decide +kernel
@[simp] theorem ne_always_unless : (("always" : Str) = "unless") = False := by rw [eq_iff_iff, iff_false]; decide +kernel
@[simp] theorem ok_and : PyData.strOk ("and" : Str) = true := by decide +kernel
@[simp] theorem ne_and_true : (("and" : Str) = "true") = False := by rw [eq_iff_iff, iff_false]; decide +kernel
@[simp] theorem ne_and_word : (("and" : Str) = "word") = False := by rw [eq_iff_iff, iff_false]; decide +kernel
@[simp] theorem ne_and_next : (("and" : Str) = "next") = False := by rw [eq_iff_iff, iff_false]; decide +kernel
@[simp] theorem ne_and_not : (("and" : Str) = "not") = False := by rw [eq_iff_iff, iff_false]; decide +kernel
@[simp] theorem ne_and_ever : (("and" : Str) = "ever") = False := by rw [eq_iff_iff, iff_false]; decide +kernel
@[simp] theorem ne_and_always : (("and" : Str) = "always") = False := by rw [eq_iff_iff, iff_false]; decide +kernel
@[simp] theorem ne_and_or : (("and" : Str) = "or") = False := by rw [eq_iff_iff, iff_false]; decide +kernel
@[simp] theorem ne_and_until : (("and" : Str) = "until") = False := by rw [eq_iff_iff, iff_false]; decide +kernel
@[simp] theorem ne_and_unless : (("and" : Str) = "unless") = False := by rw [eq_iff_iff, iff_false]; decide +kernel
@[simp] theorem ok_or : PyData.strOk ("or" : Str) = true := by decide +kernel
@[simp] theorem ne_or_true : (("or" : Str) = "true") = False := by rw [eq_iff_iff, iff_false]; decide +kernel
@[simp] theorem ne_or_word : (("or" : Str) = "word") = False := by rw [eq_iff_iff, iff_false]; decide +kernel
@[simp] theorem ne_or_next : (("or" : Str) = "next") = False := by rw [eq_iff_iff, iff_false]; decide +kernel
@[simp] theorem ne_or_not : (("or" : Str) = "not") = False := by rw [eq_iff_iff, iff_false]; decide +kernel
@[simp] theorem ne_or_ever : (("or" : Str) = "ever") = False := by rw [eq_iff_iff, iff_false]; decide +kernel
@[simp] theorem ne_or_always : (("or" : Str) = "always") = False := by rw [eq_iff_iff, iff_false]; decide +kernel
@[simp] theorem ne_or_and : (("or" : Str) = "and") = False := by rw [eq_iff_iff, iff_false]; decide +kernel
@[simp] theorem ne_or_until : (("or" : Str) = "until") = False := by rw [eq_iff_iff, iff_false]; decide +kernel
@[simp] theorem ne_or_unless : (("or" : Str) = "unless") = False := by rw [eq_iff_iff, iff_false]; decide +kernel
@[simp] theorem ok_until : PyData.strOk ("until" : Str) = true := by decide +kernel
@[simp] theorem ne_until_true : (("until" : Str) = "true") = False := by rw [eq_iff_iff, iff_false]; decide +kernel
@[simp] theorem ne_until_word : (("until" : Str) = "word") = False := by rw [eq_iff_iff, iff_false]; decide +kernel
@[simp] theorem ne_until_next : (("until" : Str) = "next") = False := by rw [eq_iff_iff, iff_false]; decide +kernel
@[simp] theorem ne_until_not : (("until" : Str) = "not") = False := by rw [eq_iff_iff, iff_false]; decide +kernel
@[simp] theorem ne_until_ever : (("until" : Str) = "ever") = False := by rw [eq_iff_iff, iff_false]; decide +kernel
@[simp] theorem ne_until_always : (("until" : Str) = "always") = False := by rw [eq_iff_iff, iff_false]; decide +kernel
@[simp] theorem ne_until_and : (("until" : Str) = "and") = False := by rw [eq_iff_iff, iff_false]; decide +kernel
@[simp] theorem ne_until_or : (("until" : Str) = "or") = False := by rw [eq_iff_iff, iff_false]; decide +kernel
@[simp] theorem ne_until_unless : (("until" : Str) = "unless") = False := by rw [eq_iff_iff, iff_false]; decide +kernel
@[simp] theorem ok_unless : PyData.strOk ("unless" : Str) = true := by decide +kernel
@[simp] theorem ne_unless_true : (("unless" : Str) = "true") = False := by rw [eq_iff_iff, iff_false]; decide +kernel
@[simp] theorem ne_unless_word : (("unless" : Str) = "word") = False := by rw [eq_iff_iff, iff_false]; decide +kernel
@[simp] theorem ne_unless_next : (("unless" : Str) = "next") = False := by rw [eq_iff_iff, iff_false]; decide +kernel
@[simp] theorem ne_unless_not : (("unless" : Str) = "not") = False := by rw [eq_iff_iff, iff_false]; decide +kernel
@[simp] theorem ne_unless_ever : (("unless" : Str) = "ever") = False := by rw [eq_iff_iff, iff_false]; decide +kernel
@[simp] theorem ne_unless_always : (("unless" : Str) = "always") = False := by rw [eq_iff_iff, iff_false]; decide +kernel
@[simp] theorem ne_unless_and : (("unless" : Str) = "and") = False := by rw [eq_iff_iff, iff_false]; decide +kernel
@[simp] theorem ne_unless_or : (("unless" : Str) = "or") = False := by rw [eq_iff_iff, iff_false]; decide +kernel
@[simp] theorem ne_unless_until : (("unless" : Str) = "until") = False := by rw [eq_iff_iff, iff_false]; decide +kernel
end K28

namespace K28
open PySem PySem.Spec PyProof.Rows L2 DL
theorem flat_strs (told : List Str) : (told.map PyData.str).all flatD = true := by
  induction told with
  | nil => rfl
  | cons t ts ih => simpa [flatD] using ih
theorem in_strs (told : List Str) (w : Str) : ((told.map PyData.str).any fun z => PyData.eqv z (.str w)) = decide (w ∈ told) := by
  induction told with
  | nil => rfl
  | cons t ts ih =>
    rw [List.map_cons, List.any_cons, ih, eqv_str, str_beq_dec]
    by_cases h : t = w
    · subst h; simp
    · have h' : ¬ w = t := fun z => h z.symm
      simp [h, h']
theorem in_told {told : List Str} {w : Str} {k : PyData → Prop} (q : k (.bool (decide (w ∈ told)))) : inD (.str w) (.tuple (told.map PyData.str)) k := by
  rw [inD_tup]
  refine ⟨rfl, flat_strs told, ?_⟩
  rw [in_strs]
  exact q
end K28

namespace K28
open PySem PySem.Spec PyProof.Rows L2 DL
theorem rows_len : ∀ (f : Fm) (rows : List DL.Row), (rowsOf f rows).1.length ≤ rows.length + f.wt
  | .tt, rows => by
    have := addR_len (mkR .tt []) rows
    show (addR (mkR .tt []) rows).1.length ≤ rows.length + 2
    omega
  | .word w, rows => by
    have := addR_len (mkR (.word w) []) rows
    show (addR (mkR (.word w) []) rows).1.length ≤ rows.length + 2
    omega
  | .un k a, rows => by
    have ih := rows_len a rows
    have := addR_len (mkR (.un k a) [((rowsOf a rows).2 : Int)]) (rowsOf a rows).1
    show (addR (mkR (.un k a) [((rowsOf a rows).2 : Int)]) (rowsOf a rows).1).1.length ≤ rows.length + (2 + a.wt)
    omega
  | .bin k a b, rows => by
    have iha := rows_len a rows
    have ihb := rows_len b (rowsOf a rows).1
    have := addR_len (mkR (.bin k a b) [((rowsOf a rows).2 : Int), ((rowsOf b (rowsOf a rows).1).2 : Int)]) (rowsOf b (rowsOf a rows).1).1
    show (addR (mkR (.bin k a b) [((rowsOf a rows).2 : Int), ((rowsOf b (rowsOf a rows).1).2 : Int)]) (rowsOf b (rowsOf a rows).1).1).1.length ≤ rows.length + (2 + a.wt + b.wt)
    omega
end K28

namespace K28
open PySem PySem.Spec PyProof.Rows L2 DL
theorem wt_ge (f : Fm) : 2 ≤ f.wt := by
  cases f <;> simp [Fm.wt] <;> omega
/-! formulas as data are frozen -/
theorem froz_toD : ∀ f : Fm, froz f.toD = f.toD
  | .tt => by simp [Fm.toD, froz, frozAll]
  | .word w => by simp [Fm.toD, froz, frozAll]
  | .un h a => by simp [Fm.toD, froz, frozAll, froz_toD a]
  | .bin h a b => by simp [Fm.toD, froz, frozAll, froz_toD a, froz_toD b]
theorem wgt_toD : ∀ f : Fm, wgt f.toD ≤ 2 * f.wt
  | .tt => by simp [Fm.toD, wgt, wgtAll, Fm.wt]
  | .word w => by simp [Fm.toD, wgt, wgtAll, Fm.wt]
  | .un h a => by
    have := wgt_toD a
    simp [Fm.toD, wgt, wgtAll, Fm.wt]
    omega
  | .bin h a b => by
    have := wgt_toD a
    have := wgt_toD b
    simp [Fm.toD, wgt, wgtAll, Fm.wt]
    omega
/-! ## left_behind -/
def strsT (told : List Str) : PyData := .tuple (told.map PyData.str)
end K28

namespace K28
open PySem PySem.Spec PyProof.Rows L2 DL
theorem eqD_word {s t : Str} {k : PyData → Prop} (hs : PyData.strOk s = true) (ht : PyData.strOk t = true) (q : k (.bool (decide (s = t)))) : eqD (.str s) (.str t) k := by
  rw [eqD_str]
  refine ⟨hs, ht, ?_⟩
  rw [str_beq_dec]
  exact q
end K28

namespace K28
open PySem PySem.Spec PyProof.Rows L2 DL
theorem in_two {s x y : Str} {k : PyData → Prop} (q : k (.bool (decide (s = x ∨ s = y)))) : inD (.str s) (.tuple [.str x, .str y]) k := by
  rw [inD_tup]
  refine ⟨rfl, rfl, ?_⟩
  have e : (List.any [PyData.str x, PyData.str y] fun z => PyData.eqv z (.str s)) = decide (s = x ∨ s = y) := by
    simp [str_beq_dec, eq_comm]
  rw [e]
  exact q
theorem at_0 {a : PyData} {l : List PyData} : atI (a :: l) 0 = some a := atI_0
theorem at_1 {a b : PyData} {l : List PyData} : atI (a :: b :: l) 1 = some b := atI_1
theorem at_2 {a b c : PyData} {l : List PyData} : atI (a :: b :: c :: l) 2 = some c := atI_2
end K28

namespace K28
open PySem PySem.Spec PyProof.Rows L2 DL
/-! ## lists for tuples -/
mutual
def thaw : PyData → PyData
  | .list xs => .list (thawAll xs)
  | .tuple xs => .list (thawAll xs)
  | .none => .none
  | .bool b => .bool b
  | .int i => .int i
  | .str s => .str s
  | .dict kvs => .dict kvs
def thawAll : List PyData → List PyData
  | [] => []
  | d :: ds => thaw d :: thawAll ds
end
theorem thaw_not {d : PyData} (h : isSeq d = false) : thaw d = d := by
  cases d <;> simp [isSeq] at h <;> simp [thaw]
theorem thaw_seq {d : PyData} (h : isSeq d = true) : thaw d = .list (thawAll (items d)) := by
  cases d <;> simp [isSeq] at h <;> simp [thaw, items]
mutual
theorem froz_thaw : ∀ d : PyData, froz (thaw d) = froz d
  | .list xs => by simp [thaw, froz, froz_thawAll xs]
  | .tuple xs => by simp [thaw, froz, froz_thawAll xs]
  | .none => by simp [thaw]
  | .bool b => by simp [thaw]
  | .int i => by simp [thaw]
  | .str s => by simp [thaw]
  | .dict kvs => by simp [thaw]
theorem froz_thawAll : ∀ ds : List PyData, frozAll (thawAll ds) = frozAll ds
  | [] => by simp [thawAll]
  | d :: ds => by simp [thawAll, frozAll, froz_thaw d, froz_thawAll ds]
end
mutual
theorem wgt_thaw : ∀ d : PyData, wgt (thaw d) = wgt d
  | .list xs => by simp [thaw, wgt, wgt_thawAll xs]
  | .tuple xs => by simp [thaw, wgt, wgt_thawAll xs]
  | .none => by simp [thaw]
  | .bool b => by simp [thaw]
  | .int i => by simp [thaw]
  | .str s => by simp [thaw]
  | .dict kvs => by simp [thaw]
theorem wgt_thawAll : ∀ ds : List PyData, wgtAll (thawAll ds) = wgtAll ds
  | [] => by simp [thawAll]
  | d :: ds => by simp [thawAll, wgtAll, wgt_thaw d, wgt_thawAll ds]
end
def S_lists (n : Nat) : PSp := fun as R => ∃ d, okD n d = true ∧ as = [.dat d] ∧ R (.dat (thaw d)) as
theorem lists_loop {n : Nat} {x0 : Sl} {Q : List PyData → Gam → Prop} : ∀ (xs acc : List PyData), xs.all (okD n) = true → acc.length + xs.length ≤ 100000 → Q (acc ++ thawAll xs) [x0, .un] →
    lcD (wgName 1) wYes (wCall (S_lists n) (wPCons (wD (wVar 1)) wPNil)) [1] Q xs acc [x0, .un]
  | [], acc, _, _, q => by
    have : acc ++ thawAll [] = acc := by simp [thawAll]
    rw [this] at q
    exact q
  | x :: xs, acc, h, hl, q => by
    rw [List.all_cons, Bool.and_eq_true] at h
    simp only [List.length_cons] at hl
    refine And.intro List.nodup_nil ⟨x, h.1, rfl, And.intro (by rw [sizeLine_eq]; omega) ?_⟩
    refine lists_loop xs (acc ++ [thaw x]) h.2 (by simp; omega) ?_
    have e : acc ++ [thaw x] ++ thawAll xs = acc ++ thawAll (x :: xs) := by simp [thawAll]
    rw [e]
    exact q
theorem w_lists {n : Nat} {as : List Sl} {R : Rs → List Sl → Prop} (h : S_lists (n + 1) as R) : W__law_lists (S_lists n) (endsF as R) (startG N__law_lists as) := by
  obtain ⟨d, hd, rfl, k⟩ := h
  show W__law_lists (S_lists n) (endsF [.dat d] R) [.dat d, .un]
  have i2 := isTy2 d
  cases d with
  | list xs =>
    simp [okD] at hd
    refine And.intro rfl (lists_loop xs [] (by simpa using hd.2) (by simpa using hd.1) ?_)
    rw [thaw_seq rfl] at k
    exact k
  | tuple xs =>
    simp [okD] at hd
    refine And.intro rfl (lists_loop xs [] (by simpa using hd.2) (by simpa using hd.1) ?_)
    rw [thaw_seq rfl] at k
    exact k
  | none => rw [thaw_not rfl] at k; exact k
  | bool b => rw [thaw_not rfl] at k; exact k
  | int i => rw [thaw_not rfl] at k; exact k
  | str s => rw [thaw_not rfl] at k; exact k
  | dict _ => simp [okD] at hd
end K28

namespace K28
open PySem PySem.Spec PyProof.Rows L2 DL
/-! ## drawn sets and rings -/
theorem eqD_i {r s : Int} {k : PyData → Prop} (q : k (.bool (r == s))) : eqD (.int r) (.int s) k := by
  rw [eqD_int]
  exact q
theorem set_loop {ws : List Str} {x1 : Sl} {Q : List PyData → Gam → Prop} : ∀ (xs acc : List Str) (k : Nat) (ds : List PyData), Box (k + xs.length) ds → (∀ w ∈ xs, w ∈ ws) → (∀ w ∈ acc, w ∈ ws) → acc.length + xs.length ≤ 1000 →
    (∀ (acc' : List Str) ds', (∀ w ∈ acc', w ∈ ws) → acc'.length ≤ acc.length + xs.length → Box k ds' → Q (acc'.map PyData.str) [.par ds', x1, .un]) →
    lcD (wgName 2) (wB (wOp eqD (wCall S_take (wPCons (wO 0) (wPCons (wD (wC (.int 2))) wPNil))) (wC (.int 0)))) (wVar 2) [2] Q (xs.map PyData.str) (acc.map PyData.str) [.par ds, x1, .un]
  | [], acc, k, ds, hB, _, ha, hl, q => q acc ds ha (by simp) (by simpa using hB)
  | x :: xs, acc, k, ds, hB, hx, ha, hl, q => by
    simp only [List.length_cons] at hB hl
    refine And.intro rfl (And.intro (List.nodup_cons.mpr ⟨fun z => (by cases z), List.nodup_nil⟩) ⟨k + xs.length, ds, 2, rfl, hB, by decide, by decide, fun r ds' hB' h0 h1 => ?_⟩)
    refine eqD_i ?_
    by_cases hr : (r == 0) = true
    · refine (if_pos hr).mpr (And.intro (by rw [sizeLine_eq, List.length_map]; omega) ?_)
      have ih := set_loop (Q := Q) (x1 := x1) (ws := ws) xs (acc ++ [x]) k ds' hB' (fun w hw => hx w (by simp [hw])) (fun w hw => by
        rcases List.mem_append.mp hw with hw | hw
        · exact ha w hw
        · simp at hw
          subst hw
          exact hx w (by simp)) (by simp; omega) (fun acc' ds2 h1 h2 h3 => q acc' ds2 h1 (by simp at h2 ⊢; omega) h3)
      rw [List.map_append] at ih
      exact ih
    · refine (if_neg hr).mpr ?_
      exact set_loop xs acc k ds' hB' (fun w hw => hx w (by simp [hw])) ha (by omega) (fun acc' ds2 h1 h2 h3 => q acc' ds2 h1 (by simp; omega) h3)
def S_set : PSp := fun as R => ∃ (k : Nat) (ds : List PyData) (ws : List Str), as = [.par ds, .dat (.list (ws.map PyData.str))] ∧ Box (k + ws.length) ds ∧ ws.length ≤ 1000 ∧
  ∀ (sub : List Str) ds', (∀ w ∈ sub, w ∈ ws) → sub.length ≤ ws.length → Box k ds' → R (.dat (strsT sub)) [.par ds', .dat (.list (ws.map PyData.str))]
theorem w_set {as : List Sl} {R : Rs → List Sl → Prop} (h : S_set as R) : W__law_set S_take (endsF as R) (startG N__law_set as) := by
  obtain ⟨k, ds, ws, rfl, hB, hl, q⟩ := h
  refine And.intro rfl ?_
  exact set_loop ws [] k ds hB (fun w h => h) (fun w h => by cases h) (by simpa using hl) (fun acc' ds' h1 h2 h3 => q acc' ds' h1 (by simpa using h2) h3)
/-! a ring: sets ahead, sets round -/
structure Ring where
  ahead : List (List Str)
  tail : List (List Str)
def Ring.toD (r : Ring) : PyData := .tuple [.tuple (r.ahead.map strsT), .tuple (r.tail.map strsT)]
/-- at most ten words, of those -/
def setIn (ws t : List Str) : Prop := t.length ≤ 10 ∧ ∀ w ∈ t, w ∈ ws
theorem ring_loop {ws : List Str} {x2 x3 x4 : Sl} {Q : List PyData → Gam → Prop} (hw : ws.length ≤ 10) : ∀ (zs : List PyData) (acc : List (List Str)) (k : Nat) (ds : List PyData), Box (k + 10 * zs.length) ds → (∀ t ∈ acc, setIn ws t) → acc.length + zs.length ≤ 1000 →
    (∀ (acc' : List (List Str)) ds', (∀ t ∈ acc', setIn ws t) → acc'.length = acc.length + zs.length → Box k ds' → Q (acc'.map strsT) [.par ds', .dat (.list (ws.map PyData.str)), x2, x3, x4, .un]) →
    lcD (wgName 5) wYes (wCall S_set (wPCons (wO 0) (wPCons (wD (wVar 1)) wPNil))) [5] Q zs (acc.map strsT) [.par ds, .dat (.list (ws.map PyData.str)), x2, x3, x4, .un]
  | [], acc, k, ds, hB, ha, _, q => q acc ds ha (by simp) (by simpa using hB)
  | z :: zs, acc, k, ds, hB, ha, hl, q => by
    simp only [List.length_cons] at hB hl
    refine And.intro rfl (And.intro (List.nodup_cons.mpr ⟨fun z => (by cases z), List.nodup_nil⟩) ⟨k + 10 * zs.length, ds, ws, rfl, hB.less (by omega), by omega, fun sub ds' h1 h2 hB' => And.intro (by rw [sizeLine_eq, List.length_map]; omega) ?_⟩)
    have ih := ring_loop (Q := Q) (x2 := x2) (x3 := x3) (x4 := x4) hw zs (acc ++ [sub]) k ds' hB' (fun t ht => by
      rcases List.mem_append.mp ht with ht | ht
      · exact ha t ht
      · simp at ht
        subst ht
        exact ⟨Nat.le_trans h2 hw, h1⟩) (by simp; omega) (fun acc' ds2 g1 g2 g3 => q acc' ds2 g1 (by simp at g2 ⊢; omega) g3)
    rw [List.map_append] at ih
    exact ih
theorem rng_len (n : Nat) : (rng 0 n).length = n := by
  unfold rng
  simp
def S_ring : PSp := fun as R => ∃ (k : Nat) (ds : List PyData) (ws : List Str) (m1 m2 : Nat), as = [.par ds, .dat (.list (ws.map PyData.str)), .dat (.int (m1 : Int)), .dat (.int (m2 : Int))] ∧ Box (k + 500) ds ∧ ws.length ≤ 10 ∧ m1 ≤ 20 ∧ 1 ≤ m2 ∧ m2 ≤ 20 ∧
  ∀ (g : Ring) ds', (∀ t ∈ g.ahead, setIn ws t) → (∀ t ∈ g.tail, setIn ws t) → g.ahead.length ≤ m1 → 1 ≤ g.tail.length → g.tail.length ≤ m2 → Box k ds' → R (.dat g.toD) [.par ds', .dat (.list (ws.map PyData.str)), .dat (.int (m1 : Int)), .dat (.int (m2 : Int))]
theorem w_ring {as : List Sl} {R : Rs → List Sl → Prop} (h : S_ring as R) : W__law_ring S_take S_set (endsF as R) (startG N__law_ring as) := by
  obtain ⟨k, ds, ws, m1, m2, rfl, hB, hw, h1, h2, h3, q⟩ := h
  have nd1 : ∀ d : PyData, (varsOf [Opd.var 0, Opd.dat d]).Nodup := fun d => List.nodup_cons.mpr ⟨fun z => (by cases z), List.nodup_nil⟩
  refine And.intro rfl (And.intro (nd1 _) ⟨k + 499, ds, (m1 : Int) + 1, rfl, hB, by omega, by omega, fun r ds1 hB1 r0 r1 => ?_⟩)
  refine And.intro (by omega) (And.intro (by omega) (And.intro rfl ?_))
  refine ring_loop hw (rng 0 r.toNat) [] (k + 299) ds1 (hB1.less (by rw [rng_len]; omega)) (fun t h => by cases h) (by rw [rng_len]; simp; omega) (fun ahead ds2 a1 a2 hB2 => ?_)
  rw [rng_len] at a2
  refine And.intro rfl (And.intro (nd1 _) ⟨k + 298, ds2, (m2 : Int), rfl, hB2, by omega, by omega, fun s ds3 hB3 s0 s1 => ?_⟩)
  refine And.intro (by omega) (And.intro (by omega) (And.intro rfl ?_))
  refine ring_loop hw (rng 0 (1 + s).toNat) [] k ds3 (hB3.less (by rw [rng_len]; omega)) (fun t h => by cases h) (by rw [rng_len]; simp; omega) (fun tail ds4 b1 b2 hB4 => ?_)
  rw [rng_len] at b2
  refine And.intro (show 2 ≤ sizeLine by decide) ?_
  refine q ⟨ahead, tail⟩ ds4 a1 b1 ?_ ?_ ?_ hB4
  · show ahead.length ≤ m1
    simp at a2
    omega
  · show 1 ≤ tail.length
    simp at b2
    omega
  · show tail.length ≤ m2
    simp at b2
    omega
end K28

namespace K28
open PySem PySem.Spec PyProof.Rows L2 DL
/-! ## places of a ring -/
structure Ring.ok (r : Ring) : Prop where
  a : r.ahead.length ≤ 20
  t1 : 1 ≤ r.tail.length
  t2 : r.tail.length ≤ 20
def Ring.sets (r : Ring) : List (List Str) := r.ahead ++ r.tail
def Ring.at' (r : Ring) (k : Nat) : Nat := if k < r.ahead.length then k else r.ahead.length + (k - r.ahead.length) % r.tail.length
theorem Ring.at_lt {r : Ring} (h : r.ok) (k : Nat) : r.at' k < r.sets.length := by
  have := h.t1
  unfold Ring.at' Ring.sets
  rw [List.length_append]
  split
  · omega
  · have := Nat.mod_lt (k - r.ahead.length) (by omega : r.tail.length > 0)
    omega
def S_at : PSp := fun as R => ∃ (r : Ring) (k : Nat), as = [.dat r.toD, .dat (.int (k : Int))] ∧ r.ok ∧ k ≤ 100000 ∧ R (.dat (.int (r.at' k : Nat))) as
theorem w_at {as : List Sl} {R : Rs → List Sl → Prop} (h : S_at as R) : W__law_at (endsF as R) (startG N__law_at as) := by
  obtain ⟨r, k, rfl, ok, hk, q⟩ := h
  have ht := ok.t1
  have ht2 := ok.t2
  have la : (r.ahead.map strsT).length = r.ahead.length := List.length_map ..
  have lt : (r.tail.map strsT).length = r.tail.length := List.length_map ..
  refine And.intro rfl ?_
  by_cases hlt : (k : Int) < ((r.ahead.map strsT).length : Int)
  · refine (if_pos (c := decide ((k : Int) < ((r.ahead.map strsT).length : Int)) = true) (decide_eq_true hlt)).mpr ?_
    have e : r.at' k = k := by unfold Ring.at'; rw [if_pos (by omega)]
    rw [e] at q
    exact q
  · refine (if_neg (c := decide ((k : Int) < ((r.ahead.map strsT).length : Int)) = true) (by rw [decide_eq_true_iff]; exact hlt)).mpr ?_
    have e : r.at' k = r.ahead.length + (k - r.ahead.length) % r.tail.length := by unfold Ring.at'; rw [if_neg (by omega)]
    have e2 : ((r.ahead.map strsT).length : Int) + ((k : Int) - ((r.ahead.map strsT).length : Int)).fmod ((r.tail.map strsT).length : Int) = ((r.at' k : Nat) : Int) := by
      rw [la, lt, e, Int.fmod_eq_emod_of_nonneg _ (by omega)]
      have : ((k : Int) - (r.ahead.length : Int)) = ((k - r.ahead.length : Nat) : Int) := by omega
      rw [this]
      push_cast
      rfl
    rw [← e2] at q
    exact And.intro trivial (And.intro (by rw [lt]; omega) q)
theorem rng_nat (n : Nat) : rng 0 n = (List.range n).map fun i : Nat => PyData.int (i : Int) := by
  unfold rng
  refine List.map_congr_left fun i _ => ?_
  rw [Int.zero_add]
def Ring.here (r : Ring) (k : Nat) : List Str := r.sets.getD (r.at' k) []
theorem Ring.here_at {r : Ring} (h : r.ok) (k : Nat) : atI (r.sets.map strsT) ((r.at' k : Nat) : Int) = some (strsT (r.here k)) := by
  have hl := Ring.at_lt h k
  refine atI_nat ?_
  rw [List.getElem?_map]
  unfold Ring.here
  rw [List.getD_eq_getElem?_getD, List.getElem?_eq_getElem hl]
  rfl
end K28

namespace K28
open PySem PySem.Spec PyProof.Rows L2 DL
/-! ## drawn formulas -/
def wordsIn (ws : List Str) : Fm → Prop
  | .tt => True
  | .word w => w ∈ ws
  | .un _ a => wordsIn ws a
  | .bin _ a b => wordsIn ws a ∧ wordsIn ws b
structure Drawn (ws : List Str) (s : Nat) (f : Fm) : Prop where
  wf : wfF f
  win : wordsIn ws f
  wt : f.wt ≤ 2 * s
  ht : f.ht ≤ s
  un : 2 * unF f + 1 ≤ s
def S_form (n : Nat) : PSp := fun as R => ∃ (k : Nat) (ds : List PyData) (s : Nat) (ws : List Str), as = [.par ds, .dat (.int (s : Int)), .dat (.list (ws.map PyData.str)), .dat (.bool false)] ∧ Box (k + 5 * s) ds ∧ 1 ≤ s ∧ s ≤ n ∧ s ≤ 1000 ∧ ws ≠ [] ∧ ws.length ≤ 1000 ∧
  ∀ (f : Fm) ds', Drawn ws s f → Box k ds' → R (.dat f.toD) [.par ds', .dat (.int (s : Int)), .dat (.list (ws.map PyData.str)), .dat (.bool false)]
theorem nd0 {os : List Opd} (h : varsOf os = []) : (varsOf (Opd.var 0 :: os)).Nodup := by
  show (0 :: varsOf os).Nodup
  rw [h]
  exact List.nodup_cons.mpr ⟨fun z => (by cases z), List.nodup_nil⟩
theorem w_form {n : Nat} {as : List Sl} {R : Rs → List Sl → Prop} (h : S_form (n + 1) as R) : W__law_form S_take S_of (S_form n) (endsF as R) (startG N__law_form as) := by
  obtain ⟨k, ds, s, ws, rfl, hB, s1, sn, s1000, hne, hwl, q⟩ := h
  have hne' : ws.map PyData.str ≠ [] := by simpa using hne
  have z1 : 1 ≤ sizeLine := by decide
  have z2 : 2 ≤ sizeLine := by decide
  have z3 : 3 ≤ sizeLine := by decide
  have z4 : 4 ≤ sizeLine := by decide
  -- the leaf
  have leaf : ∀ (m : Nat) (ds1 : List PyData) (s4 s5 s6 : Sl) (D : EndsD), Box (k + 2 + m) ds1 → (∀ (f : Fm) ds2, (f = .tt ∨ ∃ w ∈ ws, f = .word w) → Box k ds2 → D.rt (.dat f.toD) [.par ds2, .dat (.int (s : Int)), .dat (.list (ws.map PyData.str)), .dat (.bool false), s4, s5, s6]) →
      (wRet (wIf (wB (wOp eqD (wCall S_take (wPCons (wO 0) (wPCons (wD (wC (.int 8))) wPNil))) (wC (.int 0)))) (wTup (wCons (wC (.str "true")) wNil)) (wTup (wCons (wC (.str "word")) (wCons (wCall S_of (wPCons (wO 0) (wPCons (wD (wVar 2)) wPNil))) wNil))))) D [.par ds1, .dat (.int (s : Int)), .dat (.list (ws.map PyData.str)), .dat (.bool false), s4, s5, s6] := by
    intro m ds1 s4 s5 s6 D hB1 qq
    refine And.intro rfl (And.intro (nd0 rfl) ⟨k + 1 + m, ds1, 8, rfl, by rw [show k + 1 + m + 1 = k + 2 + m by omega]; exact hB1, by decide, by decide, fun r ds2 hB2 h0 h1 => eqD_i ?_⟩)
    by_cases hr : (r == 0) = true
    · exact (if_pos hr).mpr (And.intro z1 (qq .tt ds2 (.inl rfl) (hB2.less (by omega))))
    · refine (if_neg hr).mpr ?_
      refine And.intro rfl (And.intro (nd0 rfl) ⟨k + m, ds2, ws.map PyData.str, rfl, by rw [show k + m + 1 = k + 1 + m by omega]; exact hB2, hne', by rw [List.length_map]; omega, fun g ds3 hg hB3 => And.intro z2 ?_⟩)
      rw [List.mem_map] at hg
      obtain ⟨w, hw, rfl⟩ := hg
      exact qq (.word w) ds3 (.inr ⟨w, hw, rfl⟩) (hB3.less (by omega))
  have leafq : ∀ (f : Fm) ds2, (f = .tt ∨ ∃ w ∈ ws, f = .word w) → Box k ds2 → R (.dat f.toD) [.par ds2, .dat (.int (s : Int)), .dat (.list (ws.map PyData.str)), .dat (.bool false)] := by
    intro f ds2 hf hB2
    refine q f ds2 ?_ hB2
    rcases hf with rfl | ⟨w, hw, rfl⟩
    · exact ⟨trivial, trivial, by show 2 ≤ 2 * s; omega, s1, by show 2 * 0 + 1 ≤ s; omega⟩
    · exact ⟨trivial, hw, by show 2 ≤ 2 * s; omega, s1, by show 2 * 0 + 1 ≤ s; omega⟩
  by_cases hs2 : ((s : Int) < 2)
  · refine (if_pos (c := decide ((s : Int) < 2) = true) (decide_eq_true hs2)).mpr ?_
    refine leaf 0 ds .un .un .un _ (hB.less (by omega)) leafq
  refine (if_neg (c := decide ((s : Int) < 2) = true) (by rw [decide_eq_true_iff]; exact hs2)).mpr ?_
  obtain ⟨b, rfl⟩ : ∃ b, s = b + 2 := ⟨s - 2, by omega⟩
  refine And.intro rfl (And.intro (nd0 rfl) ⟨k + 5 * (b + 2) - 1, ds, 6, rfl, by rw [show k + 5 * (b + 2) - 1 + 1 = k + 5 * (b + 2) by omega]; exact hB, by decide, by decide, fun r ds1 hB1 h0 h1 => eqD_i ?_⟩)
  by_cases hr : (r == 0) = true
  · refine (if_pos hr).mpr ?_
    exact leaf 0 ds1 .un .un .un _ (hB1.less (by omega)) leafq
  refine (if_neg hr).mpr ?_
  -- a head and one formula
  have one : ∀ (ds2 : List PyData), Box (k + 5 * b + 7) ds2 → (wSeq (wAsg 4 (wCall S_of (wPCons (wO 0) (wPCons (wD (wL (wLst (wCons (wC (.str "not")) (wCons (wC (.str "ever")) (wCons (wC (.str "always")) (wCons (wIf (wB (wVar 3)) (wC (.str "not")) (wC (.str "next"))) wNil))))))) wPNil))))
      (wRet (wTup (wCons (wVar 4) (wCons (wCall (S_form n) (wPCons (wO 0) (wPCons (wD (wOp subD (wVar 1) (wC (.int 1)))) (wPCons (wD (wVar 2)) (wPCons (wD (wVar 3)) wPNil))))) wNil)))))
      (endsF [.par ds, .dat (.int ((b + 2 : Nat) : Int)), .dat (.list (ws.map PyData.str)), .dat (.bool false)] R) [.par ds2, .dat (.int ((b + 2 : Nat) : Int)), .dat (.list (ws.map PyData.str)), .dat (.bool false), .un, .un, .un] := by
    intro ds2 hB2
    refine And.intro rfl (And.intro z4 (And.intro (nd0 rfl) ⟨k + 5 * b + 6, ds2, [.str "not", .str "ever", .str "always", .str "next"], rfl, hB2, by simp, by simp, fun g ds3 hg hB3 => ?_⟩))
    obtain ⟨h, rfl, hh⟩ : ∃ h : Str, g = .str h ∧ (h = "not" ∨ h = "next" ∨ h = "ever" ∨ h = "always") := by
      simp at hg
      rcases hg with rfl | rfl | rfl | rfl
      · exact ⟨_, rfl, .inl rfl⟩
      · exact ⟨_, rfl, .inr (.inr (.inl rfl))⟩
      · exact ⟨_, rfl, .inr (.inr (.inr rfl))⟩
      · exact ⟨_, rfl, .inr (.inl rfl)⟩
    have e1 : ((b + 2 : Nat) : Int) - 1 = ((b + 1 : Nat) : Int) := by omega
    refine And.intro rfl (And.intro trivial (And.intro (nd0 rfl) ⟨k, ds3, b + 1, ws, by show [_, Sl.dat (.int (((b + 2 : Nat) : Int) - 1)), _, _] = _; rw [e1], hB3.less (by omega), by omega, by omega, by omega, hne, hwl, fun f ds4 D4 hB4 => ?_⟩))
    refine And.intro z2 (q (.un h f) ds4 ⟨⟨hh, D4.wf⟩, D4.win, ?_, ?_, ?_⟩ hB4)
    · have := D4.wt
      show 2 + f.wt ≤ _
      omega
    · have := D4.ht
      show 1 + f.ht ≤ _
      omega
    · have := D4.un
      show 2 * unF f + 1 ≤ _
      omega
  refine eqD_i ?_
  by_cases hb : ((((b + 2 : Nat) : Int) == 2) = true)
  · exact (if_pos (c := (((b + 2 : Nat) : Int) == 2) = true) hb).mpr (one ds1 (hB1.less (by omega)))
  refine (if_neg (c := (((b + 2 : Nat) : Int) == 2) = true) hb).mpr ?_
  have b1 : 1 ≤ b := by
    rw [beq_iff_eq] at hb
    omega
  refine And.intro rfl (And.intro (nd0 rfl) ⟨k + 5 * b + 8, ds1, 2, rfl, hB1.less (by omega), by decide, by decide, fun r2 ds2 hB2 _ _ => eqD_i ?_⟩)
  by_cases hr2 : (r2 == 0) = true
  · exact (if_pos hr2).mpr (one ds2 (hB2.less (by omega)))
  refine (if_neg hr2).mpr ?_
  have e2 : ((b + 2 : Nat) : Int) - 2 = (b : Int) := by omega
  refine And.intro rfl (And.intro trivial (And.intro (nd0 rfl) ⟨k + 5 * b + 7, ds2, (b : Int), by show [_, Sl.dat (.int (((b + 2 : Nat) : Int) - 2))] = _; rw [e2], hB2, by omega, by omega, fun t ds3 hB3 t0 t1 => ?_⟩))
  obtain ⟨l, rfl⟩ : ∃ l : Nat, t = (l : Int) := ⟨t.toNat, by omega⟩
  have e3 : (1 : Int) + (l : Int) = ((l + 1 : Nat) : Int) := by omega
  refine And.intro rfl (And.intro z4 (And.intro (nd0 rfl) ⟨k + 5 * b + 6, ds3, [.str "and", .str "or", .str "until", .str "unless"], rfl, hB3, by simp, by simp, fun g ds4 hg hB4 => ?_⟩))
  obtain ⟨h, rfl, hh⟩ : ∃ h : Str, g = .str h ∧ (h = "and" ∨ h = "or" ∨ h = "until" ∨ h = "unless") := by
    simp at hg
    rcases hg with rfl | rfl | rfl | rfl
    · exact ⟨_, rfl, .inl rfl⟩
    · exact ⟨_, rfl, .inr (.inl rfl)⟩
    · exact ⟨_, rfl, .inr (.inr (.inl rfl))⟩
    · exact ⟨_, rfl, .inr (.inr (.inr rfl))⟩
  refine And.intro rfl (And.intro (nd0 rfl) ⟨k + 5 * (b - l), ds4, l + 1, ws, by show [_, Sl.dat (.int ((1 : Int) + (l : Int))), _, _] = _; rw [e3], hB4.less (by omega), by omega, by omega, by omega, hne, hwl, fun f1 ds5 D1 hB5 => ?_⟩)
  have e4 : ((b + 2 : Nat) : Int) - 1 - ((1 : Int) + (l : Int)) = ((b - l : Nat) : Int) := by omega
  refine And.intro rfl (And.intro trivial (And.intro trivial (And.intro (nd0 rfl) ⟨k, ds5, b - l, ws, by show [_, Sl.dat (.int (((b + 2 : Nat) : Int) - 1 - ((1 : Int) + (l : Int)))), _, _] = _; rw [e4], hB5, by omega, by omega, by omega, hne, hwl, fun f2 ds6 D2 hB6 => ?_⟩)))
  refine And.intro z3 (q (.bin h f1 f2) ds6 ⟨⟨hh, D1.wf, D2.wf⟩, ⟨D1.win, D2.win⟩, ?_, ?_, ?_⟩ hB6)
  · have := D1.wt
    have := D2.wt
    show 2 + f1.wt + f2.wt ≤ _
    omega
  · have := D1.ht
    have := D2.ht
    show 1 + max f1.ht f2.ht ≤ _
    omega
  · have := D1.un
    have := D2.un
    show 2 * ((if h = "and" ∨ h = "or" then 0 else 1) + max (unF f1) (unF f2)) + 1 ≤ _
    have : (if h = "and" ∨ h = "or" then 0 else 1) ≤ 1 := by split <;> omega
    omega
end K28

namespace K28
open PySem PySem.Spec PyProof.Rows L2 DL
/-! ## what a formula is at the places of a ring -/
def Ring.n (r : Ring) : Nat := r.sets.length
theorem Ring.n_eq (r : Ring) : r.n = r.ahead.length + r.tail.length := List.length_append ..
theorem Ring.at_id {r : Ring} {i : Nat} (h : i < r.n) : r.at' i = i := by
  rw [r.n_eq] at h
  unfold Ring.at'
  split
  · rfl
  · rw [Nat.mod_eq_of_lt (by omega)]
    omega
theorem Ring.at_add (r : Ring) (i l : Nat) : r.at' (r.at' i + l) = r.at' (i + l) := by
  by_cases h : i < r.ahead.length
  · have e : r.at' i = i := by unfold Ring.at'; rw [if_pos h]
    rw [e]
  · have e : r.at' i = r.ahead.length + (i - r.ahead.length) % r.tail.length := by unfold Ring.at'; rw [if_neg h]
    rw [e]
    unfold Ring.at'
    rw [if_neg (by omega), if_neg (by omega)]
    have e1 : r.ahead.length + (i - r.ahead.length) % r.tail.length + l - r.ahead.length = (i - r.ahead.length) % r.tail.length + l := by omega
    have e2 : i + l - r.ahead.length = (i - r.ahead.length) + l := by omega
    rw [e1, e2, Nat.mod_add_mod]
theorem Ring.at_per (r : Ring) (i : Nat) : r.at' (i + r.n) = r.at' (i + r.ahead.length) := by
  rw [r.n_eq]
  unfold Ring.at'
  rw [if_neg (by omega), if_neg (by omega)]
  have e1 : i + (r.ahead.length + r.tail.length) - r.ahead.length = i + r.tail.length := by omega
  have e2 : i + r.ahead.length - r.ahead.length = i := by omega
  rw [e1, e2, Nat.add_mod_right]
def Ring.walk (r : Ring) (i : Nat) : List Nat := (List.range r.n).map fun l => r.at' (i + l)
theorem Ring.walk_at (r : Ring) (i : Nat) : r.walk (r.at' i) = r.walk i := by
  unfold Ring.walk
  exact List.map_congr_left fun l _ => r.at_add i l
theorem Ring.walk_split {r : Ring} (ok : r.ok) (i : Nat) : ∃ mid z, r.walk i = r.at' i :: mid ∧ r.walk (i + 1) = mid ++ [z] ∧ (z = r.at' i ∨ z ∈ mid) := by
  have t1 := ok.t1
  obtain ⟨m, hm⟩ : ∃ m, r.n = m + 1 := ⟨r.n - 1, by rw [r.n_eq]; omega⟩
  refine ⟨(List.range m).map fun l => r.at' (i + 1 + l), r.at' (i + 1 + m), ?_, ?_, ?_⟩
  · unfold Ring.walk
    rw [hm, List.range_succ_eq_map, List.map_cons, List.map_map, Nat.add_zero]
    congr 1
    refine List.map_congr_left fun l _ => ?_
    show r.at' (i + Nat.succ l) = _
    congr 1
    omega
  · unfold Ring.walk
    rw [hm, List.range_succ, List.map_append]
    rfl
  · have e : r.at' (i + 1 + m) = r.at' (i + r.ahead.length) := by
      rw [← r.at_per i, hm]
      congr 1
      omega
    rw [e]
    by_cases h : r.ahead.length = 0
    · exact .inl (by rw [h, Nat.add_zero])
    · refine .inr (List.mem_map.mpr ⟨r.ahead.length - 1, ?_, ?_⟩)
      · rw [List.mem_range]
        have := r.n_eq
        omega
      · congr 1
        omega
def untB (near far : Nat → Bool) (d : Bool) : List Nat → Bool
  | [] => d
  | k :: ks => if (far k || !near k) = true then far k else untB near far d ks
def goesB (h : Str) (near far : Nat → Bool) (w : List Nat) : Bool :=
  if h = "ever" then w.any near else if h = "always" then w.all near else untB near far (decide (h = "unless")) w
def valB (r : Ring) : Fm → Nat → Bool
  | .tt, _ => true
  | .word w, i => decide (w ∈ r.sets.getD i [])
  | .un h a, i => if h = "not" then !valB r a i else if h = "next" then valB r a (r.at' (i + 1)) else goesB h (valB r a) (valB r a) (r.walk i)
  | .bin h a b, i => if h = "and" then valB r a i && valB r b i else if h = "or" then valB r a i || valB r b i else goesB h (valB r a) (valB r b) (r.walk i)
theorem any_step {p : Nat → Bool} {x z : Nat} {mid : List Nat} (hz : z = x ∨ z ∈ mid) : (x :: mid).any p = (p x || (mid ++ [z]).any p) := by
  rw [List.any_cons, List.any_append]
  simp only [List.any_cons, List.any_nil, Bool.or_false]
  rcases hz with rfl | hz
  · cases p z <;> simp
  · cases hp : p z with
    | false => simp
    | true =>
      have : mid.any p = true := List.any_eq_true.mpr ⟨z, hz, hp⟩
      rw [this]
      simp
theorem all_step {p : Nat → Bool} {x z : Nat} {mid : List Nat} (hz : z = x ∨ z ∈ mid) : (x :: mid).all p = (p x && (mid ++ [z]).all p) := by
  rw [List.all_cons, List.all_append]
  simp only [List.all_cons, List.all_nil, Bool.and_true]
  rcases hz with rfl | hz
  · cases p z <;> simp
  · cases hp : p z with
    | true => simp
    | false =>
      have : mid.all p = false := by
        rw [List.all_eq_false]
        exact ⟨z, hz, by rw [hp]; decide⟩
      rw [this]
      simp
theorem unt_snoc {near far : Nat → Bool} {d : Bool} {z : Nat} : ∀ {mid : List Nat}, (z ∈ mid ∨ ¬ (far z || !near z) = true) → untB near far d (mid ++ [z]) = untB near far d mid
  | [], h => by
    have h' : ¬ (far z || !near z) = true := h.elim (fun z => by cases z) id
    show (if (far z || !near z) = true then far z else d) = d
    rw [if_neg h']
  | k :: ks, h => by
    show (if (far k || !near k) = true then far k else untB near far d (ks ++ [z])) = (if (far k || !near k) = true then far k else untB near far d ks)
    by_cases hk : (far k || !near k) = true
    · rw [if_pos hk, if_pos hk]
    · rw [if_neg hk, if_neg hk]
      refine unt_snoc ?_
      rcases h with h | h
      · rcases List.mem_cons.mp h with h | h
        · exact .inr (by rw [h]; exact hk)
        · exact .inl h
      · exact .inr h
theorem unt_step {near far : Nat → Bool} {d : Bool} {x z : Nat} {mid : List Nat} (hz : z = x ∨ z ∈ mid) : untB near far d (x :: mid) = (far x || (near x && untB near far d (mid ++ [z]))) := by
  show (if (far x || !near x) = true then far x else untB near far d mid) = _
  by_cases hx : (far x || !near x) = true
  · rw [if_pos hx]
    cases hf : far x <;> cases hn : near x <;> rw [hf, hn] at hx <;> simp at hx ⊢
  · rw [if_neg hx, unt_snoc (hz.elim (fun e => .inr (by rw [e]; exact hx)) .inl)]
    cases hf : far x <;> cases hn : near x <;> rw [hf, hn] at hx <;> simp at hx ⊢
theorem val_or {r : Ring} {a b : Fm} {j : Nat} : valB r (.bin "or" a b) j = (valB r a j || valB r b j) := by
  rw [valB, if_neg (by rw [ne_or_and]; exact id), if_pos rfl]
theorem val_and {r : Ring} {a b : Fm} {j : Nat} : valB r (.bin "and" a b) j = (valB r a j && valB r b j) := by
  rw [valB, if_pos rfl]
end K28

namespace K28
open PySem PySem.Spec PyProof.Rows L2 DL
/-! ## the law's own walk -/
def natsD (w : List Nat) : List PyData := w.map fun k : Nat => PyData.int (k : Int)
def boolsOf (n : Nat) (p : Nat → Bool) : List PyData := (List.range n).map fun k => PyData.bool (p k)
theorem at_bools {n k : Nat} {p : Nat → Bool} (h : k < n) : atI (boolsOf n p) (k : Int) = some (.bool (p k)) := by
  refine atI_nat ?_
  unfold boolsOf
  rw [List.getElem?_map, List.getElem?_range h]
  rfl
theorem dep_nats : ∀ w : List Nat, PyData.depthAll (natsD w) ≤ 1
  | [] => by simp [natsD, PyData.depthAll]
  | k :: w => by
    have := dep_nats w
    simp [natsD, PyData.depthAll, PyData.depth] at this ⊢
    omega
theorem lay_nats : ∀ w : List Nat, PyData.canLayAll0 (natsD w) = true
  | [] => by simp [natsD, PyData.canLayAll0]
  | k :: w => by
    have := lay_nats w
    simp [natsD, PyData.canLayAll0, PyData.canLay0] at this ⊢
    exact this
theorem shaped_nats {w : List Nat} (h : w.length ≤ 1000) : SeqAt.shaped (.list (natsD w)) = true := by
  have h1 := dep_nats w
  have h2 := lay_nats w
  unfold SeqAt.shaped
  simp [PyData.canLay0, PyData.depth, h2]
  omega
theorem eqv_nil {w : List Nat} : PyData.eqv (.list (natsD w)) (.list []) = w.isEmpty := by
  cases w with
  | nil => decide +kernel
  | cons k w =>
    rw [PyData.eqv.eq_def]
    simp [natsD, PyData.eqvAll]
theorem ne_nil {w : List Nat} {k : PyData → Prop} (hl : w.length ≤ 1000) (q : k (.bool (!w.isEmpty))) : neD (.list (natsD w)) (.list []) k := by
  unfold neD
  refine ⟨shaped_nats hl, by decide +kernel, ?_⟩
  rw [eqv_nil]
  exact q
theorem eq_nil {w : List Nat} {k : PyData → Prop} (hl : w.length ≤ 1000) (q : k (.bool w.isEmpty)) : eqD (.list (natsD w)) (.list []) k := by
  unfold eqD
  refine ⟨shaped_nats hl, by decide +kernel, ?_⟩
  rw [eqv_nil]
  exact q
def S_goes : PSp := fun as R => ∃ (h : Str) (n : Nat) (near far : Nat → Bool) (w : List Nat), as = [.dat (.str h), .dat (.list (boolsOf n near)), .dat (.list (boolsOf n far)), .dat (.list (natsD w))] ∧ PyData.strOk h = true ∧ n ≤ 100 ∧ w.length ≤ 1000 ∧ (∀ k ∈ w, k < n) ∧ R (.dat (.bool (goesB h near far w))) as
theorem any_filter {p : Nat → Bool} : ∀ w : List Nat, (!(w.filter p).isEmpty) = w.any p
  | [] => rfl
  | k :: w => by
    have ih := any_filter (p := p) w
    rw [List.any_cons, ← ih]
    by_cases h : p k = true
    · rw [List.filter_cons_of_pos h, h]
      rfl
    · rw [List.filter_cons_of_neg h]
      have : p k = false := by simpa using h
      rw [this, Bool.false_or]
theorem all_filter {p : Nat → Bool} : ∀ w : List Nat, (w.filter fun k => !p k).isEmpty = w.all p
  | [] => rfl
  | k :: w => by
    have ih := all_filter (p := p) w
    rw [List.all_cons, ← ih]
    by_cases h : p k = true
    · rw [List.filter_cons_of_neg (by simp [h]), h, Bool.true_and]
    · have h' : p k = false := by simpa using h
      rw [List.filter_cons_of_pos (by simp [h']), h']
      rfl
theorem goes_ever {x0 x2 x3 : Sl} {n : Nat} {near : Nat → Bool} {Q : List PyData → Gam → Prop} : ∀ (w acc : List Nat), (∀ k ∈ w, k < n) → acc.length + w.length ≤ 2000 → Q (natsD (acc ++ w.filter near)) [x0, .dat (.list (boolsOf n near)), x2, x3, .un] →
    lcD (wgName 4) (wB (wOp ixD (wVar 1) (wVar 4))) (wVar 4) [4] Q (natsD w) (natsD acc) [x0, .dat (.list (boolsOf n near)), x2, x3, .un]
  | [], acc, _, _, q => by
    rw [List.filter_nil, List.append_nil] at q
    exact q
  | k :: w, acc, hw, hl, q => by
    simp only [List.length_cons] at hl
    refine ⟨_, at_bools (hw k (by simp)), ?_⟩
    by_cases h : near k = true
    · rw [List.filter_cons_of_pos h] at q
      refine (if_pos h).mpr (And.intro (by rw [sizeLine_eq]; unfold natsD; rw [List.length_map]; omega) ?_)
      have ih := goes_ever (x0 := x0) (x2 := x2) (x3 := x3) (Q := Q) (near := near) w (acc ++ [k]) (fun k hk => hw k (by simp [hk])) (by simp; omega) (by rw [List.append_assoc]; exact q)
      have e : natsD (acc ++ [k]) = natsD acc ++ [PyData.int (k : Int)] := by unfold natsD; rw [List.map_append]; rfl
      rw [e] at ih
      exact ih
    · rw [List.filter_cons_of_neg h] at q
      refine (if_neg h).mpr ?_
      exact goes_ever w acc (fun k hk => hw k (by simp [hk])) (by omega) q
theorem goes_alw {x0 x2 x3 : Sl} {n : Nat} {near : Nat → Bool} {Q : List PyData → Gam → Prop} : ∀ (w acc : List Nat), (∀ k ∈ w, k < n) → acc.length + w.length ≤ 2000 → Q (natsD (acc ++ w.filter fun k => !near k)) [x0, .dat (.list (boolsOf n near)), x2, x3, .un] →
    lcD (wgName 4) (wNot (wB (wOp ixD (wVar 1) (wVar 4)))) (wVar 4) [4] Q (natsD w) (natsD acc) [x0, .dat (.list (boolsOf n near)), x2, x3, .un]
  | [], acc, _, _, q => by
    rw [List.filter_nil, List.append_nil] at q
    exact q
  | k :: w, acc, hw, hl, q => by
    simp only [List.length_cons] at hl
    refine ⟨_, at_bools (hw k (by simp)), ?_⟩
    by_cases h : (!near k) = true
    · rw [List.filter_cons_of_pos (p := fun k => !near k) h] at q
      refine (if_pos h).mpr (And.intro (by rw [sizeLine_eq]; unfold natsD; rw [List.length_map]; omega) ?_)
      have ih := goes_alw (x0 := x0) (x2 := x2) (x3 := x3) (Q := Q) (near := near) w (acc ++ [k]) (fun k hk => hw k (by simp [hk])) (by simp; omega) (by rw [List.append_assoc]; exact q)
      have e : natsD (acc ++ [k]) = natsD acc ++ [PyData.int (k : Int)] := by unfold natsD; rw [List.map_append]; rfl
      rw [e] at ih
      exact ih
    · rw [List.filter_cons_of_neg (p := fun k => !near k) h] at q
      refine (if_neg h).mpr ?_
      exact goes_alw w acc (fun k hk => hw k (by simp [hk])) (by omega) q
theorem goes_loop {x0 x3 : Sl} {n : Nat} {near far : Nat → Bool} {D : EndsD} {d b : Bool} (qe : d = b → ∀ s4, D.nx [x0, .dat (.list (boolsOf n near)), .dat (.list (boolsOf n far)), x3, s4]) (qr : ∀ s4, D.rt (.dat (.bool b)) [x0, .dat (.list (boolsOf n near)), .dat (.list (boolsOf n far)), x3, s4]) : ∀ (w : List Nat) (s4 : Sl), (∀ k ∈ w, k < n) → untB near far d w = b →
    forW (wgName 4) (wIfS (wOr (wB (wOp ixD (wVar 2) (wVar 4))) (wNot (wB (wOp ixD (wVar 1) (wVar 4))))) (wRet (wOp ixD (wVar 2) (wVar 4))) wNext) D (natsD w) [x0, .dat (.list (boolsOf n near)), .dat (.list (boolsOf n far)), x3, s4]
  | [], s4, _, h => qe h s4
  | k :: w, s4, hw, h => by
    have hk : k < n := hw k (by simp)
    have h' : (if (far k || !near k) = true then far k else untB near far d w) = b := h
    have rest : ¬ (far k || !near k) = true → forW (wgName 4) (wIfS (wOr (wB (wOp ixD (wVar 2) (wVar 4))) (wNot (wB (wOp ixD (wVar 1) (wVar 4))))) (wRet (wOp ixD (wVar 2) (wVar 4))) wNext) D (natsD w) [x0, .dat (.list (boolsOf n near)), .dat (.list (boolsOf n far)), x3, .dat (.int (k : Int))] := fun z => by
      rw [if_neg z] at h'
      exact goes_loop qe qr w _ (fun k hk => hw k (by simp [hk])) h'
    have out : (far k || !near k) = true → wRet (wOp ixD (wVar 2) (wVar 4)) { D with nx := forW (wgName 4) (wIfS (wOr (wB (wOp ixD (wVar 2) (wVar 4))) (wNot (wB (wOp ixD (wVar 1) (wVar 4))))) (wRet (wOp ixD (wVar 2) (wVar 4))) wNext) D (natsD w), ct := forW (wgName 4) (wIfS (wOr (wB (wOp ixD (wVar 2) (wVar 4))) (wNot (wB (wOp ixD (wVar 1) (wVar 4))))) (wRet (wOp ixD (wVar 2) (wVar 4))) wNext) D (natsD w), bk := D.nx } [x0, .dat (.list (boolsOf n near)), .dat (.list (boolsOf n far)), x3, .dat (.int (k : Int))] := fun z => by
      rw [if_pos z] at h'
      refine ⟨_, at_bools hk, ?_⟩
      rw [h']
      exact qr _
    refine ⟨_, at_bools hk, ?_⟩
    by_cases hf : far k = true
    · refine (if_pos hf).mpr ((if_pos rfl).mpr (out (by rw [hf]; rfl)))
    · have hf' : far k = false := by simpa using hf
      refine (if_neg hf).mpr ⟨_, at_bools hk, ?_⟩
      by_cases hn : (!near k) = true
      · exact (if_pos hn).mpr (out (by rw [hf', hn]; rfl))
      · have hn' : (!near k) = false := by simpa using hn
        exact (if_neg hn).mpr (rest (by rw [hf', hn']; decide))
theorem w_goes {as : List Sl} {R : Rs → List Sl → Prop} (h : S_goes as R) : W__law_goes (endsF as R) (startG N__law_goes as) := by
  obtain ⟨h, n, near, far, w, rfl, oh, hn, hl, hw, k⟩ := h
  show W__law_goes (endsF [.dat (.str h), .dat (.list (boolsOf n near)), .dat (.list (boolsOf n far)), .dat (.list (natsD w))] R) [.dat (.str h), .dat (.list (boolsOf n near)), .dat (.list (boolsOf n far)), .dat (.list (natsD w)), .un]
  have z0 : 0 ≤ sizeLine := Nat.zero_le _
  refine eqD_word oh ok_ever ?_
  by_cases h1 : h = "ever"
  · refine ite_t h1 (And.intro rfl (goes_ever w [] hw (by simp; omega) (And.intro z0 (ne_nil ?_ ?_))))
    · have := List.length_filter_le near w
      simp
      omega
    · rw [List.nil_append, any_filter]
      unfold goesB at k
      rw [if_pos h1] at k
      exact k
  refine ite_f h1 (eqD_word oh ok_always ?_)
  by_cases h2 : h = "always"
  · refine ite_t h2 (And.intro rfl (goes_alw w [] hw (by simp; omega) (And.intro z0 (eq_nil ?_ ?_))))
    · have := List.length_filter_le (fun k => !near k) w
      simp
      omega
    · rw [List.nil_append, all_filter]
      unfold goesB at k
      rw [if_neg h1, if_pos h2] at k
      exact k
  refine ite_f h2 ?_
  unfold goesB at k
  rw [if_neg h1, if_neg h2] at k
  refine goes_loop (d := decide (h = "unless")) (b := untB near far (decide (h = "unless")) w) (fun e s4 => ?_) (fun s4 => k) w .un hw rfl
  refine eqD_word oh ok_unless ?_
  rw [e]
  exact k
end K28

namespace DL
open PySem PySem.Spec PyProof.Rows L2
/-- a comprehension that changes nothing, item by item -/
theorem lc_map {Wg : WG} {We : WE} {vs : List Nat} {Q : List PyData → Gam → Prop} {Γ : Gam} {f : PyData → PyData} : ∀ (xs acc : List PyData), (∀ x ∈ xs, ∀ QQ : PyData → Gam → Prop, (∀ Γ3, restG Γ Γ3 vs = Γ → QQ (f x) Γ3) → Wg x (wipeG Γ vs) fun Γ1 => We Γ1 QQ) →
    acc.length + xs.length ≤ 1000000 → Q (acc ++ xs.map f) Γ → lcD Wg wYes We vs Q xs acc Γ
  | [], acc, _, _, q => by
    rw [List.map_nil, List.append_nil] at q
    exact q
  | x :: xs, acc, h, hl, q => by
    simp only [List.length_cons] at hl
    refine h x (by simp) (fun y Γ3 => acc.length < sizeLine ∧ lcD Wg wYes We vs Q xs (acc ++ [y]) (restG Γ Γ3 vs)) fun Γ3 e => ?_
    refine And.intro (by rw [sizeLine_eq]; omega) ?_
    rw [e]
    refine lc_map xs (acc ++ [f x]) (fun z hz => h z (by simp [hz])) (by simp; omega) ?_
    rw [List.append_assoc]
    exact q
end DL
namespace K28
open PySem PySem.Spec PyProof.Rows L2 DL
theorem map_getD {α β : Type} (g : α → β) (d : α) : ∀ xs : List α, xs.map g = (List.range xs.length).map fun i => g (xs.getD i d)
  | [] => rfl
  | x :: xs => by
    rw [List.length_cons, List.range_succ_eq_map, List.map_cons, List.map_cons, List.map_map, map_getD g d xs]
    congr 1
def S_rw (n : Nat) : PSp := fun as R => ∃ (f : Fm) (r : Ring), as = [.dat f.toD, .dat r.toD] ∧ r.ok ∧ wfF f ∧ f.sok = true ∧ f.ht ≤ n ∧ R (.new (boolsOf r.n (valB r f))) as
theorem mem_bools {n : Nat} {p : Nat → Bool} {x : PyData} (h : x ∈ boolsOf n p) : ∃ b, x = .bool b := by
  obtain ⟨i, _, e⟩ := List.mem_map.mp h
  exact ⟨_, e.symm⟩
def notD : PyData → PyData
  | .bool b => .bool (!b)
  | d => d
theorem map_not {n : Nat} {p : Nat → Bool} : (boolsOf n p).map notD = boolsOf n fun k => !p k := by
  unfold boolsOf
  rw [List.map_map]
  rfl
theorem rng_map {m : Nat} {f : PyData → PyData} {p : Nat → Bool} (h : ∀ k, k < m → f (.int (k : Int)) = .bool (p k)) : (rng 0 m).map f = boolsOf m p := by
  rw [rng_nat, List.map_map]
  unfold boolsOf
  refine List.map_congr_left fun k hk => ?_
  exact h k (List.mem_range.mp hk)
theorem mem_rng {m : Nat} {x : PyData} (h : x ∈ rng 0 m) : ∃ k : Nat, k < m ∧ x = .int (k : Int) := by
  rw [rng_nat] at h
  obtain ⟨k, hk, e⟩ := List.mem_map.mp h
  exact ⟨k, List.mem_range.mp hk, e.symm⟩
def natOf : PyData → Nat
  | .int i => i.toNat
  | _ => 0
theorem natOf_int (k : Nat) : natOf (.int (k : Int)) = k := rfl
section
variable {r : Ring} {m : Nat} {x0 x1 x2 x3 x4 x5 x6 x7 x8 x9 x10 x11 : Sl} {near far : Nat → Bool} {Q : List PyData → Gam → Prop}
theorem rows_tt (hl : r.n ≤ 100) (q : Q (boolsOf r.n fun _ => true) [x0, x1, x2, .dat (.str "true"), x4, x5, x6, x7, .un, x9, x10, x11]) :
    lcD (wgName 8) wYes (wOrV (wOp eqD (wVar 3) (wC (.str "true"))) (wOp inD (wOp ixD (wVar 0) (wC (.int 1))) (wVar 8))) [8] Q (r.sets.map strsT) [] [x0, x1, x2, .dat (.str "true"), x4, x5, x6, x7, .un, x9, x10, x11] := by
  refine lc_map (f := fun _ => .bool true) _ [] (fun x _ QQ hQ => ?_) (by rw [List.length_map]; have : r.sets.length ≤ 100 := hl; simp; omega) ?_
  · exact eqD_word ok_true ok_true (ite_t rfl (hQ _ rfl))
  · rw [List.nil_append, List.map_map, map_getD _ [] r.sets]
    exact q
theorem rows_word {w : Str} (hl : r.n ≤ 100) (q : Q (boolsOf r.n (valB r (.word w))) [.dat (Fm.word w).toD, x1, x2, .dat (.str "word"), x4, x5, x6, x7, .un, x9, x10, x11]) :
    lcD (wgName 8) wYes (wOrV (wOp eqD (wVar 3) (wC (.str "true"))) (wOp inD (wOp ixD (wVar 0) (wC (.int 1))) (wVar 8))) [8] Q (r.sets.map strsT) [] [.dat (Fm.word w).toD, x1, x2, .dat (.str "word"), x4, x5, x6, x7, .un, x9, x10, x11] := by
  refine lc_map (f := fun d => .bool (match d with | .tuple ts => ts.any fun z => PyData.eqv z (.str w) | _ => false)) _ [] (fun x hx QQ hQ => ?_) (by rw [List.length_map]; have : r.sets.length ≤ 100 := hl; simp; omega) ?_
  · obtain ⟨t, _, rfl⟩ := List.mem_map.mp hx
    refine eqD_word ok_word ok_true (ite_f (fun z => by rw [ne_word_true] at z; exact z) ⟨_, at_1, in_told ?_⟩)
    have := hQ ([.dat (Fm.word w).toD, x1, x2, .dat (.str "word"), x4, x5, x6, x7, .dat (strsT t), x9, x10, x11]) rfl
    rw [← in_strs]
    exact this
  · rw [List.nil_append, List.map_map, map_getD _ [] r.sets]
    have e : ((List.range r.sets.length).map fun i => ((fun d => PyData.bool (match d with | .tuple ts => ts.any fun z => PyData.eqv z (.str w) | _ => false)) ∘ strsT) (r.sets.getD i [])) = boolsOf r.n (valB r (.word w)) := by
      unfold boolsOf
      refine List.map_congr_left fun i _ => ?_
      show PyData.bool ((((r.sets.getD i []).map PyData.str).any fun z => PyData.eqv z (.str w))) = .bool (decide (w ∈ r.sets.getD i []))
      rw [in_strs]
    rw [e]
    exact q
theorem rows_not (hl : m ≤ 100) (q : Q (boolsOf m fun k => !near k) [x0, x1, x2, x3, .dat (.list (boolsOf m near)), x5, x6, x7, .un, x9, x10, x11]) :
    lcD (wgName 8) wYes (wNotV (wVar 8)) [8] Q (boolsOf m near) [] [x0, x1, x2, x3, .dat (.list (boolsOf m near)), x5, x6, x7, .un, x9, x10, x11] := by
  refine lc_map (f := notD) _ [] (fun x hx QQ hQ => ?_) (by unfold boolsOf; rw [List.length_map, List.length_range]; simp; omega) ?_
  · obtain ⟨b, rfl⟩ := mem_bools hx
    exact hQ _ rfl
  · rw [List.nil_append, map_not]
    exact q
theorem rows_next (ok : r.ok) (hm : m = r.n) (hl : m ≤ 100) (q : Q (boolsOf m fun k => near (r.at' (k + 1))) [x0, .dat r.toD, x2, x3, .dat (.list (boolsOf m near)), x5, x6, x7, x8, .un, x10, x11]) :
    lcD (wgName 9) wYes (wOp ixD (wVar 4) (wCall S_at (wPCons (wD (wVar 1)) (wPCons (wD (wOp addD (wVar 9) (wC (.int 1)))) wPNil)))) [9] Q (rng 0 m) [] [x0, .dat r.toD, x2, x3, .dat (.list (boolsOf m near)), x5, x6, x7, x8, .un, x10, x11] := by
  refine lc_map (f := fun d => .bool (near (r.at' (natOf d + 1)))) _ [] (fun x hx QQ hQ => ?_) (by rw [rng_len]; simp; omega) ?_
  · obtain ⟨k, hk, rfl⟩ := mem_rng hx
    have hlt : r.at' (k + 1) < m := by rw [hm]; exact Ring.at_lt ok _
    refine And.intro List.nodup_nil ⟨r, k + 1, rfl, ok, by omega, ⟨_, at_bools hlt, ?_⟩⟩
    exact hQ _ rfl
  · rw [List.nil_append, rng_map (p := fun k => near (r.at' (k + 1))) (fun k _ => rfl)]
    exact q
theorem rows_and (hl : m ≤ 100) (q : Q (boolsOf m fun k => near k && far k) [x0, x1, x2, x3, .dat (.list (boolsOf m near)), x5, .dat (.list (boolsOf m far)), x7, x8, .un, x10, x11]) :
    lcD (wgName 9) wYes (wAndV (wOp ixD (wVar 4) (wVar 9)) (wOp ixD (wVar 6) (wVar 9))) [9] Q (rng 0 m) [] [x0, x1, x2, x3, .dat (.list (boolsOf m near)), x5, .dat (.list (boolsOf m far)), x7, x8, .un, x10, x11] := by
  refine lc_map (f := fun d => .bool (near (natOf d) && far (natOf d))) _ [] (fun x hx QQ hQ => ?_) (by rw [rng_len]; simp; omega) ?_
  · obtain ⟨k, hk, rfl⟩ := mem_rng hx
    have := hQ [x0, x1, x2, x3, .dat (.list (boolsOf m near)), x5, .dat (.list (boolsOf m far)), x7, x8, .dat (.int (k : Int)), x10, x11] rfl
    rw [natOf_int] at this
    refine ⟨_, at_bools hk, ?_⟩
    by_cases h : near k = true
    · rw [h, Bool.true_and] at this
      exact (if_pos h).mpr ⟨_, at_bools hk, this⟩
    · have h' : near k = false := by simpa using h
      rw [h', Bool.false_and] at this
      exact (if_neg h).mpr this
  · rw [List.nil_append, rng_map (p := fun k => near k && far k) (fun k _ => rfl)]
    exact q
theorem rows_or (hl : m ≤ 100) (q : Q (boolsOf m fun k => near k || far k) [x0, x1, x2, x3, .dat (.list (boolsOf m near)), x5, .dat (.list (boolsOf m far)), x7, x8, .un, x10, x11]) :
    lcD (wgName 9) wYes (wOrV (wOp ixD (wVar 4) (wVar 9)) (wOp ixD (wVar 6) (wVar 9))) [9] Q (rng 0 m) [] [x0, x1, x2, x3, .dat (.list (boolsOf m near)), x5, .dat (.list (boolsOf m far)), x7, x8, .un, x10, x11] := by
  refine lc_map (f := fun d => .bool (near (natOf d) || far (natOf d))) _ [] (fun x hx QQ hQ => ?_) (by rw [rng_len]; simp; omega) ?_
  · obtain ⟨k, hk, rfl⟩ := mem_rng hx
    have := hQ [x0, x1, x2, x3, .dat (.list (boolsOf m near)), x5, .dat (.list (boolsOf m far)), x7, x8, .dat (.int (k : Int)), x10, x11] rfl
    rw [natOf_int] at this
    refine ⟨_, at_bools hk, ?_⟩
    by_cases h : near k = true
    · rw [h, Bool.true_or] at this
      exact (if_pos h).mpr this
    · have h' : near k = false := by simpa using h
      rw [h', Bool.false_or] at this
      exact (if_neg h).mpr ⟨_, at_bools hk, this⟩
  · rw [List.nil_append, rng_map (p := fun k => near k || far k) (fun k _ => rfl)]
    exact q
def walkD (r : Ring) (k : Nat) : PyData := .list (natsD (r.walk k))
theorem rows_walk (ok : r.ok) (hm : m = r.n) (hl : m ≤ 100) (q : Q ((List.range m).map fun k => walkD r k) [x0, .dat r.toD, x2, x3, x4, .dat (.int (m : Int)), x6, x7, x8, .un, .un, x11]) :
    lcD (wgName 9) wYes (wL (wLc (wRng1 (wVar 5)) (wgName 10) wYes (wCall S_at (wPCons (wD (wVar 1)) (wPCons (wD (wOp addD (wVar 9) (wVar 10))) wPNil))) [10])) [9] Q (rng 0 m) [] [x0, .dat r.toD, x2, x3, x4, .dat (.int (m : Int)), x6, x7, x8, .un, .un, x11] := by
  refine lc_map (f := fun d => walkD r (natOf d)) _ [] (fun x hx QQ hQ => ?_) (by rw [rng_len]; simp; omega) ?_
  · obtain ⟨k, hk, rfl⟩ := mem_rng hx
    refine And.intro (by omega) (And.intro (by omega) (And.intro rfl ?_))
    refine lc_map (f := fun d => .int ((r.at' (k + natOf d) : Nat) : Int)) _ [] (fun y hy QQ2 hQ2 => ?_) (by rw [rng_len]; simp; omega) ?_
    · obtain ⟨l, hl2, rfl⟩ := mem_rng hy
      exact And.intro List.nodup_nil ⟨r, k + l, rfl, ok, by omega, hQ2 _ rfl⟩
    · rw [List.nil_append]
      have e : (rng 0 (m : Int).toNat).map (fun d => PyData.int ((r.at' (k + natOf d) : Nat) : Int)) = natsD (r.walk k) := by
        rw [show (m : Int).toNat = m from rfl, rng_nat, List.map_map]
        unfold natsD Ring.walk
        rw [List.map_map, ← hm]
        rfl
      rw [e]
      exact hQ [x0, .dat r.toD, x2, x3, x4, .dat (.int (m : Int)), x6, x7, x8, .dat (.int (k : Int)), .un, x11] rfl
  · rw [List.nil_append, rng_nat, List.map_map]
    exact q
theorem rows_goes {h : Str} (ok : r.ok) (hm : m = r.n) (hl : m ≤ 100) (oh : PyData.strOk h = true) (q : Q (boolsOf m fun k => goesB h near far (r.walk k)) [x0, x1, x2, .dat (.str h), .dat (.list (boolsOf m near)), x5, .dat (.list (boolsOf m far)), x7, x8, x9, x10, .un]) :
    lcD (wgName 11) wYes (wCall S_goes (wPCons (wD (wVar 3)) (wPCons (wD (wVar 4)) (wPCons (wD (wVar 6)) (wPCons (wD (wVar 11)) wPNil))))) [11] Q ((List.range m).map fun k => walkD r k) [] [x0, x1, x2, .dat (.str h), .dat (.list (boolsOf m near)), x5, .dat (.list (boolsOf m far)), x7, x8, x9, x10, .un] := by
  refine lc_map (f := fun d => .bool (match d with | .list ws => goesB h near far (ws.map natOf) | _ => false)) _ [] (fun x hx QQ hQ => ?_) (by rw [List.length_map, List.length_range]; simp; omega) ?_
  · obtain ⟨k, hk, rfl⟩ := List.mem_map.mp hx
    have e : (natsD (r.walk k)).map natOf = r.walk k := by
      unfold natsD
      rw [List.map_map]
      exact (List.map_congr_left fun l _ => rfl).trans (List.map_id _)
    have := hQ [x0, x1, x2, .dat (.str h), .dat (.list (boolsOf m near)), x5, .dat (.list (boolsOf m far)), x7, x8, x9, x10, .dat (walkD r k)] rfl
    refine And.intro List.nodup_nil ⟨h, m, near, far, r.walk k, rfl, oh, hl, by unfold Ring.walk; rw [List.length_map, List.length_range]; omega, fun j hj => ?_, ?_⟩
    · unfold Ring.walk at hj
      obtain ⟨l, _, rfl⟩ := List.mem_map.mp hj
      rw [hm]
      exact Ring.at_lt ok _
    · have this : QQ (.bool (goesB h near far ((natsD (r.walk k)).map natOf))) _ := this
      rw [e] at this
      exact this
  · rw [List.nil_append, List.map_map]
    have e : ((List.range m).map ((fun d => PyData.bool (match d with | .list ws => goesB h near far (ws.map natOf) | _ => false)) ∘ fun k => walkD r k)) = boolsOf m fun k => goesB h near far (r.walk k) := by
      unfold boolsOf
      refine List.map_congr_left fun k _ => ?_
      have e : (natsD (r.walk k)).map natOf = r.walk k := by
        unfold natsD
        rw [List.map_map]
        exact (List.map_congr_left fun l _ => rfl).trans (List.map_id _)
      show PyData.bool (goesB h near far ((natsD (r.walk k)).map natOf)) = _
      rw [e]
    rw [e]
    exact q
end
end K28

namespace K28
open PySem PySem.Spec PyProof.Rows L2 DL
theorem val_goes {r : Ring} {h : Str} {a : Fm} (h1 : ¬ h = "not") (h2 : ¬ h = "next") : (valB r (.un h a)) = fun k => goesB h (valB r a) (valB r a) (r.walk k) := by
  funext k
  rw [valB, if_neg h1, if_neg h2]
theorem val_goes2 {r : Ring} {h : Str} {a b : Fm} (h1 : ¬ h = "and") (h2 : ¬ h = "or") : (valB r (.bin h a b)) = fun k => goesB h (valB r a) (valB r b) (r.walk k) := by
  funext k
  rw [valB, if_neg h1, if_neg h2]
theorem w_rw {n : Nat} {as : List Sl} {R : Rs → List Sl → Prop} (h : S_rw (n + 1) as R) : W__law_rows (S_rw n) S_at S_goes (endsF as R) (startG N__law_rows as) := by
  obtain ⟨f, r, rfl, ok, wf, sok, ht, k⟩ := h
  have s1 : 1 ≤ sizeLine := by decide
  have s2 : 2 ≤ sizeLine := by decide
  have a1 := ok.a
  have a2 := ok.t2
  have hr : r.n ≤ 100 := by rw [r.n_eq]; omega
  have es : r.ahead.map strsT ++ r.tail.map strsT = r.sets.map strsT := List.map_append.symm
  have el : (r.sets.map strsT).length = r.n := List.length_map ..
  have ll : (r.ahead.map strsT).length + (r.tail.map strsT).length ≤ sizeLine := by
    rw [List.length_map, List.length_map, sizeLine_eq]
    omega
  show W__law_rows (S_rw n) S_at S_goes (endsF [.dat f.toD, .dat r.toD] R) [.dat f.toD, .dat r.toD, .un, .un, .un, .un, .un, .un, .un, .un, .un, .un]
  cases f with
  | tt =>
    refine ⟨_, at_0, ⟨_, at_1, And.intro ll ⟨_, at_0, And.intro s2 (And.intro rfl ?_)⟩⟩⟩
    rw [es]
    refine And.intro s2 (in_two (ite_t (.inl rfl) (And.intro rfl ?_)))
    exact rows_tt hr k
  | word w =>
    refine ⟨_, at_0, ⟨_, at_1, And.intro ll ⟨_, at_0, And.intro s2 (And.intro rfl ?_)⟩⟩⟩
    rw [es]
    refine And.intro s2 (in_two (ite_t (.inr rfl) (And.intro rfl ?_)))
    exact rows_word hr k
  | un h a =>
    obtain ⟨wh, wa⟩ := wf
    have oh : PyData.strOk h = true := by simp [Fm.sok] at sok; exact sok.1
    have oa : a.sok = true := by simp [Fm.sok] at sok; exact sok.2
    have hta : a.ht ≤ n := by have : 1 + a.ht ≤ n + 1 := ht; omega
    have n1 : ¬ (h = "true" ∨ h = "word") := by rcases wh with rfl | rfl | rfl | rfl <;> simp
    refine ⟨_, at_0, ⟨_, at_1, And.intro ll ⟨_, at_0, And.intro s2 (And.intro rfl ?_)⟩⟩⟩
    rw [es]
    refine And.intro s2 (in_two (ite_f n1 ?_))
    refine ⟨_, at_1, And.intro List.nodup_nil ⟨a, r, rfl, ok, wa, oa, hta, And.intro s2 (And.intro rfl ?_)⟩⟩
    rw [el]
    refine eqD_word oh ok_not ?_
    by_cases h1 : h = "not"
    · subst h1
      refine ite_t rfl (And.intro rfl (rows_not hr ?_))
      have e : (valB r (.un "not" a)) = fun k => !valB r a k := by
        funext k
        rw [valB, if_pos rfl]
      rw [e] at k
      exact k
    refine ite_f h1 (eqD_word oh ok_next ?_)
    by_cases h2 : h = "next"
    · subst h2
      refine ite_t rfl (And.intro (by omega) (And.intro (by omega) (And.intro rfl (rows_next ok rfl hr ?_))))
      have e : (valB r (.un "next" a)) = fun k => valB r a (r.at' (k + 1)) := by
        funext k
        rw [valB, if_neg h1, if_pos rfl]
      rw [e] at k
      exact k
    have n3 : ¬ h = "and" := by rcases wh with rfl | rfl | rfl | rfl <;> simp
    have n4 : ¬ h = "or" := by rcases wh with rfl | rfl | rfl | rfl <;> simp
    refine ite_f h2 (eqD_word oh ok_and (ite_f n3 (eqD_word oh ok_or (ite_f n4 ?_))))
    refine And.intro (by omega) (And.intro (by omega) (And.intro rfl (rows_walk ok rfl hr ?_)))
    refine And.intro rfl (rows_goes ok rfl hr oh ?_)
    rw [val_goes h1 h2] at k
    exact k
  | bin h a b =>
    obtain ⟨wh, wa, wb⟩ := wf
    have oh : PyData.strOk h = true := by simp [Fm.sok] at sok; exact sok.1
    have oa : a.sok = true := by simp [Fm.sok] at sok; exact sok.2.1
    have ob : b.sok = true := by simp [Fm.sok] at sok; exact sok.2.2
    have m1 : a.ht ≤ max a.ht b.ht := Nat.le_max_left ..
    have m2 : b.ht ≤ max a.ht b.ht := Nat.le_max_right ..
    have hab : 1 + max a.ht b.ht ≤ n + 1 := ht
    have n1 : ¬ (h = "true" ∨ h = "word") := by rcases wh with rfl | rfl | rfl | rfl <;> simp
    have n2 : ¬ h = "not" := by rcases wh with rfl | rfl | rfl | rfl <;> simp
    have n3 : ¬ h = "next" := by rcases wh with rfl | rfl | rfl | rfl <;> simp
    refine ⟨_, at_0, ⟨_, at_1, And.intro ll ⟨_, at_0, And.intro s2 (And.intro rfl ?_)⟩⟩⟩
    rw [es]
    refine And.intro s2 (in_two (ite_f n1 ?_))
    refine ⟨_, at_1, And.intro List.nodup_nil ⟨a, r, rfl, ok, wa, oa, by omega, And.intro s2 (And.intro rfl ?_)⟩⟩
    rw [el]
    refine ⟨_, at_2, And.intro List.nodup_nil ⟨b, r, rfl, ok, wb, ob, by omega, ?_⟩⟩
    refine eqD_word oh ok_not (ite_f n2 (eqD_word oh ok_next (ite_f n3 (eqD_word oh ok_and ?_))))
    by_cases h1 : h = "and"
    · subst h1
      refine ite_t rfl (And.intro (by omega) (And.intro (by omega) (And.intro rfl (rows_and hr ?_))))
      have e : (valB r (.bin "and" a b)) = fun k => valB r a k && valB r b k := by
        funext k
        exact val_and
      rw [e] at k
      exact k
    refine ite_f h1 (eqD_word oh ok_or ?_)
    by_cases h2 : h = "or"
    · subst h2
      refine ite_t rfl (And.intro (by omega) (And.intro (by omega) (And.intro rfl (rows_or hr ?_))))
      have e : (valB r (.bin "or" a b)) = fun k => valB r a k || valB r b k := by
        funext k
        exact val_or
      rw [e] at k
      exact k
    refine ite_f h2 ?_
    refine And.intro (by omega) (And.intro (by omega) (And.intro rfl (rows_walk ok rfl hr ?_)))
    refine And.intro rfl (rows_goes ok rfl hr oh ?_)
    rw [val_goes2 h1 h2] at k
    exact k
end K28

namespace K28
open PySem PySem.Spec PyProof.Rows L2 DL
/-! ## written formulas, checked by counting -/
def wfB : Fm → Bool
  | .tt => true
  | .word _ => true
  | .un h a => (decide (h = "not") || decide (h = "next") || decide (h = "ever") || decide (h = "always")) && wfB a
  | .bin h a b => (decide (h = "and") || decide (h = "or") || decide (h = "until") || decide (h = "unless")) && (wfB a && wfB b)
theorem wf_of : ∀ {f : Fm}, wfB f = true → wfF f
  | .tt, _ => trivial
  | .word _, _ => trivial
  | .un h a, z => by
    simp [wfB] at z
    refine ⟨?_, wf_of z.2⟩
    rcases z.1 with ((z | z) | z) | z
    · exact .inl z
    · exact .inr (.inl z)
    · exact .inr (.inr (.inl z))
    · exact .inr (.inr (.inr z))
  | .bin h a b, z => by
    simp [wfB] at z
    refine ⟨?_, wf_of z.2.1, wf_of z.2.2⟩
    rcases z.1 with ((z | z) | z) | z
    · exact .inl z
    · exact .inr (.inl z)
    · exact .inr (.inr (.inl z))
    · exact .inr (.inr (.inr z))
theorem froz_strsAll : ∀ t : List Str, frozAll (t.map PyData.str) = t.map PyData.str
  | [] => by simp [frozAll]
  | s :: t => by simp [frozAll, froz, froz_strsAll t]
theorem froz_strs (t : List Str) : froz (strsT t) = strsT t := by
  unfold strsT
  rw [froz, froz_strsAll]
theorem wgt_strsAll : ∀ t : List Str, wgtAll (t.map PyData.str) = t.length
  | [] => by simp [wgtAll]
  | s :: t => by simp [wgtAll, wgt, wgt_strsAll t]; omega
theorem wgt_strs (t : List Str) : wgt (strsT t) = 2 + t.length := by
  unfold strsT
  rw [wgt, wgt_strsAll]
theorem lc_mapT {α : Type} {Wg : WG} {We : WE} {vs : List Nat} {Q : List PyData → Gam → Prop} {Γ : Gam} {enc g : α → PyData} : ∀ (xs : List α) (acc : List PyData), (∀ x ∈ xs, ∀ QQ : PyData → Gam → Prop, (∀ Γ3, restG Γ Γ3 vs = Γ → QQ (g x) Γ3) → Wg (enc x) (wipeG Γ vs) fun Γ1 => We Γ1 QQ) →
    acc.length + xs.length ≤ 1000000 → Q (acc ++ xs.map g) Γ → lcD Wg wYes We vs Q (xs.map enc) acc Γ
  | [], acc, _, _, q => by
    rw [List.map_nil, List.append_nil] at q
    exact q
  | x :: xs, acc, h, hl, q => by
    simp only [List.length_cons] at hl
    refine h x (by simp) (fun y Γ3 => acc.length < sizeLine ∧ lcD Wg wYes We vs Q (xs.map enc) (acc ++ [y]) (restG Γ Γ3 vs)) fun Γ3 e => ?_
    refine And.intro (by rw [sizeLine_eq]; omega) ?_
    rw [e]
    refine lc_mapT xs (acc ++ [g x]) (fun z hz => h z (by simp [hz])) (by simp; omega) ?_
    rw [List.append_assoc]
    exact q
end K28

namespace K28
open PySem PySem.Spec PyProof.Rows L2 DL
/-! ## lasting: twice along the places, from the last one on -/
theorem unt_cons {near far : Nat → Bool} {d : Bool} {x : Nat} {w : List Nat} : untB near far d (x :: w) = (far x || (near x && untB near far d w)) := by
  show (if (far x || !near x) = true then far x else untB near far d w) = _
  cases hf : far x <;> cases hn : near x <;> simp
theorem unt_app {near far : Nat → Bool} {d : Bool} : ∀ (zs mid : List Nat), (∀ z ∈ zs, z ∈ mid) → untB near far d (mid ++ zs) = untB near far d mid
  | [], mid, _ => by rw [List.append_nil]
  | z :: zs, mid, h => by
    rw [show mid ++ z :: zs = (mid ++ [z]) ++ zs by simp, unt_app zs (mid ++ [z]) (fun y hy => List.mem_append_left _ (h y (by simp [hy])))]
    exact unt_snoc (.inl (h z (by simp)))
/-- one way back -/
def backB (near far : Nat → Bool) (v : Bool) (n i : Nat) : Bool := untB near far v (List.range' i (n - i))
theorem back_end {near far : Nat → Bool} {v : Bool} {n : Nat} : backB near far v n n = v := by
  unfold backB
  rw [Nat.sub_self]
  rfl
theorem back_step {near far : Nat → Bool} {v : Bool} {n i : Nat} (h : i < n) : backB near far v n i = (far i || (near i && backB near far v n (i + 1))) := by
  unfold backB
  obtain ⟨m, hm⟩ : ∃ m, n - i = m + 1 := ⟨n - i - 1, by omega⟩
  rw [hm, List.range'_succ, unt_cons, show n - (i + 1) = m by omega]
def lastB (near far : Nat → Bool) (b : Nat) (d : Bool) (n i : Nat) : Bool := backB near far (backB near far d n b) n i
/-- it is what is so along the walk -/
theorem last_walk {r : Ring} (ok : r.ok) {near far : Nat → Bool} {d : Bool} : ∀ i, i < r.n → lastB near far r.ahead.length d r.n i = untB near far d (r.walk i) := by
  have t1 := ok.t1
  have hn := r.n_eq
  -- where the round begins
  have hb : untB near far d (r.walk r.ahead.length) = backB near far d r.n r.ahead.length := by
    have e : ∃ zs, r.walk r.ahead.length = List.range' r.ahead.length r.tail.length ++ zs ∧ ∀ z ∈ zs, z ∈ List.range' r.ahead.length r.tail.length := by
      refine ⟨(List.range r.ahead.length).map fun l => r.at' (r.ahead.length + (r.tail.length + l)), ?_, fun z hz => ?_⟩
      · unfold Ring.walk
        rw [hn, Nat.add_comm r.ahead.length r.tail.length, List.range_add, List.map_append, List.map_map]
        congr 1
        rw [List.range'_eq_map_range]
        refine List.map_congr_left fun l hl => ?_
        have hl := List.mem_range.mp hl
        exact Ring.at_id (by omega)
      · obtain ⟨l, _, rfl⟩ := List.mem_map.mp hz
        rw [List.mem_range'_1]
        unfold Ring.at'
        rw [if_neg (by omega)]
        have := Nat.mod_lt (r.ahead.length + (r.tail.length + l) - r.ahead.length) (by omega : r.tail.length > 0)
        omega
    obtain ⟨zs, e, hz⟩ := e
    rw [e, unt_app zs _ hz]
    unfold backB
    rw [show r.n - r.ahead.length = r.tail.length by omega]
  have step : ∀ i, i < r.n → untB near far d (r.walk i) = (far i || (near i && untB near far d (r.walk (i + 1)))) := fun i hi => by
    obtain ⟨mid, z, w1, w2, hz⟩ := Ring.walk_split ok i
    rw [Ring.at_id hi] at w1 hz
    rw [w1, w2, unt_step hz]
  have all : ∀ m i, i + m = r.n → lastB near far r.ahead.length d r.n i = untB near far d (r.walk i) := by
    intro m
    induction m with
    | zero =>
      intro i hi
      have : i = r.n := by omega
      subst this
      unfold lastB
      rw [back_end, ← hb]
      have e : r.at' r.n = r.ahead.length := by
        rw [hn]
        unfold Ring.at'
        rw [if_neg (by omega), show r.ahead.length + r.tail.length - r.ahead.length = r.tail.length by omega, Nat.mod_self, Nat.add_zero]
      rw [← Ring.walk_at r r.n, e]
    | succ m ih =>
      intro i hi
      rw [step i (by omega), ← ih (i + 1) (by omega)]
      exact back_step (by omega)
  intro i hi
  exact all (r.n - i) i (by omega)
/-! ## _lasting -/
def S_last : PSp := fun as R => ∃ (n b : Nat) (p q : Nat → Bool) (d : Bool), as = [.dat (.list (boolsOf n p)), .dat (.list (boolsOf n q)), .dat (.int (b : Int)), .dat (.bool d)] ∧ b < n ∧ n ≤ 100 ∧ R (.new (boolsOf n (lastB p q b d n))) as
def downs : Nat → List PyData
  | 0 => []
  | k + 1 => .int (k : Int) :: downs k
theorem rngD_downs : ∀ n, rngD n = downs n
  | 0 => rfl
  | n + 1 => by
    have ih := rngD_downs n
    unfold rngD at ih ⊢
    rw [List.range_succ_eq_map, List.map_cons, List.map_map]
    show PyData.int ((n + 1 - 1 - 0 : Nat) : Int) :: _ = PyData.int (n : Int) :: downs n
    rw [← ih]
    congr 1
    refine List.map_congr_left fun i _ => ?_
    show PyData.int ((n + 1 - 1 - (i + 1) : Nat) : Int) = PyData.int ((n - 1 - i : Nat) : Int)
    rw [show n + 1 - 1 - (i + 1) = n - 1 - i by omega]
theorem ixN_nat {n k : Nat} (h : k < n) : ixN n (k : Int) = some k := by
  unfold ixN
  rw [if_pos (by omega), if_pos (by omega)]
  rfl
theorem bools_congr {n : Nat} {f g : Nat → Bool} (h : ∀ i, i < n → f i = g i) : boolsOf n f = boolsOf n g :=
  List.map_congr_left fun i hi => congrArg PyData.bool (h i (List.mem_range.mp hi))
theorem len_bools {n : Nat} {p : Nat → Bool} : (boolsOf n p).length = n := by
  unfold boolsOf
  rw [List.length_map, List.length_range]
theorem set_bools {n k : Nat} {f : Nat → Bool} {v : Bool} : (boolsOf n f).set k (.bool v) = boolsOf n fun i => if i = k then v else f i := by
  refine List.ext_getElem? fun i => ?_
  rw [List.getElem?_set]
  unfold boolsOf
  simp only [List.length_map, List.length_range, List.getElem?_map]
  by_cases hi : i < n
  · rw [List.getElem?_range hi]
    by_cases e : k = i
    · subst e
      simp [hi]
    · simp [e, Ne.symm e]
  · have hn : (List.range n)[i]? = none := List.getElem?_eq_none (by simpa using hi)
    rw [hn]
    by_cases e : k = i
    · subst e; simp [hi]
    · simp [e]
theorem last_in {n b : Nat} {p q o : Nat → Bool} {v0 : Bool} {x2 x3 x5 : Sl} {D : EndsD} (hn : n ≤ 100) (qq : ∀ x7, D.nx [.dat (.list (boolsOf n p)), .dat (.list (boolsOf n q)), x2, x3, .own (boolsOf n (backB p q v0 n)), x5, .dat (.bool (backB p q v0 n 0)), x7]) : ∀ (k : Nat) (x7 : Sl), k ≤ n →
    forW (wgName 7) (wSeq (wAsg 6 (wOrV (wOp ixD (wVar 1) (wVar 7)) (wAndV (wOp ixD (wVar 0) (wVar 7)) (wVar 6)))) (wSetI 4 (wVar 7) (wVar 6))) D (downs k)
      [.dat (.list (boolsOf n p)), .dat (.list (boolsOf n q)), x2, x3, .own (boolsOf n fun i => if i < k then o i else backB p q v0 n i), x5, .dat (.bool (backB p q v0 n k)), x7]
  | 0, x7, _ => by
    have e : (boolsOf n fun i => if i < 0 then o i else backB p q v0 n i) = boolsOf n (backB p q v0 n) := bools_congr fun i _ => by rw [if_neg (Nat.not_lt_zero i)]
    rw [e]
    exact qq x7
  | k + 1, x7, hk => by
    have hkn : k < n := by omega
    have step := back_step (near := p) (far := q) (v := v0) hkn
    have ih := last_in (o := o) (b := b) hn qq k (.dat (.int (k : Int))) (by omega)
    -- what is put there
    have put : forW (wgName 7) (wSeq (wAsg 6 (wOrV (wOp ixD (wVar 1) (wVar 7)) (wAndV (wOp ixD (wVar 0) (wVar 7)) (wVar 6)))) (wSetI 4 (wVar 7) (wVar 6))) D (downs k)
        [.dat (.list (boolsOf n p)), .dat (.list (boolsOf n q)), x2, x3, .own ((boolsOf n fun i => if i < k + 1 then o i else backB p q v0 n i).set k (.bool (backB p q v0 n k))), x5, .dat (.bool (backB p q v0 n k)), .dat (.int (k : Int))] := by
      rw [set_bools]
      have e : (boolsOf n fun i => if i = k then backB p q v0 n k else if i < k + 1 then o i else backB p q v0 n i) = boolsOf n fun i => if i < k then o i else backB p q v0 n i := by
        refine bools_congr fun i _ => ?_
        by_cases h1 : i = k
        · subst h1
          rw [if_pos rfl, if_neg (Nat.lt_irrefl i)]
        · rw [if_neg h1]
          by_cases h2 : i < k
          · rw [if_pos h2, if_pos (by omega)]
          · rw [if_neg h2, if_neg (by omega)]
      rw [e]
      exact ih
    have hl : (boolsOf n fun i => if i < k + 1 then o i else backB p q v0 n i).length = n := len_bools
    have fin : ∀ v : Bool, v = backB p q v0 n k → wSetI 4 (wVar 7) (wVar 6) { D with nx := forW (wgName 7) (wSeq (wAsg 6 (wOrV (wOp ixD (wVar 1) (wVar 7)) (wAndV (wOp ixD (wVar 0) (wVar 7)) (wVar 6)))) (wSetI 4 (wVar 7) (wVar 6))) D (downs k), ct := forW (wgName 7) (wSeq (wAsg 6 (wOrV (wOp ixD (wVar 1) (wVar 7)) (wAndV (wOp ixD (wVar 0) (wVar 7)) (wVar 6)))) (wSetI 4 (wVar 7) (wVar 6))) D (downs k), bk := D.nx }
        [.dat (.list (boolsOf n p)), .dat (.list (boolsOf n q)), x2, x3, .own (boolsOf n fun i => if i < k + 1 then o i else backB p q v0 n i), x5, .dat (.bool v), .dat (.int (k : Int))] := by
      intro v hv
      subst hv
      refine And.intro rfl ?_
      show optD (ixN (boolsOf n fun i => if i < k + 1 then o i else backB p q v0 n i).length (k : Int)) _
      have ei : ixN (boolsOf n fun i => if i < k + 1 then o i else backB p q v0 n i).length (k : Int) = some k := by
        rw [hl]
        exact ixN_nat hkn
      rw [ei]
      exact ⟨_, rfl, put⟩
    refine ⟨_, at_bools hkn, ?_⟩
    by_cases hq : q k = true
    · refine (if_pos hq).mpr (fin true ?_)
      rw [step, hq, Bool.true_or]
    · have hq' : q k = false := by simpa using hq
      refine (if_neg hq).mpr ⟨_, at_bools hkn, ?_⟩
      by_cases hp : p k = true
      · refine (if_pos hp).mpr (fin _ ?_)
        rw [step, hq', hp, Bool.false_or, Bool.true_and]
      · have hp' : p k = false := by simpa using hp
        refine (if_neg hp).mpr (fin false ?_)
        rw [step, hq', hp', Bool.false_or, Bool.false_and]
theorem w_last {as : List Sl} {R : Rs → List Sl → Prop} (h : S_last as R) : W__lasting (endsF as R) (startG N__lasting as) := by
  obtain ⟨n, b, p, q, d, rfl, hb, hn, k⟩ := h
  show W__lasting (endsF [.dat (.list (boolsOf n p)), .dat (.list (boolsOf n q)), .dat (.int (b : Int)), .dat (.bool d)] R) [.dat (.list (boolsOf n p)), .dat (.list (boolsOf n q)), .dat (.int (b : Int)), .dat (.bool d), .un, .un, .un, .un]
  have hl : ∀ f : Nat → Bool, (boolsOf n f).length = n := fun f => len_bools
  have pass : ∀ (D : EndsD) (o : Nat → Bool) (x5 x6 x7 : Sl), (∀ x7, D.nx [.dat (.list (boolsOf n p)), .dat (.list (boolsOf n q)), .dat (.int (b : Int)), .dat (.bool d), .own (boolsOf n (backB p q (o b) n)), x5, .dat (.bool (backB p q (o b) n 0)), x7]) →
      wSeq (wAsg 6 (wIxO (wO 4) (wVar 2))) (wFor (wRngD (wCB lenD (wCons (wVar 0) wNil))) (wgName 7) (wSeq (wAsg 6 (wOrV (wOp ixD (wVar 1) (wVar 7)) (wAndV (wOp ixD (wVar 0) (wVar 7)) (wVar 6)))) (wSetI 4 (wVar 7) (wVar 6)))) D
        [.dat (.list (boolsOf n p)), .dat (.list (boolsOf n q)), .dat (.int (b : Int)), .dat (.bool d), .own (boolsOf n o), x5, x6, x7] := by
    intro D o x5 x6 x7 qq
    refine And.intro rfl ⟨_, at_bools hb, ?_⟩
    have h62 : ((boolsOf n p).length : Int) < 2 ^ 62 := by rw [hl]; omega
    refine And.intro h62 (And.intro (by omega) ?_)
    rw [hl, Int.toNat_natCast, rngD_downs]
    have e0 : (boolsOf n fun i => if i < n then o i else backB p q (o b) n i) = boolsOf n o := bools_congr fun i hi => by rw [if_pos hi]
    have := last_in (n := n) (b := b) (p := p) (q := q) (o := o) (v0 := o b) (x2 := .dat (.int (b : Int))) (x3 := .dat (.bool d)) (x5 := x5) (D := D) hn qq n x7 (Nat.le_refl n)
    rw [e0, back_end] at this
    exact this
  refine And.intro rfl ?_
  refine lc_map (f := fun _ => .bool d) (boolsOf n p) [] (fun x _ QQ hQ => hQ _ rfl) (by rw [hl]; simp; omega) ?_
  have e1 : [] ++ (boolsOf n p).map (fun _ => PyData.bool d) = boolsOf n fun _ => d := by
    rw [List.nil_append]
    unfold boolsOf
    rw [List.map_map]
    rfl
  rw [e1]
  refine And.intro (by decide) (And.intro (by decide) ?_)
  refine pass _ (fun _ => d) _ _ _ fun x7 => ?_
  refine pass _ (backB p q d n) _ _ _ fun x7 => ?_
  exact k
end K28

namespace K28
open PySem PySem.Spec PyProof.Rows L2 DL
/-! ## truths, row by row -/
def PtsB (r : Ring) (ds : List PyData) : Fm → List Int → Prop
  | .tt, bs => bs = []
  | .word _, bs => bs = []
  | .un _ a, bs => ∃ i : Int, bs = [i] ∧ atI ds i = some (.list (boolsOf r.n (valB r a)))
  | .bin _ a b, bs => ∃ i j : Int, bs = [i, j] ∧ atI ds i = some (.list (boolsOf r.n (valB r a))) ∧ atI ds j = some (.list (boolsOf r.n (valB r b)))
def setsD (r : Ring) : PyData := .tuple (r.sets.map strsT)
def S_tf : PSp := fun as R => ∃ (r : Ring) (f : Fm) (bs : List Int) (ds : List PyData), as = [.dat (rowD (mkR f bs)), .dat (setsD r), .dat (.int (r.ahead.length : Nat)), .par ds] ∧ r.ok ∧ wfF f ∧ f.sok = true ∧ PtsB r ds f bs ∧
  R (.new (boolsOf r.n (valB r f))) as ∧ R (.dat (.list (boolsOf r.n (valB r f)))) as
theorem sets_const {r : Ring} {c : Bool} : [] ++ (r.sets.map strsT).map (fun _ => PyData.bool c) = boolsOf r.n fun _ => c := by
  rw [List.nil_append, List.map_map, map_getD _ [] r.sets]
  rfl
def wordD (w : Str) : PyData → PyData := fun d => .bool (match d with | .tuple ts => ts.any fun z => PyData.eqv z (.str w) | _ => false)
theorem sets_word {r : Ring} {w : Str} : [] ++ (r.sets.map strsT).map (wordD w) = boolsOf r.n (valB r (.word w)) := by
  rw [List.nil_append, List.map_map, map_getD _ [] r.sets]
  unfold boolsOf
  refine List.map_congr_left fun i _ => ?_
  show PyData.bool ((((r.sets.getD i []).map PyData.str).any fun z => PyData.eqv z (.str w))) = .bool (decide (w ∈ r.sets.getD i []))
  rw [in_strs]
theorem bools_not {n : Nat} {p : Nat → Bool} : [] ++ (boolsOf n p).map notD = boolsOf n fun k => !p k := by
  rw [List.nil_append, map_not]
theorem cut1 {x : PyData} {xs : List PyData} : DL.cutD (x :: xs) (some 1) none = xs := by
  unfold DL.cutD
  rw [show HT.sIx (x :: xs).length 0 (some 1) = min 1 (x :: xs).length from HT.sIx_nat _ 0 1, HT.sIx_none]
  simp
theorem cut_bools {n : Nat} {p : Nat → Bool} : DL.cutD (boolsOf (n + 1) p) (some 1) none = boolsOf n fun k => p (k + 1) := by
  have e : boolsOf (n + 1) p = .bool (p 0) :: boolsOf n fun k => p (k + 1) := by
    unfold boolsOf
    rw [List.range_succ_eq_map, List.map_cons, List.map_map]
    rfl
  rw [e, cut1]
theorem bools_snoc {n : Nat} {p : Nat → Bool} {b : Bool} : boolsOf n p ++ [.bool b] = boolsOf (n + 1) fun k => if k < n then p k else b := by
  unfold boolsOf
  rw [List.range_succ, List.map_append]
  congr 1
  · exact List.map_congr_left fun i hi => by
      show PyData.bool (p i) = .bool (if i < n then p i else b)
      rw [if_pos (List.mem_range.mp hi)]
  · show [PyData.bool b] = [.bool (if n < n then p n else b)]
    rw [if_neg (Nat.lt_irrefl n)]
theorem next_list {r : Ring} (ok : r.ok) {p : Nat → Bool} : DL.cutD (boolsOf r.n p) (some 1) none ++ [.bool (p r.ahead.length)] = boolsOf r.n fun k => p (r.at' (k + 1)) := by
  have t1 := ok.t1
  have hn := r.n_eq
  obtain ⟨m, hm⟩ : ∃ m, r.n = m + 1 := ⟨r.n - 1, by omega⟩
  rw [hm, cut_bools, bools_snoc]
  refine bools_congr fun k hk => ?_
  by_cases h : k < m
  · rw [if_pos h, Ring.at_id (by omega)]
  · have e : k + 1 = r.n := by omega
    have e2 : r.at' r.n = r.ahead.length := by
      rw [hn]
      unfold Ring.at'
      rw [if_neg (by omega), show r.ahead.length + r.tail.length - r.ahead.length = r.tail.length by omega, Nat.mod_self, Nat.add_zero]
    rw [if_neg h, e, e2]
theorem zip_map {α : Type} {f g : α → PyData} : ∀ xs : List α, zipD (xs.map f) (xs.map g) = xs.map fun i => .tuple [f i, g i]
  | [] => rfl
  | x :: xs => by
    show PyData.tuple [f x, g x] :: zipD (xs.map f) (xs.map g) = _
    rw [zip_map xs]
    rfl
theorem zip_bools {n : Nat} {p q : Nat → Bool} : zipD (boolsOf n p) (boolsOf n q) = (List.range n).map fun i => .tuple [.bool (p i), .bool (q i)] := zip_map _
section
variable {r : Ring} {x0 x1 x2 x3 x4 x5 x6 x7 x8 : Sl} {p q : Nat → Bool} {Q : List PyData → Gam → Prop}
theorem tf_and {n : Nat} (hn : n ≤ 100) (k : Q (boolsOf n fun i => p i && q i) [x0, x1, x2, x3, x4, x5, x6, x7, x8, .un, .un]) :
    lcD (wgTup 2 (wgCons (wgName 10) (wgCons (wgName 9) wgNil))) wYes (wAndV (wVar 10) (wVar 9)) [10, 9] Q (zipD (boolsOf n p) (boolsOf n q)) [] [x0, x1, x2, x3, x4, x5, x6, x7, x8, .un, .un] := by
  rw [zip_bools]
  refine lc_mapT (enc := fun i => .tuple [.bool (p i), .bool (q i)]) (g := fun i => .bool (p i && q i)) (List.range n) [] (fun i _ QQ hQ => ?_) (by rw [List.length_range]; simp; omega) k
  refine And.intro rfl ?_
  show (if p i = true then QQ (.bool (q i)) _ else QQ (.bool false) _)
  have := hQ ([x0, x1, x2, x3, x4, x5, x6, x7, x8, .dat (.bool (q i)), .dat (.bool (p i))]) rfl
  cases hp : p i with
  | true =>
    rw [hp] at this
    rw [if_pos rfl]
    exact this
  | false =>
    rw [hp] at this
    rw [if_neg (by decide)]
    exact this
theorem tf_or {n : Nat} (hn : n ≤ 100) (k : Q (boolsOf n fun i => p i || q i) [x0, x1, x2, x3, x4, x5, x6, x7, x8, .un, .un]) :
    lcD (wgTup 2 (wgCons (wgName 10) (wgCons (wgName 9) wgNil))) wYes (wOrV (wVar 10) (wVar 9)) [10, 9] Q (zipD (boolsOf n p) (boolsOf n q)) [] [x0, x1, x2, x3, x4, x5, x6, x7, x8, .un, .un] := by
  rw [zip_bools]
  refine lc_mapT (enc := fun i => .tuple [.bool (p i), .bool (q i)]) (g := fun i => .bool (p i || q i)) (List.range n) [] (fun i _ QQ hQ => ?_) (by rw [List.length_range]; simp; omega) k
  refine And.intro rfl ?_
  show (if p i = true then QQ (.bool true) _ else QQ (.bool (q i)) _)
  have := hQ ([x0, x1, x2, x3, x4, x5, x6, x7, x8, .dat (.bool (q i)), .dat (.bool (p i))]) rfl
  cases hp : p i with
  | true =>
    rw [hp] at this
    rw [if_pos rfl]
    exact this
  | false =>
    rw [hp] at this
    rw [if_neg (by decide)]
    exact this
end
theorem unt_ever {near : Nat → Bool} : ∀ w : List Nat, untB (fun _ => true) near false w = w.any near
  | [] => rfl
  | k :: w => by
    rw [unt_cons, unt_ever w, List.any_cons, Bool.true_and]
theorem unt_always {near : Nat → Bool} : ∀ w : List Nat, untB near (fun _ => false) true w = w.all near
  | [] => rfl
  | k :: w => by
    rw [unt_cons, unt_always w, List.all_cons, Bool.false_or]
theorem w_tf {as : List Sl} {R : Rs → List Sl → Prop} (h : S_tf as R) : W_truths_formulaparts S_last (endsF as R) (startG N_truths_formulaparts as) := by
  obtain ⟨r, f, bs, ds, rfl, ok, wf, sok, hp, k1, k2⟩ := h
  have s1 : 1 ≤ sizeLine := by decide
  have a1 := ok.a
  have a2 := ok.t2
  have t1 := ok.t1
  have hr : r.n ≤ 100 := by rw [r.n_eq]; omega
  have hb : r.ahead.length < r.n := by rw [r.n_eq]; omega
  have ln : (r.sets.map strsT).length = r.n := List.length_map ..
  have lb : ∀ p : Nat → Bool, (boolsOf r.n p).length = r.n := fun p => len_bools
  show W_truths_formulaparts S_last (endsF [.dat (rowD (mkR f bs)), .dat (setsD r), .dat (.int (r.ahead.length : Nat)), .par ds] R) [.dat (rowD (mkR f bs)), .dat (setsD r), .dat (.int (r.ahead.length : Nat)), .par ds, .un, .un, .un, .un, .un, .un, .un]
  cases f with
  | tt =>
    refine ⟨_, at_0, eqD_word ok_true ok_true (ite_t rfl (And.intro rfl ?_))⟩
    refine lc_map (f := fun _ => .bool true) (r.sets.map strsT) [] (fun x _ QQ hQ => hQ _ rfl) (by rw [ln]; simp; omega) ?_
    rw [sets_const]
    exact k1
  | word w =>
    refine ⟨_, at_0, eqD_word ok_word ok_true (ite_f (fun z => by rw [ne_word_true] at z; exact z) (eqD_word ok_word ok_word (ite_t rfl (And.intro rfl ?_))))⟩
    refine lc_map (f := wordD w) (r.sets.map strsT) [] (fun x hx QQ hQ => ?_) (by rw [ln]; simp; omega) ?_
    · obtain ⟨t, _, rfl⟩ := List.mem_map.mp hx
      refine ⟨_, at_1, in_told ?_⟩
      have := hQ ([.dat (rowD (mkR (.word w) bs)), .dat (setsD r), .dat (.int (r.ahead.length : Nat)), .par ds, .dat (.str "word"), .un, .un, .un, .dat (strsT t), .un, .un]) rfl
      rw [← in_strs]
      exact this
    · rw [sets_word]
      exact k1
  | un h a =>
    obtain ⟨i, rfl, ha⟩ := hp
    obtain ⟨wh, wa⟩ := wf
    have oh : PyData.strOk h = true := by simp [Fm.sok] at sok; exact sok.1
    have n1 : ¬ h = "true" := by rcases wh with rfl | rfl | rfl | rfl <;> simp
    have n2 : ¬ h = "word" := by rcases wh with rfl | rfl | rfl | rfl <;> simp
    refine ⟨_, at_0, eqD_word oh ok_true (ite_f n1 (eqD_word oh ok_word (ite_f n2 ?_)))⟩
    refine And.intro rfl ⟨_, at_1, ⟨_, ha, eqD_word oh ok_not ?_⟩⟩
    by_cases h1 : h = "not"
    · subst h1
      refine ite_t rfl (And.intro rfl ?_)
      refine lc_map (f := notD) (boolsOf r.n (valB r a)) [] (fun x hx QQ hQ => ?_) (by rw [lb]; simp; omega) ?_
      · obtain ⟨b, rfl⟩ := mem_bools hx
        exact hQ _ rfl
      · rw [bools_not]
        have e : (valB r (.un "not" a)) = fun k => !valB r a k := by
          funext k
          rw [valB, if_pos rfl]
        rw [e] at k1
        exact k1
    refine ite_f h1 (eqD_word oh ok_next ?_)
    by_cases h2 : h = "next"
    · subst h2
      refine ite_t rfl ⟨_, at_bools hb, And.intro s1 (And.intro ?_ ?_)⟩
      · obtain ⟨m, hm⟩ : ∃ m, r.n = m + 1 := ⟨r.n - 1, by omega⟩
        rw [hm, cut_bools, len_bools, sizeLine_eq]
        show m + 1 ≤ _
        omega
      · rw [next_list ok]
        have e : (valB r (.un "next" a)) = fun k => valB r a (r.at' (k + 1)) := by
          funext k
          rw [valB, if_neg h1, if_pos rfl]
        rw [e] at k2
        exact k2
    refine ite_f h2 (eqD_word oh ok_ever ?_)
    by_cases h3 : h = "ever"
    · subst h3
      refine ite_t rfl (And.intro rfl ?_)
      refine lc_map (f := fun _ => .bool true) (r.sets.map strsT) [] (fun x _ QQ hQ => hQ _ rfl) (by rw [ln]; simp; omega) ?_
      rw [sets_const]
      refine And.intro List.nodup_nil ⟨r.n, r.ahead.length, fun _ => true, valB r a, false, rfl, hb, hr, ?_⟩
      have e : boolsOf r.n (lastB (fun _ => true) (valB r a) r.ahead.length false r.n) = boolsOf r.n (valB r (.un "ever" a)) := bools_congr fun i hi => by
        rw [last_walk ok i hi, unt_ever, val_goes h1 h2]
        show _ = goesB "ever" _ _ _
        rw [goesB, if_pos rfl]
      rw [e]
      exact k2
    refine ite_f h3 (eqD_word oh ok_always ?_)
    have h4 : h = "always" := by
      rcases wh with z | z | z | z
      · exact absurd z h1
      · exact absurd z h2
      · exact absurd z h3
      · exact z
    subst h4
    refine ite_t rfl (And.intro rfl ?_)
    refine lc_map (f := fun _ => .bool false) (r.sets.map strsT) [] (fun x _ QQ hQ => hQ _ rfl) (by rw [ln]; simp; omega) ?_
    rw [sets_const]
    refine And.intro List.nodup_nil ⟨r.n, r.ahead.length, valB r a, fun _ => false, true, rfl, hb, hr, ?_⟩
    have e : boolsOf r.n (lastB (valB r a) (fun _ => false) r.ahead.length true r.n) = boolsOf r.n (valB r (.un "always" a)) := bools_congr fun i hi => by
      rw [last_walk ok i hi, unt_always, val_goes h1 h2]
      show _ = goesB "always" _ _ _
      rw [goesB, if_neg h3, if_pos rfl]
    rw [e]
    exact k2
  | bin h a b =>
    obtain ⟨i, j, rfl, ha, hb2⟩ := hp
    obtain ⟨wh, wa, wb⟩ := wf
    have oh : PyData.strOk h = true := by simp [Fm.sok] at sok; exact sok.1
    have n1 : ¬ h = "true" := by rcases wh with rfl | rfl | rfl | rfl <;> simp
    have n2 : ¬ h = "word" := by rcases wh with rfl | rfl | rfl | rfl <;> simp
    have n3 : ¬ h = "not" := by rcases wh with rfl | rfl | rfl | rfl <;> simp
    have n4 : ¬ h = "next" := by rcases wh with rfl | rfl | rfl | rfl <;> simp
    have n5 : ¬ h = "ever" := by rcases wh with rfl | rfl | rfl | rfl <;> simp
    have n6 : ¬ h = "always" := by rcases wh with rfl | rfl | rfl | rfl <;> simp
    refine ⟨_, at_0, eqD_word oh ok_true (ite_f n1 (eqD_word oh ok_word (ite_f n2 ?_)))⟩
    refine And.intro rfl ⟨_, at_1, ⟨_, ha, eqD_word oh ok_not (ite_f n3 (eqD_word oh ok_next (ite_f n4 (eqD_word oh ok_ever (ite_f n5 (eqD_word oh ok_always (ite_f n6 ?_)))))))⟩⟩
    refine And.intro rfl ⟨_, at_2, ⟨_, hb2, eqD_word oh ok_and ?_⟩⟩
    by_cases h1 : h = "and"
    · subst h1
      refine ite_t rfl (And.intro rfl (tf_and hr ?_))
      have e : (valB r (.bin "and" a b)) = fun k => valB r a k && valB r b k := by
        funext k
        exact val_and
      rw [e] at k1
      exact k1
    refine ite_f h1 (eqD_word oh ok_or ?_)
    by_cases h2 : h = "or"
    · subst h2
      refine ite_t rfl (And.intro rfl (tf_or hr ?_))
      have e : (valB r (.bin "or" a b)) = fun k => valB r a k || valB r b k := by
        funext k
        exact val_or
      rw [e] at k1
      exact k1
    refine ite_f h2 (eqD_word oh ok_unless ?_)
    refine And.intro List.nodup_nil ⟨r.n, r.ahead.length, valB r a, valB r b, decide (h = "unless"), rfl, hb, hr, ?_⟩
    have e : boolsOf r.n (lastB (valB r a) (valB r b) r.ahead.length (decide (h = "unless")) r.n) = boolsOf r.n (valB r (.bin h a b)) := bools_congr fun i hi => by
      rw [last_walk ok i hi, val_goes2 h1 h2]
      show _ = goesB h _ _ _
      rw [goesB, if_neg n5, if_neg n6]
    rw [e]
    exact k2
end K28

namespace K28
open PySem PySem.Spec PyProof.Rows L2 DL
/-! ## truths of all rows -/
def S_to : PSp := fun as R => ∃ (rows : List DL.Row) (fs : List Fm) (r : Ring), as = [.dat (.list (rows.map rowD)), .dat (setsD r), .dat (.int (r.ahead.length : Nat))] ∧ Dec rows fs ∧ (∀ f ∈ fs, wfF f ∧ f.sok = true) ∧ rows.length ≤ 4000000 ∧ r.ok ∧ R (.new (fs.map fun g => .list (boolsOf r.n (valB r g)))) as
theorem pts_bools {r : Ring} {fs : List Fm} {i : Nat} : ∀ {f : Fm} {bs : List Int}, PtsN fs i f bs → PtsB r ((fs.take i).map fun g => .list (boolsOf r.n (valB r g))) f bs
  | .tt, _, h => h
  | .word _, _, h => h
  | .un _ a, _, ⟨j, e, l, g⟩ => ⟨_, e, atI_nat (by rw [List.getElem?_map, List.getElem?_take_of_lt l, g]; rfl)⟩
  | .bin _ a b, _, ⟨j, l, e, h1, h2, g1, g2⟩ => ⟨_, _, e, atI_nat (by rw [List.getElem?_map, List.getElem?_take_of_lt h1, g1]; rfl), atI_nat (by rw [List.getElem?_map, List.getElem?_take_of_lt h2, g2]; rfl)⟩
theorem to_loop {rows : List DL.Row} {fs : List Fm} {r : Ring} {D : EndsD} (d : Dec rows fs) (ft : ∀ f ∈ fs, wfF f ∧ f.sok = true) (hl : rows.length ≤ 4000000) (ok : r.ok) (x0 : Sl) (q : ∀ s4, D.nx [x0, .dat (setsD r), .dat (.int (r.ahead.length : Nat)), .own (fs.map fun g => .list (boolsOf r.n (valB r g))), s4]) : ∀ (n i : Nat) (s4 : Sl), rows.length = i + n →
    forW (wgName 4) (wApp 3 (wCall S_tf (wPCons (wD (wVar 4)) (wPCons (wD (wVar 1)) (wPCons (wD (wVar 2)) (wPCons (wO 3) wPNil)))))) D ((rows.drop i).map rowD)
      [x0, .dat (setsD r), .dat (.int (r.ahead.length : Nat)), .own ((fs.take i).map fun g => .list (boolsOf r.n (valB r g))), s4]
  | 0, i, s4, h => by
    have : rows.drop i = [] := List.drop_eq_nil_of_le (by omega)
    rw [this]
    have e : fs.take i = fs := List.take_of_length_le (by rw [d.len]; omega)
    rw [e]
    exact q s4
  | n + 1, i, s4, h => by
    have hi : i < rows.length := by omega
    have hf : i < fs.length := by rw [d.len]; exact hi
    have gf : fs[i]? = some fs[i] := List.getElem?_eq_getElem hf
    obtain ⟨bs, g1, g2⟩ := d.at' i _ gf
    have er : rows.drop i = mkR fs[i] bs :: rows.drop (i + 1) := by
      rw [List.drop_eq_getElem_cons hi]
      congr 1
      rw [List.getElem?_eq_getElem hi] at g1
      exact Option.some.inj g1
    rw [er]
    have F := ft _ (List.getElem_mem hf)
    have ih := to_loop d ft hl ok x0 q n (i + 1) (.dat (rowD (mkR fs[i] bs))) (by omega)
    rw [List.take_add_one, gf, List.map_append] at ih
    have lt : ((fs.take i).map fun g => PyData.list (boolsOf r.n (valB r g))).length < sizeLine := by
      rw [sizeLine_eq, List.length_map, List.length_take]
      omega
    refine And.intro rfl (And.intro rfl (And.intro (List.nodup_cons.mpr ⟨fun z => (by cases z), List.nodup_nil⟩) ⟨r, fs[i], bs, _, rfl, ok, F.1, F.2, pts_bools g2, And.intro lt ih, And.intro lt ih⟩))
theorem w_to {as : List Sl} {R : Rs → List Sl → Prop} (h : S_to as R) : W_truths_of S_tf (endsF as R) (startG N_truths_of as) := by
  obtain ⟨rows, fs, r, rfl, d, ft, hl, ok, k⟩ := h
  refine And.intro (Nat.zero_le _) ?_
  exact to_loop (D := { endsF [.dat (.list (rows.map rowD)), .dat (setsD r), .dat (.int (r.ahead.length : Nat))] R with nx := wRetO 3 (endsF [.dat (.list (rows.map rowD)), .dat (setsD r), .dat (.int (r.ahead.length : Nat))] R) }) d ft hl ok (.dat (.list (rows.map rowD))) (fun s4 => k) rows.length 0 .un (by omega)
/-! ## truths of a formula -/
def FP (f : Fm) : Prop := wfF f ∧ f.sok = true
theorem fp_kids : ∀ f, FP f → ∀ c ∈ f.kids, FP c := by
  intro f h c hc
  obtain ⟨wf, sok⟩ := h
  cases f with
  | tt => cases hc
  | word w => cases hc
  | un k a =>
    simp [Fm.kids] at hc
    subst hc
    simp [Fm.sok] at sok
    exact ⟨wf.2, sok.2⟩
  | bin k a b =>
    simp [Fm.sok] at sok
    simp [Fm.kids] at hc
    rcases hc with hc | hc
    · subst hc
      exact ⟨wf.2.1, sok.2.1⟩
    · subst hc
      exact ⟨wf.2.2, sok.2.2⟩
/-- a formula and a ring, tuples or lists -/
structure Told (d e : PyData) (f : Fm) (r : Ring) : Prop where
  fd : froz d = f.toD
  fe : froz e = r.toD
  wd : wgt d ≤ sizeLine
  we : wgt e ≤ sizeLine
  wf : wfF f
  sok : f.sok = true
  wt : f.wt ≤ 4000000
  ok : r.ok
def S_tr : PSp := fun as R => ∃ (d e : PyData) (f : Fm) (r : Ring), as = [.dat d, .dat e] ∧ Told d e f r ∧ R (.dat (.list (boolsOf r.n (valB r f)))) as
theorem w_tr {as : List Sl} {R : Rs → List Sl → Prop} (h : S_tr as R) : W_truths_formulas S_frozen S_to S_rows (endsF as R) (startG N_truths_formulas as) := by
  obtain ⟨d, e, f, r, rfl, T, k⟩ := h
  obtain ⟨fs, D, hP⟩ := rows_top (P := FP) fp_kids f ⟨T.wf, T.sok⟩
  have rl := rows_len f []
  have hw := T.wt
  have a1 := T.ok.a
  have a2 := T.ok.t2
  have es : r.ahead.map strsT ++ r.tail.map strsT = r.sets.map strsT := List.map_append.symm
  have ll : (r.ahead.map strsT).length + (r.tail.map strsT).length ≤ sizeLine := by
    rw [List.length_map, List.length_map, sizeLine_eq]
    omega
  refine And.intro List.nodup_nil ⟨e, rfl, T.we, ?_⟩
  rw [T.fe]
  refine And.intro rfl ?_
  refine And.intro List.nodup_nil ⟨d, f, rfl, T.fd, ok_of_wf T.wf, T.wt, T.wd, And.intro ll ?_⟩
  refine And.intro List.nodup_nil ⟨(rowsOf f []).1, fs ++ [f], r, ?_, D, hP, by simp at rl; omega, T.ok, ?_⟩
  · rw [es, List.length_map]
    rfl
  have el : atI ((fs ++ [f]).map fun g => PyData.list (boolsOf r.n (valB r g))) (-1) = some (.list (boolsOf r.n (valB r f))) := by
    rw [List.map_append]
    exact atI_last _ _
  exact ⟨_, el, k⟩
/-! ## places_true, is_true, true_at -/
theorem enum_map {g : Nat → PyData} : ∀ (n k : Nat), enumFrom k ((List.range' k n).map g) = (List.range' k n).map fun i : Nat => PyData.tuple [.int (i : Int), g i]
  | 0, k => rfl
  | n + 1, k => by
    rw [List.range'_succ, List.map_cons, List.map_cons]
    show PyData.tuple [.int (k : Int), g k] :: enumFrom (k + 1) ((List.range' (k + 1) n).map g) = _
    rw [enum_map n (k + 1)]
theorem enum_bools {n : Nat} {p : Nat → Bool} : enumFrom 0 (boolsOf n p) = (List.range n).map fun i : Nat => PyData.tuple [.int (i : Int), .bool (p i)] := by
  have := enum_map (g := fun i => .bool (p i)) n 0
  rw [← List.range_eq_range'] at this
  exact this
theorem en_loop {x0 x1 : Sl} {p : Nat → Bool} {Q : List PyData → Gam → Prop} : ∀ (w acc : List Nat), acc.length + w.length ≤ 2000 → Q (natsD (acc ++ w.filter p)) [x0, x1, .un, .un] →
    lcD (wgTup 2 (wgCons (wgName 2) (wgCons (wgName 3) wgNil))) (wB (wVar 3)) (wVar 2) [2, 3] Q (w.map fun i : Nat => PyData.tuple [.int (i : Int), .bool (p i)]) (natsD acc) [x0, x1, .un, .un]
  | [], acc, _, q => by
    rw [List.filter_nil, List.append_nil] at q
    exact q
  | k :: w, acc, hl, q => by
    simp only [List.length_cons] at hl
    refine And.intro rfl ?_
    by_cases h : p k = true
    · rw [List.filter_cons_of_pos h] at q
      refine (if_pos h).mpr (And.intro (by rw [sizeLine_eq]; unfold natsD; rw [List.length_map]; omega) ?_)
      have ih := en_loop (x0 := x0) (x1 := x1) (Q := Q) (p := p) w (acc ++ [k]) (by simp; omega) (by rw [List.append_assoc]; exact q)
      have e : natsD (acc ++ [k]) = natsD acc ++ [PyData.int (k : Int)] := by unfold natsD; rw [List.map_append]; rfl
      rw [e] at ih
      exact ih
    · rw [List.filter_cons_of_neg h] at q
      refine (if_neg h).mpr ?_
      exact en_loop w acc (by omega) q
def spots (n : Nat) (p : Nat → Bool) : PyData := .tuple (natsD ((List.range n).filter p))
def S_pt : PSp := fun as R => ∃ (d e : PyData) (f : Fm) (r : Ring), as = [.dat d, .dat e] ∧ Told d e f r ∧ R (.dat (spots r.n (valB r f))) as
theorem w_pt {as : List Sl} {R : Rs → List Sl → Prop} (h : S_pt as R) : W_places_true S_tr (endsF as R) (startG N_places_true as) := by
  obtain ⟨d, e, f, r, rfl, T, k⟩ := h
  have a1 := T.ok.a
  have a2 := T.ok.t2
  have hn := r.n_eq
  refine And.intro List.nodup_nil ⟨d, e, f, r, rfl, T, ?_⟩
  refine And.intro rfl ?_
  rw [enum_bools]
  exact en_loop (List.range r.n) [] (by rw [List.length_range]; simp; omega) k
def S_is : PSp := fun as R => ∃ (d e : PyData) (f : Fm) (r : Ring), as = [.dat d, .dat e] ∧ Told d e f r ∧ R (.dat (.bool (valB r f 0))) as
theorem w_is {as : List Sl} {R : Rs → List Sl → Prop} (h : S_is as R) : W_is_true S_tr (endsF as R) (startG N_is_true as) := by
  obtain ⟨d, e, f, r, rfl, T, k⟩ := h
  have t1 := T.ok.t1
  have hn := r.n_eq
  exact And.intro List.nodup_nil ⟨d, e, f, r, rfl, T, ⟨_, at_bools (k := 0) (by omega), k⟩⟩
def S_por (CE : Addr) : PSpX := fun as R RX => ∃ (r : Ring) (z : Int), as = [.dat (.tuple (r.ahead.map strsT)), .dat (.tuple (r.tail.map strsT)), .dat (.int z)] ∧ r.ok ∧ (0 ≤ z → R (.dat (.int (r.at' z.toNat : Nat))) as) ∧ (z < 0 → RX ⟨CE, [("number", .int z)]⟩ as)
theorem w_por {CE : Addr} {as : List Sl} {R : Rs → List Sl → Prop} {RX : Exn → List Sl → Prop} (h : S_por CE as R RX) : W_place_of_run CE (endsX as R RX) (startG N_place_of_run as) := by
  obtain ⟨r, z, rfl, ok, k, kx⟩ := h
  have ht := ok.t1
  have ht2 := ok.t2
  have la : (r.ahead.map strsT).length = r.ahead.length := List.length_map ..
  have lt : (r.tail.map strsT).length = r.tail.length := List.length_map ..
  by_cases hz : z < 0
  · exact (if_pos (c := decide (z < 0) = true) (decide_eq_true hz)).mpr (kx hz)
  refine (if_neg (c := decide (z < 0) = true) (by rw [decide_eq_true_iff]; exact hz)).mpr ?_
  obtain ⟨j, rfl⟩ : ∃ j : Nat, z = (j : Int) := ⟨z.toNat, by omega⟩
  have q := k (by omega)
  rw [Int.toNat_natCast] at q
  by_cases hlt : (j : Int) < ((r.ahead.map strsT).length : Int)
  · refine (if_pos (c := decide ((j : Int) < ((r.ahead.map strsT).length : Int)) = true) (decide_eq_true hlt)).mpr ?_
    have e : r.at' j = j := by unfold Ring.at'; rw [if_pos (by omega)]
    rw [e] at q
    exact q
  · refine (if_neg (c := decide ((j : Int) < ((r.ahead.map strsT).length : Int)) = true) (by rw [decide_eq_true_iff]; exact hlt)).mpr ?_
    have e : r.at' j = r.ahead.length + (j - r.ahead.length) % r.tail.length := by unfold Ring.at'; rw [if_neg (by omega)]
    have e2 : ((r.ahead.map strsT).length : Int) + ((j : Int) - ((r.ahead.map strsT).length : Int)).fmod ((r.tail.map strsT).length : Int) = ((r.at' j : Nat) : Int) := by
      rw [la, lt, e, Int.fmod_eq_emod_of_nonneg _ (by omega)]
      have : ((j : Int) - (r.ahead.length : Int)) = ((j - r.ahead.length : Nat) : Int) := by omega
      rw [this]
      push_cast
      rfl
    rw [← e2] at q
    exact And.intro trivial (And.intro (by rw [lt]; omega) q)
def S_ta (CE : Addr) : PSpX := fun as R RX => ∃ (d e : PyData) (f : Fm) (r : Ring) (z : Int), as = [.dat d, .dat e, .dat (.int z)] ∧ Told d e f r ∧ (0 ≤ z → R (.dat (.bool (valB r f (r.at' z.toNat)))) as) ∧ (z < 0 → RX ⟨CE, [("number", .int z)]⟩ as)
theorem w_ta {CE : Addr} {as : List Sl} {R : Rs → List Sl → Prop} {RX : Exn → List Sl → Prop} (h : S_ta CE as R RX) : W_true_at S_frozen (S_por CE) S_tr (endsX as R RX) (startG N_true_at as) := by
  obtain ⟨d, e, f, r, z, rfl, T, k, kx⟩ := h
  refine And.intro List.nodup_nil ⟨e, rfl, T.we, ?_⟩
  rw [T.fe]
  refine And.intro rfl ?_
  refine And.intro List.nodup_nil ⟨r, z, rfl, T.ok, fun hz => ?_, kx⟩
  have hl : r.at' z.toNat < r.n := Ring.at_lt T.ok z.toNat
  exact And.intro List.nodup_nil ⟨d, e, f, r, rfl, T, ⟨_, at_bools hl, k hz⟩⟩
/-! ## the law's heard, spots -/
def S_heard (CE : Addr) : PSp := fun as R => ∃ (d e : PyData) (f : Fm) (r : Ring) (z : Int), as = [.dat d, .dat e, .dat (.int z)] ∧ Told d e f r ∧ z < 0 ∧ R (.dat (.list [.str "number", .int z, .bool true])) as
theorem w_heard {CE : Addr} {as : List Sl} {R : Rs → List Sl → Prop} (h : S_heard CE as R) : W__law_heard CE (S_ta CE) (endsF as R) (startG N__law_heard as) := by
  obtain ⟨d, e, f, r, z, rfl, T, hz, k⟩ := h
  have s2 : 2 ≤ sizeLine := by decide
  refine And.intro s2 (And.intro rfl ?_)
  refine And.intro List.nodup_nil ⟨d, e, f, r, z, rfl, T, fun h0 => absurd hz (by omega), fun _ => ?_⟩
  refine And.intro rfl (And.intro (show 5 < 6 by decide) ⟨[.str "number", .int z, .bool true], rfl, show 3 ≤ sizeLine by decide, ?_⟩)
  exact And.intro rfl ((if_neg (c := false = true) Bool.false_ne_true).mpr k)
def S_spots : PSp := fun as R => ∃ (f : Fm) (r : Ring), as = [.dat f.toD, .dat r.toD] ∧ r.ok ∧ wfF f ∧ f.sok = true ∧ f.ht ≤ 25 ∧ R (.dat (spots r.n (valB r f))) as
theorem w_spots {as : List Sl} {R : Rs → List Sl → Prop} (h : S_spots as R) : W__law_spots (S_rw 25) (endsF as R) (startG N__law_spots as) := by
  obtain ⟨f, r, rfl, ok, wf, sok, ht, k⟩ := h
  have a1 := ok.a
  have a2 := ok.t2
  have hn := r.n_eq
  refine And.intro List.nodup_nil ⟨f, r, rfl, ok, wf, sok, ht, ?_⟩
  refine And.intro rfl ?_
  rw [enum_bools]
  exact en_loop (List.range r.n) [] (by rw [List.length_range]; simp; omega) k
end K28

namespace K28
open PySem PySem.Spec PyProof.Rows L2 DL
/-! ## a formula and a ring as they are handed in -/
theorem frozAll_strs : ∀ ts : List (List Str), frozAll (ts.map strsT) = ts.map strsT
  | [] => by simp [frozAll]
  | t :: ts => by simp [frozAll, froz_strs, frozAll_strs ts]
theorem froz_ring (r : Ring) : froz r.toD = r.toD := by
  unfold Ring.toD
  simp [froz, frozAll, frozAll_strs]
theorem wgtAll_strsT {m : Nat} : ∀ ts : List (List Str), (∀ t ∈ ts, t.length ≤ m) → wgtAll (ts.map strsT) ≤ (m + 2) * ts.length
  | [], _ => by simp [wgtAll]
  | t :: ts, h => by
    have ih := wgtAll_strsT ts fun x hx => h x (by simp [hx])
    have h1 := h t (by simp)
    simp only [List.map_cons, wgtAll, wgt_strs, List.length_cons, Nat.mul_add, Nat.mul_one]
    omega
structure Ring.fine (r : Ring) : Prop where
  ok : r.ok
  sets : ∀ t ∈ r.sets, t.length ≤ 10
theorem wgt_ring {r : Ring} (h : r.fine) : wgt r.toD ≤ sizeLine := by
  have a1 := h.ok.a
  have a2 := h.ok.t2
  have h1 := wgtAll_strsT (m := 10) r.ahead fun t ht => h.sets t (List.mem_append_left _ ht)
  have h2 := wgtAll_strsT (m := 10) r.tail fun t ht => h.sets t (List.mem_append_right _ ht)
  have e : wgt r.toD = 2 + ((2 + wgtAll (r.ahead.map strsT)) + ((2 + wgtAll (r.tail.map strsT)) + 0)) := by
    unfold Ring.toD
    simp [wgt, wgtAll]
  rw [e, sizeLine_eq]
  omega
theorem wgt_fm {f : Fm} (h : f.wt ≤ 4000000) : wgt f.toD ≤ sizeLine := by
  have := wgt_toD f
  rw [sizeLine_eq]
  omega
theorem told_of {f : Fm} {r : Ring} (wf : wfF f) (sok : f.sok = true) (wt : f.wt ≤ 4000000) (h : r.fine) : Told f.toD r.toD f r :=
  ⟨froz_toD f, froz_ring r, wgt_fm wt, wgt_ring h, wf, sok, wt, h.ok⟩
theorem told_thaw {f : Fm} {r : Ring} (wf : wfF f) (sok : f.sok = true) (wt : f.wt ≤ 4000000) (h : r.fine) : Told (thaw f.toD) (thaw r.toD) f r :=
  ⟨by rw [froz_thaw, froz_toD], by rw [froz_thaw, froz_ring], by rw [wgt_thaw]; exact wgt_fm wt, by rw [wgt_thaw]; exact wgt_ring h, wf, sok, wt, h.ok⟩
def chk (f : Fm) : Bool := wfB f && (f.sok && (decide (f.wt ≤ 4000000) && decide (f.ht ≤ 25)))
theorem told_chk {f : Fm} {r : Ring} (h : chk f = true) (hr : r.fine) : Told f.toD r.toD f r := by
  simp [chk] at h
  exact told_of (wf_of h.1) h.2.1 h.2.2.1 hr
/-! ## by hand -/
def wA : Str := "a"
def wB_ : Str := "b"
def fA : Fm := .word wA
def fB : Fm := .word wB_
def fC : Fm := .word "c"
def fNot (f : Fm) : Fm := .un "not" f
def fEver (f : Fm) : Fm := .un "ever" f
def fAlw (f : Fm) : Fm := .un "always" f
def fNext (f : Fm) : Fm := .un "next" f
def fAnd (f g : Fm) : Fm := .bin "and" f g
def fOr (f g : Fm) : Fm := .bin "or" f g
def fUnt (f g : Fm) : Fm := .bin "until" f g
def fUnl (f g : Fm) : Fm := .bin "unless" f g
def rN : Ring := ⟨[[wA]], [[wB_], []]⟩
def rF : Ring := ⟨[], [[wA, wB_], [wA], []]⟩
def rL : Ring := ⟨[], [[]]⟩
def rG : Ring := ⟨[[wA], [wA], []], [[wB_]]⟩
def fineB (r : Ring) : Bool := decide (r.ahead.length ≤ 20) && (decide (1 ≤ r.tail.length) && (decide (r.tail.length ≤ 20) && r.sets.all fun t => decide (t.length ≤ 10)))
theorem fine_of {r : Ring} (h : fineB r = true) : r.fine := by
  simp [fineB] at h
  exact ⟨⟨h.1, h.2.1, h.2.2.1⟩, h.2.2.2⟩
theorem okN : rN.fine := fine_of (by decide +kernel)
theorem okF : rF.fine := fine_of (by decide +kernel)
theorem okL : rL.fine := fine_of (by decide +kernel)
theorem okG : rG.fine := fine_of (by decide +kernel)
def kitD : PyData := .tuple [fA.toD, fB.toD, rN.toD, rF.toD]
def S_kit : PSp := fun as R => as = [] ∧ R (.dat kitD) []
theorem w_kit {as : List Sl} {R : Rs → List Sl → Prop} (h : S_kit as R) : W__law_kit (endsF as R) (startG N__law_kit as) := by
  obtain ⟨rfl, k⟩ := h
  show W__law_kit (endsF [] R) []
  unfold W__law_kit
  repeat refine And.intro (by decide) ?_
  exact k
def lot1 : List Fm := [.tt, fA, fB, fNot fA, fAnd fA fB, fOr fA fB, fNext fB, fNext fA, fUnt fA fB, fUnt .tt fB, fEver fA, fAlw (fOr fA fB), fAlw (fEver fB), fEver (fAlw (fNot fA)), fUnl fA fB,
  fUnl (fNot fA) fA, fUnt (fNot fA) fA, fNot (fUnt fA fB), fNext (fNext fB), fUnt (fNot fB) fB, fC, fAlw fC]
def lot2 : List Fm := [fAnd fA fB, fAlw fA, fEver (fNot fA), fUnt fA (fNot fA), fNext (fUnt fB fA), fUnl fB (fNot fA), fUnt fB fA, fAlw (fEver (fAnd fA fB))]
def lot3 : List Fm := [fAlw (fNot fA), fUnt fA fB, fUnl fA fB, fNext .tt, fEver fA]
def due1 : List (List Nat) := [[0, 1, 2], [0], [1], [1, 2], [], [0, 1], [0, 2], [], [0, 1], [0, 1, 2], [0], [], [0, 1, 2], [0, 1, 2], [0, 1], [0, 1, 2], [0], [2], [1], [0, 1, 2], [], []]
def due2 : List (List Nat) := [[0], [], [0, 1, 2], [0, 1, 2], [0, 2], [2], [0, 1], [0, 1, 2]]
def due3 : List (List Nat) := [[2, 3], [3], [3], [0, 1, 2, 3], [0, 1]]
def spotsL (r : Ring) (f : Fm) : List Nat := (List.range r.n).filter (valB r f)
theorem eq1 : lot1.map (spotsL rN) = due1 := by decide +kernel
theorem eq1b : lot1.map (fun f => valB rN f 0) = due1.map fun w => decide (w.take 1 = [0]) := by decide +kernel
theorem eq2 : lot2.map (spotsL rF) = due2 := by decide +kernel
theorem eq3 : lot3.map (fun f => valB rL f 0) = [true, false, false, true, false] := by decide +kernel
theorem eq3b : lot3.map (spotsL rG) = due3 := by decide +kernel
theorem eq4 : [0, 1, 2, 3, 4, 5].map (fun k => valB rN fB (rN.at' k)) = [false, true, false, true, false, true] := by decide +kernel
theorem eq5 : [0, 1].map (fun k => valB rN fB (rN.at' (10 ^ 30 + k))) = [false, true] := by decide +kernel
theorem chk1 : lot1.all chk = true := by decide +kernel
theorem chk2 : lot2.all chk = true := by decide +kernel
theorem chk3 : lot3.all chk = true := by decide +kernel
def tupN (w : List Nat) : PyData := .tuple (natsD w)
theorem map_spots {r : Ring} {fs : List Fm} {ls : List (List Nat)} (h : fs.map (spotsL r) = ls) : fs.map (fun f => spots r.n (valB r f)) = ls.map tupN := by
  rw [← h, List.map_map]
  rfl
theorem map_bool {α : Type} {g : α → Bool} {xs : List α} {bs : List Bool} (h : xs.map g = bs) : xs.map (fun x => PyData.bool (g x)) = bs.map PyData.bool := by
  rw [← h, List.map_map]
  rfl
section
variable {r : Ring} {fs : List Fm} {x0 x1 x2 x3 x4 x5 x6 x7 x8 x9 x10 x11 : Sl} {Q : List PyData → Gam → Prop}
theorem pts_2 (hc : fs.all chk = true) (hr : r.fine) (hl : fs.length ≤ 1000) {ls : List (List Nat)} (e : fs.map (spotsL r) = ls) (q : Q (ls.map tupN) [x0, x1, .dat r.toD, x3, x4, x5, x6, x7, x8, x9, .un, x11]) :
    lcD (wgName 10) wYes (wCall S_pt (wPCons (wD (wVar 10)) (wPCons (wD (wVar 2)) wPNil))) [10] Q (fs.map Fm.toD) [] [x0, x1, .dat r.toD, x3, x4, x5, x6, x7, x8, x9, .un, x11] := by
  refine lc_mapT (enc := Fm.toD) (g := fun f => spots r.n (valB r f)) fs [] (fun f hf QQ hQ => ?_) (by simp; omega) ?_
  · exact And.intro List.nodup_nil ⟨f.toD, r.toD, f, r, rfl, told_chk (List.all_eq_true.mp hc f hf) hr, hQ _ rfl⟩
  · rw [List.nil_append, map_spots e]
    exact q
theorem pts_3 (hc : fs.all chk = true) (hr : r.fine) (hl : fs.length ≤ 1000) {ls : List (List Nat)} (e : fs.map (spotsL r) = ls) (q : Q (ls.map tupN) [x0, x1, x2, .dat r.toD, x4, x5, x6, x7, x8, x9, .un, x11]) :
    lcD (wgName 10) wYes (wCall S_pt (wPCons (wD (wVar 10)) (wPCons (wD (wVar 3)) wPNil))) [10] Q (fs.map Fm.toD) [] [x0, x1, x2, .dat r.toD, x4, x5, x6, x7, x8, x9, .un, x11] := by
  refine lc_mapT (enc := Fm.toD) (g := fun f => spots r.n (valB r f)) fs [] (fun f hf QQ hQ => ?_) (by simp; omega) ?_
  · exact And.intro List.nodup_nil ⟨f.toD, r.toD, f, r, rfl, told_chk (List.all_eq_true.mp hc f hf) hr, hQ _ rfl⟩
  · rw [List.nil_append, map_spots e]
    exact q
theorem pts_8 (hc : fs.all chk = true) (hr : r.fine) (hl : fs.length ≤ 1000) {ls : List (List Nat)} (e : fs.map (spotsL r) = ls) (q : Q (ls.map tupN) [x0, x1, x2, x3, x4, x5, x6, x7, .dat r.toD, x9, .un, x11]) :
    lcD (wgName 10) wYes (wCall S_pt (wPCons (wD (wVar 10)) (wPCons (wD (wVar 8)) wPNil))) [10] Q (fs.map Fm.toD) [] [x0, x1, x2, x3, x4, x5, x6, x7, .dat r.toD, x9, .un, x11] := by
  refine lc_mapT (enc := Fm.toD) (g := fun f => spots r.n (valB r f)) fs [] (fun f hf QQ hQ => ?_) (by simp; omega) ?_
  · exact And.intro List.nodup_nil ⟨f.toD, r.toD, f, r, rfl, told_chk (List.all_eq_true.mp hc f hf) hr, hQ _ rfl⟩
  · rw [List.nil_append, map_spots e]
    exact q
theorem is_2 (hc : fs.all chk = true) (hr : r.fine) (hl : fs.length ≤ 1000) {bs : List Bool} (e : fs.map (fun f => valB r f 0) = bs) (q : Q (bs.map PyData.bool) [x0, x1, .dat r.toD, x3, x4, x5, x6, x7, x8, x9, .un, x11]) :
    lcD (wgName 10) wYes (wCall S_is (wPCons (wD (wVar 10)) (wPCons (wD (wVar 2)) wPNil))) [10] Q (fs.map Fm.toD) [] [x0, x1, .dat r.toD, x3, x4, x5, x6, x7, x8, x9, .un, x11] := by
  refine lc_mapT (enc := Fm.toD) (g := fun f => .bool (valB r f 0)) fs [] (fun f hf QQ hQ => ?_) (by simp; omega) ?_
  · exact And.intro List.nodup_nil ⟨f.toD, r.toD, f, r, rfl, told_chk (List.all_eq_true.mp hc f hf) hr, hQ _ rfl⟩
  · rw [List.nil_append, map_bool e]
    exact q
theorem is_7 (hc : fs.all chk = true) (hr : r.fine) (hl : fs.length ≤ 1000) {bs : List Bool} (e : fs.map (fun f => valB r f 0) = bs) (q : Q (bs.map PyData.bool) [x0, x1, x2, x3, x4, x5, x6, .dat r.toD, x8, x9, .un, x11]) :
    lcD (wgName 10) wYes (wCall S_is (wPCons (wD (wVar 10)) (wPCons (wD (wVar 7)) wPNil))) [10] Q (fs.map Fm.toD) [] [x0, x1, x2, x3, x4, x5, x6, .dat r.toD, x8, x9, .un, x11] := by
  refine lc_mapT (enc := Fm.toD) (g := fun f => .bool (valB r f 0)) fs [] (fun f hf QQ hQ => ?_) (by simp; omega) ?_
  · exact And.intro List.nodup_nil ⟨f.toD, r.toD, f, r, rfl, told_chk (List.all_eq_true.mp hc f hf) hr, hQ _ rfl⟩
  · rw [List.nil_append, map_bool e]
    exact q
theorem told_B : Told fB.toD rN.toD fB rN := told_chk (by decide +kernel) okN
theorem ta_six {CE : Addr} (ks : List Nat) (hl : ks.length ≤ 1000) {bs : List Bool} (e : ks.map (fun k => valB rN fB (rN.at' k)) = bs) (q : Q (bs.map PyData.bool) [x0, .dat fB.toD, .dat rN.toD, x3, x4, x5, x6, x7, x8, x9, x10, .un]) :
    lcD (wgName 11) wYes (wCall (noX (S_ta CE)) (wPCons (wD (wVar 1)) (wPCons (wD (wVar 2)) (wPCons (wD (wVar 11)) wPNil)))) [11] Q (ks.map fun k : Nat => PyData.int (k : Int)) [] [x0, .dat fB.toD, .dat rN.toD, x3, x4, x5, x6, x7, x8, x9, x10, .un] := by
  refine lc_mapT (enc := fun k : Nat => PyData.int (k : Int)) (g := fun k => .bool (valB rN fB (rN.at' k))) ks [] (fun k hk QQ hQ => ?_) (by simp; omega) ?_
  · exact And.intro List.nodup_nil ⟨fB.toD, rN.toD, fB, rN, (k : Int), rfl, told_B, fun _ => hQ _ rfl, fun hz => absurd hz (by omega)⟩
  · rw [List.nil_append, map_bool e]
    exact q
theorem p30 : (10 : Int) ^ (30 : Int).toNat = ((10 ^ 30 : Nat) : Int) := by decide +kernel
theorem cp30 : L2.CPow 10 30 := ⟨by omega, by omega, by decide⟩
theorem cp9 : L2.CPow 10 9 := ⟨by omega, by omega, by decide⟩
theorem ta_big {CE : Addr} (ks : List Nat) (hl : ks.length ≤ 1000) {bs : List Bool} (e : ks.map (fun k => valB rN fB (rN.at' (10 ^ 30 + k))) = bs) (q : Q (bs.map PyData.bool) [x0, .dat fB.toD, .dat rN.toD, x3, x4, x5, x6, x7, x8, x9, x10, .un]) :
    lcD (wgName 11) wYes (wCall (noX (S_ta CE)) (wPCons (wD (wVar 1)) (wPCons (wD (wVar 2)) (wPCons (wD (wOp addD (wOp powD (wC (.int 10)) (wC (.int 30))) (wVar 11))) wPNil)))) [11] Q (ks.map fun k : Nat => PyData.int (k : Int)) [] [x0, .dat fB.toD, .dat rN.toD, x3, x4, x5, x6, x7, x8, x9, x10, .un] := by
  refine lc_mapT (enc := fun k : Nat => PyData.int (k : Int)) (g := fun k => .bool (valB rN fB (rN.at' (10 ^ 30 + k)))) ks [] (fun k hk QQ hQ => ?_) (by simp; omega) ?_
  · refine And.intro cp30 (And.intro List.nodup_nil ⟨fB.toD, rN.toD, fB, rN, (10 : Int) ^ (30 : Int).toNat + (k : Int), rfl, told_B, fun _ => ?_, fun hz => ?_⟩)
    · have ez : ((10 : Int) ^ (30 : Int).toNat + (k : Int)).toNat = 10 ^ 30 + k := by
        rw [p30]
        omega
      rw [ez]
      exact hQ _ rfl
    · rw [p30] at hz
      exact absurd hz (by omega)
  · rw [List.nil_append, map_bool e]
    exact q
theorem heard_neg {CE : Addr} (zs : List Int) (hz : ∀ z ∈ zs, z < 0) (hl : zs.length ≤ 1000) (q : Q (zs.map fun z => .list [.str "number", .int z, .bool true]) [x0, .dat fB.toD, .dat rN.toD, x3, x4, x5, x6, x7, x8, x9, .un, x11]) :
    lcD (wgName 10) wYes (wCall (S_heard CE) (wPCons (wD (wVar 1)) (wPCons (wD (wVar 2)) (wPCons (wD (wVar 10)) wPNil)))) [10] Q (zs.map PyData.int) [] [x0, .dat fB.toD, .dat rN.toD, x3, x4, x5, x6, x7, x8, x9, .un, x11] := by
  refine lc_mapT (enc := PyData.int) (g := fun z => .list [.str "number", .int z, .bool true]) zs [] (fun z hm QQ hQ => ?_) (by simp; omega) ?_
  · exact And.intro List.nodup_nil ⟨fB.toD, rN.toD, fB, rN, z, rfl, told_B, hz z hm, hQ _ rfl⟩
  · rw [List.nil_append]
    exact q
theorem eq_take {w : List Nat} {k : PyData → Prop} (q : k (.bool (decide (w.take 1 = [0])))) : eqD (.tuple (DL.cutD (natsD w) none (some 1))) (.tuple [.int 0]) k := by
  have e : DL.cutD (natsD w) none (some 1) = natsD (w.take 1) := by
    unfold DL.cutD
    rw [show HT.sIx (natsD w).length (natsD w).length (some 1) = min 1 (natsD w).length from HT.sIx_nat _ _ 1, HT.sIx_none]
    unfold natsD
    cases w <;> simp
  rw [e]
  unfold eqD
  cases w with
  | nil =>
    refine ⟨by decide +kernel, by decide +kernel, ?_⟩
    have : PyData.eqv (.tuple (natsD (List.take 1 []))) (.tuple [.int 0]) = decide (List.take 1 ([] : List Nat) = [0]) := by decide +kernel
    rw [this]
    exact q
  | cons a w =>
    refine ⟨by simp [natsD, SeqAt.shaped, PyData.canLay0, PyData.canLayAll0, PyData.depth, PyData.depthAll], by decide +kernel, ?_⟩
    have : PyData.eqv (.tuple (natsD (List.take 1 (a :: w)))) (.tuple [.int 0]) = decide (List.take 1 (a :: w) = [0]) := by
      simp [natsD, eqv_tup, eqvAll_cons, eqvAll_nil, PyData.eqv]
      rw [eq_comm]
      by_cases h : a = 0
      · subst h; rfl
      · simp [h]
    rw [this]
    exact q
theorem due_take (ws : List (List Nat)) (hl : ws.length ≤ 1000) (q : Q ((ws.map fun w => decide (w.take 1 = [0])).map PyData.bool) [x0, x1, x2, x3, x4, x5, x6, x7, x8, x9, .un, x11]) :
    lcD (wgName 10) wYes (wOp eqD (wSl (wVar 10) wNone (wSome (wC (.int 1)))) (wTup (wCons (wC (.int 0)) wNil))) [10] Q (ws.map tupN) [] [x0, x1, x2, x3, x4, x5, x6, x7, x8, x9, .un, x11] := by
  refine lc_mapT (enc := tupN) (g := fun w => .bool (decide (w.take 1 = [0]))) ws [] (fun w _ QQ hQ => ?_) (by simp; omega) ?_
  · exact And.intro (show 1 ≤ sizeLine by decide) (eq_take (hQ _ rfl))
  · rw [List.nil_append, map_bool rfl]
    exact q
end
end K28

namespace K28
open PySem PySem.Spec PyProof.Rows L2 DL
/-! ## by hand: all of it -/
def fWait : Fm := .bin "until" fA fB
def softD : PyData := .list [thaw fWait.toD, thaw rN.toD]
def m9 : Int := -((10 : Int) ^ (9 : Int).toNat)
def heardD (z : Int) : PyData := .list [.str "number", .int z, .bool true]
def bs1 : List Bool := due1.map fun w => decide (w.take 1 = [0])
def handEnd : PyData := .list [.list (due1.map tupN), .list (bs1.map PyData.bool), .list (due2.map tupN), .list ([false, true, false, true, false, true].map PyData.bool), .list ([false, true].map PyData.bool),
  .list ([true, false, false, true, false].map PyData.bool), .list (due3.map tupN), .list ([-1, m9].map heardD), tupN [0, 1], .bool true, .bool false, softD]
def S_hand (n : Nat) : PSp := fun as R => as = [] ∧ okD n handEnd = true ∧ R (.dat (.bool true)) []
theorem es1 : spots rN.n (valB rN fWait) = tupN [0, 1] := congrArg tupN (by decide +kernel : spotsL rN fWait = [0, 1])
theorem es2 : valB rN fWait 0 = true := by decide +kernel
theorem es3 : valB rN fWait (rN.at' (2 : Int).toNat) = false := by decide +kernel
theorem told_W : Told (thaw fWait.toD) (thaw rN.toD) fWait rN := told_thaw (wf_of (by decide +kernel)) (by decide +kernel) (by decide +kernel) okN
theorem neg2 : ∀ z ∈ ([-1, m9] : List Int), z < 0 := by decide +kernel
theorem w_hand {CE : Addr} {n : Nat} {as : List Sl} {R : Rs → List Sl → Prop} (h : S_hand n as R) : W__law_by_hand_right S_kit S_is S_pt (S_ta CE) (S_heard CE) (S_same n) (endsF as R) (startG N__law_by_hand_right as) := by
  obtain ⟨rfl, okE, k⟩ := h
  show W__law_by_hand_right S_kit S_is S_pt (S_ta CE) (S_heard CE) (S_same n) (endsF [] R) [.un, .un, .un, .un, .un, .un, .un, .un, .un, .un, .un, .un]
  unfold W__law_by_hand_right
  refine And.intro List.nodup_nil ⟨rfl, ?_⟩
  iterate 42 refine And.intro (by decide) ?_
  refine pts_2 (fs := lot1) (r := rN) chk1 okN (by decide) eq1 ?_
  refine And.intro (by decide) ?_
  refine is_2 (fs := lot1) (r := rN) chk1 okN (by decide) eq1b ?_
  iterate 33 refine And.intro (by decide) ?_
  refine due_take due1 (by decide) ?_
  iterate 20 refine And.intro (by decide) ?_
  refine pts_3 (fs := lot2) (r := rF) chk2 okF (by decide) eq2 ?_
  iterate 16 refine And.intro (by decide) ?_
  refine ta_six [0, 1, 2, 3, 4, 5] (by decide) eq4 ?_
  iterate 2 refine And.intro (by decide) ?_
  refine ta_big [0, 1] (by decide) eq5 ?_
  iterate 30 refine And.intro (by decide) ?_
  refine is_7 (fs := lot3) (r := rL) chk3 okL (by decide) eq3 ?_
  refine And.intro (by decide) ?_
  refine pts_8 (fs := lot3) (r := rG) chk3 okG (by decide) eq3b ?_
  iterate 13 refine And.intro (by decide) ?_
  refine And.intro cp9 ?_
  iterate 2 refine And.intro (by decide) ?_
  refine heard_neg [-1, m9] neg2 (by decide) ?_
  iterate 3 refine And.intro (by decide) ?_
  refine And.intro cp9 ?_
  iterate 3 refine And.intro (by decide) ?_
  iterate 11 refine And.intro (by decide) ?_
  refine ⟨_, at_1, ⟨_, at_0, And.intro rfl (And.intro rfl (And.intro List.nodup_nil ⟨thaw fWait.toD, thaw rN.toD, fWait, rN, rfl, told_W, ?_⟩))⟩⟩
  rw [es1]
  refine ⟨_, at_1, ⟨_, at_0, And.intro rfl (And.intro rfl (And.intro List.nodup_nil ⟨thaw fWait.toD, thaw rN.toD, fWait, rN, rfl, told_W, ?_⟩))⟩⟩
  rw [es2]
  iterate 3 refine And.intro (by decide) ?_
  refine ⟨_, at_1, ⟨_, at_0, And.intro rfl (And.intro rfl (And.intro List.nodup_nil ⟨thaw fWait.toD, thaw rN.toD, fWait, rN, 2, rfl, told_W, fun _ => ?_, fun hz => absurd hz (by decide)⟩))⟩⟩
  rw [es3]
  iterate 16 refine And.intro (by decide) ?_
  exact And.intro List.nodup_nil ⟨handEnd, okE, rfl, k⟩
end K28

namespace K28
open PySem PySem.Spec PyProof.Rows L2 DL
/-! ## the law's turn -/
theorem ok_fm : ∀ {f : Fm} {n : Nat}, f.sok = true → f.ht ≤ n → okD n f.toD = true
  | .tt, n, _, hn => by
    obtain ⟨m, rfl⟩ : ∃ m, n = m + 1 := ⟨n - 1, by have : 1 ≤ n := hn; omega⟩
    have o := ok_true
    cases m <;> simp [Fm.toD, okD, o]
  | .word w, n, hs, hn => by
    obtain ⟨m, rfl⟩ : ∃ m, n = m + 1 := ⟨n - 1, by have : 1 ≤ n := hn; omega⟩
    have o := ok_word
    simp [Fm.sok] at hs
    cases m <;> simp [Fm.toD, okD, o, hs]
  | .un h a, n, hs, hn => by
    have hn' : 1 + a.ht ≤ n := hn
    obtain ⟨m, rfl⟩ : ∃ m, n = m + 1 := ⟨n - 1, by omega⟩
    simp [Fm.sok] at hs
    have ih := ok_fm (n := m) hs.2 (by omega)
    have : okD m (.str h) = true := by cases m <;> simp [okD, hs.1]
    simp [Fm.toD, okD, this, ih]
  | .bin h a b, n, hs, hn => by
    have hn' : 1 + max a.ht b.ht ≤ n := hn
    obtain ⟨m, rfl⟩ : ∃ m, n = m + 1 := ⟨n - 1, by omega⟩
    simp [Fm.sok] at hs
    have iha := ok_fm (n := m) hs.2.1 (by omega)
    have ihb := ok_fm (n := m) hs.2.2 (by omega)
    have : okD m (.str h) = true := by cases m <;> simp [okD, hs.1]
    simp [Fm.toD, okD, this, iha, ihb]
theorem sok_of {ws : List Str} (hw : ∀ w ∈ ws, PyData.strOk w = true) : ∀ {f : Fm}, wfF f → wordsIn ws f → f.sok = true
  | .tt, _, _ => rfl
  | .word w, _, h => hw w h
  | .un h a, z, g => by
    have := sok_of hw z.2 g
    have o : PyData.strOk h = true := by rcases z.1 with rfl | rfl | rfl | rfl <;> simp
    simp [Fm.sok, o, this]
  | .bin h a b, z, g => by
    have ia := sok_of hw z.2.1 g.1
    have ib := sok_of hw z.2.2 g.2
    have o : PyData.strOk h = true := by rcases z.1 with rfl | rfl | rfl | rfl <;> simp
    simp [Fm.sok, o, ia, ib]
theorem ok_p : ∀ w ∈ (["p", "q"] : List Str), PyData.strOk w = true := by decide +kernel
theorem ok_nats {n : Nat} : ∀ w : List Nat, (natsD w).all (okD n) = true
  | [] => rfl
  | k :: w => by
    have e : okD n (.int (k : Int)) = true := by cases n <;> rfl
    show (okD n (.int (k : Int)) && (natsD w).all (okD n)) = true
    rw [e, ok_nats w]
    rfl
theorem ok_spots {n m : Nat} {p : Nat → Bool} (h : m ≤ 1000) : okD (n + 1) (spots m p) = true := by
  have hl : ((List.range m).filter p).length ≤ m := Nat.le_trans (List.length_filter_le _ _) (Nat.le_of_eq List.length_range)
  show (decide ((natsD ((List.range m).filter p)).length ≤ 100000) && (natsD ((List.range m).filter p)).all (okD n)) = true
  rw [ok_nats, Bool.and_true, decide_eq_true_iff]
  unfold natsD
  rw [List.length_map]
  omega
theorem ok_strs {n : Nat} : ∀ t : List Str, (∀ w ∈ t, PyData.strOk w = true) → (t.map PyData.str).all (okD n) = true
  | [], _ => rfl
  | s :: t, h => by
    have e : okD n (.str s) = true := by
      have := h s (by simp)
      cases n <;> simpa [okD] using this
    show (okD n (.str s) && (t.map PyData.str).all (okD n)) = true
    rw [e, ok_strs t fun w hw => h w (by simp [hw])]
    rfl
theorem ok_strsT {n : Nat} {t : List Str} (hl : t.length ≤ 10) (h : ∀ w ∈ t, PyData.strOk w = true) : okD (n + 1) (strsT t) = true := by
  show (decide ((t.map PyData.str).length ≤ 100000) && (t.map PyData.str).all (okD n)) = true
  rw [ok_strs t h, Bool.and_true, decide_eq_true_iff, List.length_map]
  omega
theorem ok_sets {n : Nat} : ∀ ts : List (List Str), (∀ t ∈ ts, setIn ["p", "q"] t) → (ts.map strsT).all (okD (n + 1)) = true
  | [], _ => rfl
  | t :: ts, h => by
    have ht := h t (by simp)
    show (okD (n + 1) (strsT t) && (ts.map strsT).all (okD (n + 1))) = true
    rw [ok_strsT ht.1 (fun w hw => ok_p w (ht.2 w hw)), ok_sets ts fun x hx => h x (by simp [hx])]
    rfl
theorem ok_ring {r : Ring} (ok : r.ok) (h1 : ∀ t ∈ r.ahead, setIn ["p", "q"] t) (h2 : ∀ t ∈ r.tail, setIn ["p", "q"] t) : okD 30 r.toD = true := by
  have a1 := ok.a
  have a2 := ok.t2
  have e1 : okD 29 (.tuple (r.ahead.map strsT)) = true := by
    show (decide ((r.ahead.map strsT).length ≤ 100000) && (r.ahead.map strsT).all (okD 28)) = true
    rw [ok_sets r.ahead h1, Bool.and_true, decide_eq_true_iff, List.length_map]
    omega
  have e2 : okD 29 (.tuple (r.tail.map strsT)) = true := by
    show (decide ((r.tail.map strsT).length ≤ 100000) && (r.tail.map strsT).all (okD 28)) = true
    rw [ok_sets r.tail h2, Bool.and_true, decide_eq_true_iff, List.length_map]
    omega
  show (decide ([PyData.tuple (r.ahead.map strsT), .tuple (r.tail.map strsT)].length ≤ 100000) && (okD 29 (.tuple (r.ahead.map strsT)) && (okD 29 (.tuple (r.tail.map strsT)) && true))) = true
  rw [e1, e2]
  rfl
theorem same_i {d : PyData} {n : Nat} {R : Rs → List Sl → Prop} (h : okD n d = true) (k : R (.dat (.bool true)) [.dat d, .dat d]) : S_same n [.dat d, .dat d] R := ⟨d, h, rfl, k⟩
def bodyR (CE : Addr) : WS := (wSeq (wAsg 3 (wCall (S_form 6) (wPCons (wO 0) (wPCons (wD (wC (.int 6))) (wPCons (wD (wL (wLst (wCons (wC (.str "p")) (wCons (wC (.str "q")) wNil))))) (wPCons (wD (wC (.bool false))) wPNil))))))
    (wSeq (wPar 4 5 (wCall (S_rw 25) (wPCons (wD (wVar 3)) (wPCons (wD (wVar 1)) wPNil))) (wCall S_take (wPCons (wO 0) (wPCons (wD (wC (.int 12))) wPNil))))
    (wSeq (wAsgL 6 (wLst (wCons (wCall S_pt (wPCons (wD (wVar 3)) (wPCons (wD (wVar 1)) wPNil))) (wCons (wCall S_is (wPCons (wD (wVar 3)) (wPCons (wD (wVar 1)) wPNil))) (wCons (wCall (noX (S_ta CE)) (wPCons (wD (wVar 3)) (wPCons (wD (wVar 1)) (wPCons (wD (wVar 5)) wPNil)))) wNil)))))
    (wSeq (wApp 6 (wCall S_pt (wPCons (wD (wCall (S_lists 30) (wPCons (wD (wVar 3)) wPNil))) (wPCons (wD (wCall (S_lists 30) (wPCons (wD (wVar 1)) wPNil))) wPNil))))
    (wSeq (wAsg 7 (wL (wLst (wCons (wCall S_spots (wPCons (wD (wVar 3)) (wPCons (wD (wVar 1)) wPNil))) (wCons (wOp ixD (wVar 4) (wC (.int 0))) (wCons (wOp ixD (wVar 4) (wCall S_at (wPCons (wD (wVar 1)) (wPCons (wD (wVar 5)) wPNil)))) (wCons (wCall S_spots (wPCons (wD (wVar 3)) (wPCons (wD (wVar 1)) wPNil))) wNil)))))))
    (wFrz 6 (wIfS (wNot (wB (wCall (S_same 30) (wPCons (wD (wVar 6)) (wPCons (wD (wVar 7)) wPNil))))) (wRet (wC (.bool false))) wNext)))))))
theorem right_once {CE : Addr} {g : Ring} {D : EndsD} {m : Nat} {ds : List PyData} {x2 x3 x4 x5 x6 x7 : Sl} (hg : g.fine) (og : okD 30 g.toD = true) (hB : Box (m + 100) ds)
    (q : ∀ ds' x3 x4 x5 x6 x7, Box m ds' → D.nx [.par ds', .dat g.toD, x2, x3, x4, x5, x6, x7]) : bodyR CE D [.par ds, .dat g.toD, x2, x3, x4, x5, x6, x7] := by
  have s2 : 2 ≤ sizeLine := by decide
  have s3 : 3 ≤ sizeLine := by decide
  have s4 : 4 ≤ sizeLine := by decide
  have lt3 : 3 < sizeLine := by decide
  have ok := hg.ok
  have hn : g.n ≤ 1000 := by
    rw [g.n_eq]
    have := ok.a
    have := ok.t2
    omega
  have n0 : 0 < g.n := by
    rw [g.n_eq]
    have := ok.t1
    omega
  refine And.intro rfl (And.intro s2 (And.intro (nd0 rfl) ⟨m + 50, ds, 6, ["p", "q"], rfl, hB.less (by omega), by decide, by decide, by decide, by decide, by decide, fun f ds1 hf hB1 => ?_⟩))
  have sok : f.sok = true := sok_of ok_p hf.wf hf.win
  have ht : f.ht ≤ 6 := hf.ht
  have wt : f.wt ≤ 12 := hf.wt
  have T : Told f.toD g.toD f g := told_of hf.wf sok (by omega) hg
  have Th : Told (thaw f.toD) (thaw g.toD) f g := told_thaw hf.wf sok (by omega) hg
  refine And.intro List.nodup_nil ⟨f, g, rfl, ok, hf.wf, sok, by omega, ?_⟩
  refine And.intro rfl (And.intro (nd0 rfl) ⟨m, ds1, 12, rfl, hB1.less (by omega), by decide, by decide, fun r ds2 hB2 r0 r1 => ?_⟩)
  obtain ⟨s, rfl⟩ : ∃ s : Nat, r = (s : Int) := ⟨r.toNat, by omega⟩
  refine And.intro List.nodup_nil ⟨f.toD, g.toD, f, g, rfl, T, And.intro List.nodup_nil ⟨f.toD, g.toD, f, g, rfl, T, And.intro List.nodup_nil ⟨f.toD, g.toD, f, g, (s : Int), rfl, T, fun _ => ?_, fun hz => absurd hz (by omega)⟩⟩⟩
  rw [Int.toNat_natCast]
  refine And.intro s3 (And.intro rfl ?_)
  refine And.intro List.nodup_nil ⟨f.toD, ok_fm sok (by omega), rfl, And.intro List.nodup_nil ⟨g.toD, og, rfl, And.intro List.nodup_nil ⟨thaw f.toD, thaw g.toD, f, g, rfl, Th, And.intro lt3 ?_⟩⟩⟩
  refine And.intro List.nodup_nil ⟨f, g, rfl, ok, hf.wf, sok, by omega, ⟨_, at_bools (k := 0) n0, And.intro List.nodup_nil ⟨g, s, rfl, ok, by omega, ⟨_, at_bools (Ring.at_lt ok s), And.intro List.nodup_nil ⟨f, g, rfl, ok, hf.wf, sok, by omega, And.intro s4 ?_⟩⟩⟩⟩⟩
  refine And.intro List.nodup_nil (same_i (d := .list [spots g.n (valB g f), .bool (valB g f 0), .bool (valB g f (g.at' s)), spots g.n (valB g f)]) ?_ ?_)
  · have o := ok_spots (n := 28) (m := g.n) (p := valB g f) hn
    show (true && (okD 29 (spots g.n (valB g f)) && (true && (true && (okD 29 (spots g.n (valB g f)) && true))))) = true
    rw [o]
    rfl
  · exact (if_neg (c := (!true) = true) (by decide)).mpr (q ds2 _ _ _ _ _ hB2)
def S_right : PSp := fun as R => ∃ ds, as = [.par ds] ∧ Box 10000 ds ∧ ∀ ds', R (.dat (.bool true)) [.par ds']
theorem w_right {CE : Addr} {as : List Sl} {R : Rs → List Sl → Prop} (h : S_right as R) : W__law_right S_ring (S_form 6) (S_rw 25) S_take (S_ta CE) S_is S_pt (S_lists 30) S_spots S_at (S_same 30) (endsF as R) (startG N__law_right as) := by
  obtain ⟨ds, rfl, hB, k⟩ := h
  show W__law_right S_ring (S_form 6) (S_rw 25) S_take (S_ta CE) S_is S_pt (S_lists 30) S_spots S_at (S_same 30) (endsF [.par ds] R) [.par ds, .un, .un, .un, .un, .un, .un, .un]
  have s2 : 2 ≤ sizeLine := by decide
  refine And.intro rfl (And.intro s2 (And.intro (nd0 rfl) ⟨9000, ds, ["p", "q"], 2, 3, rfl, hB.less (by omega), by decide, by decide, by decide, by decide, fun g ds1 a1 a2 a3 a4 a5 hB1 => ?_⟩))
  have ok : g.ok := ⟨by omega, a4, by omega⟩
  have hg : g.fine := ⟨ok, fun t ht => by
    rcases List.mem_append.mp ht with ht | ht
    · exact (a1 t ht).1
    · exact (a2 t ht).1⟩
  have og := ok_ring ok a1 a2
  refine And.intro (by decide) (And.intro (by decide) ?_)
  refine right_once (CE := CE) (m := 8000) hg og (hB1.less (by omega)) fun ds2 x3 x4 x5 x6 x7 hB2 => ?_
  refine right_once (CE := CE) (m := 7000) hg og (hB2.less (by omega)) fun ds3 x3 x4 x5 x6 x7 hB3 => ?_
  exact k ds3
end K28

namespace K28
open PySem PySem.Spec PyProof.Rows L2 DL
/-! ## where the recursions end; the law -/
theorem w_same0 {as : List Sl} {R : Rs → List Sl → Prop} {S : PSp} (h : S_same 0 as R) : W__law_same S (endsF as R) (startG N__law_same as) := by
  obtain ⟨d, hd, rfl, k⟩ := h
  cases d with
  | list xs => simp [okD] at hd
  | tuple xs => simp [okD] at hd
  | none => simpa [W__law_same, wSeq, wIfS, startG, wIsi2, wIsi, wNext, wRet, eqD, SeqAt.shaped, PyData.canLay0, PyData.depth, PyData.eqv] using k
  | bool b => simpa [W__law_same, wSeq, wIfS, startG, wIsi2, wIsi, wNext, wRet] using k
  | int i => simpa [W__law_same, wSeq, wIfS, startG, wIsi2, wIsi, wNext, wRet] using k
  | str s =>
    simp [okD] at hd
    simpa [W__law_same, wSeq, wIfS, startG, wIsi2, wIsi, wNext, wRet, hd] using k
  | dict _ => simp [okD] at hd
theorem w_lists0 {as : List Sl} {R : Rs → List Sl → Prop} {S : PSp} (h : S_lists 0 as R) : W__law_lists S (endsF as R) (startG N__law_lists as) := by
  obtain ⟨d, hd, rfl, k⟩ := h
  show W__law_lists S (endsF [.dat d] R) [.dat d, .un]
  cases d with
  | list xs => simp [okD] at hd
  | tuple xs => simp [okD] at hd
  | none => rw [thaw_not rfl] at k; exact k
  | bool b => rw [thaw_not rfl] at k; exact k
  | int i => rw [thaw_not rfl] at k; exact k
  | str s => rw [thaw_not rfl] at k; exact k
  | dict _ => simp [okD] at hd
theorem w_form0 {as : List Sl} {R : Rs → List Sl → Prop} {S : PSp} (h : S_form 0 as R) : W__law_form S_take S_of S (endsF as R) (startG N__law_form as) := by
  obtain ⟨k, ds, s, ws, rfl, hB, s1, sn, _⟩ := h
  exact absurd sn (by omega)
theorem w_rw0 {as : List Sl} {R : Rs → List Sl → Prop} {S : PSp} (h : S_rw 0 as R) : W__law_rows S S_at S_goes (endsF as R) (startG N__law_rows as) := by
  obtain ⟨f, r, rfl, ok, wf, sok, ht, k⟩ := h
  exact absurd (ht_pos f) (by omega)
theorem law_loop {Q : List PyData → Gam → Prop} {ns cs : List Int} (hc : cs.length ≤ 1000) : ∀ (zs : List PyData) (m : Nat), (∀ z ∈ zs, ∃ k : Nat, z = .int (k : Int) ∧ k ≤ 1000) → m + zs.length ≤ 100000 → Q (List.replicate (m + zs.length) (.bool true)) [.scr (ns.map PyData.int), .dat (.list (cs.map PyData.int)), .un] →
    lcD (wgName 2) wYes (wCallN S_right (wCallL S_box (wPCons (wD (wVar 1)) (wPCons (wD (wVar 2)) wPNil)))) [2] Q zs (List.replicate m (.bool true)) [.scr (ns.map PyData.int), .dat (.list (cs.map PyData.int)), .un]
  | [], m, _, _, q => q
  | z :: zs, m, h, hl, q => by
    simp only [List.length_cons] at hl q
    obtain ⟨k, rfl, hk⟩ := h z (by simp)
    refine And.intro List.nodup_nil ⟨cs, k, rfl, hk, hc, fun ds hB => ?_⟩
    refine ⟨ds, rfl, hB.less (by decide), fun ds' => ?_⟩
    refine And.intro (by rw [sizeLine_eq, List.length_replicate]; omega) ?_
    have ih := law_loop (Q := Q) (ns := ns) hc zs (m + 1) (fun x hx => h x (by simp [hx])) (by omega) (by rw [show m + 1 + zs.length = m + (zs.length + 1) by omega]; exact q)
    rw [List.replicate_succ'] at ih
    exact ih
theorem ok_end : okD 30 handEnd = true := by decide +kernel
theorem w_law {as : List Sl} {R : Rs → List Sl → Prop} (h : sLaw as R) : W_law (S_hand 30) S_cells S_right S_box (endsF as R) (startG N_law as) := by
  obtain ⟨ns, hl, rfl, k⟩ := h
  show W_law (S_hand 30) S_cells S_right S_box (endsF [.scr (ns.map PyData.int)] R) [.scr (ns.map PyData.int), .un, .un]
  unfold W_law
  refine And.intro List.nodup_nil ⟨rfl, ok_end, ?_⟩
  refine And.intro (by show (varsOf [Opd.var 0, Opd.dat (.int 2)]).Nodup; decide) ⟨ns, 2, rfl, hl, by decide, by decide, fun cs h1 h2 => ?_⟩
  have hz : (rng 0 (((cs.map PyData.int).length : Int)).toNat).length = cs.length := by
    unfold rng
    simp
  have hlen : (cs.map PyData.int).length = cs.length := List.length_map ..
  refine And.intro ?_ (And.intro ?_ (And.intro rfl ?_))
  · rw [hlen]; omega
  · rw [hlen]; omega
  refine law_loop (by omega) _ 0 (fun z hz => ?_) (by rw [hz]; omega) ?_
  · obtain ⟨k, hk, e⟩ := mem_rng hz
    rw [hlen] at hk
    exact ⟨k, e, by omega⟩
  have e : (List.replicate (0 + (rng 0 (((cs.map PyData.int).length : Int)).toNat).length) true).all id = true := by simp
  refine allB_of (k := fun d => (endsF [.scr (ns.map PyData.int)] R).rt (.dat d) [.scr (ns.map PyData.int), .dat (.list (cs.map PyData.int)), .un]) (bools_rep _) ?_
  rw [e]
  exact k _
end K28

namespace K28
open PySem PySem.Spec PyProof.Rows L2 DL
theorem all_mk {l : PySem.W.OpenLaw} {w : World} {K : PySem.W.Frag} {h : Heap} {mg : Str → Option Value} {fa f0 f1 f2 f3 f4 f5 f6 f7 f8 f9 f10 f11 f12 f13 f14 f15 f16 f17 f18 f19 f20 f21 f22 f23 f24 f25 f26 f27 f28 f29 f30 : Addr} (X : K.In h) (G : h.Ns mainGlobals mg) (hfa : mg "law" = some (.ref fa))
    {od0 an0 : Option Addr} {sl0 : Array (Option Value)} {oc0 kV0 dc0 pm0 cd0 ct0 : Value}
    {od1 an1 : Option Addr} {sl1 : Array (Option Value)} {oc1 kV1 dc1 pm1 cd1 ct1 : Value}
    {od2 an2 : Option Addr} {sl2 : Array (Option Value)} {oc2 kV2 dc2 pm2 cd2 ct2 : Value}
    {od3 an3 : Option Addr} {sl3 : Array (Option Value)} {oc3 kV3 dc3 pm3 cd3 ct3 : Value}
    {od4 an4 : Option Addr} {sl4 : Array (Option Value)} {oc4 kV4 dc4 pm4 cd4 ct4 : Value}
    {od5 an5 : Option Addr} {sl5 : Array (Option Value)} {oc5 kV5 dc5 pm5 cd5 ct5 : Value}
    {od6 an6 : Option Addr} {sl6 : Array (Option Value)} {oc6 kV6 dc6 pm6 cd6 ct6 : Value}
    {od7 an7 : Option Addr} {sl7 : Array (Option Value)} {oc7 kV7 dc7 pm7 cd7 ct7 : Value}
    {od8 an8 : Option Addr} {sl8 : Array (Option Value)} {oc8 kV8 dc8 pm8 cd8 ct8 : Value}
    {od9 an9 : Option Addr} {sl9 : Array (Option Value)} {oc9 kV9 dc9 pm9 cd9 ct9 : Value}
    {od10 an10 : Option Addr} {sl10 : Array (Option Value)} {oc10 kV10 dc10 pm10 cd10 ct10 : Value}
    {od11 an11 : Option Addr} {sl11 : Array (Option Value)} {oc11 kV11 dc11 pm11 cd11 ct11 : Value}
    {od12 an12 : Option Addr} {sl12 : Array (Option Value)} {oc12 kV12 dc12 pm12 cd12 ct12 : Value}
    {od13 an13 : Option Addr} {sl13 : Array (Option Value)} {oc13 kV13 dc13 pm13 cd13 ct13 : Value}
    {od14 an14 : Option Addr} {sl14 : Array (Option Value)} {oc14 kV14 dc14 pm14 cd14 ct14 : Value}
    {od15 an15 : Option Addr} {sl15 : Array (Option Value)} {oc15 kV15 dc15 pm15 cd15 ct15 : Value}
    {od16 an16 : Option Addr} {sl16 : Array (Option Value)} {oc16 kV16 dc16 pm16 cd16 ct16 : Value}
    {od17 an17 : Option Addr} {sl17 : Array (Option Value)} {oc17 kV17 dc17 pm17 cd17 ct17 : Value}
    {od18 an18 : Option Addr} {sl18 : Array (Option Value)} {oc18 kV18 dc18 pm18 cd18 ct18 : Value}
    {od19 an19 : Option Addr} {sl19 : Array (Option Value)} {oc19 kV19 dc19 pm19 cd19 ct19 : Value}
    {od20 an20 : Option Addr} {sl20 : Array (Option Value)} {oc20 kV20 dc20 pm20 cd20 ct20 : Value}
    {od21 an21 : Option Addr} {sl21 : Array (Option Value)} {oc21 kV21 dc21 pm21 cd21 ct21 : Value}
    {od22 an22 : Option Addr} {sl22 : Array (Option Value)} {oc22 kV22 dc22 pm22 cd22 ct22 : Value}
    {od23 an23 : Option Addr} {sl23 : Array (Option Value)} {oc23 kV23 dc23 pm23 cd23 ct23 : Value}
    {od24 an24 : Option Addr} {sl24 : Array (Option Value)} {oc24 kV24 dc24 pm24 cd24 ct24 : Value}
    {od25 an25 : Option Addr} {sl25 : Array (Option Value)} {oc25 kV25 dc25 pm25 cd25 ct25 : Value}
    {od26 an26 : Option Addr} {sl26 : Array (Option Value)} {oc26 kV26 dc26 pm26 cd26 ct26 : Value}
    {od27 an27 : Option Addr} {sl27 : Array (Option Value)} {oc27 kV27 dc27 pm27 cd27 ct27 : Value}
    {od28 an28 : Option Addr} {sl28 : Array (Option Value)} {oc28 kV28 dc28 pm28 cd28 ct28 : Value}
    {od29 an29 : Option Addr} {sl29 : Array (Option Value)} {oc29 kV29 dc29 pm29 cd29 ct29 : Value}
    {od30 an30 : Option Addr} {sl30 : Array (Option Value)} {oc30 kV30 dc30 pm30 cd30 ct30 : Value}
    (a0 : PySem.W.nsIn K mainGlobals "frozen" = some (some (.ref f0))) (l0 : K.lookup f0 = some ⟨oc0, od0, .func (PySem.W.fnOf "frozen" "frozen" (defArgs s_frozen) (defBody s_frozen) (defScope s_frozen) .none kV0 dc0 pm0 an0 cd0 ct0), sl0⟩) (c0 : PySem.W.codeIn K cd0 "frozen" = true) (k0 : PySem.W.keepIn K (.ref f0) = true)
    (a1 : PySem.W.nsIn K mainGlobals "within_piece" = some (some (.ref f1))) (l1 : K.lookup f1 = some ⟨oc1, od1, .func (PySem.W.fnOf "within_piece" "within_piece" (defArgs s_within_piece) (defBody s_within_piece) (defScope s_within_piece) .none kV1 dc1 pm1 an1 cd1 ct1), sl1⟩) (c1 : PySem.W.codeIn K cd1 "within_piece" = true) (k1 : PySem.W.keepIn K (.ref f1) = true)
    (a2 : PySem.W.nsIn K mainGlobals "add_rows" = some (some (.ref f2))) (l2 : K.lookup f2 = some ⟨oc2, od2, .func (PySem.W.fnOf "add_rows" "add_rows" (defArgs s_add_rows) (defBody s_add_rows) (defScope s_add_rows) .none kV2 dc2 pm2 an2 cd2 ct2), sl2⟩) (c2 : PySem.W.codeIn K cd2 "add_rows" = true) (k2 : PySem.W.keepIn K (.ref f2) = true)
    (a3 : PySem.W.nsIn K mainGlobals "formula_rows" = some (some (.ref f3))) (l3 : K.lookup f3 = some ⟨oc3, od3, .func (PySem.W.fnOf "formula_rows" "formula_rows" (defArgs s_formula_rows) (defBody s_formula_rows) (defScope s_formula_rows) .none kV3 dc3 pm3 an3 cd3 ct3), sl3⟩) (c3 : PySem.W.codeIn K cd3 "formula_rows" = true) (k3 : PySem.W.keepIn K (.ref f3) = true)
    (a4 : PySem.W.nsIn K mainGlobals "_rows" = some (some (.ref f4))) (l4 : K.lookup f4 = some ⟨oc4, od4, .func (PySem.W.fnOf "_rows" "_rows" (defArgs s__rows) (defBody s__rows) (defScope s__rows) .none kV4 dc4 pm4 an4 cd4 ct4), sl4⟩) (c4 : PySem.W.codeIn K cd4 "_rows" = true) (k4 : PySem.W.keepIn K (.ref f4) = true)
    (a5 : PySem.W.nsIn K mainGlobals "_lasting" = some (some (.ref f5))) (l5 : K.lookup f5 = some ⟨oc5, od5, .func (PySem.W.fnOf "_lasting" "_lasting" (defArgs s__lasting) (defBody s__lasting) (defScope s__lasting) .none kV5 dc5 pm5 an5 cd5 ct5), sl5⟩) (c5 : PySem.W.codeIn K cd5 "_lasting" = true) (k5 : PySem.W.keepIn K (.ref f5) = true)
    (a6 : PySem.W.nsIn K mainGlobals "truths_formulaparts" = some (some (.ref f6))) (l6 : K.lookup f6 = some ⟨oc6, od6, .func (PySem.W.fnOf "_truths" "_truths" (defArgs s_truths_formulaparts) (defBody s_truths_formulaparts) (defScope s_truths_formulaparts) .none kV6 dc6 pm6 an6 cd6 ct6), sl6⟩) (c6 : PySem.W.codeIn K cd6 "_truths" = true) (k6 : PySem.W.keepIn K (.ref f6) = true)
    (a7 : PySem.W.nsIn K mainGlobals "truths_of" = some (some (.ref f7))) (l7 : K.lookup f7 = some ⟨oc7, od7, .func (PySem.W.fnOf "truths_of" "truths_of" (defArgs s_truths_of) (defBody s_truths_of) (defScope s_truths_of) .none kV7 dc7 pm7 an7 cd7 ct7), sl7⟩) (c7 : PySem.W.codeIn K cd7 "truths_of" = true) (k7 : PySem.W.keepIn K (.ref f7) = true)
    (a8 : PySem.W.nsIn K mainGlobals "truths_formulas" = some (some (.ref f8))) (l8 : K.lookup f8 = some ⟨oc8, od8, .func (PySem.W.fnOf "_truths" "_truths" (defArgs s_truths_formulas) (defBody s_truths_formulas) (defScope s_truths_formulas) .none kV8 dc8 pm8 an8 cd8 ct8), sl8⟩) (c8 : PySem.W.codeIn K cd8 "_truths" = true) (k8 : PySem.W.keepIn K (.ref f8) = true)
    (a9 : PySem.W.nsIn K mainGlobals "places_true" = some (some (.ref f9))) (l9 : K.lookup f9 = some ⟨oc9, od9, .func (PySem.W.fnOf "places_true" "places_true" (defArgs s_places_true) (defBody s_places_true) (defScope s_places_true) .none kV9 dc9 pm9 an9 cd9 ct9), sl9⟩) (c9 : PySem.W.codeIn K cd9 "places_true" = true) (k9 : PySem.W.keepIn K (.ref f9) = true)
    (a10 : PySem.W.nsIn K mainGlobals "is_true" = some (some (.ref f10))) (l10 : K.lookup f10 = some ⟨oc10, od10, .func (PySem.W.fnOf "is_true" "is_true" (defArgs s_is_true) (defBody s_is_true) (defScope s_is_true) .none kV10 dc10 pm10 an10 cd10 ct10), sl10⟩) (c10 : PySem.W.codeIn K cd10 "is_true" = true) (k10 : PySem.W.keepIn K (.ref f10) = true)
    (a11 : PySem.W.nsIn K mainGlobals "place_of_run" = some (some (.ref f11))) (l11 : K.lookup f11 = some ⟨oc11, od11, .func (PySem.W.fnOf "place_of_run" "place_of_run" (defArgs s_place_of_run) (defBody s_place_of_run) (defScope s_place_of_run) .none kV11 dc11 pm11 an11 cd11 ct11), sl11⟩) (c11 : PySem.W.codeIn K cd11 "place_of_run" = true) (k11 : PySem.W.keepIn K (.ref f11) = true)
    (a12 : PySem.W.nsIn K mainGlobals "true_at" = some (some (.ref f12))) (l12 : K.lookup f12 = some ⟨oc12, od12, .func (PySem.W.fnOf "true_at" "true_at" (defArgs s_true_at) (defBody s_true_at) (defScope s_true_at) .none kV12 dc12 pm12 an12 cd12 ct12), sl12⟩) (c12 : PySem.W.codeIn K cd12 "true_at" = true) (k12 : PySem.W.keepIn K (.ref f12) = true)
    (a13 : PySem.W.nsIn K mainGlobals "_law_take" = some (some (.ref f13))) (l13 : K.lookup f13 = some ⟨oc13, od13, .func (PySem.W.fnOf "_law_take" "_law_take" (defArgs s__law_take) (defBody s__law_take) (defScope s__law_take) .none kV13 dc13 pm13 an13 cd13 ct13), sl13⟩) (c13 : PySem.W.codeIn K cd13 "_law_take" = true) (k13 : PySem.W.keepIn K (.ref f13) = true)
    (a14 : PySem.W.nsIn K mainGlobals "_law_box" = some (some (.ref f14))) (l14 : K.lookup f14 = some ⟨oc14, od14, .func (PySem.W.fnOf "_law_box" "_law_box" (defArgs s__law_box) (defBody s__law_box) (defScope s__law_box) .none kV14 dc14 pm14 an14 cd14 ct14), sl14⟩) (c14 : PySem.W.codeIn K cd14 "_law_box" = true) (k14 : PySem.W.keepIn K (.ref f14) = true)
    (a15 : PySem.W.nsIn K mainGlobals "_law_cells" = some (some (.ref f15))) (l15 : K.lookup f15 = some ⟨oc15, od15, .func (PySem.W.fnOf "_law_cells" "_law_cells" (defArgs s__law_cells) (defBody s__law_cells) (defScope s__law_cells) .none kV15 dc15 pm15 an15 cd15 ct15), sl15⟩) (c15 : PySem.W.codeIn K cd15 "_law_cells" = true) (k15 : PySem.W.keepIn K (.ref f15) = true)
    (a16 : PySem.W.nsIn K mainGlobals "_law_of" = some (some (.ref f16))) (l16 : K.lookup f16 = some ⟨oc16, od16, .func (PySem.W.fnOf "_law_of" "_law_of" (defArgs s__law_of) (defBody s__law_of) (defScope s__law_of) .none kV16 dc16 pm16 an16 cd16 ct16), sl16⟩) (c16 : PySem.W.codeIn K cd16 "_law_of" = true) (k16 : PySem.W.keepIn K (.ref f16) = true)
    (a17 : PySem.W.nsIn K mainGlobals "_law_lists" = some (some (.ref f17))) (l17 : K.lookup f17 = some ⟨oc17, od17, .func (PySem.W.fnOf "_law_lists" "_law_lists" (defArgs s__law_lists) (defBody s__law_lists) (defScope s__law_lists) .none kV17 dc17 pm17 an17 cd17 ct17), sl17⟩) (c17 : PySem.W.codeIn K cd17 "_law_lists" = true) (k17 : PySem.W.keepIn K (.ref f17) = true)
    (a18 : PySem.W.nsIn K mainGlobals "_law_same" = some (some (.ref f18))) (l18 : K.lookup f18 = some ⟨oc18, od18, .func (PySem.W.fnOf "_law_same" "_law_same" (defArgs s__law_same) (defBody s__law_same) (defScope s__law_same) .none kV18 dc18 pm18 an18 cd18 ct18), sl18⟩) (c18 : PySem.W.codeIn K cd18 "_law_same" = true) (k18 : PySem.W.keepIn K (.ref f18) = true)
    (a19 : PySem.W.nsIn K mainGlobals "_law_set" = some (some (.ref f19))) (l19 : K.lookup f19 = some ⟨oc19, od19, .func (PySem.W.fnOf "_law_set" "_law_set" (defArgs s__law_set) (defBody s__law_set) (defScope s__law_set) .none kV19 dc19 pm19 an19 cd19 ct19), sl19⟩) (c19 : PySem.W.codeIn K cd19 "_law_set" = true) (k19 : PySem.W.keepIn K (.ref f19) = true)
    (a20 : PySem.W.nsIn K mainGlobals "_law_ring" = some (some (.ref f20))) (l20 : K.lookup f20 = some ⟨oc20, od20, .func (PySem.W.fnOf "_law_ring" "_law_ring" (defArgs s__law_ring) (defBody s__law_ring) (defScope s__law_ring) .none kV20 dc20 pm20 an20 cd20 ct20), sl20⟩) (c20 : PySem.W.codeIn K cd20 "_law_ring" = true) (k20 : PySem.W.keepIn K (.ref f20) = true)
    (a21 : PySem.W.nsIn K mainGlobals "_law_form" = some (some (.ref f21))) (l21 : K.lookup f21 = some ⟨oc21, od21, .func (PySem.W.fnOf "_law_form" "_law_form" (defArgs s__law_form) (defBody s__law_form) (defScope s__law_form) .none kV21 dc21 pm21 an21 cd21 ct21), sl21⟩) (c21 : PySem.W.codeIn K cd21 "_law_form" = true) (k21 : PySem.W.keepIn K (.ref f21) = true)
    (a22 : PySem.W.nsIn K mainGlobals "_law_at" = some (some (.ref f22))) (l22 : K.lookup f22 = some ⟨oc22, od22, .func (PySem.W.fnOf "_law_at" "_law_at" (defArgs s__law_at) (defBody s__law_at) (defScope s__law_at) .none kV22 dc22 pm22 an22 cd22 ct22), sl22⟩) (c22 : PySem.W.codeIn K cd22 "_law_at" = true) (k22 : PySem.W.keepIn K (.ref f22) = true)
    (a23 : PySem.W.nsIn K mainGlobals "_law_goes" = some (some (.ref f23))) (l23 : K.lookup f23 = some ⟨oc23, od23, .func (PySem.W.fnOf "_law_goes" "_law_goes" (defArgs s__law_goes) (defBody s__law_goes) (defScope s__law_goes) .none kV23 dc23 pm23 an23 cd23 ct23), sl23⟩) (c23 : PySem.W.codeIn K cd23 "_law_goes" = true) (k23 : PySem.W.keepIn K (.ref f23) = true)
    (a24 : PySem.W.nsIn K mainGlobals "_law_rows" = some (some (.ref f24))) (l24 : K.lookup f24 = some ⟨oc24, od24, .func (PySem.W.fnOf "_law_rows" "_law_rows" (defArgs s__law_rows) (defBody s__law_rows) (defScope s__law_rows) .none kV24 dc24 pm24 an24 cd24 ct24), sl24⟩) (c24 : PySem.W.codeIn K cd24 "_law_rows" = true) (k24 : PySem.W.keepIn K (.ref f24) = true)
    (a25 : PySem.W.nsIn K mainGlobals "_law_kit" = some (some (.ref f25))) (l25 : K.lookup f25 = some ⟨oc25, od25, .func (PySem.W.fnOf "_law_kit" "_law_kit" (defArgs s__law_kit) (defBody s__law_kit) (defScope s__law_kit) .none kV25 dc25 pm25 an25 cd25 ct25), sl25⟩) (c25 : PySem.W.codeIn K cd25 "_law_kit" = true) (k25 : PySem.W.keepIn K (.ref f25) = true)
    (a26 : PySem.W.nsIn K mainGlobals "_law_heard" = some (some (.ref f26))) (l26 : K.lookup f26 = some ⟨oc26, od26, .func (PySem.W.fnOf "_law_heard" "_law_heard" (defArgs s__law_heard) (defBody s__law_heard) (defScope s__law_heard) .none kV26 dc26 pm26 an26 cd26 ct26), sl26⟩) (c26 : PySem.W.codeIn K cd26 "_law_heard" = true) (k26 : PySem.W.keepIn K (.ref f26) = true)
    (a27 : PySem.W.nsIn K mainGlobals "_law_spots" = some (some (.ref f27))) (l27 : K.lookup f27 = some ⟨oc27, od27, .func (PySem.W.fnOf "_law_spots" "_law_spots" (defArgs s__law_spots) (defBody s__law_spots) (defScope s__law_spots) .none kV27 dc27 pm27 an27 cd27 ct27), sl27⟩) (c27 : PySem.W.codeIn K cd27 "_law_spots" = true) (k27 : PySem.W.keepIn K (.ref f27) = true)
    (a28 : PySem.W.nsIn K mainGlobals "_law_by_hand_right" = some (some (.ref f28))) (l28 : K.lookup f28 = some ⟨oc28, od28, .func (PySem.W.fnOf "_law_by_hand_right" "_law_by_hand_right" (defArgs s__law_by_hand_right) (defBody s__law_by_hand_right) (defScope s__law_by_hand_right) .none kV28 dc28 pm28 an28 cd28 ct28), sl28⟩) (c28 : PySem.W.codeIn K cd28 "_law_by_hand_right" = true) (k28 : PySem.W.keepIn K (.ref f28) = true)
    (a29 : PySem.W.nsIn K mainGlobals "_law_right" = some (some (.ref f29))) (l29 : K.lookup f29 = some ⟨oc29, od29, .func (PySem.W.fnOf "_law_right" "_law_right" (defArgs s__law_right) (defBody s__law_right) (defScope s__law_right) .none kV29 dc29 pm29 an29 cd29 ct29), sl29⟩) (c29 : PySem.W.codeIn K cd29 "_law_right" = true) (k29 : PySem.W.keepIn K (.ref f29) = true)
    (a30 : PySem.W.nsIn K mainGlobals "law" = some (some (.ref f30))) (l30 : K.lookup f30 = some ⟨oc30, od30, .func (PySem.W.fnOf "law" "law" (defArgs s_law) (defBody s_law) (defScope s_law) .none kV30 dc30 pm30 an30 cd30 ct30), sl30⟩) (c30 : PySem.W.codeIn K cd30 "law" = true) (k30 : PySem.W.keepIn K (.ref f30) = true)
    (z0 : PySem.W.nsIn K mainGlobals "abs" = some none)
    (z1 : PySem.W.nsIn K mainGlobals "all" = some none)
    (z2 : PySem.W.nsIn K mainGlobals "bool" = some none)
    (z3 : PySem.W.nsIn K mainGlobals "enumerate" = some none)
    (z4 : PySem.W.nsIn K mainGlobals "int" = some none)
    (z5 : PySem.W.nsIn K mainGlobals "isinstance" = some none)
    (z6 : PySem.W.nsIn K mainGlobals "len" = some none)
    (z7 : PySem.W.nsIn K mainGlobals "list" = some none)
    (z8 : PySem.W.nsIn K mainGlobals "range" = some none)
    (z9 : PySem.W.nsIn K mainGlobals "reversed" = some none)
    (z10 : PySem.W.nsIn K mainGlobals "str" = some none)
    (z11 : PySem.W.nsIn K mainGlobals "tuple" = some none)
    (z12 : PySem.W.nsIn K mainGlobals "zip" = some none)
    {CE_NoNumber fI_NoNumber : Addr} {CB_ModelError : Addr} {e0nm e0q : Str} {e0N : Addr} {e0bs : List Value} {e0sn : List Str} {e0sub : List Value} {e0ab : Bool} {e0col : Option Bool} {e0dd e0od e0an : Option Addr} {e0m0 e0m1 e0m2 e0m3 e0m5 : Option Value} {e0oc e0dc e0pm e0cd e0ct : Value} {e0sl : Array (Option Value)} {e0p1 e0p2 e0q1 e0q2 e0q3 e0q4 : Pos}
    (e0aC : PySem.W.nsIn K mainGlobals "NoNumber" = some (some (.ref CE_NoNumber)))
    (e0xL : K.lookup CE_NoNumber = some (excClassObj e0nm e0q CE_NoNumber e0N e0bs [.ref CB_ModelError, .type "ValueError", .type "Exception", .type "BaseException", .type "object"] true e0sn e0sub e0ab e0col e0dd e0m0 e0m1 e0m2 e0m3 e0m5 "ValueError.__new__"))
    (e0sa : PySem.W.findIn K (.ref CE_NoNumber) "__setattr__" = some (some (.builtin "object.__setattr__"))) (e0ga : PySem.W.findIn K (.ref CE_NoNumber) "__getattribute__" = some (some (.builtin "BaseException.__getattribute__"))) (e0gg : PySem.W.findIn K (.ref CE_NoNumber) "__getattr__" = some none) (e0nb : PySem.W.findIn K (.ref CE_NoNumber) "number" = some none)
    (e0a1 : PySem.W.findIn K (.ref CE_NoNumber) "__init__" = some (some (.ref fI_NoNumber))) (e0t1 : PySem.W.typeIn K (.ref fI_NoNumber) = some (.type "function"))
    (e0l1 : K.lookup fI_NoNumber = some ⟨e0oc, e0od, .func (PySem.W.fnOf "__init__" "NoNumber.__init__" (PySem.NoNumberX.iA e0p1 e0p2) (PySem.NoNumberX.iB e0q1 e0q2 e0q3 e0q4) PySem.NoNumberX.iS .none .none e0dc e0pm e0an e0cd e0ct), e0sl⟩) (e0c1 : PySem.W.codeIn K e0cd "NoNumber.__init__" = true)
    (e0kC : PySem.W.keepIn K (.ref CE_NoNumber) = true) (e0eC : PySem.W.subIn K (.ref CE_NoNumber) (.type "BaseException") = some true) (e0tC : PySem.W.typeIn K (.ref CE_NoNumber) = some (.type "type")) (e0hC : PySem.W.hasDictIn K CE_NoNumber = true) (e0iC : PySem.W.isClsIn K CE_NoNumber = true) (e0sC : PySem.W.subIn K (.ref CE_NoNumber) (.ref CE_NoNumber) = some true)
    (i0aM : PySem.W.nsIn K mainGlobals "ModelError" = some (some (.ref CB_ModelError))) (i0ha : PySem.W.findIn K (.ref CE_NoNumber) "__class__" = some (some (.builtin "object.__class__"))) (i0hn : PySem.W.specialIn K (.builtin "object.__class__") "__get__" = some (some (.builtin "getset_descriptor.__get__"))) (i0ht : PySem.W.takesIn K (.builtin "object.__class__") = some true) (i0hm : PySem.W.mroIn K CE_NoNumber (.type "object") = some true) (i0is : PySem.W.isClsIn K CB_ModelError = true) (i0ty : PySem.W.typeIn K (.ref CB_ModelError) = some (.type "type")) (i0su : PySem.W.subIn K (.ref CE_NoNumber) (.ref CB_ModelError) = some true) :
    ∃ fd : FuncData, (∀ (s : Shared) (v : Value), BindsTo s fd ⟨[v], []⟩ [("script", v)]) ∧ ∀ base : Heap, K.In base → base.Ns mainGlobals mg → FnOk l.prog w K mg base CX0 33 fa fd ["script"] (spLaw K) := by
  have e := hfa.symm.trans (PySem.W.mg_of X G a30)
  cases e
  have T : Txt K mg := ⟨PySem.W.mg_none_of X G z0, PySem.W.mg_none_of X G z1, PySem.W.mg_none_of X G z2, PySem.W.mg_none_of X G z3, PySem.W.mg_none_of X G z4, PySem.W.mg_none_of X G z5, PySem.W.mg_none_of X G z6, PySem.W.mg_none_of X G z7, PySem.W.mg_none_of X G z8, PySem.W.mg_none_of X G z9, PySem.W.mg_none_of X G z10, PySem.W.mg_none_of X G z11, PySem.W.mg_none_of X G z12⟩
  have TX_NoNumber : PySem.NoNumberX.NoNumberTxt K mg CE_NoNumber fI_NoNumber :=
    { gC := PySem.W.mg_of X G e0aC, cls := ⟨_, _, _, _, _, _, _, _, _, _, _, _, _, _, _, e0xL, (by decide +kernel : PySem.HandSPX.refsVE [.type "ValueError", .type "Exception", .type "BaseException", .type "object"] = true)⟩, sa := e0sa, ga := e0ga, gg := e0gg, noN := e0nb, iC := e0a1, tC := e0t1, kC := e0kC, exC := e0eC, tyC := e0tC, hdC := e0hC, te := DL.exm_self e0eC e0iC e0tC e0sC,
      fn := ⟨_, _, _, _, _, _, _, _, _, _, _, _, _, _, e0l1, e0c1⟩ }
  have TI_NoNumber_ModelError : IsiC K CE_NoNumber CB_ModelError := ⟨e0hC, e0ga, e0gg, e0eC, i0ha, i0hn, i0ht, i0hm, kit_sub i0is i0ty i0su⟩
  have mB_ModelError := PySem.W.mg_of X G i0aM
  have F0 := fun_mk (st := s_frozen) l0 c0 k0
  have b0 := F0.binds (ps := ["given"]) fun _ _ _ _ _ _ us hl => match us, hl with | [_], _ => rfl
  have F1 := fun_mk (st := s_within_piece) l1 c1 k1
  have b1 := F1.binds (ps := ["piece"]) fun _ _ _ _ _ _ us hl => match us, hl with | [_], _ => rfl
  have F2 := fun_mk (st := s_add_rows) l2 c2 k2
  have b2 := F2.binds (ps := ["rows", "numbers", "formula"]) fun _ _ _ _ _ _ us hl => match us, hl with | [_, _, _], _ => rfl
  have F3 := fun_mk (st := s_formula_rows) l3 c3 k3
  have b3 := F3.binds (ps := ["formula"]) fun _ _ _ _ _ _ us hl => match us, hl with | [_], _ => rfl
  have F4 := fun_mk (st := s__rows) l4 c4 k4
  have b4 := F4.binds (ps := ["formula"]) fun _ _ _ _ _ _ us hl => match us, hl with | [_], _ => rfl
  have F5 := fun_mk (st := s__lasting) l5 c5 k5
  have b5 := F5.binds (ps := ["one", "other", "back", "for_ever"]) fun _ _ _ _ _ _ us hl => match us, hl with | [_, _, _, _], _ => rfl
  have F6 := fun_mk (st := s_truths_formulaparts) l6 c6 k6
  have b6 := F6.binds (ps := ["row", "sets", "back", "found"]) fun _ _ _ _ _ _ us hl => match us, hl with | [_, _, _, _], _ => rfl
  have F7 := fun_mk (st := s_truths_of) l7 c7 k7
  have b7 := F7.binds (ps := ["rows", "sets", "back"]) fun _ _ _ _ _ _ us hl => match us, hl with | [_, _, _], _ => rfl
  have F8 := fun_mk (st := s_truths_formulas) l8 c8 k8
  have b8 := F8.binds (ps := ["formula", "loop"]) fun _ _ _ _ _ _ us hl => match us, hl with | [_, _], _ => rfl
  have F9 := fun_mk (st := s_places_true) l9 c9 k9
  have b9 := F9.binds (ps := ["formula", "loop"]) fun _ _ _ _ _ _ us hl => match us, hl with | [_, _], _ => rfl
  have F10 := fun_mk (st := s_is_true) l10 c10 k10
  have b10 := F10.binds (ps := ["formula", "loop"]) fun _ _ _ _ _ _ us hl => match us, hl with | [_, _], _ => rfl
  have F11 := fun_mk (st := s_place_of_run) l11 c11 k11
  have b11 := F11.binds (ps := ["front", "circle", "number"]) fun _ _ _ _ _ _ us hl => match us, hl with | [_, _, _], _ => rfl
  have F12 := fun_mk (st := s_true_at) l12 c12 k12
  have b12 := F12.binds (ps := ["formula", "loop", "number"]) fun _ _ _ _ _ _ us hl => match us, hl with | [_, _, _], _ => rfl
  have F13 := fun_mk (st := s__law_take) l13 c13 k13
  have b13 := F13.binds (ps := ["urn", "low_so"]) fun _ _ _ _ _ _ us hl => match us, hl with | [_, _], _ => rfl
  have F14 := fun_mk (st := s__law_box) l14 c14 k14
  have b14 := F14.binds (ps := ["script", "k"]) fun _ _ _ _ _ _ us hl => match us, hl with | [_, _], _ => rfl
  have F15 := fun_mk (st := s__law_cells) l15 c15 k15
  have b15 := F15.binds (ps := ["script", "roof_so"]) fun _ _ _ _ _ _ us hl => match us, hl with | [_, _], _ => rfl
  have F16 := fun_mk (st := s__law_of) l16 c16 k16
  have b16 := F16.binds (ps := ["urn", "some_so"]) fun _ _ _ _ _ _ us hl => match us, hl with | [_, _], _ => rfl
  have F17 := fun_mk (st := s__law_lists) l17 c17 k17
  have b17 := F17.binds (ps := ["matter"]) fun _ _ _ _ _ _ us hl => match us, hl with | [_], _ => rfl
  have F18 := fun_mk (st := s__law_same) l18 c18 k18
  have b18 := F18.binds (ps := ["got", "due"]) fun _ _ _ _ _ _ us hl => match us, hl with | [_, _], _ => rfl
  have F19 := fun_mk (st := s__law_set) l19 c19 k19
  have b19 := F19.binds (ps := ["urn", "tags_so"]) fun _ _ _ _ _ _ us hl => match us, hl with | [_, _], _ => rfl
  have F20 := fun_mk (st := s__law_ring) l20 c20 k20
  have b20 := F20.binds (ps := ["urn", "tags_so", "size_so", "wide_so"]) fun _ _ _ _ _ _ us hl => match us, hl with | [_, _, _, _], _ => rfl
  have F21 := fun_mk (st := s__law_form) l21 c21 k21
  have b21 := F21.binds (ps := ["urn", "size_so", "tags_so", "still_so"]) fun _ _ _ _ _ _ us hl => match us, hl with | [_, _, _, _], _ => rfl
  have F22 := fun_mk (st := s__law_at) l22 c22 k22
  have b22 := F22.binds (ps := ["ring", "k"]) fun _ _ _ _ _ _ us hl => match us, hl with | [_, _], _ => rfl
  have F23 := fun_mk (st := s__law_goes) l23 c23 k23
  have b23 := F23.binds (ps := ["head", "near", "far", "walk"]) fun _ _ _ _ _ _ us hl => match us, hl with | [_, _, _, _], _ => rfl
  have F24 := fun_mk (st := s__law_rows) l24 c24 k24
  have b24 := F24.binds (ps := ["form", "ring"]) fun _ _ _ _ _ _ us hl => match us, hl with | [_, _], _ => rfl
  have F25 := fun_mk (st := s__law_kit) l25 c25 k25
  have b25 := F25.binds (ps := []) fun _ _ _ _ _ _ us hl => match us, hl with | [], _ => rfl
  have F26 := fun_mk (st := s__law_heard) l26 c26 k26
  have b26 := F26.binds (ps := ["form", "ring", "k"]) fun _ _ _ _ _ _ us hl => match us, hl with | [_, _, _], _ => rfl
  have F27 := fun_mk (st := s__law_spots) l27 c27 k27
  have b27 := F27.binds (ps := ["form", "ring"]) fun _ _ _ _ _ _ us hl => match us, hl with | [_, _], _ => rfl
  have F28 := fun_mk (st := s__law_by_hand_right) l28 c28 k28
  have b28 := F28.binds (ps := []) fun _ _ _ _ _ _ us hl => match us, hl with | [], _ => rfl
  have F29 := fun_mk (st := s__law_right) l29 c29 k29
  have b29 := F29.binds (ps := ["tin"]) fun _ _ _ _ _ _ us hl => match us, hl with | [_], _ => rfl
  have F30 := fun_mk (st := s_law) l30 c30 k30
  have b30 := F30.binds (ps := ["script"]) fun _ _ _ _ _ _ us hl => match us, hl with | [_], _ => rfl
  have kb0 : KBn K _ ["formula", "loop"] 0 ["loop", "formula"] (fun us ws => pick [1, 0] (us ++ ws)) (fun us ws => pick [1, 0] (us ++ ws)) := kbn_of (is := [1, 0]) F10 fun _ _ _ _ _ _ us ws hl hl2 => match us, ws, hl, hl2 with | [], [_, _], _, _ => rfl
  have kb1 : KBn K _ ["formula", "loop"] 0 ["loop", "formula"] (fun us ws => pick [1, 0] (us ++ ws)) (fun us ws => pick [1, 0] (us ++ ws)) := kbn_of (is := [1, 0]) F9 fun _ _ _ _ _ _ us ws hl hl2 => match us, ws, hl, hl2 with | [], [_, _], _, _ => rfl
  have kb2 : KBn K _ ["formula", "loop", "number"] 0 ["number", "loop", "formula"] (fun us ws => pick [2, 1, 0] (us ++ ws)) (fun us ws => pick [2, 1, 0] (us ++ ws)) := kbn_of (is := [2, 1, 0]) F12 fun _ _ _ _ _ _ us ws hl hl2 => match us, ws, hl, hl2 with | [], [_, _, _], _, _ => rfl
  refine ⟨PySem.W.fnOf "law" "law" (defArgs s_law) (defBody s_law) (defScope s_law) .none kV30 dc30 pm30 an30 cd30 ct30, fun s v => .of_eq rfl, fun base _ _ => ?_⟩
  have G0 := fn_frozen (P := l.prog) (w := w) (K := K) (mg := mg) (base := base) (k := 0) F0 sc_frozen (fun cdv A outer s H E hr => d_frozen T hr)
  have GH0 := fn_frozenH (P := l.prog) (w := w) (K := K) (mg := mg) (base := base) (k := 0) F0 sc_frozen (fun cdv A outer s H E hr => d_frozen T hr)
  have C0 := fn_cal (PySem.W.mg_of X G a0) F0 b0 G0
  have G1 := fn_within (P := l.prog) (w := w) (K := K) (mg := mg) (base := base) (k := 0) F1 sc_within_piece (fun cdv A outer s H E hr => d_within_piece T hr)
  have G2 := fn_arows (P := l.prog) (w := w) (K := K) (mg := mg) (base := base) (k := 1) F2 sc_add_rows (fun cdv A outer s H E hr => d_add_rows T (PySem.W.mg_of X G a1) F1.kp b1 (G1.mono (by decide)) hr)
  have G3 := fn_frows (P := l.prog) (w := w) (K := K) (mg := mg) (base := base) (k := 2) F3 sc_formula_rows (fun cdv A outer s H E hr => d_formula_rows T (PySem.W.mg_of X G a2) F2.kp b2 (G2.mono (by decide)) hr)
  have G4 := fn_rows (P := l.prog) (w := w) (K := K) (mg := mg) (base := base) (k := 3) F4 sc__rows (fun cdv A outer s H E hr => d__rows T (PySem.W.mg_of X G a3) F3.kp b3 (G3.mono (by decide)) (PySem.W.mg_of X G a0) F0.kp b0 (GH0.mono (by decide)) hr)
  have C4 := fn_cal (PySem.W.mg_of X G a4) F4 b4 G4
  have G5 : FnOk l.prog w K mg base CX0 1 f5 _ ["one", "other", "back", "for_ever"] (spS K (S_last)) := fn_ok (k := 0) F5 sc__lasting (fun as R h => by obtain ⟨_, _, _, _, _, rfl, _⟩ := h; rfl) (fun cdv A outer s H E hr => d__lasting T  hr) (fun as R h => w_last h)
  have C5 := fn_cal (PySem.W.mg_of X G a5) F5 b5 G5
  have G6 : FnOk l.prog w K mg base CX0 2 f6 _ ["row", "sets", "back", "found"] (spS K (S_tf)) := fn_ok (k := 1) F6 sc_truths_formulaparts (fun as R h => by obtain ⟨_, _, _, _, rfl, _⟩ := h; rfl) (fun cdv A outer s H E hr => d_truths_formulaparts T (C5.mono (by decide)) hr) (fun as R h => w_tf h)
  have C6 : Cal l.prog w K mg base "truths_formulaparts" ["row", "sets", "back", "found"] 2 (S_tf) := ⟨_, _, PySem.W.mg_of X G a6, F6.kp, b6, G6⟩
  have G7 : FnOk l.prog w K mg base CX0 3 f7 _ ["rows", "sets", "back"] (spS K (S_to)) := fn_ok (k := 2) F7 sc_truths_of (fun as R h => by obtain ⟨_, _, _, rfl, _⟩ := h; rfl) (fun cdv A outer s H E hr => d_truths_of T (C6.mono (by decide)) hr) (fun as R h => w_to h)
  have C7 := fn_cal (PySem.W.mg_of X G a7) F7 b7 G7
  have G8 : FnOk l.prog w K mg base CX0 5 f8 _ ["formula", "loop"] (spS K (S_tr)) := fn_ok (k := 4) F8 sc_truths_formulas (fun as R h => by obtain ⟨_, _, _, _, rfl, _⟩ := h; rfl) (fun cdv A outer s H E hr => d_truths_formulas T (C0.mono (by decide)) (C7.mono (by decide)) (C4.mono (by decide)) hr) (fun as R h => w_tr h)
  have C8 : Cal l.prog w K mg base "truths_formulas" ["formula", "loop"] 5 (S_tr) := ⟨_, _, PySem.W.mg_of X G a8, F8.kp, b8, G8⟩
  have G9 : FnOk l.prog w K mg base CX0 6 f9 _ ["formula", "loop"] (spS K (S_pt)) := fn_ok (k := 5) F9 sc_places_true (fun as R h => by obtain ⟨_, _, _, _, rfl, _⟩ := h; rfl) (fun cdv A outer s H E hr => d_places_true T (C8.mono (by decide)) hr) (fun as R h => w_pt h)
  have C9 := fn_cal (PySem.W.mg_of X G a9) F9 b9 G9
  have G10 : FnOk l.prog w K mg base CX0 6 f10 _ ["formula", "loop"] (spS K (S_is)) := fn_ok (k := 5) F10 sc_is_true (fun as R h => by obtain ⟨_, _, _, _, rfl, _⟩ := h; rfl) (fun cdv A outer s H E hr => d_is_true T (C8.mono (by decide)) hr) (fun as R h => w_is h)
  have C10 := fn_cal (PySem.W.mg_of X G a10) F10 b10 G10
  have G11 : FnOk l.prog w K mg base (L2.CX l.prog w) 1 f11 _ ["front", "circle", "number"] (spSX K (S_por CE_NoNumber)) := fn_okX (k := 0) F11 sc_place_of_run (fun as R RX h => by obtain ⟨_, _, rfl, _⟩ := h; rfl) (fun cdv A outer s H E hr => d_place_of_run T TX_NoNumber hr) (fun as R RX h => w_por h)
  have C11 := fn_calX (PySem.W.mg_of X G a11) F11 b11 G11
  have G12 : FnOk l.prog w K mg base (L2.CX l.prog w) 6 f12 _ ["formula", "loop", "number"] (spSX K (S_ta CE_NoNumber)) := fn_okX (k := 5) F12 sc_true_at (fun as R RX h => by obtain ⟨_, _, _, _, _, rfl, _⟩ := h; rfl) (fun cdv A outer s H E hr => d_true_at T (C0.mono (by decide)) (C11.mono (by decide)) (C8.mono (by decide)) hr) (fun as R RX h => w_ta h)
  have C12 := fn_calX (PySem.W.mg_of X G a12) F12 b12 G12
  have G13 : FnOk l.prog w K mg base CX0 1 f13 _ ["urn", "low_so"] (spS K (S_take)) := fn_ok (k := 0) F13 sc__law_take (fun as R h => by obtain ⟨_, _, _, rfl, _⟩ := h; rfl) (fun cdv A outer s H E hr => d__law_take T  hr) (fun as R h => w_take h)
  have C13 := fn_cal (PySem.W.mg_of X G a13) F13 b13 G13
  have G14 : FnOk l.prog w K mg base CX0 1 f14 _ ["script", "k"] (spS K (S_box)) := fn_ok (k := 0) F14 sc__law_box (fun as R h => by obtain ⟨_, _, rfl, _⟩ := h; rfl) (fun cdv A outer s H E hr => d__law_box T  hr) (fun as R h => w_box h)
  have C14 := fn_cal (PySem.W.mg_of X G a14) F14 b14 G14
  have G15 : FnOk l.prog w K mg base CX0 1 f15 _ ["script", "roof_so"] (spS K (S_cells)) := fn_ok (k := 0) F15 sc__law_cells (fun as R h => by obtain ⟨_, _, rfl, _⟩ := h; rfl) (fun cdv A outer s H E hr => d__law_cells T  hr) (fun as R h => w_cells h)
  have C15 := fn_cal (PySem.W.mg_of X G a15) F15 b15 G15
  have G16 : FnOk l.prog w K mg base CX0 2 f16 _ ["urn", "some_so"] (spS K (S_of)) := fn_ok (k := 1) F16 sc__law_of (fun as R h => by obtain ⟨_, _, _, rfl, _⟩ := h; rfl) (fun cdv A outer s H E hr => d__law_of T (C13.mono (by decide)) hr) (fun as R h => w_of h)
  have C16 := fn_cal (PySem.W.mg_of X G a16) F16 b16 G16
  have GI17 : ∀ n : Nat, FnOk l.prog w K mg base CX0 (0 + n + 1) f17 (PySem.W.fnOf "_law_lists" "_law_lists" (defArgs s__law_lists) (defBody s__law_lists) (defScope s__law_lists) .none kV17 dc17 pm17 an17 cd17 ct17) ["matter"] (spS K (S_lists n)) := by
    intro n
    induction n with
    | zero => exact fn_ok (k := 0) F17 sc__law_lists (fun as R h => by obtain ⟨_, _, rfl, _⟩ := h; rfl) (fun cdv A outer s H E hr => d__law_lists T (fn_cal (PySem.W.mg_of X G a17) F17 b17 (fn_no (k := 0))) hr) (fun as R h => w_lists0 h)
    | succ n ih => exact fn_ok (k := 0 + n + 1) F17 sc__law_lists (fun as R h => by obtain ⟨_, _, rfl, _⟩ := h; rfl) (fun cdv A outer s H E hr => d__law_lists T (fn_cal (PySem.W.mg_of X G a17) F17 b17 ih) hr) (fun as R h => w_lists h)
  have G17 := GI17 30
  have C17 := fn_cal (PySem.W.mg_of X G a17) F17 b17 G17
  have GI18 : ∀ n : Nat, FnOk l.prog w K mg base CX0 (0 + n + 1) f18 (PySem.W.fnOf "_law_same" "_law_same" (defArgs s__law_same) (defBody s__law_same) (defScope s__law_same) .none kV18 dc18 pm18 an18 cd18 ct18) ["got", "due"] (spS K (S_same n)) := by
    intro n
    induction n with
    | zero => exact fn_ok (k := 0) F18 sc__law_same (fun as R h => by obtain ⟨_, _, rfl, _⟩ := h; rfl) (fun cdv A outer s H E hr => d__law_same T (fn_cal (PySem.W.mg_of X G a18) F18 b18 (fn_no (k := 0))) hr) (fun as R h => w_same0 h)
    | succ n ih => exact fn_ok (k := 0 + n + 1) F18 sc__law_same (fun as R h => by obtain ⟨_, _, rfl, _⟩ := h; rfl) (fun cdv A outer s H E hr => d__law_same T (fn_cal (PySem.W.mg_of X G a18) F18 b18 ih) hr) (fun as R h => w_same h)
  have G18 := GI18 30
  have C18 := fn_cal (PySem.W.mg_of X G a18) F18 b18 G18
  have G19 : FnOk l.prog w K mg base CX0 2 f19 _ ["urn", "tags_so"] (spS K (S_set)) := fn_ok (k := 1) F19 sc__law_set (fun as R h => by obtain ⟨_, _, _, rfl, _⟩ := h; rfl) (fun cdv A outer s H E hr => d__law_set T (C13.mono (by decide)) hr) (fun as R h => w_set h)
  have C19 := fn_cal (PySem.W.mg_of X G a19) F19 b19 G19
  have G20 : FnOk l.prog w K mg base CX0 3 f20 _ ["urn", "tags_so", "size_so", "wide_so"] (spS K (S_ring)) := fn_ok (k := 2) F20 sc__law_ring (fun as R h => by obtain ⟨_, _, _, _, _, rfl, _⟩ := h; rfl) (fun cdv A outer s H E hr => d__law_ring T (C13.mono (by decide)) (C19.mono (by decide)) hr) (fun as R h => w_ring h)
  have C20 := fn_cal (PySem.W.mg_of X G a20) F20 b20 G20
  have GI21 : ∀ n : Nat, FnOk l.prog w K mg base CX0 (2 + n + 1) f21 (PySem.W.fnOf "_law_form" "_law_form" (defArgs s__law_form) (defBody s__law_form) (defScope s__law_form) .none kV21 dc21 pm21 an21 cd21 ct21) ["urn", "size_so", "tags_so", "still_so"] (spS K (S_form n)) := by
    intro n
    induction n with
    | zero => exact fn_ok (k := 2) F21 sc__law_form (fun as R h => by obtain ⟨_, _, _, _, rfl, _⟩ := h; rfl) (fun cdv A outer s H E hr => d__law_form T (C13.mono (by decide)) (C16.mono (by decide)) (fn_cal (PySem.W.mg_of X G a21) F21 b21 (fn_no (k := 2))) hr) (fun as R h => w_form0 h)
    | succ n ih => exact fn_ok (k := 2 + n + 1) F21 sc__law_form (fun as R h => by obtain ⟨_, _, _, _, rfl, _⟩ := h; rfl) (fun cdv A outer s H E hr => d__law_form T (C13.mono (by omega)) (C16.mono (by omega)) (fn_cal (PySem.W.mg_of X G a21) F21 b21 ih) hr) (fun as R h => w_form h)
  have G21 := GI21 6
  have C21 := fn_cal (PySem.W.mg_of X G a21) F21 b21 G21
  have G22 : FnOk l.prog w K mg base CX0 1 f22 _ ["ring", "k"] (spS K (S_at)) := fn_ok (k := 0) F22 sc__law_at (fun as R h => by obtain ⟨_, _, rfl, _⟩ := h; rfl) (fun cdv A outer s H E hr => d__law_at T  hr) (fun as R h => w_at h)
  have C22 := fn_cal (PySem.W.mg_of X G a22) F22 b22 G22
  have G23 : FnOk l.prog w K mg base CX0 1 f23 _ ["head", "near", "far", "walk"] (spS K (S_goes)) := fn_ok (k := 0) F23 sc__law_goes (fun as R h => by obtain ⟨_, _, _, _, _, rfl, _⟩ := h; rfl) (fun cdv A outer s H E hr => d__law_goes T  hr) (fun as R h => w_goes h)
  have C23 := fn_cal (PySem.W.mg_of X G a23) F23 b23 G23
  have GI24 : ∀ n : Nat, FnOk l.prog w K mg base CX0 (1 + n + 1) f24 (PySem.W.fnOf "_law_rows" "_law_rows" (defArgs s__law_rows) (defBody s__law_rows) (defScope s__law_rows) .none kV24 dc24 pm24 an24 cd24 ct24) ["form", "ring"] (spS K (S_rw n)) := by
    intro n
    induction n with
    | zero => exact fn_ok (k := 1) F24 sc__law_rows (fun as R h => by obtain ⟨_, _, rfl, _⟩ := h; rfl) (fun cdv A outer s H E hr => d__law_rows T (fn_cal (PySem.W.mg_of X G a24) F24 b24 (fn_no (k := 1))) (C22.mono (by decide)) (C23.mono (by decide)) hr) (fun as R h => w_rw0 h)
    | succ n ih => exact fn_ok (k := 1 + n + 1) F24 sc__law_rows (fun as R h => by obtain ⟨_, _, rfl, _⟩ := h; rfl) (fun cdv A outer s H E hr => d__law_rows T (fn_cal (PySem.W.mg_of X G a24) F24 b24 ih) (C22.mono (by omega)) (C23.mono (by omega)) hr) (fun as R h => w_rw h)
  have G24 := GI24 25
  have C24 := fn_cal (PySem.W.mg_of X G a24) F24 b24 G24
  have G25 : FnOk l.prog w K mg base CX0 1 f25 _ [] (spS K (S_kit)) := fn_ok (k := 0) F25 sc__law_kit (fun as R h => by obtain ⟨rfl, _⟩ := h; rfl) (fun cdv A outer s H E hr => d__law_kit T  hr) (fun as R h => w_kit h)
  have C25 := fn_cal (PySem.W.mg_of X G a25) F25 b25 G25
  have G26 : FnOk l.prog w K mg base CX0 7 f26 _ ["form", "ring", "k"] (spS K (S_heard CE_NoNumber)) := fn_ok (k := 6) F26 sc__law_heard (fun as R h => by obtain ⟨_, _, _, _, _, rfl, _⟩ := h; rfl) (fun cdv A outer s H E hr => d__law_heard T TX_NoNumber TI_NoNumber_ModelError mB_ModelError (C12.mono (by decide)) hr) (fun as R h => w_heard h)
  have C26 := fn_cal (PySem.W.mg_of X G a26) F26 b26 G26
  have G27 : FnOk l.prog w K mg base CX0 28 f27 _ ["form", "ring"] (spS K (S_spots)) := fn_ok (k := 27) F27 sc__law_spots (fun as R h => by obtain ⟨_, _, rfl, _⟩ := h; rfl) (fun cdv A outer s H E hr => d__law_spots T (C24.mono (by decide)) hr) (fun as R h => w_spots h)
  have C27 := fn_cal (PySem.W.mg_of X G a27) F27 b27 G27
  have G28 : FnOk l.prog w K mg base CX0 32 f28 _ [] (spS K (S_hand 30)) := fn_ok (k := 31) F28 sc__law_by_hand_right (fun as R h => by obtain ⟨rfl, _⟩ := h; rfl) (fun cdv A outer s H E hr => d__law_by_hand_right T (C25.mono (by decide)) (C10.mono (by decide)) (C9.mono (by decide)) (C12.mono (by decide)) (C26.mono (by decide)) (C18.mono (by decide)) ⟨_, _, PySem.W.mg_of X G a10, F10.kp, kb0, G10.mono (by decide)⟩ ⟨_, _, PySem.W.mg_of X G a9, F9.kp, kb1, G9.mono (by decide)⟩ ⟨_, _, PySem.W.mg_of X G a12, F12.kp, kb2, G12.mono (by decide)⟩ hr) (fun as R h => w_hand h)
  have C28 := fn_cal (PySem.W.mg_of X G a28) F28 b28 G28
  have G29 : FnOk l.prog w K mg base CX0 32 f29 _ ["tin"] (spS K (S_right)) := fn_ok (k := 31) F29 sc__law_right (fun as R h => by obtain ⟨_, rfl, _⟩ := h; rfl) (fun cdv A outer s H E hr => d__law_right T (C20.mono (by decide)) (C21.mono (by decide)) (C24.mono (by decide)) (C13.mono (by decide)) (C12.mono (by decide)) (C10.mono (by decide)) (C9.mono (by decide)) (C17.mono (by decide)) (C27.mono (by decide)) (C22.mono (by decide)) (C18.mono (by decide)) hr) (fun as R h => w_right h)
  have C29 := fn_cal (PySem.W.mg_of X G a29) F29 b29 G29
  have G30 : FnOk l.prog w K mg base CX0 33 fa _ ["script"] (spS K (sLaw)) := fn_ok (k := 32) F30 sc_law (fun as R h => by obtain ⟨_, _, rfl, _⟩ := h; rfl) (fun cdv A outer s H E hr => d_law T (C28.mono (by decide)) (C15.mono (by decide)) (C29.mono (by decide)) (C14.mono (by decide)) hr) (fun as R h => w_law h)
  exact fn_law G30
end K28

open PySem PySem.W PyProof.Rows
set_option maxHeartbeats 0 in
theorem PySem.Challenge.cw_runclaims_k28_what_formulas_mean_holds : PySem.Challenge.rw_runclaims_k28_what_formulas_mean.Holds := by
  w_on; o_law; k_head; (case hw => w_witness2)
  k_fill
  refine L2.walk_of (l := PySem.Challenge.rw_runclaims_k28_what_formulas_mean) (n := 63) (k := 33) (x := "script") (CX := fun _ => L2.CX0) (sp := fun w => DL.spLaw _) rfl (by decide) rfl ⟨rfl, by decide, by decide⟩ (fun w h Y => PySem.W.kIn_of Y) ?F (fun _ _ a ns hl _ hS => ⟨a, ns, rfl, hS, hl, fun _ => rfl⟩) (fun _ _ _ _ _ h => h)
  case F =>
    intro w mg fa h KX G hmg
    refine' K28.all_mk KX G hmg ?a0 ?l0 ?c0 ?k0 ?a1 ?l1 ?c1 ?k1 ?a2 ?l2 ?c2 ?k2 ?a3 ?l3 ?c3 ?k3 ?a4 ?l4 ?c4 ?k4 ?a5 ?l5 ?c5 ?k5 ?a6 ?l6 ?c6 ?k6 ?a7 ?l7 ?c7 ?k7 ?a8 ?l8 ?c8 ?k8 ?a9 ?l9 ?c9 ?k9 ?a10 ?l10 ?c10 ?k10 ?a11 ?l11 ?c11 ?k11 ?a12 ?l12 ?c12 ?k12 ?a13 ?l13 ?c13 ?k13 ?a14 ?l14 ?c14 ?k14 ?a15 ?l15 ?c15 ?k15 ?a16 ?l16 ?c16 ?k16 ?a17 ?l17 ?c17 ?k17 ?a18 ?l18 ?c18 ?k18 ?a19 ?l19 ?c19 ?k19 ?a20 ?l20 ?c20 ?k20 ?a21 ?l21 ?c21 ?k21 ?a22 ?l22 ?c22 ?k22 ?a23 ?l23 ?c23 ?k23 ?a24 ?l24 ?c24 ?k24 ?a25 ?l25 ?c25 ?k25 ?a26 ?l26 ?c26 ?k26 ?a27 ?l27 ?c27 ?k27 ?a28 ?l28 ?c28 ?k28 ?a29 ?l29 ?c29 ?k29 ?a30 ?l30 ?c30 ?k30 ?z0 ?z1 ?z2 ?z3 ?z4 ?z5 ?z6 ?z7 ?z8 ?z9 ?z10 ?z11 ?z12 ?e0aC ?e0xL ?e0sa ?e0ga ?e0gg ?e0nb ?e0a1 ?e0t1 ?e0l1 ?e0c1 ?e0kC ?e0eC ?e0tC ?e0hC ?e0iC ?e0sC ?i0aM ?i0ha ?i0hn ?i0ht ?i0hm ?i0is ?i0ty ?i0su
    (case a0 => k_is); (case l0 => k_is); (case c0 => k_is); (case k0 => k_is); (case a1 => k_is); (case l1 => k_is); (case c1 => k_is); (case k1 => k_is); (case a2 => k_is); (case l2 => k_is); (case c2 => k_is); (case k2 => k_is); (case a3 => k_is); (case l3 => k_is); (case c3 => k_is); (case k3 => k_is); (case a4 => k_is); (case l4 => k_is); (case c4 => k_is); (case k4 => k_is); (case a5 => k_is); (case l5 => k_is); (case c5 => k_is); (case k5 => k_is); (case a6 => k_is); (case l6 => k_is); (case c6 => k_is); (case k6 => k_is); (case a7 => k_is); (case l7 => k_is); (case c7 => k_is); (case k7 => k_is); (case a8 => k_is); (case l8 => k_is); (case c8 => k_is); (case k8 => k_is); (case a9 => k_is); (case l9 => k_is); (case c9 => k_is); (case k9 => k_is); (case a10 => k_is); (case l10 => k_is); (case c10 => k_is); (case k10 => k_is); (case a11 => k_is); (case l11 => k_is); (case c11 => k_is); (case k11 => k_is); (case a12 => k_is); (case l12 => k_is); (case c12 => k_is); (case k12 => k_is); (case a13 => k_is); (case l13 => k_is); (case c13 => k_is); (case k13 => k_is); (case a14 => k_is); (case l14 => k_is); (case c14 => k_is); (case k14 => k_is); (case a15 => k_is); (case l15 => k_is); (case c15 => k_is); (case k15 => k_is); (case a16 => k_is); (case l16 => k_is); (case c16 => k_is); (case k16 => k_is); (case a17 => k_is); (case l17 => k_is); (case c17 => k_is); (case k17 => k_is); (case a18 => k_is); (case l18 => k_is); (case c18 => k_is); (case k18 => k_is); (case a19 => k_is); (case l19 => k_is); (case c19 => k_is); (case k19 => k_is); (case a20 => k_is); (case l20 => k_is); (case c20 => k_is); (case k20 => k_is); (case a21 => k_is); (case l21 => k_is); (case c21 => k_is); (case k21 => k_is); (case a22 => k_is); (case l22 => k_is); (case c22 => k_is); (case k22 => k_is); (case a23 => k_is); (case l23 => k_is); (case c23 => k_is); (case k23 => k_is); (case a24 => k_is); (case l24 => k_is); (case c24 => k_is); (case k24 => k_is); (case a25 => k_is); (case l25 => k_is); (case c25 => k_is); (case k25 => k_is); (case a26 => k_is); (case l26 => k_is); (case c26 => k_is); (case k26 => k_is); (case a27 => k_is); (case l27 => k_is); (case c27 => k_is); (case k27 => k_is); (case a28 => k_is); (case l28 => k_is); (case c28 => k_is); (case k28 => k_is); (case a29 => k_is); (case l29 => k_is); (case c29 => k_is); (case k29 => k_is); (case a30 => k_is); (case l30 => k_is); (case c30 => k_is); (case k30 => k_is); (case z0 => k_is); (case z1 => k_is); (case z2 => k_is); (case z3 => k_is); (case z4 => k_is); (case z5 => k_is); (case z6 => k_is); (case z7 => k_is); (case z8 => k_is); (case z9 => k_is); (case z10 => k_is); (case z11 => k_is); (case z12 => k_is); (case e0aC => k_is); (case e0xL => k_is); (case e0sa => k_is); (case e0ga => k_is); (case e0gg => k_is); (case e0nb => k_is); (case e0a1 => k_is); (case e0t1 => k_is); (case e0l1 => k_is); (case e0c1 => k_is); (case e0kC => k_is); (case e0eC => k_is); (case e0tC => k_is); (case e0hC => k_is); (case e0iC => k_is); (case e0sC => k_is); (case i0aM => k_is); (case i0ha => k_is); (case i0hn => k_is); (case i0ht => k_is); (case i0hm => k_is); (case i0is => k_is); (case i0ty => k_is); (case i0su => k_is)
