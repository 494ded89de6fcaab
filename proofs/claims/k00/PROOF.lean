import PyProof.Rows.All
import Wide.All
import OpenK.AllK
import Wide.FinOn
import PySem.Challenge.RW_runclaims_k00_errors
import HandS.Base
import HandS.Call
import HandS.List
import HandS.Comp
import HandS.Iter
import HandS.Text
import HandS.Words
import HandS.ExcValue
import HandS.TupAny
import HandS.IsInst
import HandS.Flow
import HandS.Deep
import HandS.Zip
import HandS.Walk
import HandS.Exc
import HandS.ExcOwn
import HandS.WordsExc
import KE.GoesEnum
import HandS.Defaults
import HandS.Style
import KE.KExcIs
import HandS.MakeKwOnly
set_option Elab.async false
set_option linter.all false
set_option maxRecDepth 100000
set_option maxHeartbeats 4000000
namespace DL
open PySem PySem.Spec PyProof.Rows L2

/-- an error of the class at C, its dict at od, not raised -/
def ExD (C a : Addr) (od : Option Addr) : HO := .ext fun h => ∃ (oe : Obj) (vs : Array Value), h.get? a = some oe ∧ Zc (.ref C) od oe ∧ oe.data = .fields vs
/-! ## plain data at values; errors as dicts that tell class and field -/
mutual
inductive Dd (K : PySem.W.Frag) (G : Hp) : V → PyData → Prop
  | non : Dd K G .non .none
  | bl (b : Bool) : Dd K G (.bl b) (.bool b)
  | int (i : Int) : Dd K G (.int i) (.int i)
  | str (x : Str) : Dd K G (.str x) (.str x)
  | lst {a : Addr} {xs : List V} {ds : List PyData} : G a = some (.lst xs) → DdAll K G xs ds → Dd K G (.ref a) (.list ds)
  | tup {a : Addr} {xs : List V} {ds : List PyData} : SqT K G a xs → DdAll K G xs ds → Dd K G (.ref a) (.tuple ds)
  | exc0 {a C : Addr} : G a = some (ExD C a none) → Dd K G (.ref a) (.dict [(.int (Int.ofNat C), .none)])
  | exc1 {a C d : Addr} {f : Str} {v : V} {x : PyData} : G a = some (ExD C a (some d)) → G d = some (.xd [(f, v)]) → Dd K G v x → Dd K G (.ref a) (.dict [(.int (Int.ofNat C), .none), (.str f, x)])
inductive DdAll (K : PySem.W.Frag) (G : Hp) : List V → List PyData → Prop
  | nil : DdAll K G [] []
  | cons {v : V} {vs : List V} {d : PyData} {ds : List PyData} : Dd K G v d → DdAll K G vs ds → DdAll K G (v :: vs) (d :: ds)
end

section
variable {K : PySem.W.Frag} {G G' H H' : Hp}
theorem rd_same {a : Addr} {u : HO} (e : Same G G') (h : Rd G a u) : Rd G' a u := by
  rcases h with h | ⟨o, h⟩
  · exact Or.inl (e a _ h)
  · exact Or.inr ⟨o, e a _ h⟩
theorem sqL_same {a : Addr} {xs : List V} (e : Same G G') (h : SqL K G a xs) : SqL K G' a xs := by
  rcases h with h | h
  · exact Or.inl (rd_same e h)
  · exact Or.inr h
theorem sqT_same {a : Addr} {xs : List V} (e : Same G G') (h : SqT K G a xs) : SqT K G' a xs := by
  rcases h with h | h
  · exact Or.inl (rd_same e h)
  · exact Or.inr h
mutual
theorem Dd.mono (e : Same G G') : ∀ {v : V} {d : PyData}, Dd K G v d → Dd K G' v d
  | _, _, .non => .non
  | _, _, .bl b => .bl b
  | _, _, .int i => .int i
  | _, _, .str x => .str x
  | _, _, .lst h a => .lst (e _ _ h) (DdAll.mono e a)
  | _, _, .tup h a => .tup (sqT_same e h) (DdAll.mono e a)
  | _, _, .exc0 h => .exc0 (e _ _ h)
  | _, _, .exc1 h h2 a => .exc1 (e _ _ h) (e _ _ h2) (Dd.mono e a)
theorem DdAll.mono (e : Same G G') : ∀ {vs : List V} {ds : List PyData}, DdAll K G vs ds → DdAll K G' vs ds
  | _, _, .nil => .nil
  | _, _, .cons h a => .cons (Dd.mono e h) (DdAll.mono e a)
end
mutual
theorem Dd.dp : ∀ {v : V} {d : PyData}, Dd K G v d → d.canLay0 = true → Dp K G v d
  | _, _, .non, _ => .non
  | _, _, .bl b, _ => .bl b
  | _, _, .int i, _ => .int i
  | _, _, .str x, _ => .str x
  | _, _, .lst h a, c => .lst (SqL.of h) (DdAll.dp a (by simpa [PyData.canLay0] using c))
  | _, _, .tup h a, c => .tup h (DdAll.dp a (by simpa [PyData.canLay0] using c))
  | _, _, .exc0 _, c => by simp [PyData.canLay0] at c
  | _, _, .exc1 _ _ _, c => by simp [PyData.canLay0] at c
theorem DdAll.dp : ∀ {vs : List V} {ds : List PyData}, DdAll K G vs ds → PyData.canLayAll0 ds = true → DpAll K G vs ds
  | _, _, .nil, _ => .nil
  | _, _, .cons h a, c => by
    simp [PyData.canLayAll0] at c
    exact .cons (Dd.dp h c.1) (DdAll.dp a c.2)
end
theorem DdAll.length : ∀ {vs : List V} {ds : List PyData}, DdAll K G vs ds → vs.length = ds.length
  | _, _, .nil => rfl
  | _, _, .cons _ a => congrArg Nat.succ (DdAll.length a)
theorem DdAll.get : ∀ {vs : List V} {ds : List PyData} {i : Nat} {d : PyData}, DdAll K G vs ds → ds[i]? = some d → ∃ v, vs[i]? = some v ∧ Dd K G v d
  | _, _, i, d, .nil, h => by simp at h
  | _, _, 0, d, .cons (v := v) h a, e => by
    simp at e; subst e; exact ⟨v, by simp, h⟩
  | _, _, i + 1, d, .cons h a, e => by
    obtain ⟨v, h1, h2⟩ := DdAll.get (i := i) a (by simpa using e)
    exact ⟨v, by simpa using h1, h2⟩
theorem DdAll.getv : ∀ {vs : List V} {ds : List PyData} {i : Nat} {v : V}, DdAll K G vs ds → vs[i]? = some v → ∃ d, ds[i]? = some d ∧ Dd K G v d
  | _, _, i, d, .nil, h => by simp at h
  | _, _, 0, _, .cons (d := d) h a, e => by
    simp at e; subst e; exact ⟨d, by simp, h⟩
  | _, _, i + 1, d, .cons h a, e => by
    obtain ⟨v, h1, h2⟩ := DdAll.getv (i := i) a (by simpa using e)
    exact ⟨v, by simpa using h1, h2⟩
theorem DdAll.app : ∀ {vs us : List V} {ds es : List PyData}, DdAll K G vs ds → DdAll K G us es → DdAll K G (vs ++ us) (ds ++ es)
  | _, _, _, _, .nil, b => b
  | _, _, _, _, .cons h a, b => .cons h (DdAll.app a b)
theorem DdAll.set : ∀ {vs : List V} {ds : List PyData} {v : V} {d : PyData} (i : Nat), DdAll K G vs ds → Dd K G v d → DdAll K G (vs.set i v) (ds.set i d)
  | _, _, _, _, i, .nil, _ => by cases i <;> exact .nil
  | _, _, _, _, 0, .cons h a, b => .cons b a
  | _, _, _, _, i + 1, .cons h a, b => .cons h (DdAll.set i a b)
theorem DdAll.take : ∀ {vs : List V} {ds : List PyData} (n : Nat), DdAll K G vs ds → DdAll K G (vs.take n) (ds.take n)
  | _, _, 0, _ => by simpa using DdAll.nil
  | _, _, n + 1, .nil => by simpa using DdAll.nil
  | _, _, n + 1, .cons h a => .cons h (DdAll.take n a)
theorem DdAll.drop : ∀ {vs : List V} {ds : List PyData} (n : Nat), DdAll K G vs ds → DdAll K G (vs.drop n) (ds.drop n)
  | _, _, 0, a => a
  | _, _, n + 1, .nil => by simpa using DdAll.nil
  | _, _, n + 1, .cons h a => DdAll.drop n a
end

/-! ## the frame: what stands in the slots -/
inductive Sl where
  | un
  | dat (d : PyData)
  | own (ds : List PyData)
  | par (ds : List PyData)
  | scr (ds : List PyData)
abbrev Gam := List Sl
/-- the base: H, G at some time ahead; P may be changed since; N: new for this def -/
structure Bs where
  H : Hp
  G : Hp
  P : Addr → Prop
  N : Addr → Prop
  A : Nat → Addr
/-- slot i holds a list that is one's own, with these items -/
def Own (Γ : Gam) (i : Nat) (ds : List PyData) : Prop := Γ[i]? = some (Sl.own ds) ∨ Γ[i]? = some (Sl.par ds)
structure En (K : PySem.W.Frag) (B : Bs) (σ : L2.St) (H G : Hp) (Γ : Gam) : Prop where
  len : σ.length = Γ.length
  gh : Same G H
  g0 : Same B.G G
  h0 : ∀ q o, B.H q = some o → ¬ B.P q → H q = some o
  bh : ∀ q, B.H q ≠ none → H q ≠ none
  f0 : ∀ q, B.H q ≠ none → B.G q = none → G q = none
  nn : ∀ q, H q = none → B.N q
  dat : ∀ (i : Nat) d, Γ[i]? = some (Sl.dat d) → ∃ v, σ[i]? = some (some v) ∧ Dd K G v d
  mine : ∀ (i : Nat) ds, Own Γ i ds → ∃ p vs, σ[i]? = some (some (V.ref p)) ∧ G p = none ∧ H p = some (.lst vs) ∧ DdAll K G vs ds ∧ (B.P p ∨ B.H p = none)
  new : ∀ (i : Nat) ds, Γ[i]? = some (Sl.own ds) → ∃ p, σ[i]? = some (some (V.ref p)) ∧ B.N p
  par : ∀ (i : Nat) ds, Γ[i]? = some (Sl.par ds) → σ[i]? = some (some (V.ref (B.A i)))
  scr : ∀ (i : Nat) ds, Γ[i]? = some (Sl.scr ds) → ∃ p vs, σ[i]? = some (some (V.ref p)) ∧ SqL K G p vs ∧ DdAll K G vs ds
  inj : ∀ (i j : Nat) p ds es, Own Γ i ds → Own Γ j es → σ[i]? = some (some (V.ref p)) → σ[j]? = some (some (V.ref p)) → i = j
/-- of one kind, slot by slot -/
def KS1 : Sl → Sl → Prop
  | .un, .un => True
  | .dat d, .dat e => d = e
  | .own _, .own _ => True
  | .par _, .par _ => True
  | .scr d, .scr e => d = e
  | _, _ => False
structure KS (Γ Γ' : Gam) : Prop where
  len : Γ.length = Γ'.length
  at' : ∀ (i : Nat) a b, Γ[i]? = some a → Γ'[i]? = some b → KS1 a b
theorem KS1.refl : ∀ a : Sl, KS1 a a
  | .un => trivial
  | .dat _ => rfl
  | .own _ => trivial
  | .par _ => trivial
  | .scr _ => rfl
theorem KS1.trans : ∀ {a b c : Sl}, KS1 a b → KS1 b c → KS1 a c
  | .un, .un, .un, _, _ => trivial
  | .dat _, .dat _, .dat _, h, h' => Eq.trans h h'
  | .own _, .own _, .own _, _, _ => trivial
  | .par _, .par _, .par _, _, _ => trivial
  | .scr _, .scr _, .scr _, h, h' => Eq.trans h h'
theorem KS.refl (Γ : Gam) : KS Γ Γ := ⟨rfl, fun i a b h h' => by rw [h] at h'; cases h'; exact KS1.refl a⟩
theorem KS.trans {a b c : Gam} (h : KS a b) (h' : KS b c) : KS a c := ⟨h.len.trans h'.len, fun i x z hx hz => by
  have li : i < b.length := by
    have := (List.getElem?_eq_some_iff.mp hx).1
    rw [← h.len]; exact this
  have hy : b[i]? = some b[i] := List.getElem?_eq_getElem li
  exact (h.at' i x _ hx hy).trans (h'.at' i _ z hy hz)⟩
theorem KS.ownB {Γ Γ' : Gam} (h : KS Γ Γ') {i : Nat} {ds : List PyData} (o : Γ'[i]? = some (Sl.own ds)) : ∃ es, Γ[i]? = some (Sl.own es) := by
  have li : i < Γ.length := by
    have := (List.getElem?_eq_some_iff.mp o).1
    rw [h.len]; exact this
  have hy : Γ[i]? = some Γ[i] := List.getElem?_eq_getElem li
  have k := h.at' i _ _ hy o
  cases e : Γ[i] with
  | own es => exact ⟨es, by rw [hy, e]⟩
  | un => rw [e] at k; exact k.elim
  | dat _ => rw [e] at k; exact k.elim
  | par _ => rw [e] at k; exact k.elim
  | scr _ => rw [e] at k; exact k.elim
theorem KS.parB {Γ Γ' : Gam} (h : KS Γ Γ') {i : Nat} {ds : List PyData} (o : Γ'[i]? = some (Sl.par ds)) : ∃ es, Γ[i]? = some (Sl.par es) := by
  have li : i < Γ.length := by
    have := (List.getElem?_eq_some_iff.mp o).1
    rw [h.len]; exact this
  have hy : Γ[i]? = some Γ[i] := List.getElem?_eq_getElem li
  have k := h.at' i _ _ hy o
  cases e : Γ[i] with
  | par es => exact ⟨es, by rw [hy, e]⟩
  | un => rw [e] at k; exact k.elim
  | dat _ => rw [e] at k; exact k.elim
  | own _ => rw [e] at k; exact k.elim
  | scr _ => rw [e] at k; exact k.elim
theorem KS.mineB {Γ Γ' : Gam} (h : KS Γ Γ') {i : Nat} {ds : List PyData} (o : Own Γ' i ds) : ∃ es, Own Γ i es := by
  rcases o with o | o
  · obtain ⟨es, e⟩ := h.ownB o; exact ⟨es, .inl e⟩
  · obtain ⟨es, e⟩ := h.parB o; exact ⟨es, .inr e⟩

section
variable {K : PySem.W.Frag} {B : Bs} {σ : L2.St} {H G H' G' : Hp} {Γ Γ' : Gam}
/-- the base moved up to now -/
def rebase (B : Bs) (σ : L2.St) (H G : Hp) (Γ : Gam) : Bs := ⟨H, G, fun p => ∃ (i : Nat) (ds : List PyData), Own Γ i ds ∧ σ[i]? = some (some (V.ref p)), B.N, B.A⟩
theorem En.rebase (e : En K B σ H G Γ) : En K (rebase B σ H G Γ) σ H G Γ where
  len := e.len
  gh := e.gh
  g0 := Same.refl G
  h0 := fun q o h _ => h
  bh := fun q h => h
  f0 := fun q _ h => h
  nn := e.nn
  dat := e.dat
  mine := fun i ds o => by
    obtain ⟨p, vs, h1, h2, h3, h4, _⟩ := e.mine i ds o
    exact ⟨p, vs, h1, h2, h3, h4, .inl ⟨i, ds, o, h1⟩⟩
  new := e.new
  par := e.par
  scr := e.scr
  inj := e.inj
/-- and back -/
theorem En.unbase (e : En K B σ H G Γ) (e' : En K (DL.rebase B σ H G Γ) σ H' G' Γ') (k : KS Γ Γ') : En K B σ H' G' Γ' where
  len := e'.len
  gh := e'.gh
  g0 := e.g0.trans e'.g0
  h0 := fun q o h hp => by
    refine e'.h0 q o (e.h0 q o h hp) ?_
    rintro ⟨i, ds, ow, hs⟩
    obtain ⟨p, vs, h1, h2, h3, h4, h5⟩ := e.mine i ds ow
    rw [hs] at h1
    cases h1
    rcases h5 with h5 | h5
    · exact hp h5
    · rw [h] at h5; cases h5
  bh := fun q h => e'.bh q (e.bh q h)
  f0 := fun q h h' => e'.f0 q (e.bh q h) (e.f0 q h h')
  nn := e'.nn
  dat := e'.dat
  mine := fun i ds o => by
    obtain ⟨es, o0⟩ := k.mineB o
    obtain ⟨p, vs, h1, h2, h3, h4, h5⟩ := e'.mine i ds o
    obtain ⟨p', vs', g1, g2, g3, g4, g5⟩ := e.mine i es o0
    rw [h1] at g1
    cases g1
    exact ⟨p, vs, h1, h2, h3, h4, g5⟩
  new := e'.new
  par := e'.par
  scr := e'.scr
  inj := e'.inj
/-- what stands apart from all that is one's own stays -/
theorem En.stays (e : En K B σ H G Γ) (e' : En K (DL.rebase B σ H G Γ) σ H' G' Γ') {q : Addr} {o : HO} (h : H q = some o) (hn : ∀ (i : Nat) ds, Own Γ i ds → σ[i]? ≠ some (some (V.ref q))) : H' q = some o :=
  e'.h0 q o h fun ⟨i, ds, ow, hs⟩ => hn i ds ow hs
theorem En.scrG (e : En K B σ H G Γ) (s : Same G G') : ∀ (i : Nat) ds, Γ[i]? = some (Sl.scr ds) → ∃ p vs, σ[i]? = some (some (V.ref p)) ∧ SqL K G' p vs ∧ DdAll K G' vs ds := fun i ds h => by
  obtain ⟨p, vs, h1, h2, h3⟩ := e.scr i ds h
  exact ⟨p, vs, h1, sqL_same s h2, h3.mono s⟩
/-- a new thing is laid, frozen -/
theorem En.laid {p : Addr} {o : HO} (e : En K B σ H G Γ) (hp : H p = none) : En K B σ (upd H p o) (upd G p o) Γ := by
  have gp : G p = none := by
    cases q : G p with
    | none => rfl
    | some u => rw [e.gh p u q] at hp; cases hp
  have sH : Same H (upd H p o) := fun b x h => by rw [upd_ne (ne_of_none h hp)]; exact h
  have sG : Same G (upd G p o) := fun b x h => by rw [upd_ne (ne_of_none h gp)]; exact h
  refine ⟨e.len, fun b x h => ?_, e.g0.trans sG, fun q x h h' => sH _ _ (e.h0 q x h h'), fun q h z => ?_, fun q h h' => ?_, fun q h => e.nn q ?_, fun i d h => ?_, fun i ds ow => ?_, e.new, e.par, e.scrG sG, e.inj⟩
  · by_cases hb : b = p
    · subst hb; rw [upd_same] at h ⊢; exact h
    · rw [upd_ne hb] at h ⊢; exact e.gh b x h
  · have := e.bh q h
    cases q1 : H q with
    | none => exact this q1
    | some u => rw [sH q u q1] at z; cases z
  · have hq : q ≠ p := fun z => by
      have := e.bh q h
      rw [z] at this
      exact this hp
    rw [upd_ne hq]
    exact e.f0 q h h'
  · cases q1 : H q with
    | none => rfl
    | some u => rw [sH q u q1] at h; cases h
  · obtain ⟨v, h1, h2⟩ := e.dat i d h
    exact ⟨v, h1, h2.mono sG⟩
  · obtain ⟨q, vs, h1, h2, h3, h4, h5⟩ := e.mine i ds ow
    refine ⟨q, vs, h1, ?_, sH _ _ h3, h4.mono sG, h5⟩
    rw [upd_ne (ne_of_none h3 hp)]
    exact h2
/-- .. not frozen -/
theorem En.laidN {p : Addr} {o : HO} (e : En K B σ H G Γ) (hp : H p = none) : En K B σ (upd H p o) G Γ := by
  have sH : Same H (upd H p o) := fun b x h => by rw [upd_ne (ne_of_none h hp)]; exact h
  refine ⟨e.len, e.gh.trans sH, e.g0, fun q x h h' => sH _ _ (e.h0 q x h h'), fun q h z => ?_, e.f0, fun q h => e.nn q ?_, e.dat, fun i ds ow => ?_, e.new, e.par, e.scr, e.inj⟩
  · have := e.bh q h
    cases q1 : H q with
    | none => exact this q1
    | some u => rw [sH q u q1] at z; cases z
  · cases q1 : H q with
    | none => rfl
    | some u => rw [sH q u q1] at h; cases h
  · obtain ⟨q, vs, h1, h2, h3, h4, h5⟩ := e.mine i ds ow
    exact ⟨q, vs, h1, h2, sH _ _ h3, h4, h5⟩
/-- a list that is nobody's is frozen -/
theorem En.freeze {p : Addr} {o : HO} (e : En K B σ H G Γ) (hp : H p = some o) (gp : G p = none) (bp : B.H p = none) (hn : ∀ (i : Nat) ds, Own Γ i ds → σ[i]? ≠ some (some (V.ref p))) : En K B σ H (upd G p o) Γ := by
  have sG : Same G (upd G p o) := fun b x h => by rw [upd_ne (ne_of_none h gp)]; exact h
  refine ⟨e.len, fun b x h => ?_, e.g0.trans sG, e.h0, e.bh, fun q h h' => ?_, e.nn, fun i d h => ?_, fun i ds ow => ?_, e.new, e.par, e.scrG sG, e.inj⟩
  · by_cases hb : b = p
    · subst hb; rw [upd_same] at h; cases h; exact hp
    · rw [upd_ne hb] at h; exact e.gh b x h
  · have hq : q ≠ p := fun z => by rw [z] at h; exact h bp
    rw [upd_ne hq]
    exact e.f0 q h h'
  · obtain ⟨v, h1, h2⟩ := e.dat i d h
    exact ⟨v, h1, h2.mono sG⟩
  · obtain ⟨q, vs, h1, h2, h3, h4, h5⟩ := e.mine i ds ow
    refine ⟨q, vs, h1, ?_, h3, h4.mono sG, h5⟩
    have hq : q ≠ p := fun z => hn i ds ow (by rw [h1, z])
    rw [upd_ne hq]
    exact h2
end
end DL

namespace DL
open PySem PySem.Spec PyProof.Rows L2

/-! ## readings over data -/
abbrev WE := Gam → (PyData → Gam → Prop) → Prop
abbrev WT := Gam → (Bool → Gam → Prop) → Prop
abbrev WA := Gam → (List PyData → Gam → Prop) → Prop
def RE (K : PySem.W.Frag) (t : TE) (W : WE) : Prop :=
  ∀ (B : Bs) (Γ : Gam) (σ : L2.St) (H G : Hp) (Q : PyData → Gam → Prop) (Q' : VK), En K B σ H G Γ → W Γ Q →
    (∀ v H' G' d Γ', En K B σ H' G' Γ' → Same G G' → KS Γ Γ' → Dd K G' v d → Q d Γ' → Q' v H') → t σ H Q'
/-- a new list, nobody's yet -/
def RN (K : PySem.W.Frag) (t : TE) (W : WA) : Prop :=
  ∀ (B : Bs) (Γ : Gam) (σ : L2.St) (H G : Hp) (Q : List PyData → Gam → Prop) (Q' : VK), En K B σ H G Γ → W Γ Q →
    (∀ p vs H' G' ds Γ', En K B σ H' G' Γ' → Same G G' → KS Γ Γ' → G' p = none → H' p = some (.lst vs) → DdAll K G' vs ds → B.H p = none → B.N p → (∀ (i : Nat) es, Own Γ' i es → σ[i]? ≠ some (some (V.ref p))) → Q ds Γ' → Q' (.ref p) H') → t σ H Q'
def RT (K : PySem.W.Frag) (t : TT) (W : WT) : Prop :=
  ∀ (B : Bs) (Γ : Gam) (σ : L2.St) (H G : Hp) (Q : Bool → Gam → Prop) (Q' : Bool → Hp → Prop), En K B σ H G Γ → W Γ Q →
    (∀ b H' G' Γ', En K B σ H' G' Γ' → Same G G' → KS Γ Γ' → Q b Γ' → Q' b H') → t σ H Q'
def RA (K : PySem.W.Frag) (t : TA) (W : WA) : Prop :=
  ∀ (B : Bs) (Γ : Gam) (σ : L2.St) (H G : Hp) (Q : List PyData → Gam → Prop) (Q' : List V → Hp → Prop), En K B σ H G Γ → W Γ Q →
    (∀ vs H' G' ds Γ', En K B σ H' G' Γ' → Same G G' → KS Γ Γ' → DdAll K G' vs ds → Q ds Γ' → Q' vs H') → t σ H Q'
structure DE (X : Cx) (e : Expr) (W : WE) : Prop where
  ex : ∃ t, PE X e t ∧ RE X.K t W
structure DN (X : Cx) (e : Expr) (W : WA) : Prop where
  ex : ∃ t, PE X e t ∧ RN X.K t W
structure DT (X : Cx) (e : Expr) (W : WT) : Prop where
  ex : ∃ t, PT X e t ∧ RT X.K t W
structure DA (X : Cx) (es : List Expr) (W : WA) : Prop where
  ex : ∃ t, PA X es t ∧ RA X.K t W
/-- a two-place operation by values -/
abbrev F2 := PyData → PyData → (PyData → Prop) → Prop
def RV2 (K : PySem.W.Frag) (r : R2) (f : F2) : Prop :=
  ∀ (B : Bs) (Γ : Gam) (σ : L2.St) (H G : Hp) (x y : V) (dx dy : PyData) (Q : PyData → Prop) (Q' : VK), En K B σ H G Γ → Dd K G x dx → Dd K G y dy → f dx dy Q →
    (∀ v H' G' d, En K B σ H' G' Γ → Same G G' → Dd K G' v d → Q d → Q' v H') → r x y H Q'
abbrev FA := List PyData → (PyData → Prop) → Prop
def RVA (K : PySem.W.Frag) (r : List V → Hp → VK → Prop) (f : FA) : Prop :=
  ∀ (B : Bs) (Γ : Gam) (σ : L2.St) (H G : Hp) (xs : List V) (ds : List PyData) (Q : PyData → Prop) (Q' : VK), En K B σ H G Γ → DdAll K G xs ds → f ds Q →
    (∀ v H' G' d, En K B σ H' G' Γ → Same G G' → Dd K G' v d → Q d → Q' v H') → r xs H Q'

section
variable {X : Cx} {K : PySem.W.Frag} {a b c e : Expr} {es : List Expr} {Wa Wb Wc : WE} {pos : Pos}
/-! ### names, constants -/
@[simp] def wVar (i : Nat) : WE := fun Γ Q => match Γ[i]? with
  | some (.dat d) => Q d Γ
  | _ => False
theorem de_var (i : Nat) {x : Str} {p : Pos} (h : PE X (.Name x p) (tVar i)) : DE X (.Name x p) (wVar i) := ⟨_, h, by
  intro B Γ σ H G Q Q' E w k
  unfold wVar at w
  cases q : Γ[i]? with
  | none => rw [q] at w; exact w.elim
  | some s =>
    rw [q] at w
    cases s with
    | dat d =>
      obtain ⟨v, h1, h2⟩ := E.dat i d q
      exact ⟨v, h1, k v H G d Γ E (Same.refl _) (KS.refl _) h2 w⟩
    | un => exact w.elim
    | own _ => exact w.elim
    | par _ => exact w.elim
    | scr _ => exact w.elim⟩
@[simp] def wC (d : PyData) : WE := fun Γ Q => Q d Γ
theorem re_c {v : V} {d : PyData} (h : ∀ G, Dd K G v d) : RE K (tC v) (wC d) := by
  intro B Γ σ H G Q Q' E w k
  exact k v H G d Γ E (Same.refl _) (KS.refl _) (h G) w
theorem de_int {i : Int} {j p} : DE X (.Constant (.int i) j p) (wC (.int i)) := ⟨_, pe_int, re_c fun _ => .int i⟩
theorem de_bl {v : Bool} {j p} : DE X (.Constant (.bool v) j p) (wC (.bool v)) := ⟨_, pe_bl, re_c fun _ => .bl v⟩
theorem de_non {j p} : DE X (.Constant .none j p) (wC .none) := ⟨_, pe_non, re_c fun _ => .non⟩
theorem de_str {x : Str} {j p} : DE X (.Constant (.str x) j p) (wC (.str x)) := ⟨_, pe_str, re_c fun _ => .str x⟩
/-- a module's text -/
theorem de_gstr {x z : Str} {t : Tok} {p : Pos} (hg : Gl X x) (hm : X.mg x = some (.str z t)) (hd : (x == ("__debug__" : Str)) = false := by decide) : DE X (.Name x p) (wC (.str z)) :=
  ⟨_, pe_glob (v := .str z) hg hm ⟨_, rfl⟩ hd, re_c fun _ => .str z⟩
theorem de_gint {x : Str} {z : Int} {t : Tok} {p : Pos} (hg : Gl X x) (hm : X.mg x = some (.int z t)) (hd : (x == ("__debug__" : Str)) = false := by decide) : DE X (.Name x p) (wC (.int z)) :=
  ⟨_, pe_glob (v := .int z) hg hm ⟨_, rfl⟩ hd, re_c fun _ => .int z⟩

/-! ### operators by values -/
@[simp] def wOp (f : F2) (Wa Wb : WE) : WE := fun Γ Q => Wa Γ fun x Γ1 => Wb Γ1 fun y Γ2 => f x y fun z => Q z Γ2
theorem re_op {r : R2} {f : F2} {ta tb : TE} (hr : RV2 K r f) (ha : RE K ta Wa) (hb : RE K tb Wb) : RE K (tOp r ta tb) (wOp f Wa Wb) := by
  intro B Γ σ H G Q Q' E w k
  refine ha B Γ σ H G _ _ E w fun x H1 G1 dx Γ1 E1 s1 k1 d1 w1 => ?_
  refine hb B Γ1 σ H1 G1 _ _ E1 w1 fun y H2 G2 dy Γ2 E2 s2 k2 d2 w2 => ?_
  refine hr B Γ2 σ H2 G2 x y dx dy _ _ E2 (d1.mono s2) d2 w2 fun v H3 G3 d E3 s3 d3 q => ?_
  exact k v H3 G3 d Γ2 E3 ((s1.trans s2).trans s3) (k1.trans k2) d3 q
theorem de_bin {op : Operator} {r : R2} {f : F2} (ho : OpR X (binaryOp op) r) (hr : RV2 X.K r f) (ha : DE X a Wa) (hb : DE X b Wb) : DE X (.BinOp a op b pos) (wOp f Wa Wb) := by
  obtain ⟨ta, pa, ra⟩ := ha.ex
  obtain ⟨tb, pb, rb⟩ := hb.ex
  exact ⟨_, pe_op ho pa pb, re_op hr ra rb⟩
theorem de_cmp {op : CmpOp} {r : R2} {f : F2} (ho : OpR X (compareOp op) r) (hr : RV2 X.K r f) (ha : DE X a Wa) (hb : DE X b Wb) (hm : behindInMarks op b = false) : DE X (.Compare a [op] [b] pos) (wOp f Wa Wb) := by
  obtain ⟨ta, pa, ra⟩ := ha.ex
  obtain ⟨tb, pb, rb⟩ := hb.ex
  exact ⟨_, pe_cmpR ho pa pb hm, re_op hr ra rb⟩
/-- a value as a test (a bool) -/
@[simp] def wB (W : WE) : WT := fun Γ Q => W Γ fun d Γ1 => match d with
  | .bool b => Q b Γ1
  | _ => False
theorem rt_test {t : TE} {W : WE} (h : RE K t W) : RT K (tTest t) (wB W) := by
  intro B Γ σ H G Q Q' E w k
  refine h B Γ σ H G _ _ E w fun v H1 G1 d Γ1 E1 s1 k1 d1 w1 => ?_
  cases d1 with
  | bl b => exact ⟨b, rfl, k b H1 G1 Γ1 E1 s1 k1 w1⟩
  | _ => exact w1.elim
theorem dt_cmp {op : CmpOp} {r : R2} {f : F2} (ho : OpR X (compareOp op) r) (hr : RV2 X.K r f) (ha : DE X a Wa) (hb : DE X b Wb) (hm : behindInMarks op b = false) : DT X (.Compare a [op] [b] pos) (wB (wOp f Wa Wb)) := by
  obtain ⟨ta, pa, ra⟩ := ha.ex
  obtain ⟨tb, pb, rb⟩ := hb.ex
  exact ⟨_, pt_cmpR ho pa pb hm, rt_test (re_op hr ra rb)⟩
theorem dt_val {W : WE} (h : DE X e W) (he : ∀ whole, isTrue e X.env whole = (do let v ← whole; standAt e.pos; holding [v] (truthy v)) := by intro _; rfl) : DT X e (wB W) := by
  obtain ⟨t, p, r⟩ := h.ex
  exact ⟨_, pt_val p he, rt_test r⟩
/-! ### and, or, not -/
@[simp] def wAnd (A B : WT) : WT := fun Γ Q => A Γ fun b Γ1 => if b = true then B Γ1 Q else Q false Γ1
@[simp] def wOr (A B : WT) : WT := fun Γ Q => A Γ fun b Γ1 => if b = true then Q true Γ1 else B Γ1 Q
@[simp] def wNot (A : WT) : WT := fun Γ Q => A Γ fun b Γ1 => Q (!b) Γ1
structure DW (X : Cx) (e : Expr) (W : WT) : Prop where
  ex : ∃ t, PW X e t ∧ RT X.K t W
variable {WA' WB' : WT} {rest : List Expr}
theorem dw_and1 (h : DT X a WA') : DW X (.BoolOp .And [a] pos) WA' := by
  obtain ⟨t, p, r⟩ := h.ex
  exact ⟨_, pw_and1 p, r⟩
theorem dw_or1 (h : DT X a WA') : DW X (.BoolOp .Or [a] pos) WA' := by
  obtain ⟨t, p, r⟩ := h.ex
  exact ⟨_, pw_or1 p, r⟩
theorem dw_and (h : DT X a WA') (h' : DW X (.BoolOp .And (b :: rest) pos) WB') : DW X (.BoolOp .And (a :: b :: rest) pos) (wAnd WA' WB') := by
  obtain ⟨t, p, r⟩ := h.ex
  obtain ⟨t', p', r'⟩ := h'.ex
  refine ⟨_, pw_and p p', ?_⟩
  intro B Γ σ H G Q Q' E w k
  refine r B Γ σ H G _ _ E w fun b H1 G1 Γ1 E1 s1 k1 w1 => ?_
  cases b with
  | true => exact r' B Γ1 σ H1 G1 _ _ E1 w1 fun b H2 G2 Γ2 E2 s2 k2 w2 => k b H2 G2 Γ2 E2 (s1.trans s2) (k1.trans k2) w2
  | false => exact k false H1 G1 Γ1 E1 s1 k1 w1
theorem dw_or (h : DT X a WA') (h' : DW X (.BoolOp .Or (b :: rest) pos) WB') : DW X (.BoolOp .Or (a :: b :: rest) pos) (wOr WA' WB') := by
  obtain ⟨t, p, r⟩ := h.ex
  obtain ⟨t', p', r'⟩ := h'.ex
  refine ⟨_, pw_or p p', ?_⟩
  intro B Γ σ H G Q Q' E w k
  refine r B Γ σ H G _ _ E w fun b H1 G1 Γ1 E1 s1 k1 w1 => ?_
  cases b with
  | true => exact k true H1 G1 Γ1 E1 s1 k1 w1
  | false => exact r' B Γ1 σ H1 G1 _ _ E1 w1 fun b H2 G2 Γ2 E2 s2 k2 w2 => k b H2 G2 Γ2 E2 (s1.trans s2) (k1.trans k2) w2
theorem DW.dt (h : DW X e WA') : DT X e WA' := by
  obtain ⟨t, p, r⟩ := h.ex
  exact ⟨_, p.pt, r⟩
theorem dt_not (h : DT X a WA') : DT X (.UnaryOp .Not a pos) (wNot WA') := by
  obtain ⟨t, p, r⟩ := h.ex
  refine ⟨_, pt_not p, ?_⟩
  intro B Γ σ H G Q Q' E w k
  exact r B Γ σ H G _ _ E w fun b H1 G1 Γ1 E1 s1 k1 w1 => k (!b) H1 G1 Γ1 E1 s1 k1 w1
/-! .. as values: all but the last a bool -/
@[simp] def wAndV (Wa Wb : WE) : WE := fun Γ Q => Wa Γ fun d Γ1 => match d with
  | .bool b => if b = true then Wb Γ1 Q else Q (.bool false) Γ1
  | _ => False
@[simp] def wOrV (Wa Wb : WE) : WE := fun Γ Q => Wa Γ fun d Γ1 => match d with
  | .bool b => if b = true then Q (.bool true) Γ1 else Wb Γ1 Q
  | _ => False
@[simp] def wNotV (Wa : WE) : WE := fun Γ Q => Wa Γ fun d Γ1 => match d with
  | .bool b => Q (.bool (!b)) Γ1
  | _ => False
theorem de_one {op} (h : DE X a Wa) : DE X (.BoolOp op [a] pos) Wa := by
  obtain ⟨t, p, r⟩ := h.ex
  exact ⟨_, pe_one p, r⟩
theorem de_and (h : DE X a Wa) (h' : DE X (.BoolOp .And (b :: rest) pos) Wb) : DE X (.BoolOp .And (a :: b :: rest) pos) (wAndV Wa Wb) := by
  obtain ⟨t, p, r⟩ := h.ex
  obtain ⟨t', p', r'⟩ := h'.ex
  refine ⟨_, pe_and p p', ?_⟩
  intro B Γ σ H G Q Q' E w k
  refine r B Γ σ H G _ _ E w fun v H1 G1 d Γ1 E1 s1 k1 d1 w1 => ?_
  cases d1 with
  | bl b =>
    refine ⟨b, rfl, ?_⟩
    cases b with
    | true => exact r' B Γ1 σ H1 G1 _ _ E1 w1 fun b H2 G2 d2 Γ2 E2 s2 k2 w2 q2 => k b H2 G2 d2 Γ2 E2 (s1.trans s2) (k1.trans k2) w2 q2
    | false => exact k _ H1 G1 _ Γ1 E1 s1 k1 (.bl false) w1
  | _ => exact w1.elim
theorem de_or (h : DE X a Wa) (h' : DE X (.BoolOp .Or (b :: rest) pos) Wb) : DE X (.BoolOp .Or (a :: b :: rest) pos) (wOrV Wa Wb) := by
  obtain ⟨t, p, r⟩ := h.ex
  obtain ⟨t', p', r'⟩ := h'.ex
  refine ⟨_, pe_or p p', ?_⟩
  intro B Γ σ H G Q Q' E w k
  refine r B Γ σ H G _ _ E w fun v H1 G1 d Γ1 E1 s1 k1 d1 w1 => ?_
  cases d1 with
  | bl b =>
    refine ⟨b, rfl, ?_⟩
    cases b with
    | false => exact r' B Γ1 σ H1 G1 _ _ E1 w1 fun b H2 G2 d2 Γ2 E2 s2 k2 w2 q2 => k b H2 G2 d2 Γ2 E2 (s1.trans s2) (k1.trans k2) w2 q2
    | true => exact k _ H1 G1 _ Γ1 E1 s1 k1 (.bl true) w1
  | _ => exact w1.elim
theorem de_not (h : DE X a Wa) : DE X (.UnaryOp .Not a pos) (wNotV Wa) := by
  obtain ⟨t, p, r⟩ := h.ex
  refine ⟨_, pe_not p, ?_⟩
  intro B Γ σ H G Q Q' E w k
  refine r B Γ σ H G _ _ E w fun v H1 G1 d Γ1 E1 s1 k1 d1 w1 => ?_
  cases d1 with
  | bl b => exact ⟨b, rfl, k _ H1 G1 _ Γ1 E1 s1 k1 (.bl _) w1⟩
  | _ => exact w1.elim
@[simp] def wIf (T : WT) (Wa Wb : WE) : WE := fun Γ Q => T Γ fun b Γ1 => if b = true then Wa Γ1 Q else Wb Γ1 Q
theorem de_if (hc : DT X c WA') (ha : DE X a Wa) (hb : DE X b Wb) : DE X (.IfExp c a b pos) (wIf WA' Wa Wb) := by
  obtain ⟨t, p, r⟩ := hc.ex
  obtain ⟨ta, pa, ra⟩ := ha.ex
  obtain ⟨tb, pb, rb⟩ := hb.ex
  refine ⟨_, pe_ifExp p pa pb, ?_⟩
  intro B Γ σ H G Q Q' E w k
  refine r B Γ σ H G _ _ E w fun b H1 G1 Γ1 E1 s1 k1 w1 => ?_
  cases b with
  | true => exact ra B Γ1 σ H1 G1 _ _ E1 w1 fun b H2 G2 d2 Γ2 E2 s2 k2 w2 q2 => k b H2 G2 d2 Γ2 E2 (s1.trans s2) (k1.trans k2) w2 q2
  | false => exact rb B Γ1 σ H1 G1 _ _ E1 w1 fun b H2 G2 d2 Γ2 E2 s2 k2 w2 q2 => k b H2 G2 d2 Γ2 E2 (s1.trans s2) (k1.trans k2) w2 q2
/-! ### argument lists, displays -/
@[simp] def wNil : WA := fun Γ Q => Q [] Γ
@[simp] def wCons (Wa : WE) (Wr : WA) : WA := fun Γ Q => Wa Γ fun d Γ1 => Wr Γ1 fun ds Γ2 => Q (d :: ds) Γ2
variable {Wr : WA}
theorem da_nil : DA X [] wNil := ⟨_, pa_nil, by
  intro B Γ σ H G Q Q' E w k
  exact k [] H G [] Γ E (Same.refl _) (KS.refl _) .nil w⟩
theorem da_cons (h : DE X e Wa) (h' : DA X es Wr) (hs : starEach (e :: es) X.env = (false, eval e X.env) :: starEach es X.env := by rfl) : DA X (e :: es) (wCons Wa Wr) := by
  obtain ⟨t, p, r⟩ := h.ex
  obtain ⟨t', p', r'⟩ := h'.ex
  refine ⟨_, pa_cons p p' hs, ?_⟩
  intro B Γ σ H G Q Q' E w k
  refine r B Γ σ H G _ _ E w fun v H1 G1 d Γ1 E1 s1 k1 d1 w1 => ?_
  refine r' B Γ1 σ H1 G1 _ _ E1 w1 fun vs H2 G2 ds Γ2 E2 s2 k2 d2 w2 => ?_
  exact k (v :: vs) H2 G2 (d :: ds) Γ2 E2 (s1.trans s2) (k1.trans k2) (.cons (d1.mono s2) d2) w2
theorem fresh_own {B : Bs} {σ : L2.St} {H G : Hp} {Γ : Gam} (E : En K B σ H G Γ) {p : Addr} (hp : H p = none) : ∀ (i : Nat) es, Own Γ i es → σ[i]? ≠ some (some (V.ref p)) := by
  intro i es ow z
  obtain ⟨q, vs, h1, h2, h3, _⟩ := E.mine i es ow
  rw [h1] at z
  cases z
  rw [hp] at h3
  cases h3
theorem En.bnone {B : Bs} {σ : L2.St} {H G : Hp} {Γ : Gam} (E : En K B σ H G Γ) {p : Addr} (hp : H p = none) : B.H p = none := by
  cases q : B.H p with
  | none => rfl
  | some u => exact absurd hp (E.bh p (by rw [q]; exact fun z => by cases z))
theorem En.gnone {B : Bs} {σ : L2.St} {H G : Hp} {Γ : Gam} (E : En K B σ H G Γ) {p : Addr} (hp : H p = none) : G p = none := by
  cases q : G p with
  | none => rfl
  | some u => rw [E.gh p u q] at hp; cases hp
theorem sameNew {G : Hp} {p : Addr} {o : HO} (h : G p = none) : Same G (upd G p o) := fun b x e => by
  rw [upd_ne (ne_of_none e h)]
  exact e
@[simp] def wTup (W : WA) : WE := fun Γ Q => W Γ fun ds Γ1 => ds.length ≤ sizeLine ∧ Q (.tuple ds) Γ1
theorem de_tup {x1} (h : DA X es Wr) : DE X (.Tuple es x1 pos) (wTup Wr) := by
  obtain ⟨t, p, r⟩ := h.ex
  refine ⟨_, pe_tup p, ?_⟩
  intro B Γ σ H G Q Q' E w k
  refine r B Γ σ H G _ _ E w fun vs H1 G1 ds Γ1 E1 s1 k1 d1 w1 => ?_
  refine ⟨by rw [d1.length]; exact w1.1, fun p hp => ?_⟩
  have gp := E1.gnone hp
  exact k _ _ (upd G1 p (.tup vs)) (.tuple ds) Γ1 (E1.laid hp) (s1.trans (sameNew gp)) k1 (.tup (SqT.of upd_same) (d1.mono (sameNew gp))) w1.2
@[simp] def wLst (W : WA) : WA := fun Γ Q => W Γ fun ds Γ1 => ds.length ≤ sizeLine ∧ Q ds Γ1
theorem dn_lst (h : DA X es Wr) : DN X (.List es pos) (wLst Wr) := by
  obtain ⟨t, p, r⟩ := h.ex
  refine ⟨_, pe_lst p, ?_⟩
  intro B Γ σ H G Q Q' E w k
  refine r B Γ σ H G _ _ E w fun vs H1 G1 ds Γ1 E1 s1 k1 d1 w1 => ?_
  refine ⟨by rw [d1.length]; exact w1.1, fun p hp => ?_⟩
  exact k p vs _ G1 ds Γ1 (E1.laidN hp) s1 k1 (E1.gnone hp) upd_same d1 (E1.bnone hp) (E1.nn p hp) (fresh_own E1 hp) w1.2
/-- a new list, as data -/
@[simp] def wL (W : WA) : WE := fun Γ Q => W Γ fun ds Γ1 => Q (.list ds) Γ1
theorem re_of_rn {t : TE} (r : RN K t Wr) : RE K t (wL Wr) := by
  intro B Γ σ H G Q Q' E w k
  refine r B Γ σ H G _ _ E w fun p vs H1 G1 ds Γ1 E1 s1 k1 g1 h1 d1 b1 n1 o1 w1 => ?_
  exact k (.ref p) H1 (upd G1 p (.lst vs)) (.list ds) Γ1 (E1.freeze h1 g1 b1 o1) (s1.trans (sameNew g1)) k1 (.lst upd_same (d1.mono (sameNew g1))) w1
theorem DN.de (h : DN X e Wr) : DE X e (wL Wr) := by
  obtain ⟨t, p, r⟩ := h.ex
  exact ⟨_, p, re_of_rn r⟩
/-! ### built-ins by values -/
@[simp] def wCB (f : FA) (W : WA) : WE := fun Γ Q => W Γ fun ds Γ1 => f ds fun d => Q d Γ1
theorem re_cb {r : List V → Hp → VK → Prop} {f : FA} {ta : TA} (hr : RVA K r f) (h : RA K ta Wr) : RE K (tCB r ta) (wCB f Wr) := by
  intro B Γ σ H G Q Q' E w k
  refine h B Γ σ H G _ _ E w fun vs H1 G1 ds Γ1 E1 s1 k1 d1 w1 => ?_
  exact hr B Γ1 σ H1 G1 vs ds _ _ E1 d1 w1 fun v H2 G2 d E2 s2 d2 q => k v H2 G2 d Γ1 E2 (s1.trans s2) k1 d2 q
end
end DL

namespace DL
open PySem PySem.Spec PyProof.Rows L2
section
variable {X : Cx} {K : PySem.W.Frag} {a b c e : Expr} {es : List Expr} {Wa Wb Wc : WE} {Wr : WA} {pos : Pos}

/-! ## operators -/
def addD : F2
  | .int i, .int j, k => k (.int (i + j))
  | .str s, .str t, k => s.length + t.length ≤ sizeLine ∧ k (.str (s ++ t))
  | .list x, .list y, k => x.length + y.length ≤ sizeLine ∧ k (.list (x ++ y))
  | .tuple x, .tuple y, k => x.length + y.length ≤ sizeLine ∧ k (.tuple (x ++ y))
  | _, _, _ => False
def rAddU (K : PySem.W.Frag) : R2 := fun x y H Q => (rI0 fun i j => V.int (i + j)) x y H Q ∨ (∃ i j, x = V.str i ∧ y = V.str j ∧ i.length + j.length ≤ sizeLine ∧ Q (.str (i ++ j)) H) ∨ rCat x y H Q ∨ rCatA K x y H Q
theorem op_addU : OpR X (binaryOp .Add) (rAddU X.K) := op_add.or (op_add_str.or (op_cat.or op_catA))
theorem DdAll.nil_iff {G : Hp} {vs : List V} {ds : List PyData} (h : DdAll K G vs ds) : vs = [] ↔ ds = [] := by
  have := h.length
  constructor
  · intro z; subst z; exact List.length_eq_zero_iff.mp this.symm
  · intro z; subst z; exact List.length_eq_zero_iff.mp this
theorem rv_add : RV2 K (rAddU K) addD := by
  intro B Γ σ H G x y dx dy Q Q' E h1 h2 w k
  cases h1 with
  | int i =>
    cases h2 with
    | int j => exact .inl ⟨i, j, rfl, rfl, k _ H G _ E (Same.refl _) (.int _) w⟩
    | _ => exact w.elim
  | str s =>
    cases h2 with
    | str t => exact .inr (.inl ⟨s, t, rfl, rfl, w.1, k _ H G _ E (Same.refl _) (.str _) w.2⟩)
    | _ => exact w.elim
  | lst ga da =>
    cases h2 with
    | lst gb db =>
      refine .inr (.inr (.inl ⟨_, _, _, _, rfl, rfl, E.gh _ _ ga, E.gh _ _ gb, by rw [da.length, db.length]; exact w.1, fun p hp => ?_⟩))
      have gp := E.gnone hp
      exact k _ _ _ _ (E.laid hp) (sameNew gp) (.lst upd_same ((da.app db).mono (sameNew gp))) w.2
    | _ => exact w.elim
  | tup ga da =>
    cases h2 with
    | tup gb db =>
      refine .inr (.inr (.inr ⟨_, _, _, _, rfl, rfl, sqT_same E.gh ga, sqT_same E.gh gb, by rw [da.length, db.length]; exact w.1, fun hx => ?_, fun hx hy => ?_, fun hx hy p hp => ?_⟩))
      · have e := da.nil_iff.mp hx
        subst e
        exact k _ H G _ E (Same.refl _) (.tup gb db) (by simpa using w.2)
      · have e := db.nil_iff.mp hy
        subst e
        exact k _ H G _ E (Same.refl _) (.tup ga da) (by simpa using w.2)
      · have gp := E.gnone hp
        exact k _ _ _ _ (E.laid hp) (sameNew gp) (.tup (SqT.of upd_same) ((da.app db).mono (sameNew gp))) w.2
    | _ => exact w.elim
  | _ => cases h2 <;> exact w.elim
theorem de_add (ha : DE X a Wa) (hb : DE X b Wb) : DE X (.BinOp a .Add b pos) (wOp addD Wa Wb) := de_bin op_addU rv_add ha hb
/-! ints -/
def intD (C : Int → Int → Prop) (g : Int → Int → Int) : F2
  | .int i, .int j, k => C i j ∧ k (.int (g i j))
  | _, _, _ => False
theorem rv_int {C : Int → Int → Prop} {g : Int → Int → Int} : RV2 K (rI C fun i j => V.int (g i j)) (intD C g) := by
  intro B Γ σ H G x y dx dy Q Q' E h1 h2 w k
  cases h1 with
  | int i =>
    cases h2 with
    | int j => exact ⟨i, j, rfl, rfl, w.1, k _ H G _ E (Same.refl _) (.int _) w.2⟩
    | _ => exact w.elim
  | _ => cases h2 <;> exact w.elim
def subD : F2 := intD (fun _ _ => True) fun i j => i - j
theorem de_sub (ha : DE X a Wa) (hb : DE X b Wb) : DE X (.BinOp a .Sub b pos) (wOp subD Wa Wb) :=
  de_bin (r := rI (fun _ _ => True) fun i j => V.int (i - j)) (opI fun _ _ _ _ _ _ _ _ q => sub_int q) rv_int ha hb
def modD : F2 := intD (fun _ j => j ≠ 0) fun i j => i.fmod j
theorem de_mod (ha : DE X a Wa) (hb : DE X b Wb) : DE X (.BinOp a .Mod b pos) (wOp modD Wa Wb) := de_bin op_modN rv_int ha hb
def fdivD : F2 := intD CDivN fun i j => i.fdiv j
theorem de_fdiv (ha : DE X a Wa) (hb : DE X b Wb) : DE X (.BinOp a .FloorDiv b pos) (wOp fdivD Wa Wb) := de_bin op_fdivN rv_int ha hb
def powD : F2 := intD CPow fun i j => i ^ j.toNat
theorem de_pow (ha : DE X a Wa) (hb : DE X b Wb) : DE X (.BinOp a .Pow b pos) (wOp powD Wa Wb) := de_bin op_pow rv_int ha hb
def mulD : F2
  | .int i, .int j, k => CMul i j ∧ k (.int (i * j))
  | .list x, .int j, k => -(2 ^ 63) ≤ j ∧ j < 2 ^ 63 ∧ x.length * j.toNat ≤ sizeLine ∧ k (.list (List.replicate j.toNat x).flatten)
  | _, _, _ => False
theorem DdAll.rep {G : Hp} {vs : List V} {ds : List PyData} (h : DdAll K G vs ds) : ∀ n : Nat, DdAll K G (List.replicate n vs).flatten (List.replicate n ds).flatten
  | 0 => by simpa using DdAll.nil
  | n + 1 => by
    rw [List.replicate_succ, List.replicate_succ, List.flatten_cons, List.flatten_cons]
    exact h.app (DdAll.rep h n)
def rMulU : R2 := fun x y H Q => (rI CMul fun i j => V.int (i * j)) x y H Q ∨ rRep x y H Q
theorem rv_mul : RV2 K rMulU mulD := by
  intro B Γ σ H G x y dx dy Q Q' E h1 h2 w k
  cases h1 with
  | int i =>
    cases h2 with
    | int j => exact .inl ⟨i, j, rfl, rfl, w.1, k _ H G _ E (Same.refl _) (.int _) w.2⟩
    | _ => exact w.elim
  | lst ga da =>
    cases h2 with
    | int j =>
      refine .inr ⟨_, j, _, rfl, rfl, E.gh _ _ ga, w.1, w.2.1, by rw [da.length]; exact w.2.2.1, fun p hp => ?_⟩
      have gp := E.gnone hp
      exact k _ _ _ _ (E.laid hp) (sameNew gp) (.lst upd_same ((da.rep _).mono (sameNew gp))) w.2.2.2
    | _ => exact w.elim
  | _ => cases h2 <;> exact w.elim
theorem de_mul (ha : DE X a Wa) (hb : DE X b Wb) : DE X (.BinOp a .Mult b pos) (wOp mulD Wa Wb) := de_bin (op_mul.or op_rep) rv_mul ha hb
/-! comparisons of ints -/
def cmpD (g : Int → Int → Bool) : F2
  | .int i, .int j, k => k (.bool (g i j))
  | _, _, _ => False
theorem rv_cmp {g : Int → Int → Bool} : RV2 K (rI0 fun i j => V.bl (g i j)) (cmpD g) := by
  intro B Γ σ H G x y dx dy Q Q' E h1 h2 w k
  cases h1 with
  | int i =>
    cases h2 with
    | int j => exact ⟨i, j, rfl, rfl, k _ H G _ E (Same.refl _) (.bl _) w⟩
    | _ => exact w.elim
  | _ => cases h2 <;> exact w.elim
def ltD : F2 := cmpD fun i j => decide (i < j)
def leD : F2 := cmpD fun i j => decide (i ≤ j)
def gtD : F2 := cmpD fun i j => decide (j < i)
def geD : F2 := cmpD fun i j => decide (j ≤ i)
theorem de_lt (ha : DE X a Wa) (hb : DE X b Wb) : DE X (.Compare a [.Lt] [b] pos) (wOp ltD Wa Wb) := de_cmp op_lt rv_cmp ha hb (nomark _)
theorem de_le (ha : DE X a Wa) (hb : DE X b Wb) : DE X (.Compare a [.LtE] [b] pos) (wOp leD Wa Wb) := de_cmp op_le rv_cmp ha hb (nomark _)
theorem de_gt (ha : DE X a Wa) (hb : DE X b Wb) : DE X (.Compare a [.Gt] [b] pos) (wOp gtD Wa Wb) := de_cmp op_gt rv_cmp ha hb (nomark _)
theorem de_ge (ha : DE X a Wa) (hb : DE X b Wb) : DE X (.Compare a [.GtE] [b] pos) (wOp geD Wa Wb) := de_cmp op_ge rv_cmp ha hb (nomark _)
theorem dt_lt (ha : DE X a Wa) (hb : DE X b Wb) : DT X (.Compare a [.Lt] [b] pos) (wB (wOp ltD Wa Wb)) := dt_cmp op_lt rv_cmp ha hb (nomark _)
theorem dt_le (ha : DE X a Wa) (hb : DE X b Wb) : DT X (.Compare a [.LtE] [b] pos) (wB (wOp leD Wa Wb)) := dt_cmp op_le rv_cmp ha hb (nomark _)
theorem dt_gt (ha : DE X a Wa) (hb : DE X b Wb) : DT X (.Compare a [.Gt] [b] pos) (wB (wOp gtD Wa Wb)) := dt_cmp op_gt rv_cmp ha hb (nomark _)
theorem dt_ge (ha : DE X a Wa) (hb : DE X b Wb) : DT X (.Compare a [.GtE] [b] pos) (wB (wOp geD Wa Wb)) := dt_cmp op_ge rv_cmp ha hb (nomark _)
/-! == and != of data -/
@[irreducible] def eqD : F2 := fun x y k => SeqAt.shaped x = true ∧ SeqAt.shaped y = true ∧ k (.bool (PyData.eqv x y))
@[irreducible] def neD : F2 := fun x y k => SeqAt.shaped x = true ∧ SeqAt.shaped y = true ∧ k (.bool (!PyData.eqv x y))
theorem dps {v : V} {d : PyData} {G : Hp} (h : Dd K G v d) (s : SeqAt.shaped d = true) : Dp K G v d := h.dp (by
  unfold SeqAt.shaped at s
  rw [Bool.and_eq_true] at s
  exact s.1)
theorem rv_eq : RV2 K (rEqD K) eqD := by
  intro B Γ σ H G x y dx dy Q Q' E h1 h2 w k
  unfold eqD at w
  exact ⟨dx, dy, dps (h1.mono E.gh) w.1, dps (h2.mono E.gh) w.2.1, w.1, w.2.1, k _ H G _ E (Same.refl _) (.bl _) w.2.2⟩
theorem rv_ne : RV2 K (rNeD K) neD := by
  intro B Γ σ H G x y dx dy Q Q' E h1 h2 w k
  unfold neD at w
  exact ⟨dx, dy, dps (h1.mono E.gh) w.1, dps (h2.mono E.gh) w.2.1, w.1, w.2.1, k _ H G _ E (Same.refl _) (.bl _) w.2.2⟩
theorem de_eq (hu : X.A.units + 64 < cLine) (ha : DE X a Wa) (hb : DE X b Wb) : DE X (.Compare a [.Eq] [b] pos) (wOp eqD Wa Wb) := de_cmp (op_eqD hu) rv_eq ha hb (nomark _)
theorem de_ne (hu : X.A.units + 64 < cLine) (ha : DE X a Wa) (hb : DE X b Wb) : DE X (.Compare a [.NotEq] [b] pos) (wOp neD Wa Wb) := de_cmp (op_neD hu) rv_ne ha hb (nomark _)
theorem dt_eq (hu : X.A.units + 64 < cLine) (ha : DE X a Wa) (hb : DE X b Wb) : DT X (.Compare a [.Eq] [b] pos) (wB (wOp eqD Wa Wb)) := dt_cmp (op_eqD hu) rv_eq ha hb (nomark _)
theorem dt_ne (hu : X.A.units + 64 < cLine) (ha : DE X a Wa) (hb : DE X b Wb) : DT X (.Compare a [.NotEq] [b] pos) (wB (wOp neD Wa Wb)) := dt_cmp (op_neD hu) rv_ne ha hb (nomark _)
/-! is None -/
def isND : F2 := fun x y k => y matches .none ∧ k (.bool (x matches .none))
theorem rv_isN : RV2 K (fun x y H Q => y = .non ∧ Q (.bl (decide (x = .non))) H) isND := by
  intro B Γ σ H G x y dx dy Q Q' E h1 h2 w k
  cases h2 with
  | non =>
    refine ⟨rfl, ?_⟩
    cases h1 <;> exact k _ H G _ E (Same.refl _) (.bl _) w.2
  | _ => exact absurd w.1 (by simp)
def notND : F2 := fun x y k => y matches .none ∧ k (.bool !(x matches .none))
theorem rv_notN : RV2 K (fun x y H Q => y = .non ∧ Q (.bl (!decide (x = .non))) H) notND := by
  intro B Γ σ H G x y dx dy Q Q' E h1 h2 w k
  cases h2 with
  | non =>
    refine ⟨rfl, ?_⟩
    cases h1 <;> exact k _ H G _ E (Same.refl _) (.bl _) w.2
  | _ => exact absurd w.1 (by simp)
theorem de_isN (ha : DE X a Wa) (hb : DE X b Wb) : DE X (.Compare a [.Is] [b] pos) (wOp isND Wa Wb) := de_cmp op_isN rv_isN ha hb (nomark _)
theorem de_notN (ha : DE X a Wa) (hb : DE X b Wb) : DE X (.Compare a [.IsNot] [b] pos) (wOp notND Wa Wb) := de_cmp op_notN rv_notN ha hb (nomark _)
theorem dt_isN (ha : DE X a Wa) (hb : DE X b Wb) : DT X (.Compare a [.Is] [b] pos) (wB (wOp isND Wa Wb)) := dt_cmp op_isN rv_isN ha hb (nomark _)
theorem dt_notN (ha : DE X a Wa) (hb : DE X b Wb) : DT X (.Compare a [.IsNot] [b] pos) (wB (wOp notND Wa Wb)) := dt_cmp op_notN rv_notN ha hb (nomark _)
/-! in -/
def flatD : PyData → Bool
  | .none => true
  | .bool _ => true
  | .int _ => true
  | .str _ => true
  | _ => false
theorem flat_of {G : Hp} {v : V} {d : PyData} (h : Dd K G v d) (f : flatD d = true) : flatV v = true := by
  cases h <;> first | rfl | cases f
theorem eqV_of {G : Hp} {v u : V} {d e : PyData} (h : Dd K G v d) (h' : Dd K G u e) (f : flatD d = true) (f' : flatD e = true) : eqV v u = PyData.eqv d e := by
  cases h <;> cases h' <;> first
    | rfl
    | (cases f; done)
    | (cases f'; done)
    | (simp [eqV, PyData.eqv]; done)
theorem inV_of {G : Hp} {v : V} {d : PyData} (h : Dd K G v d) (f : flatD d = true) : ∀ {us : List V} {es : List PyData}, DdAll K G us es → es.all flatD = true → us.all flatV = true ∧ inV v us = es.any fun z => PyData.eqv z d
  | _, _, .nil, _ => ⟨rfl, rfl⟩
  | _, _, .cons h1 t, g => by
    rw [List.all_cons, Bool.and_eq_true] at g
    obtain ⟨q1, q2⟩ := inV_of h f t g.2
    refine ⟨by rw [List.all_cons, flat_of h1 g.1, q1]; rfl, ?_⟩
    unfold inV at q2 ⊢
    rw [List.any_cons, List.any_cons, q2, eqV_of h1 h g.1 f]
def inStr (a b : Str) : Bool := !(Builtin.Str.occurrences b a 0 b.length 1).isEmpty
@[irreducible] def inD : F2
  | .str a, .str b, k => k (.bool (inStr a b))
  | d, .list es, k => flatD d = true ∧ es.all flatD = true ∧ k (.bool (es.any fun z => PyData.eqv z d))
  | d, .tuple es, k => flatD d = true ∧ es.all flatD = true ∧ k (.bool (es.any fun z => PyData.eqv z d))
  | _, _, _ => False
def notInD : F2
  | .str a, .str b, k => k (.bool (!inStr a b))
  | d, .list es, k => flatD d = true ∧ es.all flatD = true ∧ k (.bool (!es.any fun z => PyData.eqv z d))
  | d, .tuple es, k => flatD d = true ∧ es.all flatD = true ∧ k (.bool (!es.any fun z => PyData.eqv z d))
  | _, _, _ => False
def rInU (K : PySem.W.Frag) : R2 := fun x y H Q => (∃ i j, x = V.str i ∧ y = V.str j ∧ Q (.bl (!(Builtin.Str.occurrences j i 0 j.length 1).isEmpty)) H) ∨ rIn K false x y H Q
def rNotInU (K : PySem.W.Frag) : R2 := fun x y H Q => (∃ i j, x = V.str i ∧ y = V.str j ∧ Q (.bl (!(!(Builtin.Str.occurrences j i 0 j.length 1).isEmpty))) H) ∨ rIn K true x y H Q
theorem rv_in : RV2 K (rInU K) inD := by
  intro B Γ σ H G x y dx dy Q Q' E h1 h2 w k
  unfold inD at w
  cases h2 with
  | str t =>
    cases h1 with
    | str s => exact .inl ⟨s, t, rfl, rfl, k _ H G _ E (Same.refl _) (.bl _) w⟩
    | _ => exact w.elim
  | @lst _ _ ds ga da =>
    have w' : flatD dx = true ∧ List.all ds flatD = true ∧ Q (.bool (ds.any fun z => PyData.eqv z dx)) := by cases dx <;> exact w
    obtain ⟨q1, q2⟩ := inV_of h1 w'.1 da w'.2.1
    refine .inr ⟨_, _, rfl, .inl (SqL.of (E.gh _ _ ga)), flat_of h1 w'.1, q1, k _ H G _ E (Same.refl _) (.bl _) ?_⟩
    rw [q2]
    exact w'.2.2
  | @tup _ _ ds ga da =>
    have w' : flatD dx = true ∧ List.all ds flatD = true ∧ Q (.bool (ds.any fun z => PyData.eqv z dx)) := by cases dx <;> exact w
    obtain ⟨q1, q2⟩ := inV_of h1 w'.1 da w'.2.1
    refine .inr ⟨_, _, rfl, .inr (sqT_same E.gh ga), flat_of h1 w'.1, q1, k _ H G _ E (Same.refl _) (.bl _) ?_⟩
    rw [q2]
    exact w'.2.2
  | _ => cases h1 <;> exact w.elim
theorem rv_notIn : RV2 K (rNotInU K) notInD := by
  intro B Γ σ H G x y dx dy Q Q' E h1 h2 w k
  cases h2 with
  | str t =>
    cases h1 with
    | str s => exact .inl ⟨s, t, rfl, rfl, k _ H G _ E (Same.refl _) (.bl _) w⟩
    | _ => exact w.elim
  | @lst _ _ ds ga da =>
    have w' : flatD dx = true ∧ List.all ds flatD = true ∧ Q (.bool (!ds.any fun z => PyData.eqv z dx)) := by cases dx <;> exact w
    obtain ⟨q1, q2⟩ := inV_of h1 w'.1 da w'.2.1
    refine .inr ⟨_, _, rfl, .inl (SqL.of (E.gh _ _ ga)), flat_of h1 w'.1, q1, k _ H G _ E (Same.refl _) (.bl _) ?_⟩
    rw [if_pos rfl, q2]
    exact w'.2.2
  | @tup _ _ ds ga da =>
    have w' : flatD dx = true ∧ List.all ds flatD = true ∧ Q (.bool (!ds.any fun z => PyData.eqv z dx)) := by cases dx <;> exact w
    obtain ⟨q1, q2⟩ := inV_of h1 w'.1 da w'.2.1
    refine .inr ⟨_, _, rfl, .inr (sqT_same E.gh ga), flat_of h1 w'.1, q1, k _ H G _ E (Same.refl _) (.bl _) ?_⟩
    rw [if_pos rfl, q2]
    exact w'.2.2
  | _ => cases h1 <;> exact w.elim
theorem op_inU : OpR X (compareOp .In) (rInU X.K) := op_in_str.or op_in_seq
theorem op_notInU : OpR X (compareOp .NotIn) (rNotInU X.K) := op_notin_str.or op_notIn_seq
theorem de_in (ha : DE X a Wa) (hb : DE X b Wb) (hm : behindInMarks .In b = false := by rfl) : DE X (.Compare a [.In] [b] pos) (wOp inD Wa Wb) := de_cmp op_inU rv_in ha hb hm
theorem de_notIn (ha : DE X a Wa) (hb : DE X b Wb) (hm : behindInMarks .NotIn b = false := by rfl) : DE X (.Compare a [.NotIn] [b] pos) (wOp notInD Wa Wb) := de_cmp op_notInU rv_notIn ha hb hm
theorem dt_in (ha : DE X a Wa) (hb : DE X b Wb) (hm : behindInMarks .In b = false := by rfl) : DT X (.Compare a [.In] [b] pos) (wB (wOp inD Wa Wb)) := dt_cmp op_inU rv_in ha hb hm
theorem dt_notIn (ha : DE X a Wa) (hb : DE X b Wb) (hm : behindInMarks .NotIn b = false := by rfl) : DT X (.Compare a [.NotIn] [b] pos) (wB (wOp notInD Wa Wb)) := dt_cmp op_notInU rv_notIn ha hb hm
/-! unary minus -/
@[simp] def wNeg (Wa : WE) : WE := fun Γ Q => Wa Γ fun d Γ1 => match d with
  | .int i => Q (.int (-i)) Γ1
  | _ => False
theorem de_neg (ha : DE X a Wa) : DE X (.UnaryOp .USub a pos) (wNeg Wa) := by
  obtain ⟨t, p, r⟩ := ha.ex
  refine ⟨_, pe_un un_neg p, ?_⟩
  intro B Γ σ H G Q Q' E w k
  refine r B Γ σ H G _ _ E w fun v H1 G1 d Γ1 E1 s1 k1 d1 w1 => ?_
  cases d1 with
  | int i => exact ⟨i, rfl, k _ H1 G1 _ Γ1 E1 s1 k1 (.int _) w1⟩
  | _ => exact w1.elim
/-! items and slices -/
def sign (c : Nat) : PyData := .str ⟨#[c]⟩
def optD {α : Type} (o : Option α) (k : α → Prop) : Prop := ∃ a, o = some a ∧ k a
@[simp] theorem optD_some {α : Type} (a : α) (k : α → Prop) : optD (some a) k = k a := propext ⟨fun ⟨b, e, h⟩ => by cases e; exact h, fun h => ⟨a, rfl, h⟩⟩
def ixD : F2
  | .list xs, .int i, k => optD (atI xs i) k
  | .tuple xs, .int i, k => optD (atI xs i) k
  | .str z, .int i, k => z.length ≤ sizeLine ∧ optD (atI z.cps.toList i) fun c => k (sign c)
  | _, _, _ => False
theorem DdAll.atI {G : Hp} {vs : List V} {ds : List PyData} {i : Int} {d : PyData} (h : DdAll K G vs ds) (e : L2.atI ds i = some d) : ∃ v, L2.atI vs i = some v ∧ Dd K G v d := by
  unfold L2.atI at e ⊢
  rw [h.length]
  cases q : ixN ds.length i with
  | none => rw [q] at e; cases e
  | some j =>
    rw [q] at e
    exact h.get e
theorem rv_ix : RV2 K (rIx K) ixD := by
  intro B Γ σ H G x y dx dy Q Q' E h1 h2 w k
  cases h2 with
  | int i =>
    cases h1 with
    | lst ga da =>
      obtain ⟨d, h, q⟩ := w
      obtain ⟨v, h', dv⟩ := da.atI h
      exact .inl ⟨_, _, i, v, rfl, rfl, SqL.of (E.gh _ _ ga), h', k _ H G _ E (Same.refl _) dv q⟩
    | tup ga da =>
      obtain ⟨d, h, q⟩ := w
      obtain ⟨v, h', dv⟩ := da.atI h
      exact .inr (.inl ⟨_, _, i, v, rfl, rfl, sqT_same E.gh ga, h', k _ H G _ E (Same.refl _) dv q⟩)
    | str z =>
      obtain ⟨hz, c, h, q⟩ := w
      exact .inr (.inr ⟨z, i, c, rfl, rfl, hz, h, k _ H G _ E (Same.refl _) (.str _) q⟩)
    | _ => exact w.elim
  | _ => cases h1 <;> exact w.elim
theorem de_ix (ha : DE X a Wa) (hb : DE X b Wb) (hs : PlainIx b := by exact fun _ _ => rfl) : DE X (.Subscript a b pos) (wOp ixD Wa Wb) := by
  obtain ⟨ta, pa, ra⟩ := ha.ex
  obtain ⟨tb, pb, rb⟩ := hb.ex
  exact ⟨_, pe_ix ix_seq pa pb hs, re_op rv_ix ra rb⟩
abbrev WO := Gam → (Option Int → Gam → Prop) → Prop
def RO (K : PySem.W.Frag) (t : TO) (W : WO) : Prop :=
  ∀ (B : Bs) (Γ : Gam) (σ : L2.St) (H G : Hp) (Q : Option Int → Gam → Prop) (Q' : Option Int → Hp → Prop), En K B σ H G Γ → W Γ Q →
    (∀ o H' G' Γ', En K B σ H' G' Γ' → Same G G' → KS Γ Γ' → Q o Γ' → Q' o H') → t σ H Q'
structure DO (X : Cx) (e : Option Expr) (W : WO) : Prop where
  ex : ∃ t, PO X e t ∧ RO X.K t W
@[simp] def wNone : WO := fun Γ Q => Q none Γ
@[simp] def wSome (Wa : WE) : WO := fun Γ Q => Wa Γ fun d Γ1 => match d with
  | .int i => Q (some i) Γ1
  | _ => False
theorem do_none : DO X none wNone := ⟨_, po_none, by
  intro B Γ σ H G Q Q' E w k
  exact k none H G Γ E (Same.refl _) (KS.refl _) w⟩
theorem do_some (h : DE X e Wa) : DO X (some e) (wSome Wa) := by
  obtain ⟨t, p, r⟩ := h.ex
  refine ⟨_, po_some p, ?_⟩
  intro B Γ σ H G Q Q' E w k
  refine r B Γ σ H G _ _ E w fun v H1 G1 d Γ1 E1 s1 k1 d1 w1 => ?_
  cases d1 with
  | int i => exact ⟨i, rfl, k _ H1 G1 Γ1 E1 s1 k1 w1⟩
  | _ => exact w1.elim
def cutD {α : Type} (xs : List α) (lo hi : Option Int) : List α := (xs.drop (HT.sIx xs.length 0 lo)).take (HT.sIx xs.length xs.length hi - HT.sIx xs.length 0 lo)
def slD : PyData → Option Int → Option Int → (PyData → Prop) → Prop
  | .list xs, lo, hi, k => k (.list (cutD xs lo hi))
  | .tuple xs, lo, hi, k => k (.tuple (cutD xs lo hi))
  | .str z, lo, hi, k => z.length ≤ sizeLine ∧ k (.str (cutS z lo hi))
  | _, _, _, _ => False
theorem DdAll.cut {G : Hp} {vs : List V} {ds : List PyData} (lo hi : Option Int) (h : DdAll K G vs ds) : DdAll K G (cutV vs lo hi) (cutD ds lo hi) := by
  unfold cutV cutD
  rw [h.length]
  exact (h.drop _).take _
@[simp] def wSl (Wa : WE) (Wl Wh : WO) : WE := fun Γ Q => Wa Γ fun d Γ1 => Wl Γ1 fun lo Γ2 => Wh Γ2 fun hi Γ3 => slD d lo hi fun z => Q z Γ3
def rSlU (K : PySem.W.Frag) : V → Option Int → Option Int → Hp → VK → Prop := fun x lo hi H Q => rSlL K x lo hi H Q ∨ rSlA K x lo hi H Q ∨ (∃ z, x = V.str z ∧ z.length ≤ sizeLine ∧ Q (.str (cutS z lo hi)) H)
end
end DL

namespace DL
open PySem PySem.Spec PyProof.Rows L2
section
variable {X : Cx} {K : PySem.W.Frag} {a b c e : Expr} {es : List Expr} {Wa Wb Wc : WE} {Wr : WA} {pos : Pos} {WT' : WT}
/-! ## slices -/
variable {Wl Wh : WO} {lo hi : Option Expr} {p2 : Pos}
theorem de_slice (ha : DE X a Wa) (hl : DO X lo Wl) (hh : DO X hi Wh) : DE X (.Subscript a (.Slice lo hi none p2) pos) (wSl Wa Wl Wh) := by
  obtain ⟨ta, pa, ra⟩ := ha.ex
  obtain ⟨tl, pl, rl⟩ := hl.ex
  obtain ⟨th, ph, rh⟩ := hh.ex
  refine ⟨_, pe_slice (sl_list.or (sl_tupA.or sl_str)) pa pl ph, ?_⟩
  intro B Γ σ H G Q Q' E w k
  refine ra B Γ σ H G _ _ E w fun v H1 G1 d Γ1 E1 s1 k1 d1 w1 => ?_
  refine rl B Γ1 σ H1 G1 _ _ E1 w1 fun lo H2 G2 Γ2 E2 s2 k2 w2 => ?_
  refine rh B Γ2 σ H2 G2 _ _ E2 w2 fun hi H3 G3 Γ3 E3 s3 k3 w3 => ?_
  have d3 := d1.mono (s2.trans s3)
  have s13 := s1.trans (s2.trans s3)
  have k13 := k1.trans (k2.trans k3)
  cases d3 with
  | lst ga da =>
    refine .inl ⟨_, _, rfl, SqL.of (E3.gh _ _ ga), fun p hp => ?_⟩
    have gp := E3.gnone hp
    exact k _ _ _ _ Γ3 (E3.laid hp) (s13.trans (sameNew gp)) k13 (.lst upd_same ((da.cut lo hi).mono (sameNew gp))) w3
  | @tup _ xs ds ga da =>
    refine .inr (.inl ⟨_, _, rfl, sqT_same E3.gh ga, fun hw => ?_, fun hw p hp => ?_⟩)
    · have e1 : cutD ds lo hi = ds := by
        unfold cutD
        rw [← da.length, hw.1, hw.2, da.length]
        simp
      refine k _ H3 G3 _ Γ3 E3 s13 k13 (.tup ga da) ?_
      have w3' : Q (.tuple (cutD ds lo hi)) Γ3 := w3
      rw [e1] at w3'
      exact w3'
    · have gp := E3.gnone hp
      exact k _ _ _ _ Γ3 (E3.laid hp) (s13.trans (sameNew gp)) k13 (.tup (SqT.of upd_same) ((da.cut lo hi).mono (sameNew gp))) w3
  | str z => exact .inr (.inr ⟨z, rfl, w3.1, k _ H3 G3 _ Γ3 E3 s13 k13 (.str _) w3.2⟩)
  | _ => exact w3.elim
/-! ## built-ins -/
def lenD : FA
  | [.list xs], k => k (.int xs.length)
  | [.tuple xs], k => k (.int xs.length)
  | [.str z], k => z.length ≤ sizeLine ∧ k (.int z.length)
  | _, _ => False
theorem ddAll1 {G : Hp} {xs : List V} {d : PyData} (h : DdAll K G xs [d]) : ∃ v, xs = [v] ∧ Dd K G v d := by
  cases h with
  | cons h1 t => cases t; exact ⟨_, rfl, h1⟩
theorem rv_len : RVA K (fun xs H Q => (∃ p ys, xs = [V.ref p] ∧ (SqL K H p ys ∨ SqT K H p ys) ∧ Q (.int ys.length) H) ∨ (∃ z, xs = [V.str z] ∧ z.length ≤ sizeLine ∧ Q (.int z.length) H)) lenD := by
  intro B Γ σ H G xs ds Q Q' E h w k
  unfold lenD at w
  split at w
  · obtain ⟨v, rfl, hv⟩ := ddAll1 h
    cases hv with
    | lst ga da =>
      refine .inl ⟨_, _, rfl, .inl (SqL.of (E.gh _ _ ga)), k _ H G _ E (Same.refl _) (.int _) ?_⟩
      rw [da.length]
      exact w
  · obtain ⟨v, rfl, hv⟩ := ddAll1 h
    cases hv with
    | tup ga da =>
      refine .inl ⟨_, _, rfl, .inr (sqT_same E.gh ga), k _ H G _ E (Same.refl _) (.int _) ?_⟩
      rw [da.length]
      exact w
  · obtain ⟨v, rfl, hv⟩ := ddAll1 h
    cases hv with
    | str => exact .inr ⟨_, rfl, w.1, k _ H G _ E (Same.refl _) (.int _) w.2⟩
  · exact w.elim
theorem de_callB {x : Str} {p : Pos} {id : String} {r : List V → Hp → VK → Prop} {f : FA} (hc : CallR X (.builtin id) r) (hr : RVA X.K r f) (hg : Gl X x) (hm : X.mg x = none) (hv : bootBuiltins x = some (.builtin id)) (ha : DA X (e :: es) Wr) (hn : x ≠ "__name__" := by decide) (hdb : (x == ("__debug__" : Str)) = false := by decide)
    (he : starEach (e :: es) X.env = (false, eval e X.env) :: starEach es X.env := by rfl) (hpl : (backTo pos (starEach es X.env)).any (·.1) = false := by rfl) : DE X (.Call (.Name x p) (e :: es) [] pos) (wCB f Wr) := by
  obtain ⟨t, pa, ra⟩ := ha.ex
  exact ⟨_, pe_callB hc hg hm hv pa hn hdb he hpl, re_cb hr ra⟩
theorem de_callTy {x : Str} {p : Pos} {T : String} {r : List V → Hp → VK → Prop} {f : FA} (hc : CallR X (.type T) r) (hr : RVA X.K r f) (hg : Gl X x) (hm : X.mg x = none) (hv : bootBuiltins x = some (.type T)) (ha : DA X (e :: es) Wr) (hn : x ≠ "__name__" := by decide) (hdb : (x == ("__debug__" : Str)) = false := by decide)
    (he : starEach (e :: es) X.env = (false, eval e X.env) :: starEach es X.env := by rfl) (hpl : (backTo pos (starEach es X.env)).any (·.1) = false := by rfl) : DE X (.Call (.Name x p) (e :: es) [] pos) (wCB f Wr) := by
  obtain ⟨t, pa, ra⟩ := ha.ex
  exact ⟨_, pe_callTy hc hg hm hv pa hn hdb he hpl, re_cb hr ra⟩
theorem de_len {p : Pos} (hg : Gl X "len") (hm : X.mg "len" = none) (ha : DE X a Wa) (h1 : starEach [a] X.env = (false, eval a X.env) :: starEach [] X.env := by rfl) (h2 : (backTo pos (starEach [] X.env)).any (·.1) = false := by rfl) : DE X (.Call (.Name "len" p) [a] [] pos) (wCB lenD (wCons Wa wNil)) :=
  de_callB (call_len_seq.or call_len_str) rv_len hg hm PySem.boot_len (da_cons ha da_nil h1) (by decide) (by decide) h1 h2
def absD : FA
  | [.int i], k => k (.int (if i < 0 then -i else i))
  | _, _ => False
theorem rv_abs : RVA K (fun xs H Q => ∃ i, xs = [V.int i] ∧ Q (.int (if i < 0 then -i else i)) H) absD := by
  intro B Γ σ H G xs ds Q Q' E h w k
  unfold absD at w
  split at w
  · obtain ⟨v, rfl, hv⟩ := ddAll1 h
    cases hv with
    | int => exact ⟨_, rfl, k _ H G _ E (Same.refl _) (.int _) w⟩
  · exact w.elim
theorem de_abs {p : Pos} (hg : Gl X "abs") (hm : X.mg "abs" = none) (ha : DE X a Wa) (h1 : starEach [a] X.env = (false, eval a X.env) :: starEach [] X.env := by rfl) (h2 : (backTo pos (starEach [] X.env)).any (·.1) = false := by rfl) : DE X (.Call (.Name "abs" p) [a] [] pos) (wCB absD (wCons Wa wNil)) :=
  de_callB call_abs rv_abs hg hm (by decide +kernel) (da_cons ha da_nil h1) (by decide) (by decide) h1 h2
def intT : FA
  | [.int i], k => k (.int i)
  | [.bool b], k => k (.int (if b then 1 else 0))
  | _, _ => False
theorem rv_intT : RVA K (fun xs H Q => (∃ i, xs = [V.int i] ∧ Q (.int i) H) ∨ ∃ k, xs = [V.bl k] ∧ Q (.int (if k then 1 else 0)) H) intT := by
  intro B Γ σ H G xs ds Q Q' E h w k
  unfold intT at w
  split at w
  · obtain ⟨v, rfl, hv⟩ := ddAll1 h
    cases hv with
    | int => exact .inl ⟨_, rfl, k _ H G _ E (Same.refl _) (.int _) w⟩
  · obtain ⟨v, rfl, hv⟩ := ddAll1 h
    cases hv with
    | bl => exact .inr ⟨_, rfl, k _ H G _ E (Same.refl _) (.int _) w⟩
  · exact w.elim
theorem de_intT {p : Pos} (hg : Gl X "int") (hm : X.mg "int" = none) (ha : DE X a Wa) (h1 : starEach [a] X.env = (false, eval a X.env) :: starEach [] X.env := by rfl) (h2 : (backTo pos (starEach [] X.env)).any (·.1) = false := by rfl) : DE X (.Call (.Name "int" p) [a] [] pos) (wCB intT (wCons Wa wNil)) :=
  de_callTy call_int1 rv_intT hg hm (by decide +kernel) (da_cons ha da_nil h1) (by decide) (by decide) h1 h2
def tupT : FA
  | [.list xs], k => k (.tuple xs)
  | [.tuple xs], k => k (.tuple xs)
  | _, _ => False
theorem rv_tupT : RVA K (fun xs H Q => ∃ p ys, xs = [V.ref p] ∧ ((SqL K H p ys ∧ ∀ l, H l = none → Q (.ref l) (upd H l (.tup ys))) ∨ (SqT K H p ys ∧ Q (.ref p) H))) tupT := by
  intro B Γ σ H G xs ds Q Q' E h w k
  unfold tupT at w
  split at w
  · obtain ⟨v, rfl, hv⟩ := ddAll1 h
    cases hv with
    | lst ga da =>
      refine ⟨_, _, rfl, .inl ⟨SqL.of (E.gh _ _ ga), fun l hl => ?_⟩⟩
      have gp := E.gnone hl
      exact k _ _ _ _ (E.laid hl) (sameNew gp) (.tup (SqT.of upd_same) (da.mono (sameNew gp))) w
  · obtain ⟨v, rfl, hv⟩ := ddAll1 h
    cases hv with
    | tup ga da => exact ⟨_, _, rfl, .inr ⟨sqT_same E.gh ga, k _ H G _ E (Same.refl _) (.tup ga da) w⟩⟩
  · exact w.elim
theorem de_tupT {p : Pos} (hg : Gl X "tuple") (hm : X.mg "tuple" = none) (ha : DE X a Wa) (h1 : starEach [a] X.env = (false, eval a X.env) :: starEach [] X.env := by rfl) (h2 : (backTo pos (starEach [] X.env)).any (·.1) = false := by rfl) : DE X (.Call (.Name "tuple" p) [a] [] pos) (wCB tupT (wCons Wa wNil)) :=
  de_callTy call_tuple_of rv_tupT hg hm (by decide +kernel) (da_cons ha da_nil h1) (by decide) (by decide) h1 h2
/-! isinstance -/
@[simp] def tyD : PyData → String
  | .none => "NoneType"
  | .bool _ => "bool"
  | .int _ => "int"
  | .str _ => "str"
  | .list _ => "list"
  | .tuple _ => "tuple"
  | .dict _ => "dict"
@[simp] def isTy (s T : String) : Bool := s == T || (s == "bool" && T == "int")
def KitOk (T : String) : Prop := ∀ s ∈ ["NoneType", "bool", "int", "str", "list", "tuple"], kitB s T = some (isTy s T)
def noDict : PyData → Bool
  | .dict _ => false
  | _ => true
theorem tyX_of {G H : Hp} (gh : Same G H) {v : V} {d : PyData} (nd : noDict d = true) (h : Dd K G v d) : TyX K H v (.type (tyD d)) := by
  cases h with
  | non => exact .base .non
  | bl b => exact .base (.bl b)
  | int i => exact .base (.int i)
  | str x => exact .base (.str x)
  | lst ga da => exact .base (.lst (gh _ _ ga))
  | tup ga da =>
    rcases ga with (ga | ⟨o, ga⟩) | ⟨o, its, n, hk, hc, hs, _⟩
    · exact .base (.tup (gh _ _ ga))
    · exact .fTuple (gh _ _ ga)
    · exact .kTuple hk hc
  | exc0 _ => cases nd
  | exc1 _ _ _ => cases nd
theorem kit1 {G : Hp} {v : V} {d : PyData} {T : String} (nd : noDict d = true) (h : Dd K G v d) (hT : KitOk T) : PySem.W.kitOne K (.type (tyD d)) (.type T) = some (isTy (tyD d) T) := by
  refine kit_ty (hT _ ?_)
  cases h <;> first | (simp [tyD]; done) | cases nd
@[simp] def wIsi (T : String) (Wa : WE) : WE := fun Γ Q => Wa Γ fun d Γ1 => match d with
  | .dict _ => False
  | d => Q (.bool (isTy (tyD d) T)) Γ1
theorem isi_nd {d : PyData} {p : PyData → Prop} (w : match d with
  | .dict _ => False
  | d => p d) : noDict d = true ∧ p d := by
  cases d <;> first | exact ⟨rfl, w⟩ | exact w.elim
theorem boot_isinstance : bootBuiltins "isinstance" = some (.builtin "isinstance") := by decide +kernel
theorem de_isi {p pos : Pos} {tE : Expr} {T : String} (hg : Gl X "isinstance") (hm : X.mg "isinstance" = none) (hT : KitOk T) (ht : PE X tE (tC (.ty T))) (ha : DE X a Wa)
    (h1 : starEach [a, tE] X.env = (false, eval a X.env) :: starEach [tE] X.env := by rfl) (h2 : starEach [tE] X.env = (false, eval tE X.env) :: starEach [] X.env := by rfl) (h3 : (backTo pos (starEach [tE] X.env)).any (·.1) = false := by rfl) :
    DE X (.Call (.Name "isinstance" p) [a, tE] [] pos) (wIsi T Wa) := by
  obtain ⟨t, pa, ra⟩ := ha.ex
  refine ⟨_, pe_callB call_isi hg hm boot_isinstance (pa_cons pa (pa_cons ht pa_nil h2) h1) (by decide) (by decide) h1 h3, ?_⟩
  intro B Γ σ H G Q Q' E w k
  refine ra B Γ σ H G _ _ E w fun v H1 G1 d Γ1 E1 s1 k1 d1 w1 => ?_
  obtain ⟨nd, w1⟩ := isi_nd (p := fun d => Q (.bool (isTy (tyD d) T)) Γ1) w1
  exact ⟨v, .ty T, _, _, _, rfl, .ty T, tyX_of E1.gh nd d1, kit1 nd d1 hT, k _ H1 G1 _ Γ1 E1 s1 k1 (.bl _) w1⟩
@[simp] def wIsi2 (T U : String) (Wa : WE) : WE := fun Γ Q => Wa Γ fun d Γ1 => match d with
  | .dict _ => False
  | d => Q (.bool (isTy (tyD d) T || isTy (tyD d) U)) Γ1
theorem kitAny2 {t : Value} {T U : Value} {x y : Bool} (h1 : PySem.W.kitOne K t T = some x) (h2 : PySem.W.kitOne K t U = some y) : PySem.W.kitAny K t [T, U] = some (x || y) := by
  refine kitAny_cons h1 (fun e => ?_) (fun e => by rw [e]; rfl)
  rw [e]
  exact kitAny_cons h2 (fun e2 => by rw [e2]; exact kitAny_nil) (fun e2 => by rw [e2]; rfl)
theorem de_isi2 {p p2 pos : Pos} {tE uE : Expr} {kk : Nat} {T U : String} (hg : Gl X "isinstance") (hm : X.mg "isinstance" = none) (hT : KitOk T) (hU : KitOk U) (ht : PE X tE (tC (.ty T))) (hu : PE X uE (tC (.ty U))) (ha : DE X a Wa)
    (h1 : starEach [a, .Tuple [tE, uE] kk p2] X.env = (false, eval a X.env) :: starEach [.Tuple [tE, uE] kk p2] X.env := by rfl) (h2 : starEach [.Tuple [tE, uE] kk p2] X.env = (false, eval (.Tuple [tE, uE] kk p2) X.env) :: starEach [] X.env := by rfl) (h3 : (backTo pos (starEach [.Tuple [tE, uE] kk p2] X.env)).any (·.1) = false := by rfl)
    (h4 : starEach [tE, uE] X.env = (false, eval tE X.env) :: starEach [uE] X.env := by rfl) (h5 : starEach [uE] X.env = (false, eval uE X.env) :: starEach [] X.env := by rfl) :
    DE X (.Call (.Name "isinstance" p) [a, .Tuple [tE, uE] kk p2] [] pos) (wIsi2 T U Wa) := by
  obtain ⟨t, pa, ra⟩ := ha.ex
  refine ⟨_, pe_callB call_isiT hg hm boot_isinstance (pa_cons pa (pa_cons (pe_tup (pa_cons ht (pa_cons hu pa_nil h5) h4)) pa_nil h2) h1) (by decide) (by decide) h1 h3, ?_⟩
  intro B Γ σ H G Q Q' E w k
  refine ra B Γ σ H G _ _ E w fun v H1 G1 d Γ1 E1 s1 k1 d1 w1 => ?_
  obtain ⟨nd, w1⟩ := isi_nd (p := fun d => Q (.bool (isTy (tyD d) T || isTy (tyD d) U)) Γ1) w1
  refine ⟨by show 2 ≤ sizeLine; decide, fun q hq => ?_⟩
  have gq := E1.gnone hq
  have E2 := E1.laid (o := .tup [.ty T, .ty U]) hq
  have d2 := d1.mono (sameNew (o := .tup [.ty T, .ty U]) gq)
  exact ⟨v, q, _, _, _, _, rfl, upd_same, .cons (.ty T) (.cons (.ty U) .nil), tyX_of E2.gh nd d2, kitAny2 (kit1 nd d2 hT) (kit1 nd d2 hU), k _ _ _ _ Γ1 E2 (s1.trans (sameNew gq)) k1 (.bl _) w1⟩
theorem kit_list : KitOk "list" := by unfold KitOk; decide +kernel
theorem kit_tuple : KitOk "tuple" := by unfold KitOk; decide +kernel
theorem kit_bool : KitOk "bool" := by unfold KitOk; decide +kernel
theorem kit_str : KitOk "str" := by unfold KitOk; decide +kernel
theorem kit_int : KitOk "int" := by unfold KitOk; decide +kernel
/-- a built-in class's name as a value -/
theorem pe_ty {x : Str} {T : String} {p : Pos} (hg : Gl X x) (hm : X.mg x = none) (hv : bootBuiltins x = some (.type T)) (hn : x ≠ "__name__" := by decide) (hd : (x == ("__debug__" : Str)) = false := by decide) : PE X (.Name x p) (tC (.ty T)) := pe_bltn hg hm hv rfl hn hd
/-! ## lists that are one's own -/
@[simp] def ownAt (Γ : Gam) (j : Nat) : Option (List PyData) := match Γ[j]? with
  | some (.own ds) => some ds
  | some (.par ds) => some ds
  | _ => none
@[simp] def setOwn (Γ : Gam) (j : Nat) (ds : List PyData) : Gam := match Γ[j]? with
  | some (.own _) => Γ.set j (.own ds)
  | some (.par _) => Γ.set j (.par ds)
  | _ => Γ
theorem own_of {Γ : Gam} {j : Nat} {ds : List PyData} (h : ownAt Γ j = some ds) : Own Γ j ds := by
  unfold ownAt at h
  split at h
  · rename_i q; cases h; exact .inl q
  · rename_i q; cases h; exact .inr q
  · cases h
theorem setOwn_len (Γ : Gam) (j : Nat) (ds : List PyData) : (setOwn Γ j ds).length = Γ.length := by
  unfold setOwn
  split <;> simp
theorem setOwn_ne {Γ : Gam} {i j : Nat} {ds : List PyData} (h : i ≠ j) : (setOwn Γ j ds)[i]? = Γ[i]? := by
  unfold setOwn
  split
  · rw [List.getElem?_set_ne (Ne.symm h)]
  · rw [List.getElem?_set_ne (Ne.symm h)]
  · rfl
theorem setOwn_own {Γ : Gam} {j : Nat} {es ds : List PyData} (h : Γ[j]? = some (Sl.own es)) : (setOwn Γ j ds)[j]? = some (Sl.own ds) := by
  unfold setOwn
  rw [h]
  exact List.getElem?_set_self (List.getElem?_eq_some_iff.mp h).1
theorem setOwn_par {Γ : Gam} {j : Nat} {es ds : List PyData} (h : Γ[j]? = some (Sl.par es)) : (setOwn Γ j ds)[j]? = some (Sl.par ds) := by
  unfold setOwn
  rw [h]
  exact List.getElem?_set_self (List.getElem?_eq_some_iff.mp h).1
theorem setOwn_KS {Γ : Gam} {j : Nat} {ds : List PyData} : KS Γ (setOwn Γ j ds) := by
  refine ⟨(setOwn_len _ _ _).symm, fun i a b h h' => ?_⟩
  by_cases e : i = j
  · subst e
    cases a with
    | own es => rw [setOwn_own h] at h'; cases h'; trivial
    | par es => rw [setOwn_par h] at h'; cases h'; trivial
    | un =>
      unfold setOwn at h'
      rw [h] at h'
      simp only at h'
      rw [h] at h'
      cases h'
      trivial
    | dat d =>
      unfold setOwn at h'
      rw [h] at h'
      simp only at h'
      rw [h] at h'
      cases h'
      rfl
    | scr d =>
      unfold setOwn at h'
      rw [h] at h'
      simp only at h'
      rw [h] at h'
      cases h'
      rfl
  · rw [setOwn_ne e, h] at h'
    cases h'
    exact KS1.refl _
theorem setOwn_is {Γ : Gam} {i j : Nat} {ds es fs : List PyData} (o : Own Γ j fs) (h : Own (setOwn Γ j ds) i es) : (i = j ∧ es = ds) ∨ (i ≠ j ∧ Own Γ i es) := by
  by_cases e : i = j
  · subst e
    refine .inl ⟨rfl, ?_⟩
    rcases o with o | o
    · rcases h with h | h
      · rw [setOwn_own o] at h; cases h; rfl
      · rw [setOwn_own o] at h; cases h
    · rcases h with h | h
      · rw [setOwn_par o] at h; cases h
      · rw [setOwn_par o] at h; cases h; rfl
  · refine .inr ⟨e, ?_⟩
    unfold Own at h ⊢
    rwa [setOwn_ne e] at h
/-- the list in slot j is written -/
theorem En.wrote {B : Bs} {σ : L2.St} {H G : Hp} {Γ : Gam} {j : Nat} {ds es : List PyData} {p : Addr} {us : List V} (E : En K B σ H G Γ) (o : Own Γ j ds) (hp : σ[j]? = some (some (V.ref p))) (hu : DdAll K G us es) : En K B σ (upd H p (.lst us)) G (setOwn Γ j es) := by
  obtain ⟨q, vs, h1, h2, h3, h4, h5⟩ := E.mine j ds o
  rw [hp] at h1
  cases h1
  refine ⟨by rw [setOwn_len]; exact E.len, fun b x h => ?_, E.g0, fun b x h hP => ?_, fun b h => ?_, E.f0, fun b h => E.nn b ?_, fun i d h => ?_, fun i fs ow => ?_, fun i fs ow => ?_, fun i fs ow => ?_, fun i fs ow => ?_, fun i k q ds' es' o1 o2 h1' h2' => ?_⟩
  · rw [upd_ne (ne_of_none h h2)]
    exact E.gh b x h
  · have hb : b ≠ p := fun z => by
      subst z
      rcases h5 with h5 | h5
      · exact hP h5
      · rw [h] at h5; cases h5
    rw [upd_ne hb]
    exact E.h0 b x h hP
  · by_cases hb : b = p
    · subst hb; rw [upd_same]; exact fun z => by cases z
    · rw [upd_ne hb]; exact E.bh b h
  · by_cases hb : b = p
    · subst hb; rw [upd_same] at h; cases h
    · rwa [upd_ne hb] at h
  · have hij : i ≠ j := fun z => by
      subst z
      rcases o with o | o
      · rw [setOwn_own o] at h; cases h
      · rw [setOwn_par o] at h; cases h
    rw [setOwn_ne hij] at h
    exact E.dat i d h
  · rcases setOwn_is o ow with ⟨e1, e2⟩ | ⟨e1, e2⟩
    · subst e1 e2
      exact ⟨p, us, hp, h2, upd_same, hu, h5⟩
    · obtain ⟨q, ws, g1, g2, g3, g4, g5⟩ := E.mine i fs e2
      refine ⟨q, ws, g1, g2, ?_, g4, g5⟩
      have hq : q ≠ p := fun z => by
        subst z
        exact e1 (E.inj i j q fs ds e2 o g1 hp)
      rw [upd_ne hq]
      exact g3
  · by_cases hij : i = j
    · subst hij
      rcases o with o | o
      · exact E.new i ds o
      · rw [setOwn_par o] at ow; cases ow
    · rw [setOwn_ne hij] at ow
      exact E.new i fs ow
  · by_cases hij : i = j
    · subst hij
      rcases o with o | o
      · rw [setOwn_own o] at ow; cases ow
      · exact E.par i ds o
    · rw [setOwn_ne hij] at ow
      exact E.par i fs ow
  · have hij : i ≠ j := fun z => by
      subst z
      rcases o with o | o
      · rw [setOwn_own o] at ow; cases ow
      · rw [setOwn_par o] at ow; cases ow
    rw [setOwn_ne hij] at ow
    exact E.scr i fs ow
  · have w1 : ∃ x, Own Γ i x := by
      rcases setOwn_is o o1 with ⟨e1, _⟩ | ⟨_, e2⟩
      · subst e1; exact ⟨ds, o⟩
      · exact ⟨_, e2⟩
    have w2 : ∃ x, Own Γ k x := by
      rcases setOwn_is o o2 with ⟨e1, _⟩ | ⟨_, e2⟩
      · subst e1; exact ⟨ds, o⟩
      · exact ⟨_, e2⟩
    obtain ⟨x, w1⟩ := w1
    obtain ⟨y, w2⟩ := w2
    exact E.inj i k q x y w1 w2 h1' h2'
end
end DL

namespace DL
open PySem PySem.Spec PyProof.Rows L2
section
variable {X : Cx} {K : PySem.W.Frag} {a b c e : Expr} {es : List Expr} {Wa Wb Wc : WE} {Wr : WA} {pos : Pos} {WT' : WT}
/-! ## operands: data, or the list in a slot -/
inductive Opd where
  | dat (d : PyData)
  | var (j : Nat)
@[simp] def Opd.rd (Γ : Gam) : Opd → Option PyData
  | .dat d => some d
  | .var j => (ownAt Γ j).map .list
def OpV (K : PySem.W.Frag) (σ : L2.St) (G : Hp) (v : V) : Opd → Prop
  | .dat d => Dd K G v d
  | .var j => σ[j]? = some (some v)
theorem OpV.mono {σ : L2.St} {G G' : Hp} {v : V} {o : Opd} (e : Same G G') (h : OpV K σ G v o) : OpV K σ G' v o := by
  cases o with
  | dat d => exact Dd.mono e h
  | var j => exact h
abbrev WP := Gam → (Opd → Gam → Prop) → Prop
def RP (K : PySem.W.Frag) (t : TE) (W : WP) : Prop :=
  ∀ (B : Bs) (Γ : Gam) (σ : L2.St) (H G : Hp) (Q : Opd → Gam → Prop) (Q' : VK), En K B σ H G Γ → W Γ Q →
    (∀ v H' G' o Γ', En K B σ H' G' Γ' → Same G G' → KS Γ Γ' → OpV K σ G' v o → Q o Γ' → Q' v H') → t σ H Q'
structure DP (X : Cx) (e : Expr) (W : WP) : Prop where
  ex : ∃ t, PE X e t ∧ RP X.K t W
@[simp] def wD (Wa : WE) : WP := fun Γ Q => Wa Γ fun d Γ1 => Q (.dat d) Γ1
theorem DE.dp (h : DE X e Wa) : DP X e (wD Wa) := by
  obtain ⟨t, p, r⟩ := h.ex
  refine ⟨_, p, ?_⟩
  intro B Γ σ H G Q Q' E w k
  exact r B Γ σ H G _ _ E w fun v H1 G1 d Γ1 E1 s1 k1 d1 w1 => k v H1 G1 (.dat d) Γ1 E1 s1 k1 d1 w1
@[simp] def wO (j : Nat) : WP := fun Γ Q => (ownAt Γ j).isSome = true ∧ Q (.var j) Γ
theorem dp_own (j : Nat) {x : Str} {p : Pos} (h : PE X (.Name x p) (tVar j)) : DP X (.Name x p) (wO j) := by
  refine ⟨_, h, ?_⟩
  intro B Γ σ H G Q Q' E w k
  obtain ⟨w1, w2⟩ := w
  cases q : ownAt Γ j with
  | none => rw [q] at w1; cases w1
  | some ds =>
    obtain ⟨p, vs, h1, h2, h3, h4, h5⟩ := E.mine j ds (own_of q)
    exact ⟨_, h1, k _ H G (.var j) Γ E (Same.refl _) (KS.refl _) h1 w2⟩
@[simp] def wOs (j : Nat) : WP := fun Γ Q => match Γ[j]? with
  | some (.scr _) => Q (.var j) Γ
  | _ => False
theorem dp_scr (j : Nat) {x : Str} {p : Pos} (h : PE X (.Name x p) (tVar j)) : DP X (.Name x p) (wOs j) := by
  refine ⟨_, h, ?_⟩
  intro B Γ σ H G Q Q' E w k
  unfold wOs at w
  split at w
  · rename_i ds q
    obtain ⟨p, vs, h1, h2, h3⟩ := E.scr j ds q
    exact ⟨_, h1, k _ H G (.var j) Γ E (Same.refl _) (KS.refl _) h1 w⟩
  · exact w.elim
/-- read: a value that stands for data now -/
def Bd (K : PySem.W.Frag) (G H : Hp) (v : V) (d : PyData) : Prop := Dd K G v d ∨ ∃ p vs ds, v = .ref p ∧ d = .list ds ∧ H p = some (.lst vs) ∧ DdAll K G vs ds
theorem OpV.bd {B : Bs} {σ : L2.St} {H G : Hp} {Γ : Gam} {v : V} {o : Opd} {d : PyData} (E : En K B σ H G Γ) (h : OpV K σ G v o) (r : o.rd Γ = some d) : Bd K G H v d := by
  cases o with
  | dat e => cases r; exact .inl h
  | var j =>
    have r : (ownAt Γ j).map PyData.list = some d := r
    cases q : ownAt Γ j with
    | none => rw [q] at r; cases r
    | some ds =>
      rw [q] at r
      cases r
      obtain ⟨p, vs, h1, h2, h3, h4, h5⟩ := E.mine j ds (own_of q)
      have z : σ[j]? = some (some v) := h
      rw [h1] at z
      cases z
      exact .inr ⟨p, vs, ds, rfl, rfl, h3, h4⟩
theorem Bd.dd {B : Bs} {σ : L2.St} {H G : Hp} {Γ : Gam} {v : V} {d : PyData} (E : En K B σ H G Γ) (h : Bd K G H v d) : Dd K H v d := by
  rcases h with h | ⟨p, vs, ds, rfl, rfl, h1, h2⟩
  · exact h.mono E.gh
  · exact .lst h1 (h2.mono E.gh)
/-- a list's items -/
theorem Bd.lst {B : Bs} {σ : L2.St} {H G : Hp} {Γ : Gam} {v : V} {ds : List PyData} (E : En K B σ H G Γ) (h : Bd K G H v (.list ds)) : ∃ p vs, v = .ref p ∧ H p = some (.lst vs) ∧ DdAll K G vs ds := by
  rcases h with h | ⟨p, vs, ds', rfl, e, h1, h2⟩
  · cases h with
    | lst ga da => exact ⟨_, _, rfl, E.gh _ _ ga, da⟩
  · cases e; exact ⟨p, vs, rfl, h1, h2⟩
/-! what is done with operands that may be one's own -/
@[simp] def wIxO (Wo : WP) (Wb : WE) : WE := fun Γ Q => Wo Γ fun o Γ1 => Wb Γ1 fun y Γ2 => match o.rd Γ2 with
  | some x => ixD x y fun z => Q z Γ2
  | none => False
theorem de_ixO {Wo : WP} (ha : DP X a Wo) (hb : DE X b Wb) (hs : PlainIx b := by exact fun _ _ => rfl) : DE X (.Subscript a b pos) (wIxO Wo Wb) := by
  obtain ⟨ta, pa, ra⟩ := ha.ex
  obtain ⟨tb, pb, rb⟩ := hb.ex
  refine ⟨_, pe_ix ix_seq pa pb hs, ?_⟩
  intro B Γ σ H G Q Q' E w k
  refine ra B Γ σ H G _ _ E w fun v H1 G1 o Γ1 E1 s1 k1 o1 w1 => ?_
  refine rb B Γ1 σ H1 G1 _ _ E1 w1 fun u H2 G2 y Γ2 E2 s2 k2 d2 w2 => ?_
  cases q : o.rd Γ2 with
  | none => rw [q] at w2; exact w2.elim
  | some x =>
    rw [q] at w2
    have bd := (o1.mono s2).bd E2 q
    rcases bd with bd | ⟨p, vs, ds, rfl, rfl, h1, h2⟩
    · exact rv_ix B Γ2 σ H2 G2 _ _ x y _ _ E2 bd d2 w2 fun z H3 G3 d E3 s3 d3 q3 => k z H3 G3 d Γ2 E3 ((s1.trans s2).trans s3) (k1.trans k2) d3 q3
    · cases d2 with
      | int i =>
        obtain ⟨d, h, q3⟩ := w2
        obtain ⟨z, h', dz⟩ := h2.atI h
        exact .inl ⟨p, vs, i, z, rfl, rfl, SqL.of h1, h', k z H2 G2 d Γ2 E2 (s1.trans s2) (k1.trans k2) dz q3⟩
      | _ => exact w2.elim
@[simp] def wLenO (Wo : WP) : WE := fun Γ Q => Wo Γ fun o Γ1 => match o.rd Γ1 with
  | some x => lenD [x] fun z => Q z Γ1
  | none => False
theorem de_lenO {p : Pos} {Wo : WP} (hg : Gl X "len") (hm : X.mg "len" = none) (ha : DP X a Wo) (h1 : starEach [a] X.env = (false, eval a X.env) :: starEach [] X.env := by rfl) (h2 : (backTo pos (starEach [] X.env)).any (·.1) = false := by rfl) : DE X (.Call (.Name "len" p) [a] [] pos) (wLenO Wo) := by
  obtain ⟨ta, pa, ra⟩ := ha.ex
  refine ⟨_, pe_callB (call_len_seq.or call_len_str) hg hm PySem.boot_len (pa_cons pa pa_nil h1) (by decide) (by decide) h1 h2, ?_⟩
  intro B Γ σ H G Q Q' E w k
  refine ra B Γ σ H G _ _ E w fun v H1 G1 o Γ1 E1 s1 k1 o1 w1 => ?_
  cases q : o.rd Γ1 with
  | none => rw [q] at w1; exact w1.elim
  | some x =>
    rw [q] at w1
    have bd := o1.bd E1 q
    rcases bd with bd | ⟨p, vs, ds, rfl, rfl, h1, h2⟩
    · exact rv_len B Γ1 σ H1 G1 _ _ _ _ E1 (.cons bd .nil) w1 fun z H3 G3 d E3 s3 d3 q3 => k z H3 G3 d Γ1 E3 (s1.trans s3) k1 d3 q3
    · refine .inl ⟨p, vs, rfl, .inl (SqL.of h1), k _ H1 G1 _ Γ1 E1 s1 k1 (.int _) ?_⟩
      rw [h2.length]
      exact w1
@[simp] def wTupO (Wo : WP) : WE := fun Γ Q => Wo Γ fun o Γ1 => match o.rd Γ1 with
  | some x => tupT [x] fun z => Q z Γ1
  | none => False
theorem de_tupO {p : Pos} {Wo : WP} (hg : Gl X "tuple") (hm : X.mg "tuple" = none) (ha : DP X a Wo) (h1 : starEach [a] X.env = (false, eval a X.env) :: starEach [] X.env := by rfl) (h2 : (backTo pos (starEach [] X.env)).any (·.1) = false := by rfl) : DE X (.Call (.Name "tuple" p) [a] [] pos) (wTupO Wo) := by
  obtain ⟨ta, pa, ra⟩ := ha.ex
  refine ⟨_, pe_callTy call_tuple_of hg hm (by decide +kernel) (pa_cons pa pa_nil h1) (by decide) (by decide) h1 h2, ?_⟩
  intro B Γ σ H G Q Q' E w k
  refine ra B Γ σ H G _ _ E w fun v H1 G1 o Γ1 E1 s1 k1 o1 w1 => ?_
  cases q : o.rd Γ1 with
  | none => rw [q] at w1; exact w1.elim
  | some x =>
    rw [q] at w1
    have bd := o1.bd E1 q
    rcases bd with bd | ⟨p, vs, ds, rfl, rfl, h1, h2⟩
    · exact rv_tupT B Γ1 σ H1 G1 _ _ _ _ E1 (.cons bd .nil) w1 fun z H3 G3 d E3 s3 d3 q3 => k z H3 G3 d Γ1 E3 (s1.trans s3) k1 d3 q3
    · refine ⟨p, vs, rfl, .inl ⟨SqL.of h1, fun l hl => ?_⟩⟩
      have gp := E1.gnone hl
      exact k _ _ _ _ Γ1 (E1.laid hl) (s1.trans (sameNew gp)) k1 (.tup (SqT.of upd_same) (h2.mono (sameNew gp))) w1
/-- list(x): a new list -/
@[simp] def wListO (Wo : WP) : WA := fun Γ Q => Wo Γ fun o Γ1 => match o.rd Γ1 with
  | some (.list ds) => Q ds Γ1
  | some (.tuple ds) => Q ds Γ1
  | _ => False
theorem dn_listO {p : Pos} {Wo : WP} (hg : Gl X "list") (hm : X.mg "list" = none) (ha : DP X a Wo) (h1 : starEach [a] X.env = (false, eval a X.env) :: starEach [] X.env := by rfl) (h2 : (backTo pos (starEach [] X.env)).any (·.1) = false := by rfl) : DN X (.Call (.Name "list" p) [a] [] pos) (wListO Wo) := by
  obtain ⟨ta, pa, ra⟩ := ha.ex
  refine ⟨_, pe_callTy call_list_of hg hm (by decide +kernel) (pa_cons pa pa_nil h1) (by decide) (by decide) h1 h2, ?_⟩
  intro B Γ σ H G Q Q' E w k
  refine ra B Γ σ H G _ _ E w fun v H1 G1 o Γ1 E1 s1 k1 o1 w1 => ?_
  cases q : o.rd Γ1 with
  | none => rw [q] at w1; exact w1.elim
  | some x =>
    rw [q] at w1
    have bd := o1.bd E1 q
    cases x with
    | list ds =>
      obtain ⟨p, vs, rfl, h1, h2⟩ := Bd.lst E1 bd
      refine ⟨p, vs, rfl, .inl (SqL.of h1), fun l hl => ?_⟩
      exact k l vs _ G1 ds Γ1 (E1.laidN hl) s1 k1 (E1.gnone hl) upd_same h2 (E1.bnone hl) (E1.nn l hl) (fresh_own E1 hl) w1
    | tuple ds =>
      rcases bd with bd | ⟨p, vs, ds', rfl, e, _⟩
      · cases bd with
        | tup ga da =>
          refine ⟨_, _, rfl, .inr (sqT_same E1.gh ga), fun l hl => ?_⟩
          exact k l _ _ G1 ds Γ1 (E1.laidN hl) s1 k1 (E1.gnone hl) upd_same da (E1.bnone hl) (E1.nn l hl) (fresh_own E1 hl) w1
      · cases e
    | _ => exact w1.elim
/-! ## what a def promises, over data -/
inductive Rs where
  | dat (d : PyData)
  | new (ds : List PyData)
abbrev PSp := List Sl → (Rs → List Sl → Prop) → Prop
structure ArgsV (K : PySem.W.Frag) (G H : Hp) (vs : List V) (as : List Sl) : Prop where
  len : vs.length = as.length
  dat : ∀ (i : Nat) d, as[i]? = some (Sl.dat d) → ∃ v, vs[i]? = some v ∧ Dd K G v d
  par : ∀ (i : Nat) ds, as[i]? = some (Sl.par ds) → ∃ p us, vs[i]? = some (V.ref p) ∧ G p = none ∧ H p = some (.lst us) ∧ DdAll K G us ds
  scr : ∀ (i : Nat) ds, as[i]? = some (Sl.scr ds) → ∃ p us, vs[i]? = some (V.ref p) ∧ SqL K G p us ∧ DdAll K G us ds
  kind : ∀ (i : Nat) s, as[i]? = some s → (∃ d, s = Sl.dat d) ∨ (∃ ds, s = Sl.par ds) ∨ ∃ ds, s = Sl.scr ds
  inj : ∀ (i j : Nat) p ds es, as[i]? = some (Sl.par ds) → as[j]? = some (Sl.par es) → vs[i]? = some (V.ref p) → vs[j]? = some (V.ref p) → i = j
/-- a result -/
def VR (K : PySem.W.Frag) (N : Addr → Prop) (G H : Hp) (v : V) : Rs → Prop
  | .dat d => Dd K G v d
  | .new ds => ∃ p us, v = .ref p ∧ G p = none ∧ H p = some (.lst us) ∧ DdAll K G us ds ∧ N p
structure PostV (K : PySem.W.Frag) (G H : Hp) (vs : List V) (as : List Sl) (G' H' : Hp) (as' : List Sl) (v : V) (r : Rs) : Prop where
  gg : Same G G'
  gh : Same G' H'
  keep : ∀ q o, H q = some o → (∀ (i : Nat) ds, as[i]? = some (Sl.par ds) → vs[i]? ≠ some (V.ref q)) → H' q = some o
  alloc : ∀ q, H q ≠ none → H' q ≠ none
  free : ∀ q, H q ≠ none → G q = none → G' q = none
  ks : KS as as'
  par : ∀ (i : Nat) ds, as'[i]? = some (Sl.par ds) → ∃ p us, vs[i]? = some (V.ref p) ∧ H' p = some (.lst us) ∧ DdAll K G' us ds
  res : VR K (fun p => H p = none) G' H' v r
def spS (K : PySem.W.Frag) (S : PSp) : Sp := fun vs H Q _ => ∃ (G : Hp) (as : List Sl) (R : Rs → List Sl → Prop), Same G H ∧ ArgsV K G H vs as ∧ S as R ∧
  ∀ v G' H' as' r, PostV K G H vs as G' H' as' v r → R r as' → Q v H'
/-! ## statements -/
/-- what is raised: its class, its fields -/
structure Exn where
  C : Addr
  fs : List (Str × PyData)
inductive FldV (K : PySem.W.Frag) (G : Hp) : List (Str × V) → List (Str × PyData) → Prop
  | nil : FldV K G [] []
  | cons {f : Str} {v : V} {d : PyData} {vs : List (Str × V)} {ds : List (Str × PyData)} : Dd K G v d → FldV K G vs ds → FldV K G ((f, v) :: vs) ((f, d) :: ds)
theorem FldV.mono {G G' : Hp} (e : Same G G') : ∀ {vs : List (Str × V)} {ds : List (Str × PyData)}, FldV K G vs ds → FldV K G' vs ds
  | _, _, .nil => .nil
  | _, _, .cons h t => .cons (h.mono e) (FldV.mono e t)
/-- .. as it lies -/
def ExOk (K : PySem.W.Frag) (G : Hp) (d : Option Addr) (x : Exn) : Prop := (d = none ∧ x.fs = []) ∨ ∃ (dd : Addr) (vs : List (Str × V)), d = some dd ∧ G dd = some (.xd vs) ∧ FldV K G vs x.fs
theorem ExOk.mono {G G' : Hp} (e : Same G G') {d : Option Addr} {x : Exn} (h : ExOk K G d x) : ExOk K G' d x := by
  rcases h with h | ⟨dd, vs, h1, h2, h3⟩
  · exact .inl h
  · exact .inr ⟨dd, vs, h1, e _ _ h2, h3.mono e⟩
structure EndsD where
  nx : Gam → Prop
  rt : Rs → Gam → Prop
  bk : Gam → Prop := fun _ => False
  ct : Gam → Prop := fun _ => False
  ex : Exn → Gam → Prop := fun _ _ => False
abbrev WS := EndsD → Gam → Prop
structure Lk (K : PySem.W.Frag) (Wx : WX) (B : Bs) (G : Hp) (D : EndsD) (D' : Ends) : Prop where
  nx : ∀ σ H' G' Γ, En K B σ H' G' Γ → Same G G' → D.nx Γ → D'.nx σ H'
  bk : ∀ σ H' G' Γ, En K B σ H' G' Γ → Same G G' → D.bk Γ → D'.bk σ H'
  ct : ∀ σ H' G' Γ, En K B σ H' G' Γ → Same G G' → D.ct Γ → D'.ct σ H'
  rt : ∀ σ v H' G' Γ r, En K B σ H' G' Γ → Same G G' → VR K B.N G' H' v r → D.rt r Γ → D'.rt v H'
  nb : ∀ q, B.N q → B.H q = none
  ex : ∀ d σ H' G' Γ x, En K B σ H' G' Γ → Same G G' → ExOk K G' d x → D.ex x Γ → Wx (.ref x.C) d σ H'
variable {Wx : WX}
theorem Lk.mono {B : Bs} {G G' : Hp} {D : EndsD} {D' : Ends} (s : Same G G') (h : Lk K Wx B G D D') : Lk K Wx B G' D D' :=
  ⟨fun σ H' G'' Γ E s' q => h.nx σ H' G'' Γ E (s.trans s') q, fun σ H' G'' Γ E s' q => h.bk σ H' G'' Γ E (s.trans s') q, fun σ H' G'' Γ E s' q => h.ct σ H' G'' Γ E (s.trans s') q,
   fun σ v H' G'' Γ r E s' vr q => h.rt σ v H' G'' Γ r E (s.trans s') vr q, h.nb, fun d σ H' G'' Γ x E s' xo q => h.ex d σ H' G'' Γ x E (s.trans s') xo q⟩
def RS (K : PySem.W.Frag) (Wx : WX) (t : TS) (W : WS) : Prop :=
  ∀ (B : Bs) (Γ : Gam) (σ : L2.St) (H G : Hp) (D : EndsD) (D' : Ends), En K B σ H G Γ → W D Γ → Lk K Wx B G D D' → t D' σ H
/-- the least that X takes -/
def Wcan (X : Cx) : WX := fun cls d σ H => ∃ W : WX, Takes X W ∧ W cls d σ H
theorem takes_c {X : Cx} : Takes X (Wcan X) := fun u s' ⟨a, B, sI, pins, σ, H, cls, d, e, I, nb, up, sky, na, os, ag, W, tk, w⟩ => tk u s' ⟨a, B, sI, pins, σ, H, cls, d, e, I, nb, up, sky, na, os, ag, w⟩
structure DS (X : Cx) (st : Stmt) (W : WS) : Prop where
  ex : ∃ t, PS X st t ∧ RS X.K (Wcan X) t W
structure DSs (X : Cx) (st : List Stmt) (W : WS) : Prop where
  ex : ∃ t, PSs X st t ∧ RS X.K (Wcan X) t W
variable {st : Stmt} {rest : List Stmt} {W1 W2 : WS}
@[simp] def wNext : WS := fun D Γ => D.nx Γ
@[simp] def wSeq (W1 W2 : WS) : WS := fun D Γ => W1 { D with nx := W2 D } Γ
theorem rs_next : RS K Wx tNext wNext := fun B Γ σ H G D D' E w l => l.nx σ H G Γ E (Same.refl _) w
theorem dss_nil : DSs X [] wNext := ⟨_, pss_nil, rs_next⟩
theorem dss_cons (h : DS X st W1) (h' : DSs X rest W2) : DSs X (st :: rest) (wSeq W1 W2) := by
  obtain ⟨t, p, r⟩ := h.ex
  obtain ⟨t', p', r'⟩ := h'.ex
  refine ⟨_, pss_cons p p', ?_⟩
  intro B Γ σ H G D D' E w l
  exact r B Γ σ H G { D with nx := W2 D } { D' with nx := t' D' } E w ⟨fun σ1 H1 G1 Γ1 E1 s1 w1 => r' B Γ1 σ1 H1 G1 D D' E1 w1 (l.mono s1), l.bk, l.ct, l.rt, l.nb, l.ex⟩
theorem dss_one (h : DS X st W1) : DSs X [st] W1 := by
  obtain ⟨t, p, r⟩ := h.ex
  exact ⟨_, pss_one p, r⟩
theorem ds_pass : DS X (.Pass pos) wNext := ⟨_, ps_pass, rs_next⟩
@[simp] def wBreak : WS := fun D Γ => D.bk Γ
@[simp] def wCont : WS := fun D Γ => D.ct Γ
theorem ds_break : DS X (.Break pos) wBreak := ⟨_, ps_break, fun B Γ σ H G D D' E w l => l.bk σ H G Γ E (Same.refl _) w⟩
theorem ds_cont : DS X (.Continue pos) wCont := ⟨_, ps_continue, fun B Γ σ H G D D' E w l => l.ct σ H G Γ E (Same.refl _) w⟩
@[simp] def wDrop (Wa : WE) : WS := fun D Γ => Wa Γ fun _ Γ1 => D.nx Γ1
theorem ds_expr (h : DE X e Wa) (hs : swapsWith e none pos.line X.env = pure false := by rfl) : DS X (.Expr e pos) (wDrop Wa) := by
  obtain ⟨t, p, r⟩ := h.ex
  refine ⟨_, ps_expr p hs, ?_⟩
  intro B Γ σ H G D D' E w l
  exact r B Γ σ H G _ _ E w fun v H1 G1 d Γ1 E1 s1 k1 d1 w1 => l.nx σ H1 G1 Γ1 E1 s1 w1
@[simp] def wRet (Wa : WE) : WS := fun D Γ => Wa Γ fun d Γ1 => D.rt (.dat d) Γ1
theorem ds_ret (h : DE X e Wa) : DS X (.Return (some e) pos) (wRet Wa) := by
  obtain ⟨t, p, r⟩ := h.ex
  refine ⟨_, ps_ret p, ?_⟩
  intro B Γ σ H G D D' E w l
  exact r B Γ σ H G _ _ E w fun v H1 G1 d Γ1 E1 s1 k1 d1 w1 => l.rt σ v H1 G1 Γ1 (.dat d) E1 s1 d1 w1
@[simp] def wRetN : WS := fun D Γ => D.rt (.dat .none) Γ
theorem ds_retN : DS X (.Return none pos) wRetN := ⟨_, ps_retN, fun B Γ σ H G D D' E w l => l.rt σ .non H G Γ (.dat .none) E (Same.refl _) (Dd.non) w⟩
/-- return of a new list -/
@[simp] def wRetL (Wr : WA) : WS := fun D Γ => Wr Γ fun ds Γ1 => D.rt (.new ds) Γ1
theorem ds_retL (h : DN X e Wr) : DS X (.Return (some e) pos) (wRetL Wr) := by
  obtain ⟨t, p, r⟩ := h.ex
  refine ⟨_, ps_ret p, ?_⟩
  intro B Γ σ H G D D' E w l
  exact r B Γ σ H G _ _ E w fun p vs H1 G1 ds Γ1 E1 s1 k1 g1 h1 d1 b1 n1 o1 w1 => l.rt σ (.ref p) H1 G1 Γ1 (.new ds) E1 s1 ⟨p, vs, rfl, g1, h1, d1, n1⟩ w1
/-- return of one's own list -/
@[simp] def wRetO (j : Nat) : WS := fun D Γ => match Γ[j]? with
  | some (.own ds) => D.rt (.new ds) Γ
  | _ => False
theorem ds_retO (j : Nat) {x : Str} {p : Pos} (h : PE X (.Name x p) (tVar j)) : DS X (.Return (some (.Name x p)) pos) (wRetO j) := by
  refine ⟨_, ps_ret h, ?_⟩
  intro B Γ σ H G D D' E w l
  unfold wRetO at w
  cases q : Γ[j]? with
  | none => rw [q] at w; exact w.elim
  | some s =>
    rw [q] at w
    cases s with
    | own ds =>
      obtain ⟨p, vs, h1, h2, h3, h4, h5⟩ := E.mine j ds (.inl q)
      obtain ⟨p', h1', n⟩ := E.new j ds q
      rw [h1] at h1'
      cases h1'
      exact ⟨_, h1, l.rt σ _ H G Γ (.new ds) E (Same.refl _) ⟨p, vs, rfl, h2, h3, h4, n⟩ w⟩
    | _ => exact w.elim
@[simp] def wIfS (T : WT) (W1 W2 : WS) : WS := fun D Γ => T Γ fun b Γ1 => if b = true then W1 D Γ1 else W2 D Γ1
theorem ds_if {s1 s2 : List Stmt} (hc : DT X c WT') (h1 : DSs X s1 W1) (h2 : DSs X s2 W2) : DS X (.If c s1 s2 pos) (wIfS WT' W1 W2) := by
  obtain ⟨t, p, r⟩ := hc.ex
  obtain ⟨t1, p1, r1⟩ := h1.ex
  obtain ⟨t2, p2, r2⟩ := h2.ex
  refine ⟨_, ps_if p p1 p2, ?_⟩
  intro B Γ σ H G D D' E w l
  refine r B Γ σ H G _ _ E w fun b H1 G1 Γ1 E1 s1 k1 w1 => ?_
  cases b with
  | true => exact r1 B Γ1 σ H1 G1 D D' E1 w1 (l.mono s1)
  | false => exact r2 B Γ1 σ H1 G1 D D' E1 w1 (l.mono s1)
/-! stores -/
theorem En.setDat {B : Bs} {σ : L2.St} {H G : Hp} {Γ : Gam} {v : V} {d : PyData} (E : En K B σ H G Γ) (i : Nat) (h : Dd K G v d) : En K B (σ.set i (some v)) H G (Γ.set i (.dat d)) := by
  have own_ne : ∀ (k : Nat) ds, Own (Γ.set i (.dat d)) k ds → k ≠ i ∧ Own Γ k ds := fun k ds o => by
    by_cases e : k = i
    · subst e
      exfalso
      rcases o with o | o <;>
        (by_cases hl : k < Γ.length
         · rw [List.getElem?_set_self hl] at o; cases o
         · rw [List.getElem?_eq_none (by simpa using hl)] at o; cases o)
    · refine ⟨e, ?_⟩
      unfold Own at o ⊢
      rwa [List.getElem?_set_ne (Ne.symm e)] at o
  refine ⟨by simp [E.len], E.gh, E.g0, E.h0, E.bh, E.f0, E.nn, fun k e hk => ?_, fun k ds o => ?_, fun k ds o => ?_, fun k ds o => ?_, fun k ds o => ?_, fun k m p ds es o1 o2 h1 h2 => ?_⟩
  · by_cases z : k = i
    · subst z
      have hl : k < Γ.length := by
        have := (List.getElem?_eq_some_iff.mp hk).1
        simpa using this
      rw [List.getElem?_set_self hl] at hk
      cases hk
      exact ⟨v, List.getElem?_set_self (by rw [E.len]; exact hl), h⟩
    · rw [List.getElem?_set_ne (Ne.symm z)] at hk ⊢
      exact E.dat k e hk
  · obtain ⟨z, o⟩ := own_ne k ds o
    rw [List.getElem?_set_ne (Ne.symm z)]
    exact E.mine k ds o
  · obtain ⟨z, _⟩ := own_ne k ds (.inl o)
    rw [List.getElem?_set_ne (Ne.symm z)] at o ⊢
    exact E.new k ds o
  · obtain ⟨z, _⟩ := own_ne k ds (.inr o)
    rw [List.getElem?_set_ne (Ne.symm z)] at o ⊢
    exact E.par k ds o
  · have z : k ≠ i := fun z => by
      subst z
      by_cases hl : k < Γ.length
      · rw [List.getElem?_set_self hl] at o; cases o
      · rw [List.getElem?_eq_none (by simpa using hl)] at o; cases o
    rw [List.getElem?_set_ne (Ne.symm z)] at o ⊢
    exact E.scr k ds o
  · obtain ⟨z1, o1⟩ := own_ne k ds o1
    obtain ⟨z2, o2⟩ := own_ne m es o2
    rw [List.getElem?_set_ne (Ne.symm z1)] at h1
    rw [List.getElem?_set_ne (Ne.symm z2)] at h2
    exact E.inj k m p ds es o1 o2 h1 h2
theorem En.setOwnNew {B : Bs} {σ : L2.St} {H G : Hp} {Γ : Gam} {p : Addr} {vs : List V} {ds : List PyData} (E : En K B σ H G Γ) (i : Nat) (gp : G p = none) (hp : H p = some (.lst vs)) (da : DdAll K G vs ds) (bp : B.H p = none) (np : B.N p)
    (ho : ∀ (i : Nat) es, Own Γ i es → σ[i]? ≠ some (some (V.ref p))) : En K B (σ.set i (some (.ref p))) H G (Γ.set i (.own ds)) := by
  have own_ne : ∀ (k : Nat) es, Own (Γ.set i (.own ds)) k es → (k = i ∧ es = ds ∧ k < Γ.length) ∨ (k ≠ i ∧ Own Γ k es) := fun k es o => by
    by_cases e : k = i
    · subst e
      by_cases hl : k < Γ.length
      · rcases o with o | o
        · rw [List.getElem?_set_self hl] at o; cases o; exact .inl ⟨rfl, rfl, hl⟩
        · rw [List.getElem?_set_self hl] at o; cases o
      · rcases o with o | o <;> (rw [List.getElem?_eq_none (by simpa using hl)] at o; cases o)
    · refine .inr ⟨e, ?_⟩
      unfold Own at o ⊢
      rwa [List.getElem?_set_ne (Ne.symm e)] at o
  refine ⟨by simp [E.len], E.gh, E.g0, E.h0, E.bh, E.f0, E.nn, fun k e hk => ?_, fun k es o => ?_, fun k es o => ?_, fun k es o => ?_, fun k es o => ?_, fun k m q es fs o1 o2 h1 h2 => ?_⟩
  · have z : k ≠ i := fun z => by
      subst z
      by_cases hl : k < Γ.length
      · rw [List.getElem?_set_self hl] at hk; cases hk
      · rw [List.getElem?_eq_none (by simpa using hl)] at hk; cases hk
    rw [List.getElem?_set_ne (Ne.symm z)] at hk ⊢
    exact E.dat k e hk
  · rcases own_ne k es o with ⟨z, e, hl⟩ | ⟨z, o⟩
    · subst z e
      exact ⟨p, vs, List.getElem?_set_self (by rw [E.len]; exact hl), gp, hp, da, .inr bp⟩
    · rw [List.getElem?_set_ne (Ne.symm z)]
      exact E.mine k es o
  · rcases own_ne k es (.inl o) with ⟨z, e, hl⟩ | ⟨z, _⟩
    · subst z e
      exact ⟨p, List.getElem?_set_self (by rw [E.len]; exact hl), np⟩
    · rw [List.getElem?_set_ne (Ne.symm z)] at o ⊢
      exact E.new k es o
  · rcases own_ne k es (.inr o) with ⟨z, e, hl⟩ | ⟨z, _⟩
    · subst z
      rw [List.getElem?_set_self hl] at o; cases o
    · rw [List.getElem?_set_ne (Ne.symm z)] at o ⊢
      exact E.par k es o
  · have z : k ≠ i := fun z => by
      subst z
      by_cases hl : k < Γ.length
      · rw [List.getElem?_set_self hl] at o; cases o
      · rw [List.getElem?_eq_none (by simpa using hl)] at o; cases o
    rw [List.getElem?_set_ne (Ne.symm z)] at o ⊢
    exact E.scr k es o
  · rcases own_ne k es o1 with ⟨z1, e1, l1⟩ | ⟨z1, o4⟩
    · rcases own_ne m fs o2 with ⟨z2, e2, l2⟩ | ⟨z2, o3⟩
      · exact z1.trans z2.symm
      · exfalso
        subst z1
        rw [List.getElem?_set_self (by rw [E.len]; exact l1)] at h1
        cases h1
        rw [List.getElem?_set_ne (Ne.symm z2)] at h2
        exact ho m fs o3 h2
    · rcases own_ne m fs o2 with ⟨z2, e2, l2⟩ | ⟨z2, o3⟩
      · exfalso
        subst z2
        rw [List.getElem?_set_self (by rw [E.len]; exact l2)] at h2
        cases h2
        rw [List.getElem?_set_ne (Ne.symm z1)] at h1
        exact ho k es o4 h1
      · rw [List.getElem?_set_ne (Ne.symm z1)] at h1
        rw [List.getElem?_set_ne (Ne.symm z2)] at h2
        exact E.inj k m q es fs o4 o3 h1 h2
@[simp] def wAsg (i : Nat) (Wa : WE) : WS := fun D Γ => Wa Γ fun d Γ1 => D.nx (Γ1.set i (.dat d))
theorem rs_asg {t : TE} {i : Nat} (r : RE K t Wa) : RS K Wx (tAsg t (gName i)) (wAsg i Wa) := by
  intro B Γ σ H G D D' E w l
  exact r B Γ σ H G _ _ E w fun v H1 G1 d Γ1 E1 s1 k1 d1 w1 => l.nx _ H1 G1 _ (E1.setDat i d1) s1 w1
theorem ds_set {i : Nat} {x : Str} {pos' : Pos} (hN : X.N.Nodup) (hi : X.N[i]? = some x) (hx : Loc X.env.scope x) (h : DE X e Wa) (hs : swapsWith e (some (.Name x pos')) pos.line X.env = pure false := by rfl) (hf : X.fn x = true ∨ X.env.scope.names.lookup x = some .local := by first | exact .inl rfl | exact .inr rfl | assumption) :
    DS X (.Assign [.Name x pos'] e pos) (wAsg i Wa) := by
  obtain ⟨t, p, r⟩ := h.ex
  exact ⟨_, ps_set hN hi hx p hs hf, rs_asg r⟩
@[simp] def wAsgL (i : Nat) (Wr : WA) : WS := fun D Γ => Wr Γ fun ds Γ1 => D.nx (Γ1.set i (.own ds))
theorem rs_asgL {t : TE} {i : Nat} (r : RN K t Wr) : RS K Wx (tAsg t (gName i)) (wAsgL i Wr) := by
  intro B Γ σ H G D D' E w l
  exact r B Γ σ H G _ _ E w fun p vs H1 G1 ds Γ1 E1 s1 k1 g1 h1 d1 b1 n1 o1 w1 => l.nx _ H1 G1 _ (E1.setOwnNew i g1 h1 d1 b1 n1 o1) s1 w1
theorem ds_setL {i : Nat} {x : Str} {pos' : Pos} (hN : X.N.Nodup) (hi : X.N[i]? = some x) (hx : Loc X.env.scope x) (h : DN X e Wr) (hs : swapsWith e (some (.Name x pos')) pos.line X.env = pure false := by rfl) (hf : X.fn x = true ∨ X.env.scope.names.lookup x = some .local := by first | exact .inl rfl | exact .inr rfl | assumption) :
    DS X (.Assign [.Name x pos'] e pos) (wAsgL i Wr) := by
  obtain ⟨t, p, r⟩ := h.ex
  exact ⟨_, ps_set hN hi hx p hs hf, rs_asgL r⟩
/-- x += e, ints -/
@[simp] def wAug (i : Nat) (g : Int → Int → Int) (Wa : WE) : WS := fun D Γ => match Γ[i]? with
  | some (.dat (.int a)) => Wa Γ fun d Γ1 => match d with
    | .int b => D.nx (Γ1.set i (.dat (.int (g a b))))
    | _ => False
  | _ => False
theorem ds_aug {i : Nat} {x : Str} {op : Operator} {g : Int → Int → Int} {pos' : Pos} (hN : X.N.Nodup) (hi : X.N[i]? = some x) (hx : Loc X.env.scope x) (h : DE X e Wa) (ho : PIp X op (ipI g)) (hf : X.fn x = true ∨ X.env.scope.names.lookup x = some .local := by first | exact .inl rfl | exact .inr rfl | assumption) :
    DS X (.AugAssign (.Name x pos') op e pos) (wAug i g Wa) := by
  obtain ⟨t, p, r⟩ := h.ex
  refine ⟨_, ps_aug hN hi hx p ho hf, ?_⟩
  intro B Γ σ H G D D' E w l
  unfold wAug at w
  split at w
  · rename_i a q
    obtain ⟨v, h1, h2⟩ := E.dat i _ q
    cases h2
    refine ⟨_, h1, ?_⟩
    refine r B Γ σ H G _ _ E w fun v H1 G1 d Γ1 E1 s1 k1 d1 w1 => ?_
    cases d1 with
    | int b => exact ⟨a, b, rfl, rfl, l.nx _ H1 G1 _ (E1.setDat i (.int _)) s1 w1⟩
    | _ => exact w1.elim
  · exact w.elim
/-- xs.append(e) -/
@[simp] def wApp (j : Nat) (Wa : WE) : WS := fun D Γ => (ownAt Γ j).isSome = true ∧ Wa Γ fun d Γ1 => match ownAt Γ1 j with
  | some ds => ds.length < sizeLine ∧ D.nx (setOwn Γ1 j (ds ++ [d]))
  | none => False
theorem ds_app (j : Nat) {x : Str} {p apos cpos : Pos} {t0 : TE} (h : PE X (.Name x p) (tVar j)) (he : DE X e Wa)
    (hb : ∀ {t : TE}, PE X e t → PE X (.Call (.Attribute (.Name x p) "append" apos) [e] [] cpos) (tBM X.K "list" rAppend (tVar j) (tCons t tNil))) (hs : swapsWith (.Call (.Attribute (.Name x p) "append" apos) [e] [] cpos) none pos.line X.env = pure false := by rfl) :
    DS X (.Expr (.Call (.Attribute (.Name x p) "append" apos) [e] [] cpos) pos) (wApp j Wa) := by
  obtain ⟨t, pe, r⟩ := he.ex
  refine ⟨_, ps_expr (hb pe) hs, ?_⟩
  intro B Γ σ H G D D' E w l
  obtain ⟨w0, w⟩ := w
  cases q : ownAt Γ j with
  | none => rw [q] at w0; cases w0
  | some ds0 =>
    obtain ⟨p, vs, h1, h2, h3, h4, h5⟩ := E.mine j ds0 (own_of q)
    refine ⟨_, h1, .inl ⟨rfl, vs, SqL.of h3⟩, ?_⟩
    refine r B Γ σ H G _ _ E w fun v H1 G1 d Γ1 E1 s1 k1 d1 w1 => ?_
    cases q1 : ownAt Γ1 j with
    | none => rw [q1] at w1; exact w1.elim
    | some ds =>
      rw [q1] at w1
      obtain ⟨p', vs', g1, g2, g3, g4, g5⟩ := E1.mine j ds (own_of q1)
      rw [h1] at g1
      cases g1
      refine ⟨p, vs', v, rfl, rfl, g3, by rw [g4.length]; exact w1.1, ?_⟩
      exact l.nx σ _ G1 _ (E1.wrote (own_of q1) h1 (g4.app (.cons d1 .nil))) s1 w1.2
/-- xs[i] = e -/
@[simp] def wSetI (j : Nat) (Wi We : WE) : WS := fun D Γ => We Γ fun d Γ1 => (ownAt Γ1 j).isSome = true ∧ Wi Γ1 fun i Γ2 => match i, ownAt Γ2 j with
  | .int i, some ds => optD (ixN ds.length i) fun k => D.nx (setOwn Γ2 j (ds.set k d))
  | _, _ => False
theorem ds_setI (j : Nat) {x : Str} {p tpos : Pos} (h : PE X (.Name x p) (tVar j)) (hi : DE X a Wa) (he : DE X e Wb)
    (ha : ∀ v, assign (.Subscript (.Name x p) a tpos) X.env v = (do
      let ov ← holding [v] (eval (.Name x p) X.env)
      let iv ← holding [v, ov] (eval a X.env)
      standAt tpos
      holding [v, ov, iv] (setItem ov iv v)
      release [v, ov, iv] []) := by intro _; rfl) (hs : swapsWithSole [.Subscript (.Name x p) a tpos] e pos.line X.env = pure false := by rfl) (hw : swappedStores [.Subscript (.Name x p) a tpos] e X.env = pure none := by rfl)
    (h1 : (assignEach [.Subscript (.Name x p) a tpos] X.env).map (·.2) = [assign (.Subscript (.Name x p) a tpos) X.env] := by rfl) :
    DS X (.Assign [.Subscript (.Name x p) a tpos] e pos) (wSetI j Wa Wb) := by
  obtain ⟨ti, pi, ri⟩ := hi.ex
  obtain ⟨te, pe, re⟩ := he.ex
  refine ⟨_, ps_asg pe (pg_sub h pi set_list ha) hs hw h1, ?_⟩
  intro B Γ σ H G D D' E w l
  refine re B Γ σ H G _ _ E w fun v H1 G1 d Γ1 E1 s1 k1 d1 w1 => ?_
  obtain ⟨w0, w1⟩ := w1
  cases q : ownAt Γ1 j with
  | none => rw [q] at w0; cases w0
  | some ds0 =>
    obtain ⟨p, vs, h1, h2, h3, h4, h5⟩ := E1.mine j ds0 (own_of q)
    refine ⟨_, h1, ?_⟩
    refine ri B Γ1 σ H1 G1 _ _ E1 w1 fun u H2 G2 i Γ2 E2 s2 k2 d2 w2 => ?_
    cases d2 with
    | int i =>
      cases q1 : ownAt Γ2 j with
      | none =>
        simp only [q1] at w2
      | some ds =>
        simp only [q1] at w2
        obtain ⟨k, hk, w3⟩ := w2
        obtain ⟨p', vs', g1, g2, g3, g4, g5⟩ := E2.mine j ds (own_of q1)
        rw [h1] at g1
        cases g1
        refine ⟨p, vs', i, k, rfl, rfl, g3, by rw [g4.length]; exact hk, ?_⟩
        exact l.nx σ _ G2 _ (E2.wrote (own_of q1) h1 (g4.set k (d1.mono s2))) (s1.trans s2) w3
    | _ => exact w2.elim
end
end DL

namespace DL
open PySem PySem.Spec PyProof.Rows L2
section
variable {X : Cx} {K : PySem.W.Frag} {a b c e : Expr} {es : List Expr} {Wa Wb Wc : WE} {Wr : WA} {pos : Pos} {WT' : WT}
/-! ## calls -/
inductive OpsV (K : PySem.W.Frag) (σ : L2.St) (G : Hp) : List V → List Opd → Prop
  | nil : OpsV K σ G [] []
  | cons {v : V} {vs : List V} {o : Opd} {os : List Opd} : OpV K σ G v o → OpsV K σ G vs os → OpsV K σ G (v :: vs) (o :: os)
theorem OpsV.mono {σ : L2.St} {G G' : Hp} (s : Same G G') : ∀ {vs : List V} {os : List Opd}, OpsV K σ G vs os → OpsV K σ G' vs os
  | _, _, .nil => .nil
  | _, _, .cons h t => .cons (h.mono s) (OpsV.mono s t)
theorem OpsV.length {σ : L2.St} {G : Hp} : ∀ {vs : List V} {os : List Opd}, OpsV K σ G vs os → vs.length = os.length
  | _, _, .nil => rfl
  | _, _, .cons _ t => congrArg Nat.succ (OpsV.length t)
theorem OpsV.get {σ : L2.St} {G : Hp} : ∀ {vs : List V} {os : List Opd} {i : Nat} {o : Opd}, OpsV K σ G vs os → os[i]? = some o → ∃ v, vs[i]? = some v ∧ OpV K σ G v o
  | _, _, _, _, .nil, h => by simp at h
  | _, _, 0, _, .cons (v := v) h t, e => by
    simp at e; subst e; exact ⟨v, by simp, h⟩
  | _, _, i + 1, _, .cons h t, e => by
    obtain ⟨v, h1, h2⟩ := OpsV.get (i := i) t (by simpa using e)
    exact ⟨v, by simpa using h1, h2⟩
abbrev WPA := Gam → (List Opd → Gam → Prop) → Prop
def RPA (K : PySem.W.Frag) (t : TA) (W : WPA) : Prop :=
  ∀ (B : Bs) (Γ : Gam) (σ : L2.St) (H G : Hp) (Q : List Opd → Gam → Prop) (Q' : List V → Hp → Prop), En K B σ H G Γ → W Γ Q →
    (∀ vs H' G' os Γ', En K B σ H' G' Γ' → Same G G' → KS Γ Γ' → OpsV K σ G' vs os → Q os Γ' → Q' vs H') → t σ H Q'
structure DPA (X : Cx) (es : List Expr) (W : WPA) : Prop where
  ex : ∃ t, PA X es t ∧ RPA X.K t W
@[simp] def wPNil : WPA := fun Γ Q => Q [] Γ
@[simp] def wPCons (Wo : WP) (Wr : WPA) : WPA := fun Γ Q => Wo Γ fun o Γ1 => Wr Γ1 fun os Γ2 => Q (o :: os) Γ2
theorem dpa_nil : DPA X [] wPNil := ⟨_, pa_nil, by
  intro B Γ σ H G Q Q' E w k
  exact k [] H G [] Γ E (Same.refl _) (KS.refl _) .nil w⟩
theorem dpa_cons {Wo : WP} {Wr : WPA} (h : DP X e Wo) (h' : DPA X es Wr) (hs : starEach (e :: es) X.env = (false, eval e X.env) :: starEach es X.env := by rfl) : DPA X (e :: es) (wPCons Wo Wr) := by
  obtain ⟨t, p, r⟩ := h.ex
  obtain ⟨t', p', r'⟩ := h'.ex
  refine ⟨_, pa_cons p p' hs, ?_⟩
  intro B Γ σ H G Q Q' E w k
  refine r B Γ σ H G _ _ E w fun v H1 G1 o Γ1 E1 s1 k1 o1 w1 => ?_
  refine r' B Γ1 σ H1 G1 _ _ E1 w1 fun vs H2 G2 os Γ2 E2 s2 k2 o2 w2 => ?_
  exact k (v :: vs) H2 G2 (o :: os) Γ2 E2 (s1.trans s2) (k1.trans k2) (.cons (o1.mono s2) o2) w2
@[simp] def argsOf (Γ : Gam) : List Opd → Option (List Sl)
  | [] => some []
  | .dat d :: os => match argsOf Γ os with
    | some r => some (.dat d :: r)
    | none => none
  | .var j :: os => match Γ[j]? with
    | some (.own ds) => (match argsOf Γ os with
      | some r => some (.par ds :: r)
      | none => none)
    | some (.par ds) => (match argsOf Γ os with
      | some r => some (.par ds :: r)
      | none => none)
    | some (.scr ds) => (match argsOf Γ os with
      | some r => some (.scr ds :: r)
      | none => none)
    | _ => none
@[simp] def putB (Γ : Gam) : List Opd → List Sl → Gam
  | .var j :: os, .par ds :: as => putB (setOwn Γ j ds) os as
  | _ :: os, _ :: as => putB Γ os as
  | _, _ => Γ
@[simp] def varsOf : List Opd → List Nat
  | [] => []
  | .dat _ :: os => varsOf os
  | .var j :: os => j :: varsOf os
theorem mem_varsOf : ∀ {os : List Opd} {i j : Nat}, os[i]? = some (Opd.var j) → j ∈ varsOf os
  | [], _, _, h => by simp at h
  | .dat _ :: os, 0, _, h => by simp at h
  | .var k :: os, 0, _, h => by
    simp at h; subst h; exact List.mem_cons_self
  | .dat _ :: os, i + 1, _, h => mem_varsOf (os := os) (i := i) (by simpa using h)
  | .var k :: os, i + 1, _, h => List.mem_cons_of_mem _ (mem_varsOf (os := os) (i := i) (by simpa using h))
theorem vars_inj : ∀ {os : List Opd} {i k j : Nat}, (varsOf os).Nodup → os[i]? = some (Opd.var j) → os[k]? = some (Opd.var j) → i = k
  | [], _, _, _, _, h, _ => by simp at h
  | .dat _ :: os, 0, _, _, _, h, _ => by simp at h
  | .dat _ :: os, _ + 1, 0, _, _, _, h => by simp at h
  | .dat _ :: os, i + 1, k + 1, _, n, h, h' => congrArg Nat.succ (vars_inj (os := os) n (by simpa using h) (by simpa using h'))
  | .var _ :: os, 0, 0, _, _, _, _ => rfl
  | .var m :: os, 0, k + 1, _, n, h, h' => by
    simp at h; subst h
    exact absurd (mem_varsOf (os := os) (i := k) (by simpa using h')) (List.nodup_cons.mp n).1
  | .var m :: os, i + 1, 0, _, n, h, h' => by
    simp at h'; subst h'
    exact absurd (mem_varsOf (os := os) (i := i) (by simpa using h)) (List.nodup_cons.mp n).1
  | .var m :: os, i + 1, k + 1, _, n, h, h' => congrArg Nat.succ (vars_inj (os := os) (List.nodup_cons.mp n).2 (by simpa using h) (by simpa using h'))
theorem argsOf_at {Γ : Gam} : ∀ {os : List Opd} {as : List Sl}, argsOf Γ os = some as → os.length = as.length ∧ ∀ (i : Nat) s, as[i]? = some s → (∃ d, s = .dat d ∧ os[i]? = some (Opd.dat d)) ∨ (∃ ds j, s = .par ds ∧ os[i]? = some (Opd.var j) ∧ Own Γ j ds) ∨ ∃ ds j, s = .scr ds ∧ os[i]? = some (Opd.var j) ∧ Γ[j]? = some (Sl.scr ds)
  | [], as, h => by
    cases h
    exact ⟨rfl, fun i s e => by simp at e⟩
  | .dat d :: os, as, h => by
    unfold argsOf at h
    cases q : argsOf Γ os with
    | none => rw [q] at h; cases h
    | some r =>
      rw [q] at h
      cases h
      obtain ⟨l, at'⟩ := argsOf_at q
      refine ⟨congrArg Nat.succ l, fun i s e => ?_⟩
      cases i with
      | zero => simp at e; subst e; exact .inl ⟨d, rfl, by simp⟩
      | succ i => simpa using at' i s (by simpa using e)
  | .var j :: os, as, h => by
    unfold argsOf at h
    have key : ∀ s0 : Sl, ((∃ ds, s0 = .par ds ∧ Own Γ j ds) ∨ ∃ ds, s0 = .scr ds ∧ Γ[j]? = some (Sl.scr ds)) → (match argsOf Γ os with
      | some r => some (s0 :: r)
      | none => none) = some as → (Opd.var j :: os).length = as.length ∧ ∀ (i : Nat) s, as[i]? = some s → (∃ d, s = .dat d ∧ (Opd.var j :: os)[i]? = some (Opd.dat d)) ∨ (∃ ds k, s = .par ds ∧ (Opd.var j :: os)[i]? = some (Opd.var k) ∧ Own Γ k ds) ∨ ∃ ds k, s = .scr ds ∧ (Opd.var j :: os)[i]? = some (Opd.var k) ∧ Γ[k]? = some (Sl.scr ds) := by
      intro s0 hs h
      cases q : argsOf Γ os with
      | none => simp only [q] at h; cases h
      | some r =>
        simp only [q] at h
        cases h
        obtain ⟨l, at'⟩ := argsOf_at q
        refine ⟨congrArg Nat.succ l, fun i s e => ?_⟩
        cases i with
        | zero =>
          simp at e
          subst e
          rcases hs with ⟨ds, e, o⟩ | ⟨ds, e, o⟩
          · exact .inr (.inl ⟨ds, j, e, by simp, o⟩)
          · exact .inr (.inr ⟨ds, j, e, by simp, o⟩)
        | succ i => simpa using at' i s (by simpa using e)
    split at h
    · rename_i ds q1; exact key (.par ds) (.inl ⟨ds, rfl, .inl q1⟩) h
    · rename_i ds q1; exact key (.par ds) (.inl ⟨ds, rfl, .inr q1⟩) h
    · rename_i ds q1; exact key (.scr ds) (.inr ⟨ds, rfl, q1⟩) h
    · cases h
theorem putB_KS : ∀ {os : List Opd} {as : List Sl} {Γ : Gam}, KS Γ (putB Γ os as)
  | .var j :: os, .par ds :: as, Γ => setOwn_KS.trans (putB_KS (os := os) (as := as))
  | .dat _ :: os, _ :: as, Γ => putB_KS (os := os) (as := as)
  | .var j :: os, .un :: as, Γ => putB_KS (os := os) (as := as)
  | .var j :: os, .dat _ :: as, Γ => putB_KS (os := os) (as := as)
  | .var j :: os, .own _ :: as, Γ => putB_KS (os := os) (as := as)
  | .var j :: os, .scr _ :: as, Γ => putB_KS (os := os) (as := as)
  | [], _, Γ => by unfold putB; exact KS.refl _
  | .dat _ :: os, [], Γ => by unfold putB; exact KS.refl _
  | .var _ :: os, [], Γ => by unfold putB; exact KS.refl _
theorem putB_own : ∀ {os : List Opd} {as : List Sl} {Γ : Gam} {i : Nat} {es : List PyData}, Own (putB Γ os as) i es →
    (∃ k : Nat, os[k]? = some (Opd.var i) ∧ as[k]? = some (Sl.par es)) ∨ (Own Γ i es ∧ ∀ (k : Nat) ds, os[k]? = some (Opd.var i) → as[k]? ≠ some (Sl.par ds))
  | [], as, Γ, i, es, h => by
    unfold putB at h
    exact .inr ⟨h, fun k ds e => by simp at e⟩
  | .dat _ :: os, [], Γ, i, es, h => by
    unfold putB at h
    exact .inr ⟨h, fun k ds e e' => by simp at e'⟩
  | .var _ :: os, [], Γ, i, es, h => by
    unfold putB at h
    exact .inr ⟨h, fun k ds e e' => by simp at e'⟩
  | .dat d :: os, s :: as, Γ, i, es, h => by
    rcases putB_own (os := os) (as := as) (Γ := Γ) (by simpa [putB] using h) with ⟨k, h1, h2⟩ | ⟨h1, h2⟩
    · exact .inl ⟨k + 1, by simpa using h1, by simpa using h2⟩
    · refine .inr ⟨h1, fun k ds e => ?_⟩
      cases k with
      | zero => simp at e
      | succ k => simpa using h2 k ds (by simpa using e)
  | .var j :: os, .par ds :: as, Γ, i, es, h => by
    rcases putB_own (os := os) (as := as) (Γ := setOwn Γ j ds) (by simpa [putB] using h) with ⟨k, h1, h2⟩ | ⟨h1, h2⟩
    · exact .inl ⟨k + 1, by simpa using h1, by simpa using h2⟩
    · by_cases e : i = j
      · subst e
        have : es = ds := by
          rcases h1 with h1 | h1
          · obtain ⟨x, hx⟩ := (setOwn_KS (Γ := Γ) (j := i) (ds := ds)).ownB h1
            rw [setOwn_own hx] at h1; cases h1; rfl
          · obtain ⟨x, hx⟩ := (setOwn_KS (Γ := Γ) (j := i) (ds := ds)).parB h1
            rw [setOwn_par hx] at h1; cases h1; rfl
        subst this
        exact .inl ⟨0, by simp, by simp⟩
      · refine .inr ⟨?_, fun k ds' e' => ?_⟩
        · unfold Own at h1 ⊢
          rwa [setOwn_ne e] at h1
        · cases k with
          | zero => simp at e'; exact absurd e'.symm e
          | succ k => simpa using h2 k ds' (by simpa using e')
  | .var j :: os, .un :: as, Γ, i, es, h => by
    rcases putB_own (os := os) (as := as) (Γ := Γ) (by simpa [putB] using h) with ⟨k, h1, h2⟩ | ⟨h1, h2⟩
    · exact .inl ⟨k + 1, by simpa using h1, by simpa using h2⟩
    · refine .inr ⟨h1, fun k ds e => ?_⟩
      cases k with
      | zero => simp
      | succ k => simpa using h2 k ds (by simpa using e)
  | .var j :: os, .dat _ :: as, Γ, i, es, h => by
    rcases putB_own (os := os) (as := as) (Γ := Γ) (by simpa [putB] using h) with ⟨k, h1, h2⟩ | ⟨h1, h2⟩
    · exact .inl ⟨k + 1, by simpa using h1, by simpa using h2⟩
    · refine .inr ⟨h1, fun k ds e => ?_⟩
      cases k with
      | zero => simp
      | succ k => simpa using h2 k ds (by simpa using e)
  | .var j :: os, .own _ :: as, Γ, i, es, h => by
    rcases putB_own (os := os) (as := as) (Γ := Γ) (by simpa [putB] using h) with ⟨k, h1, h2⟩ | ⟨h1, h2⟩
    · exact .inl ⟨k + 1, by simpa using h1, by simpa using h2⟩
    · refine .inr ⟨h1, fun k ds e => ?_⟩
      cases k with
      | zero => simp
      | succ k => simpa using h2 k ds (by simpa using e)
  | .var j :: os, .scr _ :: as, Γ, i, es, h => by
    rcases putB_own (os := os) (as := as) (Γ := Γ) (by simpa [putB] using h) with ⟨k, h1, h2⟩ | ⟨h1, h2⟩
    · exact .inl ⟨k + 1, by simpa using h1, by simpa using h2⟩
    · refine .inr ⟨h1, fun k ds e => ?_⟩
      cases k with
      | zero => simp
      | succ k => simpa using h2 k ds (by simpa using e)
theorem KS.parF {Γ Γ' : Gam} (h : KS Γ Γ') {i : Nat} {ds : List PyData} (o : Γ[i]? = some (Sl.par ds)) : ∃ es, Γ'[i]? = some (Sl.par es) := by
  have li : i < Γ'.length := by
    have := (List.getElem?_eq_some_iff.mp o).1
    rw [← h.len]; exact this
  have hy : Γ'[i]? = some Γ'[i] := List.getElem?_eq_getElem li
  have k := h.at' i _ _ o hy
  cases e : Γ'[i] with
  | par es => exact ⟨es, by rw [hy, e]⟩
  | un => rw [e] at k; exact k.elim
  | dat _ => rw [e] at k; exact k.elim
  | own _ => rw [e] at k; exact k.elim
  | scr _ => rw [e] at k; exact k.elim
theorem KS.scrB {Γ Γ' : Gam} (h : KS Γ Γ') {i : Nat} {d : List PyData} (o : Γ'[i]? = some (Sl.scr d)) : Γ[i]? = some (Sl.scr d) := by
  have li : i < Γ.length := by
    have := (List.getElem?_eq_some_iff.mp o).1
    rw [h.len]; exact this
  have hy : Γ[i]? = some Γ[i] := List.getElem?_eq_getElem li
  have k := h.at' i _ _ hy o
  cases e : Γ[i] with
  | scr d' => rw [e] at k; have k : d' = d := k; rw [hy, e, k]
  | un => rw [e] at k; exact k.elim
  | par _ => rw [e] at k; exact k.elim
  | own _ => rw [e] at k; exact k.elim
  | dat _ => rw [e] at k; exact k.elim
theorem KS.datB {Γ Γ' : Gam} (h : KS Γ Γ') {i : Nat} {d : PyData} (o : Γ'[i]? = some (Sl.dat d)) : Γ[i]? = some (Sl.dat d) := by
  have li : i < Γ.length := by
    have := (List.getElem?_eq_some_iff.mp o).1
    rw [h.len]; exact this
  have hy : Γ[i]? = some Γ[i] := List.getElem?_eq_getElem li
  have k := h.at' i _ _ hy o
  cases e : Γ[i] with
  | dat d' => rw [e] at k; have k : d' = d := k; rw [hy, e, k]
  | un => rw [e] at k; exact k.elim
  | par _ => rw [e] at k; exact k.elim
  | own _ => rw [e] at k; exact k.elim
  | scr _ => rw [e] at k; exact k.elim
/-- the frame behind a call -/
theorem En.called {B : Bs} {σ : L2.St} {H G H' G' : Hp} {Γ : Gam} {os : List Opd} {vs : List V} {as as' : List Sl} {v : V} {r : Rs} (E : En K B σ H G Γ) (ho : OpsV K σ G vs os) (ha : argsOf Γ os = some as) (hn : (varsOf os).Nodup)
    (Po : PostV K G H vs as G' H' as' v r) : En K B σ H' G' (putB Γ os as') := by
  obtain ⟨hl, hat⟩ := argsOf_at ha
  have ks : KS Γ (putB Γ os as') := putB_KS
  -- an argument that is one's own list stands in its slot
  have arg : ∀ (k : Nat) ds p, as[k]? = some (Sl.par ds) → vs[k]? = some (V.ref p) → ∃ j, os[k]? = some (Opd.var j) ∧ Own Γ j ds ∧ σ[j]? = some (some (V.ref p)) := fun k ds p h1 h2 => by
    rcases hat k _ h1 with ⟨d, e, _⟩ | ⟨ds', j, e, h3, h4⟩ | ⟨_, _, e, _⟩
    · cases e
    · cases e
      obtain ⟨u, h5, h6⟩ := ho.get h3
      rw [h2] at h5
      cases h5
      exact ⟨j, h3, h4, h6⟩
    · cases e
  have keep : ∀ q o, H q = some o → (∀ (i : Nat) ds, Own Γ i ds → σ[i]? = some (some (V.ref q)) → ∀ k : Nat, os[k]? ≠ some (Opd.var i)) → H' q = some o := fun q o h h' => by
    refine Po.keep q o h fun k ds h1 h2 => ?_
    obtain ⟨j, h3, h4, h5⟩ := arg k ds q h1 h2
    exact h' j ds h4 h5 k h3
  refine ⟨by rw [← ks.len]; exact E.len, Po.gh, E.g0.trans Po.gg, fun q o h hP => ?_, fun q h => Po.alloc q (E.bh q h), fun q h h' => Po.free q (E.bh q h) (E.f0 q h h'), fun q h => E.nn q ?_, fun i d h => ?_, fun i es ow => ?_, fun i es ow => ?_, fun i es ow => ?_, fun i es ow => E.scrG Po.gg i es (ks.scrB ow), fun i j p ds es o1 o2 h1 h2 => ?_⟩
  · refine keep q o (E.h0 q o h hP) fun i ds ow hs k _ => ?_
    obtain ⟨p, us, g1, g2, g3, g4, g5⟩ := E.mine i ds ow
    rw [hs] at g1
    cases g1
    rcases g5 with g5 | g5
    · exact hP g5
    · rw [h] at g5; cases g5
  · cases q1 : H q with
    | none => rfl
    | some u => exact absurd h (Po.alloc q (by rw [q1]; exact fun z => by cases z))
  · obtain ⟨u, h1, h2⟩ := E.dat i d (ks.datB h)
    exact ⟨u, h1, h2.mono Po.gg⟩
  · obtain ⟨es0, o0⟩ := ks.mineB ow
    obtain ⟨p, us, g1, g2, g3, g4, g5⟩ := E.mine i es0 o0
    have gp : G' p = none := Po.free p (by rw [g3]; exact fun z => by cases z) g2
    rcases putB_own ow with ⟨k, h1, h2⟩ | ⟨h1, h2⟩
    · obtain ⟨p', us', h3, h4, h5⟩ := Po.par k es h2
      obtain ⟨u, h6, h7⟩ := ho.get h1
      have h7 : σ[i]? = some (some u) := h7
      rw [h3] at h6
      cases h6
      rw [g1] at h7
      cases h7
      exact ⟨p, us', g1, gp, h4, h5, g5⟩
    · obtain ⟨p2, us2, f1, f2, f3, f4, f5⟩ := E.mine i es h1
      rw [g1] at f1
      cases f1
      refine ⟨p, us2, g1, gp, keep p _ f3 fun j ds oj hj k hk => ?_, f4.mono Po.gg, g5⟩
      have e := E.inj j i p ds es0 oj o0 hj g1
      subst e
      -- os[k] is this slot; then as'[k] is a list
      have lk : k < as.length := by
        have := (List.getElem?_eq_some_iff.mp hk).1
        omega
      have hk2 : as[k]? = some as[k] := List.getElem?_eq_getElem lk
      rcases hat k _ hk2 with ⟨d, e1, e2⟩ | ⟨ds', j', e1, e2, e3⟩ | ⟨ds', j', e1, e2, e3⟩
      · rw [hk] at e2; cases e2
      · rw [e1] at hk2
        obtain ⟨es', h8⟩ := Po.ks.parF hk2
        exact h2 k es' hk h8
      · rw [hk] at e2
        cases e2
        rcases o0 with o0 | o0 <;> (rw [e3] at o0; cases o0)
  · obtain ⟨es0, o0⟩ := ks.ownB ow
    exact E.new i es0 o0
  · obtain ⟨es0, o0⟩ := ks.parB ow
    exact E.par i es0 o0
  · obtain ⟨x, w1⟩ := ks.mineB o1
    obtain ⟨y, w2⟩ := ks.mineB o2
    exact E.inj i j p x y w1 w2 h1 h2
theorem argsV_of {B : Bs} {σ : L2.St} {H G : Hp} {Γ : Gam} {os : List Opd} {vs : List V} {as : List Sl} (E : En K B σ H G Γ) (ho : OpsV K σ G vs os) (ha : argsOf Γ os = some as) (hn : (varsOf os).Nodup) : ArgsV K G H vs as := by
  obtain ⟨hl, hat⟩ := argsOf_at ha
  have arg : ∀ (k : Nat) ds, as[k]? = some (Sl.par ds) → ∃ j p, os[k]? = some (Opd.var j) ∧ Own Γ j ds ∧ vs[k]? = some (V.ref p) ∧ σ[j]? = some (some (V.ref p)) := fun k ds h1 => by
    rcases hat k _ h1 with ⟨d, e, _⟩ | ⟨ds', j, e, h3, h4⟩ | ⟨_, _, e, _⟩
    · cases e
    · cases e
      obtain ⟨u, h5, h6⟩ := ho.get h3
      obtain ⟨p, us, g1, _⟩ := E.mine j ds h4
      have h6 : σ[j]? = some (some u) := h6
      rw [g1] at h6
      cases h6
      exact ⟨j, p, h3, h4, h5, g1⟩
    · cases e
  refine ⟨by rw [ho.length, hl], fun i d h => ?_, fun i ds h => ?_, fun i ds h => ?_, fun i s h => ?_, fun i j p ds es h1 h2 h3 h4 => ?_⟩
  · rcases hat i _ h with ⟨d', e, h1⟩ | ⟨_, _, e, _⟩ | ⟨_, _, e, _⟩
    · cases e
      obtain ⟨u, h2, h3⟩ := ho.get h1
      exact ⟨u, h2, h3⟩
    · cases e
    · cases e
  · obtain ⟨j, p, h1, h2, h3, h4⟩ := arg i ds h
    obtain ⟨p', us, g1, g2, g3, g4, g5⟩ := E.mine j ds h2
    rw [h4] at g1
    cases g1
    exact ⟨p, us, h3, g2, g3, g4⟩
  · rcases hat i _ h with ⟨_, e, _⟩ | ⟨_, _, e, _⟩ | ⟨ds', j, e, h1, h2⟩
    · cases e
    · cases e
    · cases e
      obtain ⟨p, us, g1, g2, g3⟩ := E.scr j ds h2
      obtain ⟨u, h3, h4⟩ := ho.get h1
      have h4 : σ[j]? = some (some u) := h4
      rw [g1] at h4
      cases h4
      exact ⟨p, us, h3, g2, g3⟩
  · rcases hat i _ h with ⟨d', e, h1⟩ | ⟨ds, _, e, _⟩ | ⟨ds, _, e, _⟩
    · exact .inl ⟨d', e⟩
    · exact .inr (.inl ⟨ds, e⟩)
    · exact .inr (.inr ⟨ds, e⟩)
  · obtain ⟨a, p1, h5, h6, h7, h8⟩ := arg i ds h1
    obtain ⟨b, p2, g5, g6, g7, g8⟩ := arg j es h2
    rw [h3] at h7
    cases h7
    rw [h4] at g7
    cases g7
    have e := E.inj a b p ds es h6 g6 h8 g8
    subst e
    exact vars_inj hn h5 g5
/-! a call whose result is data -/
@[simp] def wCall (S : PSp) (Wr : WPA) : WE := fun Γ Q => Wr Γ fun os Γ1 => match argsOf Γ1 os with
  | some as => (varsOf os).Nodup ∧ S as fun r as' => match r with
    | .dat d => Q d (putB Γ1 os as')
    | .new ds => Q (.list ds) (putB Γ1 os as')
  | none => False
theorem re_call {S : PSp} {E0' : XK} {t : TA} {Wr : WPA} (r : RPA K t Wr) : RE K (tCall (spS K S) [] E0' t) (wCall S Wr) := by
  intro B Γ σ H G Q Q' E w k
  refine r B Γ σ H G _ _ E w fun vs H1 G1 os Γ1 E1 s1 k1 o1 w1 => ?_
  cases q : argsOf Γ1 os with
  | none => rw [q] at w1; exact w1.elim
  | some as =>
    rw [q] at w1
    obtain ⟨hn, hS⟩ := w1
    show spS K S (vs ++ []) H1 Q' E0'
    rw [List.append_nil]
    refine ⟨G1, as, _, E1.gh, argsV_of E1 o1 q hn, hS, fun v G' H' as' r Po hR => ?_⟩
    have E2 := E1.called o1 q hn Po
    have k2 : KS Γ (putB Γ1 os as') := k1.trans putB_KS
    cases r with
    | dat d => exact k v H' G' d _ E2 (s1.trans Po.gg) k2 Po.res hR
    | new ds =>
      obtain ⟨p, us, rfl, h1, h2, h3, h4⟩ := Po.res
      have no : ∀ (i : Nat) es, Own (putB Γ1 os as') i es → σ[i]? ≠ some (some (V.ref p)) := fun i es ow z => by
        obtain ⟨es0, o0⟩ := (putB_KS (os := os) (as := as')).mineB ow
        obtain ⟨p', us', g1, g2, g3, _⟩ := E1.mine i es0 o0
        rw [z] at g1
        cases g1
        rw [h4] at g3
        cases g3
      exact k (.ref p) H' (upd G' p (.lst us)) (.list ds) _ (E2.freeze h2 h1 (E1.bnone h4) no) ((s1.trans Po.gg).trans (sameNew h1)) k2 (.lst upd_same (h3.mono (sameNew h1))) hR
theorem de_call {S : PSp} {k : Nat} {f : Addr} {fd : FuncData} {ps : List Str} {x : Str} {p : Pos} {Wr : WPA} (F : FnOk X.prog X.w X.K X.mg X.base CX0 k f fd ps (spS X.K S)) (hr : Room k X.A) (hg : Gl X x) (hm : X.mg x = some (.ref f)) (hk : PySem.W.keepIn X.K (.ref f) = true) (hb : Binds X.K fd ps [])
    (ha : DPA X (e :: es) Wr) (hdb : (x == ("__debug__" : Str)) = false := by decide) (he : starEach (e :: es) X.env = (false, eval e X.env) :: starEach es X.env := by rfl) (hpl : (backTo pos (starEach es X.env)).any (·.1) = false := by rfl) :
    DE X (.Call (.Name x p) (e :: es) [] pos) (wCall S Wr) := by
  obtain ⟨t, pa, ra⟩ := ha.ex
  exact ⟨_, pe_call (dvs := []) (E := E0) F hr hg hm hk hb .nil pass0 pa hdb he hpl, re_call ra⟩
theorem de_call0 {S : PSp} {k : Nat} {f : Addr} {fd : FuncData} {ps : List Str} {x : Str} {p : Pos} (F : FnOk X.prog X.w X.K X.mg X.base CX0 k f fd ps (spS X.K S)) (hr : Room k X.A) (hg : Gl X x) (hm : X.mg x = some (.ref f)) (hk : PySem.W.keepIn X.K (.ref f) = true) (hb : Binds X.K fd ps [])
    (hdb : (x == ("__debug__" : Str)) = false := by decide) : DE X (.Call (.Name x p) [] [] pos) (wCall S wPNil) := by
  refine ⟨_, pe_call0 (dvs := []) (E := E0) F hr hg hm hk hb .nil pass0 hdb, re_call ?_⟩
  intro B Γ σ H G Q Q' E w k
  exact k [] H G [] Γ E (Same.refl _) (KS.refl _) .nil w
/-! .. a new list -/
@[simp] def wCallL (S : PSp) (Wr : WPA) : WA := fun Γ Q => Wr Γ fun os Γ1 => match argsOf Γ1 os with
  | some as => (varsOf os).Nodup ∧ S as fun r as' => match r with
    | .new ds => Q ds (putB Γ1 os as')
    | .dat _ => False
  | none => False
theorem rn_call {S : PSp} {E0' : XK} {t : TA} {Wr : WPA} (r : RPA K t Wr) : RN K (tCall (spS K S) [] E0' t) (wCallL S Wr) := by
  intro B Γ σ H G Q Q' E w k
  refine r B Γ σ H G _ _ E w fun vs H1 G1 os Γ1 E1 s1 k1 o1 w1 => ?_
  cases q : argsOf Γ1 os with
  | none => rw [q] at w1; exact w1.elim
  | some as =>
    rw [q] at w1
    obtain ⟨hn, hS⟩ := w1
    show spS K S (vs ++ []) H1 Q' E0'
    rw [List.append_nil]
    refine ⟨G1, as, _, E1.gh, argsV_of E1 o1 q hn, hS, fun v G' H' as' r Po hR => ?_⟩
    have E2 := E1.called o1 q hn Po
    have k2 : KS Γ (putB Γ1 os as') := k1.trans putB_KS
    cases r with
    | dat d => exact hR.elim
    | new ds =>
      obtain ⟨p, us, rfl, h1, h2, h3, h4⟩ := Po.res
      have no : ∀ (i : Nat) es, Own (putB Γ1 os as') i es → σ[i]? ≠ some (some (V.ref p)) := fun i es ow z => by
        obtain ⟨es0, o0⟩ := (putB_KS (os := os) (as := as')).mineB ow
        obtain ⟨p', us', g1, g2, g3, _⟩ := E1.mine i es0 o0
        rw [z] at g1
        cases g1
        rw [h4] at g3
        cases g3
      exact k p us H' G' ds _ E2 (s1.trans Po.gg) k2 h1 h2 h3 (E1.bnone h4) (E1.nn p h4) no hR
theorem dn_call {S : PSp} {k : Nat} {f : Addr} {fd : FuncData} {ps : List Str} {x : Str} {p : Pos} {Wr : WPA} (F : FnOk X.prog X.w X.K X.mg X.base CX0 k f fd ps (spS X.K S)) (hr : Room k X.A) (hg : Gl X x) (hm : X.mg x = some (.ref f)) (hk : PySem.W.keepIn X.K (.ref f) = true) (hb : Binds X.K fd ps [])
    (ha : DPA X (e :: es) Wr) (hdb : (x == ("__debug__" : Str)) = false := by decide) (he : starEach (e :: es) X.env = (false, eval e X.env) :: starEach es X.env := by rfl) (hpl : (backTo pos (starEach es X.env)).any (·.1) = false := by rfl) :
    DN X (.Call (.Name x p) (e :: es) [] pos) (wCallL S Wr) := by
  obtain ⟨t, pa, ra⟩ := ha.ex
  exact ⟨_, pe_call (dvs := []) (E := E0) F hr hg hm hk hb .nil pass0 pa hdb he hpl, rn_call ra⟩
end
/-! ## a def keeps its promise -/
def startG (N : List Str) (as : List Sl) : Gam := as ++ List.replicate (N.length - as.length) .un
@[simp] def parO : List Sl → Gam → Option (List Sl)
  | [], _ => some []
  | .par _ :: as, .par ds :: Γ => match parO as Γ with
    | some r => some (.par ds :: r)
    | none => none
  | .dat d :: as, _ :: Γ => match parO as Γ with
    | some r => some (.dat d :: r)
    | none => none
  | .scr d :: as, _ :: Γ => match parO as Γ with
    | some r => some (.scr d :: r)
    | none => none
  | _, _ => none
theorem parO_at : ∀ {as : List Sl} {Γ : Gam} {as' : List Sl}, parO as Γ = some as' → as.length = as'.length ∧ (∀ (i : Nat) a b, as[i]? = some a → as'[i]? = some b → KS1 a b) ∧ ∀ (i : Nat) ds, as'[i]? = some (Sl.par ds) → Γ[i]? = some (Sl.par ds)
  | [], Γ, as', h => by
    unfold parO at h
    cases h
    exact ⟨rfl, fun i a b h => by simp at h, fun i ds h => by simp at h⟩
  | .par x :: as, .par ds :: Γ, as', h => by
    unfold parO at h
    cases q : parO as Γ with
    | none => rw [q] at h; cases h
    | some r =>
      rw [q] at h
      cases h
      obtain ⟨l, h1, h2⟩ := parO_at q
      refine ⟨congrArg Nat.succ l, fun i a b ha hb => ?_, fun i es he => ?_⟩
      · cases i with
        | zero => simp at ha hb; subst ha hb; trivial
        | succ i => exact h1 i a b (by simpa using ha) (by simpa using hb)
      · cases i with
        | zero => simp at he; subst he; simp
        | succ i => simpa using h2 i es (by simpa using he)
  | .dat d :: as, g :: Γ, as', h => by
    unfold parO at h
    cases q : parO as Γ with
    | none => rw [q] at h; cases h
    | some r =>
      rw [q] at h
      cases h
      obtain ⟨l, h1, h2⟩ := parO_at q
      refine ⟨congrArg Nat.succ l, fun i a b ha hb => ?_, fun i es he => ?_⟩
      · cases i with
        | zero => simp at ha hb; subst ha hb; rfl
        | succ i => exact h1 i a b (by simpa using ha) (by simpa using hb)
      · cases i with
        | zero => simp at he
        | succ i => simpa using h2 i es (by simpa using he)
  | .scr d :: as, g :: Γ, as', h => by
    unfold parO at h
    cases q : parO as Γ with
    | none => rw [q] at h; cases h
    | some r =>
      rw [q] at h
      cases h
      obtain ⟨l, h1, h2⟩ := parO_at q
      refine ⟨congrArg Nat.succ l, fun i a b ha hb => ?_, fun i es he => ?_⟩
      · cases i with
        | zero => simp at ha hb; subst ha hb; rfl
        | succ i => exact h1 i a b (by simpa using ha) (by simpa using hb)
      · cases i with
        | zero => simp at he
        | succ i => simpa using h2 i es (by simpa using he)
  | .un :: _, _, _, h => by unfold parO at h; cases h
  | .own _ :: _, _, _, h => by unfold parO at h; cases h
  | .par _ :: _, [], _, h => by unfold parO at h; cases h
  | .dat _ :: _, [], _, h => by unfold parO at h; cases h
  | .scr _ :: _, [], _, h => by unfold parO at h; cases h
  | .par _ :: _, .scr _ :: _, _, h => by unfold parO at h; cases h
  | .par _ :: _, .un :: _, _, h => by unfold parO at h; cases h
  | .par _ :: _, .dat _ :: _, _, h => by unfold parO at h; cases h
  | .par _ :: _, .own _ :: _, _, h => by unfold parO at h; cases h
section
variable {P : Program} {w : World} {K : PySem.W.Frag} {mg : Str → Option Value} {base : Heap}
theorem start_get {N : List Str} {vs : List V} {i : Nat} (h : i < vs.length) : (L2.start N vs)[i]? = (vs[i]?).map some := by
  unfold L2.start
  rw [List.getElem?_append_left (by simpa using h), List.getElem?_map]
theorem startG_get {N : List Str} {as : List Sl} {i : Nat} {s : Sl} (h : (startG N as)[i]? = some s) (hs : s ≠ .un) : as[i]? = some s := by
  unfold startG at h
  by_cases hi : i < as.length
  · rwa [List.getElem?_append_left hi] at h
  · rw [List.getElem?_append_right (by omega)] at h
    have := List.mem_of_getElem? h
    exact absurd (List.eq_of_mem_replicate this) hs
def addrAt : Option V → Addr
  | some (V.ref p) => p
  | _ => 0
def bsOf (H G : Hp) (vs : List V) (as : List Sl) : Bs := ⟨H, G, fun p => ∃ (i : Nat) (ds : List PyData), as[i]? = some (Sl.par ds) ∧ vs[i]? = some (V.ref p), fun q => H q = none, fun i => addrAt (vs[i]?)⟩
theorem en_start {N : List Str} {G H : Hp} {vs : List V} {as : List Sl} (gh : Same G H) (A : ArgsV K G H vs as) :
    En K (bsOf H G vs as) (L2.start N vs) H G (startG N as) := by
  have lt : ∀ {i : Nat} {s : Sl}, as[i]? = some s → i < vs.length := fun h => by
    have := (List.getElem?_eq_some_iff.mp h).1
    rw [A.len]; exact this
  have own_ : ∀ (i : Nat) ds, Own (startG N as) i ds → as[i]? = some (Sl.par ds) := fun i ds o => by
    rcases o with o | o
    · have h := startG_get o (fun z => by cases z)
      rcases A.kind i _ h with ⟨d, e⟩ | ⟨d, e⟩ | ⟨d, e⟩ <;> cases e
    · exact startG_get o (fun z => by cases z)
  refine ⟨?_, gh, Same.refl _, fun q o h _ => h, fun q h => h, fun q _ h => h, fun q h => h, fun i d h => ?_, fun i ds o => ?_, fun i ds o => ?_, fun i ds o => ?_, fun i ds o => ?_, fun i j p ds es o1 o2 h1 h2 => ?_⟩
  · unfold L2.start startG
    simp [A.len]
  · have h1 := startG_get h (fun z => by cases z)
    obtain ⟨v, h2, h3⟩ := A.dat i d h1
    exact ⟨v, by rw [start_get (lt h1), h2]; rfl, h3⟩
  · have h1 := own_ i ds o
    obtain ⟨p, us, h2, h3, h4, h5⟩ := A.par i ds h1
    exact ⟨p, us, by rw [start_get (lt h1), h2]; rfl, h3, h4, h5, .inl ⟨i, ds, h1, h2⟩⟩
  · have h := startG_get o (fun z => by cases z)
    rcases A.kind i _ h with ⟨d, e⟩ | ⟨d, e⟩ | ⟨d, e⟩ <;> cases e
  · have h1 := own_ i ds (.inr o)
    obtain ⟨p, us, h2, h3, h4, h5⟩ := A.par i ds h1
    rw [start_get (lt h1), h2]
    show _ = some (some (V.ref (addrAt (vs[i]?))))
    rw [h2]
    rfl
  · have h := startG_get o (fun z => by cases z)
    obtain ⟨p, us, h2, h3, h4⟩ := A.scr i ds h
    exact ⟨p, us, by rw [start_get (lt h), h2]; rfl, h3, h4⟩
  · have g1 := own_ i ds o1
    have g2 := own_ j es o2
    rw [start_get (lt g1)] at h1
    rw [start_get (lt g2)] at h2
    refine A.inj i j p ds es g1 g2 ?_ ?_
    · cases q : vs[i]? with
      | none => rw [q] at h1; cases h1
      | some v => rw [q] at h1; have h1 : some (some v) = some (some (V.ref p)) := h1; cases h1; rfl
    · cases q : vs[j]? with
      | none => rw [q] at h2; cases h2
      | some v => rw [q] at h2; have h2 : some (some v) = some (some (V.ref p)) := h2; cases h2; rfl
/-- the ends of a def's body -/
@[simp] def endsF (as : List Sl) (R : Rs → List Sl → Prop) : EndsD where
  nx := fun Γ => match parO as Γ with
    | some as' => R (.dat .none) as'
    | none => False
  rt := fun r Γ => match parO as Γ with
    | some as' => R r as'
    | none => False
theorem fn_ok {x qual : Str} {st : Stmt} {f : Addr} {fd : FuncData} {N ps : List Str} {k : Nat} {S : PSp} {W : WS} (F : Fun K x qual st f fd) (Sc : FnScope N ps (defScope st)) (len : ∀ as R, S as R → as.length = ps.length)
    (hbody : ∀ (cdv : Value) (A : Around) (outer : List Env) (s : Shared) (H : Hp) (E : XK), Room k (A.deeper (envOfC qual (defScope st) s.heap.objs.size f cdv)) →
      DSs (cxOf CX0 P w K mg base N qual (defScope st) f cdv A outer s H E).nox (defBody st) W)
    (hW : ∀ as R, S as R → W (endsF as R) (startG N as)) : FnOk P w K mg base CX0 (k + 1) f fd ps (spS K S) := by
  refine F.ok Sc (fun vs H Q E h => ?_) (fun cdv A outer s H vs Q E hr h => ?_)
  · obtain ⟨G, as, R, _, hA, hS, _⟩ := h
    rw [hA.len, len as R hS]
  · obtain ⟨t, p, r⟩ := (hbody cdv A outer s H E hr).ex
    refine ⟨t, p, ?_⟩
    obtain ⟨G, as, R, gh, hA, hS, hQ⟩ := h
    have E0 := en_start (N := N) gh hA
    have fin : ∀ (σ : L2.St) (v : V) (H' G' : Hp) (Γ : Gam) (r : Rs) (as' : List Sl), En K (bsOf H G vs as) σ H' G' Γ → Same G G' → VR K (fun q => H q = none) G' H' v r → parO as Γ = some as' → R r as' → Q v H' := by
      intro σ v H' G' Γ r as' E1 s1 vr hp hR
      obtain ⟨l, h1, h2⟩ := parO_at hp
      refine hQ v G' H' as' r ⟨s1, E1.gh, fun q o h hn => E1.h0 q o h fun ⟨i, ds, e1, e2⟩ => hn i ds e1 e2, fun q h => E1.bh q h, fun q h h' => E1.f0 q h h', ⟨l, h1⟩, fun i ds h => ?_, vr⟩ hR
      have h3 := h2 i ds h
      obtain ⟨p, us, g1, g2, g3, g4, g5⟩ := E1.mine i ds (.inr h3)
      have g6 := E1.par i ds h3
      rw [g1] at g6
      have g7 : p = addrAt (vs[i]?) := V.ref.inj (Option.some.inj (Option.some.inj g6))
      have li : i < as.length := by
        have := (List.getElem?_eq_some_iff.mp h).1
        omega
      have ha : as[i]? = some as[i] := List.getElem?_eq_getElem li
      have kk := h1 i _ _ ha h
      cases e : as[i] with
      | par es =>
        rw [e] at ha
        obtain ⟨p', us', q1, q2, q3, q4⟩ := hA.par i es ha
        rw [q1] at g7
        have g7 : p = p' := g7
        subst g7
        exact ⟨p, us, q1, g3, g4⟩
      | un => rw [e] at kk; exact kk.elim
      | dat _ => rw [e] at kk; exact kk.elim
      | own _ => rw [e] at kk; exact kk.elim
      | scr _ => rw [e] at kk; exact kk.elim
    refine r _ _ _ _ G (endsF as R) _ E0 (hW as R hS) ⟨fun σ H' G' Γ E1 s1 q => ?_, fun σ H' G' Γ E1 s1 q => q.elim, fun σ H' G' Γ E1 s1 q => q.elim, fun σ v H' G' Γ r E1 s1 vr q => ?_, fun _ h => h, fun d σ H' G' Γ x E1 s1 xo q => q.elim⟩
    · unfold endsF at q
      simp only at q
      cases q1 : parO as Γ with
      | none => rw [q1] at q; exact q.elim
      | some as' =>
        rw [q1] at q
        exact fin σ .non H' G' Γ (.dat .none) as' E1 s1 Dd.non q1 q
    · unfold endsF at q
      simp only at q
      cases q1 : parO as Γ with
      | none => rw [q1] at q; exact q.elim
      | some as' =>
        rw [q1] at q
        exact fin σ v H' G' Γ r as' E1 s1 vr q1 q
end
end DL

namespace DL
open PySem PySem.Spec PyProof.Rows L2
/-! ## what is walked -/
def DWalk (K : PySem.W.Frag) (J : It) (G0 : Hp) (ds : List PyData) : Prop :=
  ∀ (B : Bs) (Γ : Gam) (σ : L2.St) (H G : Hp), En K B σ H G Γ → Same G0 G → ∀ i : Nat, (i = ds.length → J.stop i H) ∧
    ∀ d, ds[i]? = some d → J.go i H ∧ ∀ x H', J.yld i H x H' → ∃ G', En K B σ H' G' Γ ∧ Same G G' ∧ Dd K G' x d ∧ Same H H'
abbrev WI := Gam → (List PyData → Gam → Prop) → Prop
def RI (K : PySem.W.Frag) (wi : TI) (W : WI) : Prop :=
  ∀ (B : Bs) (Γ : Gam) (σ : L2.St) (H G : Hp) (Q : List PyData → Gam → Prop) (R : It → Hp → Prop), En K B σ H G Γ → W Γ Q →
    (∀ J H' G' ds Γ', En K B σ H' G' Γ' → Same G G' → KS Γ Γ' → DWalk K J G' ds → Q ds Γ' → R J H') → wi σ H R
structure DI (X : Cx) (tg iter : Expr) (W : WI) : Prop where
  ex : ∃ wi, PI X tg iter wi ∧ RI X.K wi W
/-! targets -/
abbrev WG := PyData → Gam → (Gam → Prop) → Prop
def RG (K : PySem.W.Frag) (ts : List Nat) (g : TG) (W : WG) : Prop :=
  ∀ (B : Bs) (Γ : Gam) (σ : L2.St) (H G : Hp) (v : V) (d : PyData) (Q : Gam → Prop) (Q' : L2.St → Hp → Prop), En K B σ H G Γ → Dd K G v d → W d Γ Q →
    (∀ σ' H' G' Γ', En K B σ' H' G' Γ' → Same G G' → σ'.length = σ.length → (∀ j : Nat, j ∉ ts → σ'[j]? = σ[j]? ∧ Γ'[j]? = Γ[j]?) → Q Γ' → Q' σ' H') → g v σ H Q'
structure DG (X : Cx) (tg : Expr) (ts : List Nat) (W : WG) : Prop where
  ex : ∃ g, PG X tg g ∧ RG X.K ts g W
abbrev WGs := List PyData → Gam → (Gam → Prop) → Prop
def RGs (K : PySem.W.Frag) (ts : List Nat) (g : TGs) (W : WGs) : Prop :=
  ∀ (B : Bs) (Γ : Gam) (σ : L2.St) (H G : Hp) (vs : List V) (ds : List PyData) (Q : Gam → Prop) (Q' : L2.St → Hp → Prop), En K B σ H G Γ → DdAll K G vs ds → W ds Γ Q →
    (∀ σ' H' G' Γ', En K B σ' H' G' Γ' → Same G G' → σ'.length = σ.length → (∀ j : Nat, j ∉ ts → σ'[j]? = σ[j]? ∧ Γ'[j]? = Γ[j]?) → Q Γ' → Q' σ' H') → g vs σ H Q'
structure DGs (X : Cx) (tgs : List Expr) (ts : List Nat) (W : WGs) : Prop where
  ex : ∃ g, PGs X tgs g ∧ RGs X.K ts g W
section
variable {X : Cx} {K : PySem.W.Frag} {a b c e tg : Expr} {es tgs : List Expr} {Wa Wb Wc : WE} {Wr : WA} {pos : Pos} {WT' : WT} {ts us : List Nat}
@[simp] def wgName (i : Nat) : WG := fun d Γ Q => Q (Γ.set i (.dat d))
theorem dg_name {i : Nat} {x : Str} {p : Pos} (hN : X.N.Nodup) (hi : X.N[i]? = some x) (hx : Loc X.env.scope x) (hf : X.fn x = true ∨ X.env.scope.names.lookup x = some .local := by first | exact .inl rfl | exact .inr rfl | assumption) : DG X (.Name x p) [i] (wgName i) := by
  refine ⟨_, pg_name hN hi hx hf, ?_⟩
  intro B Γ σ H G v d Q Q' E h w k
  refine k _ H G _ (E.setDat i h) (Same.refl _) (by simp) (fun j hj => ?_) w
  have hj : j ≠ i := fun z => hj (by simp [z])
  exact ⟨List.getElem?_set_ne (Ne.symm hj), List.getElem?_set_ne (Ne.symm hj)⟩
@[simp] def wgNil : WGs := fun ds Γ Q => match ds with
  | [] => Q Γ
  | _ => False
@[simp] def wgCons (W : WG) (Ws : WGs) : WGs := fun ds Γ Q => match ds with
  | d :: r => W d Γ fun Γ1 => Ws r Γ1 Q
  | [] => False
theorem dgs_nil : DGs X [] [] wgNil := by
  refine ⟨_, pgs_nil, ?_⟩
  intro B Γ σ H G vs ds Q Q' E h w k
  cases h with
  | nil => exact ⟨rfl, k σ H G Γ E (Same.refl _) rfl (fun j _ => ⟨rfl, rfl⟩) w⟩
  | cons _ _ => exact w.elim
theorem dgs_cons {W : WG} {Ws : WGs} (h1 : DG X e ts W) (h2 : DGs X es us Ws) (hs : (assignEach (e :: es) X.env).map (·.2) = assign e X.env :: (assignEach es X.env).map (·.2) := by rfl) : DGs X (e :: es) (ts ++ us) (wgCons W Ws) := by
  obtain ⟨g, p, r⟩ := h1.ex
  obtain ⟨g', p', r'⟩ := h2.ex
  refine ⟨_, pgs_cons p p' hs, ?_⟩
  intro B Γ σ H G vs ds Q Q' E h w k
  cases h with
  | nil => exact w.elim
  | cons hv ht =>
    refine ⟨_, _, rfl, ?_⟩
    refine r B Γ σ H G _ _ _ _ E hv w fun σ1 H1 G1 Γ1 E1 s1 l1 n1 w1 => ?_
    refine r' B Γ1 σ1 H1 G1 _ _ _ _ E1 (ht.mono s1) w1 fun σ2 H2 G2 Γ2 E2 s2 l2 n2 w2 => ?_
    refine k σ2 H2 G2 Γ2 E2 (s1.trans s2) (l2.trans l1) (fun j hj => ?_) w2
    have h1 := n1 j (fun z => hj (List.mem_append_left _ z))
    have h2 := n2 j (fun z => hj (List.mem_append_right _ z))
    exact ⟨h2.1.trans h1.1, h2.2.trans h1.2⟩
@[simp] def wgTup (n : Nat) (Ws : WGs) : WG := fun d Γ Q => match d with
  | .tuple ds => ds.length = n ∧ Ws ds Γ Q
  | _ => False
theorem dg_tup {kk : Nat} {n : Nat} {Ws : WGs} (hc : X.calm = true) (h : DGs X es ts Ws) (hn : (assignEach es X.env).length = n := by rfl) (hst : (assignEach es X.env).findIdx? (·.1) = none := by rfl) : DG X (.Tuple es kk pos) ts (wgTup n Ws) := by
  obtain ⟨g, p, r⟩ := h.ex
  refine ⟨_, pg_tup hc p hn hst, ?_⟩
  intro B Γ σ H G v d Q Q' E h w k
  cases h with
  | tup ga da => exact ⟨_, _, rfl, sqT_same E.gh ga, da.length.trans w.1, r B Γ σ H G _ _ _ _ E da w.2 k⟩
  | _ => exact w.elim
/-- target = e, e data -/
@[simp] def wAsgG (Wg : WG) (Wa : WE) : WS := fun D Γ => Wa Γ fun d Γ1 => Wg d Γ1 D.nx
theorem ds_asg {Wg : WG} (he : DE X e Wa) (hg : DG X tg ts Wg) (hs : swapsWithSole [tg] e pos.line X.env = pure false := by rfl) (hw : swappedStores [tg] e X.env = pure none := by rfl)
    (h1 : (assignEach [tg] X.env).map (·.2) = [assign tg X.env] := by rfl) : DS X (.Assign [tg] e pos) (wAsgG Wg Wa) := by
  obtain ⟨t, p, r⟩ := he.ex
  obtain ⟨g, q, rg⟩ := hg.ex
  refine ⟨_, ps_asg p q hs hw h1, ?_⟩
  intro B Γ σ H G D D' E w l
  refine r B Γ σ H G _ _ E w fun v H1 G1 d Γ1 E1 s1 k1 d1 w1 => ?_
  exact rg B Γ1 σ H1 G1 v d _ _ E1 d1 w1 fun σ2 H2 G2 Γ2 E2 s2 _ _ w2 => l.nx σ2 H2 G2 Γ2 E2 (s1.trans s2) w2
/-! ## for -/
def forW (Wg : WG) (Wb : WS) (D : EndsD) : List PyData → Gam → Prop
  | [], Γ => D.nx Γ
  | d :: ds, Γ => Wg d Γ fun Γ1 => Wb { D with nx := forW Wg Wb D ds, ct := forW Wg Wb D ds, bk := D.nx } Γ1
@[simp] def wFor (Wi : WI) (Wg : WG) (Wb : WS) : WS := fun D Γ => Wi Γ fun ds Γ1 => forW Wg Wb D ds Γ1
theorem ds_for {iter : Expr} {body : List Stmt} {Wi : WI} {Wg : WG} {Wb : WS} (hp : PassesOwn (model X.prog X.w) X.A X.env X.xe) (hc : X.calm = true) (hi : DI X tg iter Wi) (hg : DG X tg ts Wg) (hb : DSs X body Wb)
    (hs : ∀ x, foldedSetIterable iter X.env x = pure x := by intro _; rfl) : DS X (.For tg iter body [] pos) (wFor Wi Wg Wb) := by
  obtain ⟨wi, pi, ri⟩ := hi.ex
  obtain ⟨g, pg, rg⟩ := hg.ex
  obtain ⟨tb, pb, rb⟩ := hb.ex
  refine ⟨_, ps_for hp hc pi pg pb hs, ?_⟩
  intro B Γ σ H G D D' E w l
  refine ri B Γ σ H G _ _ E w fun J H1 G1 ds Γ1 E1 s1 k1 dw w1 => ?_
  refine ⟨fun i m σ H => m = ds.length - i ∧ i ≤ ds.length ∧ ∃ G2 Γ2, En X.K B σ H G2 Γ2 ∧ Same G1 G2 ∧ forW Wg Wb D (ds.drop i) Γ2, ⟨ds.length, by simp, Nat.zero_le _, G1, Γ1, E1, Same.refl _, w1⟩, ?_⟩
  rintro i m σ2 H2 ⟨rfl, hi, G2, Γ2, E2, s2, w2⟩
  obtain ⟨stop, go⟩ := dw B Γ2 σ2 H2 G2 E2 s2 i
  by_cases hlt : i < ds.length
  · have hd : ds[i]? = some ds[i] := List.getElem?_eq_getElem hlt
    obtain ⟨g1, y1⟩ := go _ hd
    rw [List.drop_eq_getElem_cons hlt] at w2
    refine .inr ⟨g1, fun σ' H' => ∃ G3 Γ3, En X.K B σ' H' G3 Γ3 ∧ Same G1 G3 ∧ forW Wg Wb D (ds.drop (i + 1)) Γ3, fun σ' H' h => ⟨ds.length - (i + 1), by omega, rfl, hlt, h⟩, fun x H3 hy => ?_⟩
    obtain ⟨G3, E3, s3, d3, _⟩ := y1 x H3 hy
    refine rg B Γ2 σ2 H3 G3 x _ _ _ E3 d3 w2 fun σ4 H4 G4 Γ4 E4 s4 _ _ w4 => ?_
    have s14 : Same G1 G4 := s2.trans (s3.trans s4)
    refine rb B Γ4 σ4 H4 G4 _ _ E4 w4 ⟨fun σ5 H5 G5 Γ5 E5 s5 q5 => ⟨G5, Γ5, E5, s14.trans s5, q5⟩, fun σ5 H5 G5 Γ5 E5 s5 q5 => l.nx σ5 H5 G5 Γ5 E5 (s1.trans (s14.trans s5)) q5, fun σ5 H5 G5 Γ5 E5 s5 q5 => ⟨G5, Γ5, E5, s14.trans s5, q5⟩,
      fun σ5 v H5 G5 Γ5 r E5 s5 vr q5 => l.rt σ5 v H5 G5 Γ5 r E5 (s1.trans (s14.trans s5)) vr q5, l.nb, fun d σ5 H5 G5 Γ5 x E5 s5 xo q5 => l.ex d σ5 H5 G5 Γ5 x E5 (s1.trans (s14.trans s5)) xo q5⟩
  · have e : i = ds.length := by omega
    subst e
    rw [List.drop_length] at w2
    exact .inl ⟨stop rfl, l.nx σ2 H2 G2 Γ2 E2 (s1.trans s2) w2⟩
/-! ## while -/
def whileW (Wc : WT) (Wb : WS) (D : EndsD) : Nat → Gam → Prop
  | 0, _ => False
  | n + 1, Γ => Wc Γ fun b Γ1 => if b = true then Wb { D with nx := whileW Wc Wb D n, ct := whileW Wc Wb D n, bk := D.nx } Γ1 else D.nx Γ1
@[simp] def wWhile (Wc : WT) (Wb : WS) : WS := fun D Γ => ∃ n, whileW Wc Wb D n Γ
theorem ds_while {body : List Stmt} {Wb : WS} (hp : PassesOwn (model X.prog X.w) X.A X.env X.xe) (hc : DT X c WT') (hb : DSs X body Wb) : DS X (.While c body [] pos) (wWhile WT' Wb) := by
  obtain ⟨tc, pc, rc⟩ := hc.ex
  obtain ⟨tb, pb, rb⟩ := hb.ex
  refine ⟨_, ps_while hp pc pb, ?_⟩
  intro B Γ σ H G D D' E w l
  obtain ⟨n, w⟩ := w
  refine ⟨fun m σ H => ∃ G2 Γ2, En X.K B σ H G2 Γ2 ∧ Same G G2 ∧ whileW WT' Wb D m Γ2, ⟨n, G, Γ, E, Same.refl _, w⟩, ?_⟩
  rintro m σ2 H2 ⟨G2, Γ2, E2, s2, w2⟩
  cases m with
  | zero => exact w2.elim
  | succ m =>
    refine rc B Γ2 σ2 H2 G2 _ _ E2 w2 fun b H3 G3 Γ3 E3 s3 k3 w3 => ?_
    cases b with
    | true =>
      refine ⟨fun σ' H' => ∃ G4 Γ4, En X.K B σ' H' G4 Γ4 ∧ Same G G4 ∧ whileW WT' Wb D m Γ4, fun σ' H' h => ⟨m, Nat.lt_succ_self m, h⟩, ?_⟩
      have s13 := s2.trans s3
      exact rb B Γ3 σ2 H3 G3 _ _ E3 w3 ⟨fun σ5 H5 G5 Γ5 E5 s5 q5 => ⟨G5, Γ5, E5, s13.trans s5, q5⟩, fun σ5 H5 G5 Γ5 E5 s5 q5 => l.nx σ5 H5 G5 Γ5 E5 (s13.trans s5) q5, fun σ5 H5 G5 Γ5 E5 s5 q5 => ⟨G5, Γ5, E5, s13.trans s5, q5⟩,
        fun σ5 v H5 G5 Γ5 r E5 s5 vr q5 => l.rt σ5 v H5 G5 Γ5 r E5 (s13.trans s5) vr q5, l.nb, fun d σ5 H5 G5 Γ5 x E5 s5 xo q5 => l.ex d σ5 H5 G5 Γ5 x E5 (s13.trans s5) xo q5⟩
    | false => exact l.nx σ2 H3 G3 Γ3 E3 (s2.trans s3) w3
/-! ## list, tuple, text walked -/
def iSeq (K : PySem.W.Frag) (tl : TE) : TI := fun σ H R => tl σ H fun x H1 => (∃ a, x = .ref a ∧ (∃ xs, SqL K H1 a xs) ∧ R (Itl K a) H1) ∨ (∃ a, x = .ref a ∧ (∃ xs, SqT K H1 a xs) ∧ R (Itt K a) H1) ∨ (∃ z, x = .str z ∧ R (Its z) H1)
theorem pi_seq {l : Expr} {tl : TE} (hl : PE X l tl) : PI X tg l (iSeq X.K tl) := by
  refine ⟨fun pins s σ H R I h => ?_⟩
  refine thn (hl.run pins s σ H _ I h) fun v s1 ⟨x, H1, I1, r1, q1⟩ => ?_
  have back : ∀ (t : TE), (∀ (σ : L2.St) (Q : VK), t σ H1 Q → Q x H1) → True := fun _ _ => trivial
  have peX : ∀ {wi : TI}, True := trivial
  rcases q1 with ⟨a, e, ⟨xs, hq⟩, q⟩ | ⟨a, e, ⟨xs, hq⟩, q⟩ | ⟨z, e, q⟩
  · subst e
    cases r1
    obtain ⟨its, rv, p, hz⟩ := I1.list hq
    refine wpAny_pyIter_list p.isList ?_
    refine ⟨s1.heap.objs.size, [s1.heap.objs.size], _, _, H1, rfl, I1.kept (t' := s1.toks) fun b o e => Heap.get?_push_of_some _ e, turn_list a _, ⟨_, Heap.get?_push_size _ rfl, rfl, rfl⟩, fun b hb => ?_, q⟩
    have e : b = s1.heap.objs.size := by simpa using hb
    subst e
    exact I1.fpOk (Nat.le_refl _) (I1.hok.fresh (Nat.le_refl _))
  · subst e
    cases r1
    obtain ⟨its, rv, p, hz⟩ := I1.tuple hq
    refine wpAny_pyIter_tuple (show s1.heap.IsTuple a its.toArray from p) ?_
    refine ⟨s1.heap.objs.size, [s1.heap.objs.size], _, _, H1, rfl, I1.kept (t' := s1.toks) fun b o e => Heap.get?_push_of_some _ e, turn_tuple a _, ⟨_, Heap.get?_push_size _ rfl, rfl, rfl⟩, fun b hb => ?_, q⟩
    have e : b = s1.heap.objs.size := by simpa using hb
    subst e
    exact I1.fpOk (Nat.le_refl _) (I1.hok.fresh (Nat.le_refl _))
  · subst e
    obtain ⟨t, rfl⟩ := r1
    cases ha : z.cps.all (· < 128)
    · exact wpAny_pyIter_wide ha (pi_one (tk := s1.toks) I1 _ (turn_str _ z t "str_iterator" (.inr rfl)) ⟨_, Heap.get?_push_size _ rfl, rfl, rfl⟩ q)
    · exact wpAny_pyIter_ascii ha (pi_one (tk := s1.toks) I1 _ (turn_str _ z t "str_ascii_iterator" (.inl rfl)) ⟨_, Heap.get?_push_size _ rfl, rfl, rfl⟩ q)
@[simp] def seqD : PyData → Option (List PyData)
  | .list ds => some ds
  | .tuple ds => some ds
  | .str z => some (z.cps.toList.map sign)
  | _ => none
@[simp] def wSeqI (Wa : WE) : WI := fun Γ Q => Wa Γ fun d Γ1 => match seqD d with
  | some ds => Q ds Γ1
  | none => False
theorem dwalk_list {G0 : Hp} {p : Addr} {vs : List V} {ds : List PyData} (h : G0 p = some (.lst vs)) (da : DdAll K G0 vs ds) : DWalk K (Itl K p) G0 ds := by
  intro B Γ σ H G E s i
  have hq : SqL K H p vs := SqL.of (E.gh _ _ (s _ _ h))
  refine ⟨fun hi => ⟨vs, hq, by rw [da.length]; exact Nat.le_of_eq hi.symm⟩, fun d hd => ?_⟩
  obtain ⟨v, hv, dv⟩ := da.get hd
  refine ⟨⟨vs, v, hq, hv⟩, fun x H' y => ?_⟩
  obtain ⟨e, y⟩ := y
  subst e
  have := y vs hq
  rw [hv] at this
  cases this
  exact ⟨G, E, Same.refl _, dv.mono s, Same.refl _⟩
theorem dwalk_tup {G0 : Hp} {p : Addr} {vs : List V} {ds : List PyData} (h : SqT K G0 p vs) (da : DdAll K G0 vs ds) : DWalk K (Itt K p) G0 ds := by
  intro B Γ σ H G E s i
  have hq : SqT K H p vs := sqT_same E.gh (sqT_same s h)
  refine ⟨fun hi => ⟨vs, hq, by rw [da.length]; exact Nat.le_of_eq hi.symm⟩, fun d hd => ?_⟩
  obtain ⟨v, hv, dv⟩ := da.get hd
  refine ⟨⟨vs, v, hq, hv⟩, fun x H' y => ?_⟩
  obtain ⟨e, y⟩ := y
  subst e
  have := y vs hq
  rw [hv] at this
  cases this
  exact ⟨G, E, Same.refl _, dv.mono s, Same.refl _⟩
theorem dwalk_str {G0 : Hp} {z : Str} : DWalk K (Its z) G0 (z.cps.toList.map sign) := by
  intro B Γ σ H G E s i
  refine ⟨fun hi => ?_, fun d hd => ?_⟩
  · show z.cps.size ≤ i
    rw [hi]
    simp
  · rw [List.getElem?_map] at hd
    cases q : z.cps.toList[i]? with
    | none => rw [q] at hd; cases hd
    | some c =>
      rw [q] at hd
      cases hd
      have hi : i < z.cps.size := by simpa using (List.getElem?_eq_some_iff.mp q).1
      refine ⟨hi, fun x H' y => ?_⟩
      obtain ⟨e, c', hc, ex⟩ := y
      subst e ex
      have : c = c' := by
        have q' : z.cps[i]? = some c := by simpa using q
        rw [hc] at q'
        cases q'
        rfl
      subst this
      exact ⟨G, E, Same.refl _, .str _, Same.refl _⟩
theorem di_seq (h : DE X a Wa) : DI X tg a (wSeqI Wa) := by
  obtain ⟨t, p, r⟩ := h.ex
  refine ⟨_, pi_seq p, ?_⟩
  intro B Γ σ H G Q R E w k
  refine r B Γ σ H G _ _ E w fun v H1 G1 d Γ1 E1 s1 k1 d1 w1 => ?_
  cases d1 with
  | lst ga da => exact .inl ⟨_, rfl, ⟨_, SqL.of (E1.gh _ _ ga)⟩, k _ H1 G1 _ Γ1 E1 s1 k1 (dwalk_list ga da) w1⟩
  | tup ga da => exact .inr (.inl ⟨_, rfl, ⟨_, sqT_same E1.gh ga⟩, k _ H1 G1 _ Γ1 E1 s1 k1 (dwalk_tup ga da) w1⟩)
  | str z => exact .inr (.inr ⟨z, rfl, k _ H1 G1 _ Γ1 E1 s1 k1 dwalk_str w1⟩)
  | _ => exact w1.elim
/-! range -/
def rng (lo : Int) (n : Nat) : List PyData := (List.range n).map fun i => .int (lo + (i : Nat))
theorem dwalk_range {G0 : Hp} {lo : Int} {n : Nat} : DWalk K (Itr lo n) G0 (rng lo n) := by
  intro B Γ σ H G E s i
  have hl : (rng lo n).length = n := by unfold rng; simp
  refine ⟨fun hi => by rw [hl] at hi; exact Nat.le_of_eq hi.symm, fun d hd => ?_⟩
  have hi : i < n := by
    have := (List.getElem?_eq_some_iff.mp hd).1
    rwa [hl] at this
  have hd' : d = .int (lo + (i : Nat)) := by
    unfold rng at hd
    rw [List.getElem?_map, List.getElem?_range hi] at hd
    cases hd
    rfl
  subst hd'
  refine ⟨hi, fun x H' y => ?_⟩
  obtain ⟨e, ex⟩ := y
  subst e ex
  exact ⟨G, E, Same.refl _, .int _, Same.refl _⟩
@[simp] def wRng1 (Wa : WE) : WI := fun Γ Q => Wa Γ fun d Γ1 => match d with
  | .int n => n < 2 ^ 62 ∧ -(2 ^ 62) ≤ n ∧ Q (rng 0 n.toNat) Γ1
  | _ => False
theorem di_range1 {p : Pos} (hg : Gl X "range") (hm : X.mg "range" = none) (ha : DE X a Wa) (hs : starEach [a] X.env = [(false, eval a X.env)] := by rfl) : DI X tg (.Call (.Name "range" p) [a] [] pos) (wRng1 Wa) := by
  obtain ⟨t, pa, r⟩ := ha.ex
  refine ⟨_, pi_range1 hg hm (pa_cons pa pa_nil hs) hs, ?_⟩
  intro B Γ σ H G Q R E w k
  refine r B Γ σ H G _ _ E w fun v H1 G1 d Γ1 E1 s1 k1 d1 w1 => ?_
  cases d1 with
  | int n => exact ⟨n, rfl, w1.2.1, w1.1, k _ H1 G1 _ Γ1 E1 s1 k1 dwalk_range w1.2.2⟩
  | _ => exact w1.elim
@[simp] def wRng2 (Wa Wb : WE) : WI := fun Γ Q => Wa Γ fun d Γ1 => Wb Γ1 fun e Γ2 => match d, e with
  | .int i, .int j => (-(2 ^ 62) ≤ i ∧ i < 2 ^ 62 ∧ -(2 ^ 62) ≤ j ∧ j < 2 ^ 62) ∧ Q (rng i (j - i).toNat) Γ2
  | _, _ => False
theorem di_range2 {p : Pos} (hg : Gl X "range") (hm : X.mg "range" = none) (ha : DE X a Wa) (hb : DE X b Wb) (hs : starEach [a, b] X.env = [(false, eval a X.env), (false, eval b X.env)] := by rfl) (hs2 : starEach [b] X.env = [(false, eval b X.env)] := by rfl) (hs3 : starEach [a, b] X.env = (false, eval a X.env) :: starEach [b] X.env := by rfl) :
    DI X tg (.Call (.Name "range" p) [a, b] [] pos) (wRng2 Wa Wb) := by
  obtain ⟨t, pa, r⟩ := ha.ex
  obtain ⟨t', pb, r'⟩ := hb.ex
  refine ⟨_, pi_range2 hg hm (pa_cons pa (pa_cons pb pa_nil hs2) hs3) hs hs2, ?_⟩
  intro B Γ σ H G Q R E w k
  refine r B Γ σ H G _ _ E w fun v H1 G1 d Γ1 E1 s1 k1 d1 w1 => ?_
  refine r' B Γ1 σ H1 G1 _ _ E1 w1 fun v2 H2 G2 d2 Γ2 E2 s2 k2 d2' w2 => ?_
  cases d1 with
  | int i =>
    cases d2' with
    | int j => exact ⟨i, j, rfl, w2.1, k _ H2 G2 _ Γ2 E2 (s1.trans s2) (k1.trans k2) dwalk_range w2.2⟩
    | _ => exact w2.elim
  | _ => cases d2' <;> exact w2.elim
end
end DL

namespace DL
open PySem PySem.Spec PyProof.Rows L2
/-! ## enumerate of a text -/
def Ites (z : Str) : It := ⟨fun i _ => i < z.cps.size, fun i H v H' => ∃ T c, v = .ref T ∧ H T = none ∧ z.cps[i]? = some c ∧ H' = upd H T (.tup [.int (i : Nat), .str ⟨#[c]⟩]), fun i _ => i = z.cps.size⟩
theorem draws_str {prog : Program} {w : World} {A : Around} (hh : A.handled = none) (it : Addr) (x : Str) (t : Tok) (ty : String) (hty : ty = "str_ascii_iterator" ∨ ty = "str_iterator") :
    Draws prog w A it [it] x.cps.size (fun i v => ∃ c u, x.cps[i]? = some c ∧ v = .str ⟨#[c]⟩ u) (fun i h => h.IsStrIter it ty x t i) := by
  rcases hty with e | e
  · subst e; exact Draws.strAscii hh it x t
  · subst e; exact Draws.strWide hh it x t
theorem turn_enumS {P : Program} {w : World} {K : PySem.W.Frag} {elts : List Expr} {kk : Nat} {tpos : Pos} (e it : Addr) (x : Str) (t : Tok) (ty : String) (hty : ty = "str_ascii_iterator" ∨ ty = "str_iterator") (hne : e ≠ it) :
    Turn P w K (.Tuple elts kk tpos) (Ites x) [e, it] e (fun i h => (∃ old, IsEnum h e it ((0 : Int) + (i : Nat)) old) ∧ h.IsStrIter it ty x t i) where
  mem := by simp
  obj := fun i h st b hb => by
    obtain ⟨⟨old, he⟩, ⟨o, ho, hc, hd⟩⟩ := st
    have e' : b = e ∨ b = it := by simpa using hb
    rcases e' with z | z
    · rw [z]; exact ⟨_, he, fun v q => nomatch q⟩
    · rw [z]; exact ⟨o, ho, fun v q => by rw [hd] at q; cases q⟩
  keep := fun i h h' st k => by
    obtain ⟨⟨old, he⟩, ⟨o, ho, r⟩⟩ := st
    exact ⟨⟨old, k e (by simp) _ he⟩, ⟨o, k it (by simp) o ho, r⟩⟩
  item := by
    intro X hP hw hK hc i pins s σ H E I hf st hg
    subst hP hw hK
    have D := draws_str (prog := X.prog) (w := X.w) (A := X.A.in1) (I.ok.hd hc) it x t ty hty
    have W := WalksT.enumFrom (0 : Int) D e hne (by simpa using hne) (by simp)
    have hel : e < s.heap.objs.size := by obtain ⟨⟨_, he⟩, _⟩ := st; exact Heap.lt_size he
    have hil : it < s.heap.objs.size := by obtain ⟨_, ⟨_, q, _⟩⟩ := st; exact Heap.lt_size q
    have hbl : ∀ b ∈ [e, it], b < s.heap.objs.size := fun b hb => by
      have e' : b = e ∨ b = it := by simpa using hb
      rcases e' with z | z
      · rw [z]; exact hel
      · rw [z]; exact hil
    refine W.item i s _ _ hg st fun T vals h' tk hPt hT htup hMid hk => ?_
    obtain ⟨t0, v0, ⟨c, u, hcx, rfl⟩, rfl⟩ := hPt
    refine ⟨_, rfl, W.go elts kk tpos i T { s with heap := h', toks := tk } _ _ hMid fun h'' hSt hk'' => ?_⟩
    have hTw := W.apart i T h' hMid
    have htup2 : IsTup h'' T #[.int ((0 : Int) + (i : Nat)) t0, .str ⟨#[c]⟩ u] := by
      obtain ⟨o, ho, r⟩ := htup
      exact ⟨o, hk'' T o hTw ho, r⟩
    have ei : (0 : Int) + (i : Nat) = (i : Nat) := Int.zero_add _
    rw [ei] at htup2
    have new : ObjOk X.prog X.w (upd H T (.tup [.int (i : Nat), .str ⟨#[c]⟩])) h'' T (.tup [.int (i : Nat), .str ⟨#[c]⟩]) :=
      ⟨by show 2 ≤ sizeLine; decide, [.int (i : Nat) t0, .str ⟨#[c]⟩ u], .cons ⟨_, rfl⟩ (.cons ⟨_, rfl⟩ .nil), htup2⟩
    have I1 : Inv X pins σ (upd H T (.tup [.int (i : Nat), .str ⟨#[c]⟩])) { s with heap := h'', toks := tk } :=
      I.turnedNew (ch := [e, it]) (fun b ob hb q => hk'' b ob hb (hk b ob hb q)) hf hT new
    refine ⟨.ref T, _, I1, rfl, ⟨T, c, rfl, I.hok.fresh hT, hcx, rfl⟩, hSt, fun b hb => ?_⟩
    rw [upd_ne (Nat.ne_of_lt (Nat.lt_of_lt_of_le (hbl b hb) hT))]
    exact (hf b hb).1
  done := by
    intro X hP hw hK hc i pins s σ H E I hf st hg
    subst hP hw hK
    have D := draws_str (prog := X.prog) (w := X.w) (A := X.A.in1) (I.ok.hd hc) it x t ty hty
    have W := WalksT.enumFrom (0 : Int) D e hne (by simpa using hne) (by simp)
    have hle : i = x.cps.size := hg
    subst hle
    refine W.done s _ _ st fun h' tk eb => ⟨rfl, I.turnedL (t' := tk) (ch := [e, it]) eb hf⟩
  self := fun A i s Q E st h => let ⟨⟨_, he⟩, _⟩ := st; wpAny_pyIter_enum he h
/-! .. of a tuple -/
def IteT (K : PySem.W.Frag) (a : Addr) : It :=
  ⟨fun i H => ∃ (xs : List V) (x : V), SqT K H a xs ∧ xs[i]? = some x, fun i H v H' => ∃ T x, v = .ref T ∧ H T = none ∧ H' = upd H T (.tup [.int (i : Nat), x]) ∧ ∀ xs, SqT K H a xs → xs[i]? = some x, fun i H => ∃ xs : List V, SqT K H a xs ∧ xs.length = i⟩
theorem turn_enumT {P : Program} {w : World} {K : PySem.W.Frag} {elts : List Expr} {kk : Nat} {tpos : Pos} (a e it : Addr) :
    Turn P w K (.Tuple elts kk tpos) (IteT K a) [e, it] e (fun i h => ((∃ old, IsEnum h e it ((0 : Int) + (i : Nat)) old) ∧ h.IsTupleIter it a i) ∧ e ≠ it ∧ e ≠ a ∧ a ≠ it) where
  mem := by simp
  obj := fun i h st b hb => by
    obtain ⟨⟨⟨old, he⟩, ⟨o, ho, hc, hd⟩⟩, _⟩ := st
    have e' : b = e ∨ b = it := by simpa using hb
    rcases e' with z | z
    · rw [z]; exact ⟨_, he, fun v q => nomatch q⟩
    · rw [z]; exact ⟨o, ho, fun v q => by rw [hd] at q; cases q⟩
  keep := fun i h h' st k => by
    obtain ⟨⟨⟨old, he⟩, ⟨o, ho, r⟩⟩, ap⟩ := st
    exact ⟨⟨⟨old, k e (by simp) _ he⟩, ⟨o, k it (by simp) o ho, r⟩⟩, ap⟩
  item := by
    intro X hP hw hK hc i pins s σ H E I hf st hg
    subst hP hw hK
    obtain ⟨xs, x, hq, hx⟩ := hg
    obtain ⟨its, rv, p, hz⟩ := I.tuple hq
    obtain ⟨⟨hen, hti⟩, hne, hea, hai⟩ := st
    have D := Draws.tuple (prog := X.prog) (w := X.w) (A := X.A.in1) (I.ok.hd hc) it a hai its.toArray
    have W := WalksT.enumFrom (0 : Int) D e hne (by simp [hne, hea]) (by simp)
    have hel : e < s.heap.objs.size := by obtain ⟨_, he⟩ := hen; exact Heap.lt_size he
    have hil : it < s.heap.objs.size := by obtain ⟨_, q, _⟩ := hti; exact Heap.lt_size q
    have hbl : ∀ b ∈ [e, it], b < s.heap.objs.size := fun b hb => by
      have e' : b = e ∨ b = it := by simpa using hb
      rcases e' with z | z
      · rw [z]; exact hel
      · rw [z]; exact hil
    obtain ⟨u, hu, ru⟩ := rv.get hx
    have hlt : i < its.toArray.size := by
      have := (List.getElem?_eq_some_iff.mp hu).1
      simpa using this
    refine W.item i s _ _ hlt ⟨hen, hti, p⟩ fun T vals h' tk hPt hT htup hMid hk => ?_
    obtain ⟨t0, v0, hv0, rfl⟩ := hPt
    have ev : v0 = u := by
      have hv0 : its.toArray[i]? = some v0 := hv0
      rw [List.getElem?_toArray, hu] at hv0
      exact (Option.some.inj hv0).symm
    subst ev
    refine ⟨_, rfl, W.go elts kk tpos i T { s with heap := h', toks := tk } _ _ hMid fun h'' hSt hk'' => ?_⟩
    have hTw := W.apart i T h' hMid
    have htup2 : IsTup h'' T #[.int ((0 : Int) + (i : Nat)) t0, v0] := by
      obtain ⟨o, ho, r⟩ := htup
      exact ⟨o, hk'' T o hTw ho, r⟩
    rw [Int.zero_add] at htup2
    have new : ObjOk X.prog X.w (upd H T (.tup [.int (i : Nat), x])) h'' T (.tup [.int (i : Nat), x]) :=
      ⟨by show 2 ≤ sizeLine; decide, [.int (i : Nat) t0, v0], .cons ⟨_, rfl⟩ (.cons ru .nil), htup2⟩
    have I1 : Inv X pins σ (upd H T (.tup [.int (i : Nat), x])) { s with heap := h'', toks := tk } :=
      I.turnedNew (ch := [e, it]) (fun b ob hb q => hk'' b ob hb (hk b ob hb q)) hf hT new
    refine ⟨.ref T, _, I1, rfl, ⟨T, x, rfl, I.hok.fresh hT, rfl, fun ys hy => by rw [I.tuple_inj hy hq]; exact hx⟩, ⟨⟨hSt.1, hSt.2.1⟩, hne, hea, hai⟩, fun b hb => ?_⟩
    rw [upd_ne (Nat.ne_of_lt (Nat.lt_of_lt_of_le (hbl b hb) hT))]
    exact (hf b hb).1
  done := by
    intro X hP hw hK hc i pins s σ H E I hf st hg
    subst hP hw hK
    obtain ⟨xs, hq, hx⟩ := hg
    obtain ⟨its, rv, p, hz⟩ := I.tuple hq
    obtain ⟨⟨hen, hti⟩, hne, hea, hai⟩ := st
    have D := Draws.tuple (prog := X.prog) (w := X.w) (A := X.A.in1) (I.ok.hd hc) it a hai its.toArray
    have W := WalksT.enumFrom (0 : Int) D e hne (by simp [hne, hea]) (by simp)
    have hle : i = its.toArray.size := by
      have := rv.length
      rw [List.size_toArray]
      omega
    subst hle
    exact W.done s _ _ ⟨hen, hti, p⟩ fun h' tk eb => ⟨rfl, I.turnedL (t' := tk) (ch := [e, it]) eb hf⟩
  self := fun A i s Q E st h => let ⟨⟨⟨_, he⟩, _⟩, _⟩ := st; wpAny_pyIter_enum he h
set_option maxHeartbeats 8000000 in
theorem meets_enum1 {v : Value} {o : Obj} {Hc : Heap → Prop} (B : Begins v o Hc) :
    Meets (Builtin.«enumerate.__new__» ⟨[.type "enumerate", v], []⟩) (fun _ R s => Hc s.heap ∧ R (.ok (.ret (.ref (s.heap.push o).objs.size))) { s with heap := (s.heap.push o).push { cls := .type "enumerate", data := .fields #[.none, .bool false, .ref s.heap.objs.size, rawInt 0, .none, .none] } }) :=
  .of_wp fun prog w A R s h => by
    obtain ⟨hp, g, d, tk, os⟩ := s
    have sub0 := sub_enumerate
    have it0 : ∀ {A' : Around} {E : Value → Shared → Prop} {Q : Value → Shared → Prop}, Q (.ref hp.objs.size) ⟨hp.push o, g, d, tk, os⟩ → wpAny (model prog w) A' (pyIter v) Q E ⟨hp, g, d, tk, os⟩ := fun q => B.iter prog w _ _ ⟨hp, g, d, tk, os⟩ _ h.1 q
    have fin := h.2
    wp_walk using it0
    refine wpAny_stack_any fun st => wpAny_pure ?_
    split
    · rename_i c _ _ _ _ _
      cases (c == Value.type "enumerate") <;> (wp_walk using it0; exact ⟨_, rfl, fin⟩)
    · wp_walk using it0
      exact ⟨_, rfl, fin⟩
theorem call_enum1 {prog : Program} {w : World} {A : Around} {E : Value → Shared → Prop} {s : Shared} {v : Value} {o : Obj} {Hc : Heap → Prop} {Q : Value → Shared → Prop} (B : Begins v o Hc) (h1 : Hc s.heap)
    (h : ∀ h', IsEnum h' (s.heap.objs.size + 1) s.heap.objs.size 0 .none → h'.get? s.heap.objs.size = some o → (∀ b u, s.heap.get? b = some u → h'.get? b = some u) → Q (.ref (s.heap.objs.size + 1)) { s with heap := h' }) :
    wpAny (model prog w) A (call (.type "enumerate") [v]) Q E s := by
  have z : (s.heap.push o).objs.size = s.heap.objs.size + 1 := Heap.size_push ..
  have en : IsEnum ((s.heap.push o).push { cls := .type "enumerate", data := .fields #[.none, .bool false, .ref s.heap.objs.size, rawInt 0, .none, .none] }) (s.heap.objs.size + 1) s.heap.objs.size 0 .none := by
    rw [← z]
    exact Heap.get?_push_size (s.heap.push o) rfl
  refine callType_new F.called_enumerate (by decide) (F.typeCall_enumerate_1 _) (F.newCall_enumerate_1 _) (fun obj => F.args_object_init_2 obj _) F.entry_enumerate_new (meets_enum1 B) ⟨h1, ?_⟩
  rw [z]
  exact ⟨⟨_, en, rfl⟩, h _ en (Heap.get?_push_of_some _ (Heap.get?_push_size _ B.free)) fun b u x => Heap.get?_push_of_some _ (Heap.get?_push_of_some _ x)⟩
section
variable {X : Cx} {K : PySem.W.Frag} {a b c e tg : Expr} {es tgs : List Expr} {Wa Wb Wc : WE} {Wr : WA} {pos : Pos} {WT' : WT} {ts us : List Nat}
def iEnumU (K : PySem.W.Frag) (ta : TA) : TI := fun σ H R => ta σ H fun vs H1 => (∃ a xs, vs = [V.ref a] ∧ SqL K H1 a xs ∧ R (Ite K a) H1) ∨ (∃ z, vs = [V.str z] ∧ R (Ites z) H1) ∨ ∃ a xs, vs = [V.ref a] ∧ SqT K H1 a xs ∧ R (IteT K a) H1
theorem pi_enumU {ta : TA} {p pos tpos : Pos} {elts : List Expr} {kk : Nat} (hg : Gl X "enumerate") (hm : X.mg "enumerate" = none) (ha : PA X [e] ta) (hs : starEach [e] X.env = [(false, eval e X.env)] := by rfl) :
    PI X (.Tuple elts kk tpos) (.Call (.Name "enumerate" p) [e] [] pos) (iEnumU X.K ta) := by
  refine ⟨fun pins s σ H R I h => ?_⟩
  refine Call_ (ld_blt I hg hm boot_enumerate (PyProof.Rows.callWith_type1 (thn (ha.run pos pins s σ H _ I h) fun us s1 ⟨vs, H1, I1, r1, q1⟩ => ?_) hs rfl))
  have fr : ∀ b ∈ [s1.heap.objs.size + 1, s1.heap.objs.size], FpOk X pins H1 b := fun b hb => by
    have e' : b = s1.heap.objs.size + 1 ∨ b = s1.heap.objs.size := by simpa using hb
    have hle : s1.heap.objs.size ≤ b := by
      rcases e' with z | z
      · rw [z]; exact Nat.le_add_right _ _
      · rw [z]; exact Nat.le_refl _
    exact I1.fpOk hle (I1.hok.fresh hle)
  rcases q1 with ⟨a, xs, ex, hq, q⟩ | ⟨z, ex, q⟩ | ⟨a, xs, ex, hq, q⟩
  · subst ex
    cases r1 with
    | cons r rr =>
      cases rr
      cases r
      obtain ⟨its, rv, p', hz⟩ := I1.list hq
      refine call_enumerate_list p'.isList fun h' he hit hsz hk => wpAny_pyIter_enum he ?_
      have I2 : Inv X pins σ H1 { s1 with heap := h' } := I1.kept (t' := s1.toks) hk
      exact ⟨s1.heap.objs.size + 1, [s1.heap.objs.size + 1, s1.heap.objs.size], _, _, H1, rfl, I2, turn_enum a (s1.heap.objs.size + 1) s1.heap.objs.size, ⟨⟨.none, he⟩, hit, Nat.succ_ne_self _⟩, fr, q⟩
  · subst ex
    cases r1 with
    | cons r rr =>
      cases rr
      obtain ⟨t, rfl⟩ := r
      refine call_enumerate_str fun h' he hit hsz hk => wpAny_pyIter_enum he ?_
      have I2 : Inv X pins σ H1 { s1 with heap := h' } := I1.kept (t' := s1.toks) hk
      have hty : strIterType z = "str_ascii_iterator" ∨ strIterType z = "str_iterator" := by
        unfold strIterType
        cases z.cps.all (· < 128)
        · exact .inr rfl
        · exact .inl rfl
      refine ⟨s1.heap.objs.size + 1, [s1.heap.objs.size + 1, s1.heap.objs.size], _, _, H1, rfl, I2, turn_enumS (s1.heap.objs.size + 1) s1.heap.objs.size z t (strIterType z) hty (Nat.succ_ne_self _), ⟨⟨.none, ?_⟩, hit⟩, fr, q⟩
      exact he
  · subst ex
    cases r1 with
    | cons r rr =>
      cases rr
      cases r
      obtain ⟨its, rv, p', hz⟩ := I1.tuple hq
      have hal : a < s1.heap.objs.size := by obtain ⟨o, q, _⟩ := id p'; exact Heap.lt_size q
      refine call_enum1 (begins_tuple a its.toArray) p' fun h' he hit hk => wpAny_pyIter_enum he ?_
      have I2 : Inv X pins σ H1 { s1 with heap := h' } := I1.kept (t' := s1.toks) hk
      refine ⟨s1.heap.objs.size + 1, [s1.heap.objs.size + 1, s1.heap.objs.size], _, _, H1, rfl, I2, turn_enumT a (s1.heap.objs.size + 1) s1.heap.objs.size, ⟨⟨⟨.none, he⟩, ⟨_, hit, rfl, rfl⟩⟩, Nat.succ_ne_self _, Nat.ne_of_gt (Nat.lt_succ_of_lt hal), Nat.ne_of_lt hal⟩, fr, q⟩
def enumFrom : Nat → List PyData → List PyData
  | _, [] => []
  | k, d :: ds => .tuple [.int (k : Nat), d] :: enumFrom (k + 1) ds
theorem enumFrom_len : ∀ (k : Nat) (ds : List PyData), (enumFrom k ds).length = ds.length
  | _, [] => rfl
  | k, _ :: ds => congrArg Nat.succ (enumFrom_len (k + 1) ds)
theorem enumFrom_get : ∀ (k : Nat) (ds : List PyData) (i : Nat), (enumFrom k ds)[i]? = (ds[i]?).map fun d => .tuple [.int ((k + i : Nat) : Int), d]
  | _, [], i => by simp [enumFrom]
  | k, d :: ds, 0 => by simp [enumFrom]
  | k, d :: ds, i + 1 => by
    show (enumFrom (k + 1) ds)[i]? = _
    rw [enumFrom_get (k + 1) ds i]
    have e : k + 1 + i = k + (i + 1) := by omega
    rw [e]
    simp
theorem En.newTup {B : Bs} {σ : L2.St} {H G : Hp} {Γ : Gam} {T : Addr} {vs : List V} {ds : List PyData} (E : En K B σ H G Γ) (hT : H T = none) (da : DdAll K G vs ds) :
    En K B σ (upd H T (.tup vs)) (upd G T (.tup vs)) Γ ∧ Same G (upd G T (.tup vs)) ∧ Dd K (upd G T (.tup vs)) (.ref T) (.tuple ds) ∧ Same H (upd H T (.tup vs)) :=
  ⟨E.laid hT, sameNew (E.gnone hT), .tup (SqT.of upd_same) (da.mono (sameNew (E.gnone hT))), sameNew hT⟩
theorem dwalk_enum {G0 : Hp} {p : Addr} {vs : List V} {ds : List PyData} (h : G0 p = some (.lst vs)) (da : DdAll K G0 vs ds) : DWalk K (Ite K p) G0 (enumFrom 0 ds) := by
  intro B Γ σ H G E s i
  have hq : SqL K H p vs := SqL.of (E.gh _ _ (s _ _ h))
  refine ⟨fun hi => ⟨vs, hq, by rw [hi, enumFrom_len, da.length]; exact Nat.le_refl _⟩, fun d hd => ?_⟩
  rw [enumFrom_get] at hd
  cases q : ds[i]? with
  | none => rw [q] at hd; cases hd
  | some d0 =>
    rw [q] at hd
    have hd : PyData.tuple [.int ((0 + i : Nat) : Int), d0] = d := Option.some.inj hd
    rw [Nat.zero_add] at hd
    subst hd
    obtain ⟨v, hv, dv⟩ := da.get q
    refine ⟨⟨vs, v, hq, hv⟩, fun x H' y => ?_⟩
    obtain ⟨T, x0, ex, hT, eH, y⟩ := y
    have := y vs hq
    rw [hv] at this
    cases this
    subst ex eH
    obtain ⟨a1, a2, a3, a4⟩ := E.newTup hT (.cons (.int (i : Nat)) (.cons (dv.mono s) .nil))
    exact ⟨_, a1, a2, a3, a4⟩
theorem dwalk_enumT {G0 : Hp} {p : Addr} {vs : List V} {ds : List PyData} (h : SqT K G0 p vs) (da : DdAll K G0 vs ds) : DWalk K (IteT K p) G0 (enumFrom 0 ds) := by
  intro B Γ σ H G E s i
  have hq : SqT K H p vs := sqT_same E.gh (sqT_same s h)
  refine ⟨fun hi => ⟨vs, hq, by rw [hi, enumFrom_len, da.length]⟩, fun d hd => ?_⟩
  rw [enumFrom_get] at hd
  cases q : ds[i]? with
  | none => rw [q] at hd; cases hd
  | some d0 =>
    rw [q] at hd
    have hd : PyData.tuple [.int ((0 + i : Nat) : Int), d0] = d := Option.some.inj hd
    rw [Nat.zero_add] at hd
    subst hd
    obtain ⟨v, hv, dv⟩ := da.get q
    refine ⟨⟨vs, v, hq, hv⟩, fun x H' y => ?_⟩
    obtain ⟨T, x0, ex, hT, eH, y⟩ := y
    have := y vs hq
    rw [hv] at this
    cases this
    subst ex eH
    obtain ⟨a1, a2, a3, a4⟩ := E.newTup hT (.cons (.int (i : Nat)) (.cons (dv.mono s) .nil))
    exact ⟨_, a1, a2, a3, a4⟩
theorem dwalk_enumS {G0 : Hp} {z : Str} : DWalk K (Ites z) G0 (enumFrom 0 (z.cps.toList.map sign)) := by
  intro B Γ σ H G E s i
  refine ⟨fun hi => ?_, fun d hd => ?_⟩
  · show i = z.cps.size
    rw [hi, enumFrom_len]
    simp
  · rw [enumFrom_get, List.getElem?_map] at hd
    cases q : z.cps.toList[i]? with
    | none => rw [q] at hd; cases hd
    | some c =>
      rw [q] at hd
      have hd : PyData.tuple [.int ((0 + i : Nat) : Int), sign c] = d := Option.some.inj hd
      rw [Nat.zero_add] at hd
      subst hd
      have hi : i < z.cps.size := by simpa using (List.getElem?_eq_some_iff.mp q).1
      refine ⟨hi, fun x H' y => ?_⟩
      obtain ⟨T, c', ex, hT, hc, eH⟩ := y
      have : c = c' := by
        have q' : z.cps[i]? = some c := by simpa using q
        rw [hc] at q'
        cases q'
        rfl
      subst this ex eH
      obtain ⟨a1, a2, a3, a4⟩ := E.newTup hT (.cons (.int (i : Nat)) (.cons (.str ⟨#[c]⟩) .nil))
      exact ⟨_, a1, a2, a3, a4⟩
@[simp] def wEnum (Wa : WE) : WI := fun Γ Q => Wa Γ fun d Γ1 => match d with
  | .list ds => Q (enumFrom 0 ds) Γ1
  | .tuple ds => Q (enumFrom 0 ds) Γ1
  | .str z => Q (enumFrom 0 (z.cps.toList.map sign)) Γ1
  | _ => False
theorem di_enum {p tpos : Pos} {elts : List Expr} {kk : Nat} (hg : Gl X "enumerate") (hm : X.mg "enumerate" = none) (ha : DE X e Wa) (hs : starEach [e] X.env = [(false, eval e X.env)] := by rfl) : DI X (.Tuple elts kk tpos) (.Call (.Name "enumerate" p) [e] [] pos) (wEnum Wa) := by
  obtain ⟨t, pa, r⟩ := ha.ex
  refine ⟨_, pi_enumU hg hm (pa_cons pa pa_nil hs) hs, ?_⟩
  intro B Γ σ H G Q R E w k
  refine r B Γ σ H G _ _ E w fun v H1 G1 d Γ1 E1 s1 k1 d1 w1 => ?_
  cases d1 with
  | lst ga da => exact .inl ⟨_, _, rfl, SqL.of (E1.gh _ _ ga), k _ H1 G1 _ Γ1 E1 s1 k1 (dwalk_enum ga da) w1⟩
  | tup ga da => exact .inr (.inr ⟨_, _, rfl, sqT_same E1.gh ga, k _ H1 G1 _ Γ1 E1 s1 k1 (dwalk_enumT ga da) w1⟩)
  | str z => exact .inr (.inl ⟨z, rfl, k _ H1 G1 _ Γ1 E1 s1 k1 dwalk_enumS w1⟩)
  | _ => exact w1.elim
/-! ## zip -/
def zipD : List PyData → List PyData → List PyData
  | x :: xs, y :: ys => .tuple [x, y] :: zipD xs ys
  | _, _ => []
theorem zipD_len : ∀ xs ys : List PyData, (zipD xs ys).length = min xs.length ys.length
  | [], _ => by simp [zipD]
  | _ :: _, [] => by simp [zipD]
  | _ :: xs, _ :: ys => by
    show (zipD xs ys).length + 1 = min (xs.length + 1) (ys.length + 1)
    rw [zipD_len xs ys]
    omega
theorem zipD_get : ∀ (xs ys : List PyData) (i : Nat) (d : PyData), (zipD xs ys)[i]? = some d → ∃ x y, xs[i]? = some x ∧ ys[i]? = some y ∧ d = .tuple [x, y]
  | [], _, i, d, h => by simp [zipD] at h
  | _ :: _, [], i, d, h => by simp [zipD] at h
  | x :: xs, y :: ys, 0, d, h => by
    simp [zipD] at h
    exact ⟨x, y, by simp, by simp, h.symm⟩
  | x :: xs, y :: ys, i + 1, d, h => by
    obtain ⟨a, b, h1, h2, h3⟩ := zipD_get xs ys i d (by simpa [zipD] using h)
    exact ⟨a, b, by simpa using h1, by simpa using h2, h3⟩
theorem dwalk_zip {G0 : Hp} {p q : Addr} {vs us : List V} {ds es : List PyData} (h : G0 p = some (.lst vs)) (da : DdAll K G0 vs ds) (h' : G0 q = some (.lst us)) (db : DdAll K G0 us es) : DWalk K (Itz K p q) G0 (zipD ds es) := by
  intro B Γ σ H G E s i
  have h1 : SqL K H p vs := SqL.of (E.gh _ _ (s _ _ h))
  have h2 : SqL K H q us := SqL.of (E.gh _ _ (s _ _ h'))
  refine ⟨fun hi => ⟨vs, us, h1, h2, ?_⟩, fun d hd => ?_⟩
  · have e1 := da.length
    have e2 := db.length
    rw [zipD_len] at hi
    omega
  · obtain ⟨x, y, hx, hy, rfl⟩ := zipD_get ds es i d hd
    obtain ⟨v, hv, dv⟩ := da.get hx
    obtain ⟨u, hu, du⟩ := db.get hy
    refine ⟨⟨vs, us, v, u, h1, h2, hv, hu⟩, fun z H' yy => ?_⟩
    obtain ⟨T, x0, y0, ex, hT, eH, y1, y2⟩ := yy
    have g1 := y1 vs h1
    have g2 := y2 us h2
    rw [hv] at g1
    rw [hu] at g2
    cases g1
    cases g2
    subst ex eH
    obtain ⟨a1, a2, a3, a4⟩ := E.newTup hT (.cons (dv.mono s) (.cons (du.mono s) .nil))
    exact ⟨_, a1, a2, a3, a4⟩
theorem dwalk_zipT {G0 : Hp} {p q : Addr} {vs us : List V} {ds es : List PyData} (h : SqT K G0 p vs) (da : DdAll K G0 vs ds) (h' : SqT K G0 q us) (db : DdAll K G0 us es) : DWalk K (RZ.ItzT K p q) G0 (zipD ds es) := by
  intro B Γ σ H G E s i
  have h1 : SqT K H p vs := sqT_same E.gh (sqT_same s h)
  have h2 : SqT K H q us := sqT_same E.gh (sqT_same s h')
  refine ⟨fun hi => ⟨vs, us, h1, h2, ?_⟩, fun d hd => ?_⟩
  · have e1 := da.length
    have e2 := db.length
    rw [zipD_len] at hi
    omega
  · obtain ⟨x, y, hx, hy, rfl⟩ := zipD_get ds es i d hd
    obtain ⟨v, hv, dv⟩ := da.get hx
    obtain ⟨u, hu, du⟩ := db.get hy
    refine ⟨⟨vs, us, v, u, h1, h2, hv, hu⟩, fun z H' yy => ?_⟩
    obtain ⟨T, x0, y0, ex, hT, eH, y1, y2⟩ := yy
    have g1 := y1 vs h1
    have g2 := y2 us h2
    rw [hv] at g1
    rw [hu] at g2
    cases g1
    cases g2
    subst ex eH
    obtain ⟨a1, a2, a3, a4⟩ := E.newTup hT (.cons (dv.mono s) (.cons (du.mono s) .nil))
    exact ⟨_, a1, a2, a3, a4⟩
@[simp] def wZip (Wa Wb : WE) : WI := fun Γ Q => Wa Γ fun d Γ1 => Wb Γ1 fun e Γ2 => match d, e with
  | .list ds, .list es => Q (zipD ds es) Γ2
  | .tuple ds, .tuple es => Q (zipD ds es) Γ2
  | _, _ => False
theorem di_zip {p tpos : Pos} {elts : List Expr} {kk : Nat} (hg : Gl X "zip") (hm : X.mg "zip" = none) (ha : DE X a Wa) (hb : DE X b Wb) (hs : starEach [a, b] X.env = (false, eval a X.env) :: starEach [b] X.env := by rfl) (hs2 : starEach [b] X.env = (false, eval b X.env) :: starEach [] X.env := by rfl) (hpl : (backTo pos (starEach [b] X.env)).any (·.1) = false := by rfl) :
    DI X (.Tuple elts kk tpos) (.Call (.Name "zip" p) [a, b] [] pos) (wZip Wa Wb) := by
  obtain ⟨t, pa, r⟩ := ha.ex
  obtain ⟨t', pb, r'⟩ := hb.ex
  refine ⟨_, RZ.pi_zipA hg hm (pa_cons pa (pa_cons pb pa_nil hs2) hs) hs hpl, ?_⟩
  intro B Γ σ H G Q R E w k
  refine r B Γ σ H G _ _ E w fun v H1 G1 d Γ1 E1 s1 k1 d1 w1 => ?_
  refine r' B Γ1 σ H1 G1 _ _ E1 w1 fun u H2 G2 e Γ2 E2 s2 k2 d2 w2 => ?_
  have d1' := d1.mono s2
  cases d1' with
  | lst ga da =>
    cases d2 with
    | lst gb db => exact ⟨_, _, _, _, rfl, .inl ⟨SqL.of (E2.gh _ _ ga), SqL.of (E2.gh _ _ gb), k _ H2 G2 _ Γ2 E2 (s1.trans s2) (k1.trans k2) (dwalk_zip ga da gb db) w2⟩⟩
    | _ => exact w2.elim
  | tup ga da =>
    cases d2 with
    | tup gb db => exact ⟨_, _, _, _, rfl, .inr ⟨sqT_same E2.gh ga, sqT_same E2.gh gb, k _ H2 G2 _ Γ2 E2 (s1.trans s2) (k1.trans k2) (dwalk_zipT ga da gb db) w2⟩⟩
    | _ => exact w2.elim
  | _ => cases d2 <;> exact w2.elim
end
end DL

namespace DL
open PySem PySem.Spec PyProof.Rows L2
section
variable {X : Cx} {K : PySem.W.Frag} {a b c e tg elt iter : Expr} {es tgs ifs : List Expr} {Wa Wb Wc We : WE} {Wr : WA} {pos : Pos} {WT' : WT} {ts us : List Nat}
/-! ## list comprehensions -/
@[simp] def wipeG (Γ : Gam) : List Nat → Gam
  | [] => Γ
  | v :: vs => (wipeG Γ vs).set v .un
/-- behind the block: its own slots as they stood ahead, the others as they stand -/
@[simp] def restG (Γ Γ' : Gam) : List Nat → Gam
  | [] => Γ'
  | v :: vs => (restG Γ Γ' vs).set v (Γ.getD v .un)
theorem wipe_get {σ : L2.St} {i : Nat} : ∀ {vs : List Nat}, (i ∉ vs → (wipe σ vs)[i]? = σ[i]?) ∧ (i ∈ vs → (wipe σ vs)[i]? = (σ[i]?).map fun _ => none)
  | [] => ⟨fun _ => rfl, fun h => by simp at h⟩
  | v :: vs => by
    obtain ⟨h1, h2⟩ := wipe_get (σ := σ) (i := i) (vs := vs)
    have hl : (wipe σ vs).length = σ.length := wipe_length σ vs
    show (i ∉ v :: vs → ((wipe σ vs).set v none)[i]? = σ[i]?) ∧ (i ∈ v :: vs → ((wipe σ vs).set v none)[i]? = (σ[i]?).map fun _ => none)
    by_cases e : v = i
    · subst e
      refine ⟨fun h => absurd List.mem_cons_self h, fun _ => ?_⟩
      by_cases hv : v < σ.length
      · rw [List.getElem?_set_self (by rw [hl]; exact hv), List.getElem?_eq_getElem hv]
        rfl
      · rw [List.getElem?_eq_none (by rw [List.length_set, hl]; omega), List.getElem?_eq_none (by omega)]
        rfl
    · rw [List.getElem?_set_ne e]
      refine ⟨fun h => h1 fun z => h (List.mem_cons_of_mem _ z), fun h => h2 ?_⟩
      rcases List.mem_cons.mp h with h | h
      · exact absurd h.symm e
      · exact h
theorem wipeG_get {Γ : Gam} {i : Nat} : ∀ {vs : List Nat}, (wipeG Γ vs).length = Γ.length ∧ (i ∉ vs → (wipeG Γ vs)[i]? = Γ[i]?) ∧ (i ∈ vs → (wipeG Γ vs)[i]? = (Γ[i]?).map fun _ => Sl.un)
  | [] => ⟨rfl, fun _ => rfl, fun h => by simp at h⟩
  | v :: vs => by
    obtain ⟨hl, h1, h2⟩ := wipeG_get (Γ := Γ) (i := i) (vs := vs)
    show ((wipeG Γ vs).set v .un).length = Γ.length ∧ (i ∉ v :: vs → ((wipeG Γ vs).set v .un)[i]? = Γ[i]?) ∧ (i ∈ v :: vs → ((wipeG Γ vs).set v .un)[i]? = (Γ[i]?).map fun _ => Sl.un)
    refine ⟨by rw [List.length_set, hl], ?_⟩
    by_cases e : v = i
    · subst e
      refine ⟨fun h => absurd List.mem_cons_self h, fun _ => ?_⟩
      by_cases hv : v < Γ.length
      · rw [List.getElem?_set_self (by rw [hl]; exact hv), List.getElem?_eq_getElem hv]
        rfl
      · rw [List.getElem?_eq_none (by rw [List.length_set, hl]; omega), List.getElem?_eq_none (by omega)]
        rfl
    · rw [List.getElem?_set_ne e]
      refine ⟨fun h => h1 fun z => h (List.mem_cons_of_mem _ z), fun h => h2 ?_⟩
      rcases List.mem_cons.mp h with h | h
      · exact absurd h.symm e
      · exact h
theorem restG_get {Γ Γ' : Gam} (hlen : Γ.length = Γ'.length) {i : Nat} : ∀ {vs : List Nat}, (restG Γ Γ' vs).length = Γ.length ∧ (i ∉ vs → (restG Γ Γ' vs)[i]? = Γ'[i]?) ∧ (i ∈ vs → (restG Γ Γ' vs)[i]? = Γ[i]?)
  | [] => ⟨hlen.symm, fun _ => rfl, fun h => by simp at h⟩
  | v :: vs => by
    obtain ⟨hl, h1, h2⟩ := restG_get hlen (i := i) (vs := vs)
    show ((restG Γ Γ' vs).set v (Γ.getD v .un)).length = Γ.length ∧ (i ∉ v :: vs → ((restG Γ Γ' vs).set v (Γ.getD v .un))[i]? = Γ'[i]?) ∧ (i ∈ v :: vs → ((restG Γ Γ' vs).set v (Γ.getD v .un))[i]? = Γ[i]?)
    refine ⟨by rw [List.length_set, hl], ?_⟩
    by_cases e : v = i
    · subst e
      refine ⟨fun h => absurd List.mem_cons_self h, fun _ => ?_⟩
      by_cases hv : v < Γ.length
      · rw [List.getElem?_set_self (by rw [hl]; exact hv), List.getElem?_eq_getElem hv]
        simp [List.getD, List.getElem?_eq_getElem hv]
      · rw [List.getElem?_eq_none (by rw [List.length_set, hl]; omega), List.getElem?_eq_none (by omega)]
    · rw [List.getElem?_set_ne e]
      refine ⟨fun h => h1 fun z => h (List.mem_cons_of_mem _ z), fun h => h2 ?_⟩
      rcases List.mem_cons.mp h with h | h
      · exact absurd h.symm e
      · exact h
@[simp] def noOwn (Γ : Gam) (vs : List Nat) : Bool := vs.all fun v => (ownAt Γ v).isNone
theorem noOwn_of {Γ : Gam} {vs : List Nat} (h : noOwn Γ vs = true) {i : Nat} (hi : i ∈ vs) : ∀ ds, ¬ Own Γ i ds := by
  intro ds o
  unfold noOwn at h
  rw [List.all_eq_true] at h
  have h := h i hi
  unfold ownAt at h
  rcases o with o | o <;> (rw [o] at h; cases h)
/-- the frame within a block -/
theorem En.wiped {B : Bs} {σ : L2.St} {H G : Hp} {Γ : Gam} (E : En K B σ H G Γ) (vs : List Nat) : En K B (wipe σ vs) H G (wipeG Γ vs) := by
  have gg : ∀ {i : Nat} {s : Sl}, (wipeG Γ vs)[i]? = some s → s ≠ .un → i ∉ vs ∧ Γ[i]? = some s ∧ (wipe σ vs)[i]? = σ[i]? := fun {i s} h hs => by
    by_cases hi : i ∈ vs
    · exfalso
      rw [(wipeG_get (vs := vs)).2.2 hi] at h
      cases q : Γ[i]? with
      | none => rw [q] at h; cases h
      | some x => rw [q] at h; cases h; exact hs rfl
    · rw [(wipeG_get (vs := vs)).2.1 hi] at h
      exact ⟨hi, h, (wipe_get (vs := vs)).1 hi⟩
  have oo : ∀ {i : Nat} {ds : List PyData}, Own (wipeG Γ vs) i ds → Own Γ i ds ∧ (wipe σ vs)[i]? = σ[i]? := fun {i ds} o => by
    rcases o with o | o
    · obtain ⟨_, h1, h2⟩ := gg o (fun z => by cases z)
      exact ⟨.inl h1, h2⟩
    · obtain ⟨_, h1, h2⟩ := gg o (fun z => by cases z)
      exact ⟨.inr h1, h2⟩
  refine ⟨by rw [wipe_length, (wipeG_get (i := 0)).1]; exact E.len, E.gh, E.g0, E.h0, E.bh, E.f0, E.nn, fun i d h => ?_, fun i ds o => ?_, fun i ds o => ?_, fun i ds o => ?_, fun i ds o => ?_, fun i j p ds es o1 o2 h1 h2 => ?_⟩
  · obtain ⟨_, h1, h2⟩ := gg h (fun z => by cases z)
    rw [h2]
    exact E.dat i d h1
  · obtain ⟨h1, h2⟩ := oo o
    rw [h2]
    exact E.mine i ds h1
  · obtain ⟨_, h1, h2⟩ := gg o (fun z => by cases z)
    rw [h2]
    exact E.new i ds h1
  · obtain ⟨_, h1, h2⟩ := gg o (fun z => by cases z)
    rw [h2]
    exact E.par i ds h1
  · obtain ⟨_, h1, h2⟩ := gg o (fun z => by cases z)
    rw [h2]
    exact E.scr i ds h1
  · obtain ⟨g1, g2⟩ := oo o1
    obtain ⟨g3, g4⟩ := oo o2
    rw [g2] at h1
    rw [g4] at h2
    exact E.inj i j p ds es g1 g3 h1 h2
/-- behind the block -/
theorem En.rest {B B0 : Bs} {σ σ2 : L2.St} {H G H' G' : Hp} {Γ Γ1 Γ3 : Gam} {vs : List Nat} (E : En K B0 σ H G Γ) (E3 : En K B σ2 H' G' Γ3) (s : Same G G') (hno : noOwn Γ vs = true)
    (hσ : ∀ j : Nat, j ∉ vs → σ2[j]? = σ[j]?) (hΓ : ∀ j : Nat, j ∉ vs → Γ1[j]? = Γ[j]?) (hl : Γ1.length = Γ.length) (ks : KS Γ1 Γ3) : En K B σ H' G' (restG Γ Γ3 vs) ∧ KS Γ (restG Γ Γ3 vs) := by
  have hlen : Γ.length = Γ3.length := hl.symm.trans ks.len
  have out : ∀ {i : Nat}, i ∉ vs → (restG Γ Γ3 vs)[i]? = Γ3[i]? := fun hi => (restG_get hlen).2.1 hi
  have inn : ∀ {i : Nat}, i ∈ vs → (restG Γ Γ3 vs)[i]? = Γ[i]? := fun hi => (restG_get hlen).2.2 hi
  have oo : ∀ {i : Nat} {ds : List PyData}, Own (restG Γ Γ3 vs) i ds → i ∉ vs ∧ Own Γ3 i ds ∧ σ2[i]? = σ[i]? := fun {i ds} o => by
    by_cases hi : i ∈ vs
    · exfalso
      unfold Own at o
      rw [inn hi] at o
      exact noOwn_of hno hi ds o
    · unfold Own at o ⊢
      rw [out hi] at o
      exact ⟨hi, o, hσ i hi⟩
  refine ⟨⟨by rw [(restG_get (i := 0) hlen).1]; exact E.len, E3.gh, E3.g0, E3.h0, E3.bh, E3.f0, E3.nn, fun i d h => ?_, fun i ds o => ?_, fun i ds o => ?_, fun i ds o => ?_, fun i ds o => ?_, fun i j p ds es o1 o2 h1 h2 => ?_⟩, ⟨((restG_get (i := 0) hlen).1).symm, fun i x y hx hy => ?_⟩⟩
  · by_cases hi : i ∈ vs
    · rw [inn hi] at h
      obtain ⟨v, h1, h2⟩ := E.dat i d h
      exact ⟨v, h1, h2.mono s⟩
    · rw [out hi] at h
      obtain ⟨v, h1, h2⟩ := E3.dat i d h
      exact ⟨v, by rw [← hσ i hi]; exact h1, h2⟩
  · obtain ⟨_, h1, h2⟩ := oo o
    rw [← h2]
    exact E3.mine i ds h1
  · obtain ⟨hi, _, h2⟩ := oo (.inl o)
    rw [out hi] at o
    rw [← h2]
    exact E3.new i ds o
  · obtain ⟨hi, _, h2⟩ := oo (.inr o)
    rw [out hi] at o
    rw [← h2]
    exact E3.par i ds o
  · by_cases hi : i ∈ vs
    · rw [inn hi] at o
      exact E.scrG s i ds o
    · rw [out hi] at o
      rw [← hσ i hi]
      exact E3.scr i ds o
  · obtain ⟨_, g1, g2⟩ := oo o1
    obtain ⟨_, g3, g4⟩ := oo o2
    rw [← g2] at h1
    rw [← g4] at h2
    exact E3.inj i j p ds es g1 g3 h1 h2
  · by_cases hi : i ∈ vs
    · rw [inn hi, hx] at hy
      cases hy
      exact KS1.refl _
    · rw [out hi] at hy
      rw [← hΓ i hi] at hx
      exact ks.at' i x y hx hy
/-- a thing that is nobody's is written -/
theorem En.tempW {B : Bs} {σ : L2.St} {H G : Hp} {Γ : Gam} {D : Addr} {u o : HO} (E : En K B σ H G Γ) (hD : H D = some u) (gD : G D = none) (bD : B.H D = none) (hn : ∀ (i : Nat) es, Own Γ i es → σ[i]? ≠ some (some (V.ref D))) : En K B σ (upd H D o) G Γ := by
  refine ⟨E.len, fun b x h => ?_, E.g0, fun b x h hP => ?_, fun b h => ?_, E.f0, fun b h => E.nn b ?_, E.dat, fun i ds ow => ?_, E.new, E.par, E.scr, E.inj⟩
  · rw [upd_ne (ne_of_none h gD)]
    exact E.gh b x h
  · rw [upd_ne (ne_of_none h bD)]
    exact E.h0 b x h hP
  · by_cases hb : b = D
    · subst hb; rw [upd_same]; exact fun z => by cases z
    · rw [upd_ne hb]; exact E.bh b h
  · by_cases hb : b = D
    · subst hb; rw [upd_same] at h; cases h
    · rwa [upd_ne hb] at h
  · obtain ⟨q, vs, h1, h2, h3, h4, h5⟩ := E.mine i ds ow
    refine ⟨q, vs, h1, h2, ?_, h4, h5⟩
    have hq : q ≠ D := fun z => hn i ds ow (by rw [h1, z])
    rw [upd_ne hq]
    exact h3
def lcD (Wg : WG) (Wt : WT) (We : WE) (vs : List Nat) (Q : List PyData → Gam → Prop) : List PyData → List PyData → Gam → Prop
  | [], acc, Γ => Q acc Γ
  | d :: ds, acc, Γ => Wg d (wipeG Γ vs) fun Γ1 => Wt Γ1 fun b Γ2 => if b = true then We Γ2 fun x Γ3 => acc.length < sizeLine ∧ lcD Wg Wt We vs Q ds (acc ++ [x]) (restG Γ Γ3 vs) else lcD Wg Wt We vs Q ds acc (restG Γ Γ2 vs)
@[simp] def wLc (Wi : WI) (Wg : WG) (Wt : WT) (We : WE) (vs : List Nat) : WA := fun Γ Q => Wi Γ fun ds Γ1 => noOwn Γ1 vs = true ∧ lcD Wg Wt We vs Q ds [] Γ1
structure DTs (X : Cx) (ifs : List Expr) (W : WT) : Prop where
  ex : ∃ t, PTs X ifs t ∧ RT X.K t W
@[simp] def wYes : WT := fun Γ Q => Q true Γ
theorem dts_nil : DTs X [] wYes := ⟨_, pts_nil, by
  intro B Γ σ H G Q Q' E w k
  exact k true H G Γ E (Same.refl _) (KS.refl _) w⟩
theorem dts_one {W : WT} (h : DT X c W) : DTs X [c] W := by
  obtain ⟨t, p, r⟩ := h.ex
  exact ⟨_, pts_one p, r⟩
theorem rn_lc {wi : TI} {g : TG} {tt : TT} {te : TE} {vs : List Nat} {Wi : WI} {Wg : WG} {Wt : WT} (ri : RI K wi Wi) (rg : RG K ts g Wg) (rt : RT K tt Wt) (re : RE K te We) (hts : ∀ i ∈ ts, i ∈ vs) : RN K (tLc wi g tt te vs) (wLc Wi Wg Wt We vs) := by
  intro B Γ σ H G Q Q' E w k
  refine ri B Γ σ H G _ _ E w fun J H1 G1 ds Γ1 E1 s1 k1 dw w1 => ?_
  obtain ⟨hno, w1⟩ := w1
  intro D hD
  have inv0 : ∃ G2 Γ2 acc us, En K B σ (upd H1 D (.lst [])) G2 Γ2 ∧ Same G1 G2 ∧ KS Γ1 Γ2 ∧ noOwn Γ2 vs = true ∧ (upd H1 D (.lst [])) D = some (.lst us) ∧ G2 D = none ∧ DdAll K G2 us acc ∧ (∀ (i : Nat) es, Own Γ2 i es → σ[i]? ≠ some (some (V.ref D))) ∧ lcD Wg Wt We vs Q (ds.drop 0) acc Γ2 :=
    ⟨G1, Γ1, [], [], E1.laidN hD, Same.refl _, KS.refl _, hno, upd_same, E1.gnone hD, .nil, fresh_own E1 hD, w1⟩
  refine ⟨fun i m H => m = ds.length - i ∧ i ≤ ds.length ∧ ∃ G2 Γ2 acc us, En K B σ H G2 Γ2 ∧ Same G1 G2 ∧ KS Γ1 Γ2 ∧ noOwn Γ2 vs = true ∧ H D = some (.lst us) ∧ G2 D = none ∧ DdAll K G2 us acc ∧ (∀ (i : Nat) es, Own Γ2 i es → σ[i]? ≠ some (some (V.ref D))) ∧ lcD Wg Wt We vs Q (ds.drop i) acc Γ2,
    ⟨ds.length, rfl, Nat.zero_le _, inv0⟩, ?_⟩
  rintro i m H2 ⟨rfl, hi, G2, Γ2, acc, us, E2, s2, k2, hno2, hD2, gD2, da2, no2, w2⟩
  obtain ⟨stop, go⟩ := dw B Γ2 σ H2 G2 E2 s2 i
  by_cases hlt : i < ds.length
  · have hd : ds[i]? = some ds[i] := List.getElem?_eq_getElem hlt
    obtain ⟨g1, y1⟩ := go _ hd
    rw [List.drop_eq_getElem_cons hlt] at w2
    refine .inr ⟨g1, fun H' => ∃ G2 Γ2 acc us, En K B σ H' G2 Γ2 ∧ Same G1 G2 ∧ KS Γ1 Γ2 ∧ noOwn Γ2 vs = true ∧ H' D = some (.lst us) ∧ G2 D = none ∧ DdAll K G2 us acc ∧ (∀ (i : Nat) es, Own Γ2 i es → σ[i]? ≠ some (some (V.ref D))) ∧ lcD Wg Wt We vs Q (ds.drop (i + 1)) acc Γ2,
      fun H' h => ⟨ds.length - (i + 1), by omega, rfl, hlt, h⟩, fun x H3 hy => ?_⟩
    -- the block's own frame, over the heap as it stands here
    obtain ⟨G3, E3', s3, d3, sH3⟩ := (dw (rebase B σ H2 G2 Γ2) Γ2 σ H2 G2 E2.rebase s2 i).2 _ hd |>.2 x H3 hy
    have Ew := E3'.wiped vs
    refine rg _ _ _ _ _ _ _ _ _ Ew d3 w2 fun σ4 H4 G4 Γ4 E4 s4 l4 n4 w4 => ?_
    have hw1 : ∀ j : Nat, j ∉ vs → σ4[j]? = σ[j]? := fun j hj => ((n4 j fun z => hj (hts j z)).1).trans ((wipe_get (vs := vs)).1 hj)
    have hw2 : ∀ j : Nat, j ∉ vs → Γ4[j]? = Γ2[j]? := fun j hj => ((n4 j fun z => hj (hts j z)).2).trans ((wipeG_get (vs := vs)).2.1 hj)
    have hw3 : Γ4.length = Γ2.length := by
      rw [← E4.len, l4, wipe_length]
      exact E2.len
    refine ⟨?_, ?_⟩
    · refine List.ext_getElem? fun j => ?_
      have hls : σ4.length = σ.length := by rw [l4, wipe_length]
      by_cases hj : j ∈ vs
      · rw [(wipe_get (vs := vs)).2 hj, (wipe_get (vs := vs)).2 hj]
        by_cases hjl : j < σ.length
        · rw [List.getElem?_eq_getElem (show j < σ4.length by omega), List.getElem?_eq_getElem hjl]
          rfl
        · rw [List.getElem?_eq_none (show σ4.length ≤ j by omega), List.getElem?_eq_none (by omega)]
      · rw [(wipe_get (vs := vs)).1 hj, (wipe_get (vs := vs)).1 hj, hw1 j hj]
    · refine rt _ _ _ _ _ _ _ E4 w4 fun b H5 G5 Γ5 E5 s5 k5 w5 => ?_
      have back : ∀ {H6 G6 : Hp} {Γ6 : Gam}, En K (rebase B σ H2 G2 Γ2) σ4 H6 G6 Γ6 → Same G4 G6 → KS Γ4 Γ6 → En K B σ H6 G6 (restG Γ2 Γ6 vs) ∧ KS Γ2 (restG Γ2 Γ6 vs) ∧ H6 D = some (.lst us) ∧ G6 D = none ∧ noOwn (restG Γ2 Γ6 vs) vs = true ∧ (∀ (i : Nat) es, Own (restG Γ2 Γ6 vs) i es → σ[i]? ≠ some (some (V.ref D))) := fun {H6 G6 Γ6} E6 s6 k6 => by
        have s26 : Same G2 G6 := s3.trans (s4.trans s6)
        obtain ⟨R1, R2⟩ := En.rest E2.rebase E6 s26 hno2 hw1 hw2 hw3 k6
        have h6 : H6 D = some (.lst us) := E6.h0 D _ hD2 fun ⟨i, es, ow, hs⟩ => no2 i es ow hs
        have g6 : G6 D = none := E6.f0 D (by show H2 D ≠ none; rw [hD2]; exact fun z => by cases z) gD2
        refine ⟨E2.unbase R1 R2, R2, h6, g6, ?_, fun i es ow z => ?_⟩
        · unfold noOwn at hno2 ⊢
          rw [List.all_eq_true] at hno2 ⊢
          intro v hv
          have h := hno2 v hv
          have e : (restG Γ2 Γ6 vs)[v]? = Γ2[v]? := (restG_get (hw3.symm.trans k6.len)).2.2 hv
          unfold ownAt at h ⊢
          rw [e]
          exact h
        · obtain ⟨es0, o0⟩ := R2.mineB ow
          exact no2 i es0 o0 z
      cases b with
      | true =>
        refine re _ _ _ _ _ _ _ E5 w5 fun y H6 G6 dx Γ6 E6 s6 k6 d6 w6 => ?_
        obtain ⟨R1, R2, h6, g6, n6, o6⟩ := back E6 (s5.trans s6) (k5.trans k6)
        refine ⟨us, h6, by rw [da2.length]; exact w6.1, G6, restG Γ2 Γ6 vs, acc ++ [dx], us ++ [y], R1.tempW h6 g6 (E1.bnone hD) o6, s2.trans (s3.trans (s4.trans (s5.trans s6))), k2.trans R2, n6, upd_same, g6, (da2.mono (s3.trans (s4.trans (s5.trans s6)))).app (.cons d6 .nil), o6, w6.2⟩
      | false =>
        obtain ⟨R1, R2, h6, g6, n6, o6⟩ := back E5 s5 k5
        exact ⟨G5, restG Γ2 Γ5 vs, acc, us, R1, s2.trans (s3.trans (s4.trans s5)), k2.trans R2, n6, h6, g6, da2.mono (s3.trans (s4.trans s5)), o6, w5⟩
  · have e : i = ds.length := by omega
    subst e
    rw [List.drop_length] at w2
    exact .inl ⟨stop rfl, k D us H2 G2 acc Γ2 E2 (s1.trans s2) (k1.trans k2) gD2 hD2 da2 (E1.bnone hD) (E1.nn D hD) no2 w2⟩
/-! ### the weakest readings -/
def tE (K : PySem.W.Frag) (W : WE) : TE := fun σ H Q' => ∃ (B : Bs) (Γ : Gam) (G : Hp) (Q : PyData → Gam → Prop), En K B σ H G Γ ∧ W Γ Q ∧ (∀ v H' G' d Γ', En K B σ H' G' Γ' → Same G G' → KS Γ Γ' → Dd K G' v d → Q d Γ' → Q' v H')
theorem re_tE {W : WE} : RE K (tE K W) W := fun B Γ σ H G Q Q' E w k => ⟨B, Γ, G, Q, E, w, k⟩
theorem DE.can {W : WE} (h : DE X e W) : PE X e (tE X.K W) := by
  obtain ⟨t, p, r⟩ := h.ex
  refine ⟨fun pins s σ H Q I hq => ?_⟩
  obtain ⟨B, Γ, G, Q0, E, w, k⟩ := hq
  exact p.run pins s σ H Q I (r B Γ σ H G Q0 Q E w k)
def tT' (K : PySem.W.Frag) (W : WT) : TT := fun σ H Q' => ∃ (B : Bs) (Γ : Gam) (G : Hp) (Q : Bool → Gam → Prop), En K B σ H G Γ ∧ W Γ Q ∧ (∀ b H' G' Γ', En K B σ H' G' Γ' → Same G G' → KS Γ Γ' → Q b Γ' → Q' b H')
theorem rt_tT {W : WT} : RT K (tT' K W) W := fun B Γ σ H G Q Q' E w k => ⟨B, Γ, G, Q, E, w, k⟩
theorem DTs.can {W : WT} (h : DTs X ifs W) : PTs X ifs (tT' X.K W) := by
  obtain ⟨t, p, r⟩ := h.ex
  refine ⟨fun pins s σ H Q I hq => ?_⟩
  obtain ⟨B, Γ, G, Q0, E, w, k⟩ := hq
  exact p.run pins s σ H Q I (r B Γ σ H G Q0 Q E w k)
def tG (K : PySem.W.Frag) (ts : List Nat) (W : WG) : TG := fun v σ H Q' => ∃ (B : Bs) (Γ : Gam) (G : Hp) (d : PyData) (Q : Gam → Prop), En K B σ H G Γ ∧ Dd K G v d ∧ W d Γ Q ∧
  (∀ σ' H' G' Γ', En K B σ' H' G' Γ' → Same G G' → σ'.length = σ.length → (∀ j : Nat, j ∉ ts → σ'[j]? = σ[j]? ∧ Γ'[j]? = Γ[j]?) → Q Γ' → Q' σ' H')
theorem rg_tG {W : WG} : RG K ts (tG K ts W) W := fun B Γ σ H G v d Q Q' E h w k => ⟨B, Γ, G, d, Q, E, h, w, k⟩
theorem DG.can {W : WG} (h : DG X tg ts W) : PG X tg (tG X.K ts W) := by
  obtain ⟨t, p, r⟩ := h.ex
  refine ⟨fun pins s σ H v u Q I rv hq => ?_⟩
  obtain ⟨B, Γ, G, d, Q0, E, hd, w, k⟩ := hq
  exact p.run pins s σ H v u Q I rv (r B Γ σ H G v d Q0 Q E hd w k)
theorem dn_lc {scope : Scope} {own : List (Str × Nat)} {Wi : WI} {Wg : WG} {Wt : WT} (hc : X.calm = true) (hN : X.N.Nodup) (hi : DI X tg iter Wi) (ok : BlkOk X.N X.env.scope scope own)
    (hg : ∀ (s : Shared) (H : Hp) (C : Addr) (cl : List (Str × Addr)) (fp : List Addr), DG (X.blk s H scope (compEnvC scope cl C X.env) fp) tg ts Wg)
    (ht : ∀ (s : Shared) (H : Hp) (C : Addr) (cl : List (Str × Addr)) (fp : List Addr), DTs (X.blk s H scope (compEnvC scope cl C X.env) fp) ifs Wt)
    (he : ∀ (s : Shared) (H : Hp) (C : Addr) (cl : List (Str × Addr)) (fp : List Addr), DE (X.blk s H scope (compEnvC scope cl C X.env) fp) elt We)
    (hts : ∀ i ∈ ts, i ∈ own.map (·.2)) (hs : ∀ x, foldedSetIterable iter X.env x = pure x := by intro _; rfl) :
    DN X (.ListComp elt [⟨tg, iter, ifs, 0⟩] scope pos) (wLc Wi Wg Wt We (own.map (·.2))) := by
  obtain ⟨wi, pi, ri⟩ := hi.ex
  exact ⟨_, pe_lc hc hN pi ok (fun s H C cl fp => (hg s H C cl fp).can) (fun s H C cl fp => (ht s H C cl fp).can) (fun s H C cl fp => (he s H C cl fp).can) hs, rn_lc ri rg_tG rt_tT re_tE hts⟩
/-- name = [..] -/
theorem ds_setLcL {i : Nat} {y : Str} {py spos : Pos} {scope : Scope} {own : List (Str × Nat)} {Wi : WI} {Wg : WG} {Wt : WT} (hc : X.calm = true) (hN : X.N.Nodup) (hy : X.N[i]? = some y) (hyl : X.env.scope.names.lookup y = some .local)
    (hsw : swapsWith (.ListComp elt [⟨tg, iter, ifs, 0⟩] scope pos) (some (.Name y py)) spos.line X.env = pure true) (hi : DI X tg iter Wi) (ok : BlkOk X.N X.env.scope scope own)
    (hg : ∀ (s : Shared) (H : Hp) (C : Addr) (cl : List (Str × Addr)) (fp : List Addr), DG (X.blk s H scope (compEnvC scope cl C X.env) fp) tg ts Wg)
    (ht : ∀ (s : Shared) (H : Hp) (C : Addr) (cl : List (Str × Addr)) (fp : List Addr), DTs (X.blk s H scope (compEnvC scope cl C X.env) fp) ifs Wt)
    (he : ∀ (s : Shared) (H : Hp) (C : Addr) (cl : List (Str × Addr)) (fp : List Addr), DE (X.blk s H scope (compEnvC scope cl C X.env) fp) elt We)
    (hts : ∀ i ∈ ts, i ∈ own.map (·.2)) (hs : ∀ x, foldedSetIterable iter X.env x = pure x := by intro _; rfl) :
    DS X (.Assign [.Name y py] (.ListComp elt [⟨tg, iter, ifs, 0⟩] scope pos) spos) (wAsgL i (wLc Wi Wg Wt We (own.map (·.2)))) := by
  obtain ⟨wi, pi, ri⟩ := hi.ex
  exact ⟨_, ps_setLc hc hN hy hyl hsw pi ok (fun s H C cl fp => (hg s H C cl fp).can) (fun s H C cl fp => (ht s H C cl fp).can) (fun s H C cl fp => (he s H C cl fp).can) hs, rs_asgL (rn_lc ri rg_tG rt_tT re_tE hts)⟩
theorem ds_setLc {i : Nat} {y : Str} {py spos : Pos} {scope : Scope} {own : List (Str × Nat)} {Wi : WI} {Wg : WG} {Wt : WT} (hc : X.calm = true) (hN : X.N.Nodup) (hy : X.N[i]? = some y) (hyl : X.env.scope.names.lookup y = some .local)
    (hsw : swapsWith (.ListComp elt [⟨tg, iter, ifs, 0⟩] scope pos) (some (.Name y py)) spos.line X.env = pure true) (hi : DI X tg iter Wi) (ok : BlkOk X.N X.env.scope scope own)
    (hg : ∀ (s : Shared) (H : Hp) (C : Addr) (cl : List (Str × Addr)) (fp : List Addr), DG (X.blk s H scope (compEnvC scope cl C X.env) fp) tg ts Wg)
    (ht : ∀ (s : Shared) (H : Hp) (C : Addr) (cl : List (Str × Addr)) (fp : List Addr), DTs (X.blk s H scope (compEnvC scope cl C X.env) fp) ifs Wt)
    (he : ∀ (s : Shared) (H : Hp) (C : Addr) (cl : List (Str × Addr)) (fp : List Addr), DE (X.blk s H scope (compEnvC scope cl C X.env) fp) elt We)
    (hts : ∀ i ∈ ts, i ∈ own.map (·.2)) (hs : ∀ x, foldedSetIterable iter X.env x = pure x := by intro _; rfl) :
    DS X (.Assign [.Name y py] (.ListComp elt [⟨tg, iter, ifs, 0⟩] scope pos) spos) (wAsg i (wL (wLc Wi Wg Wt We (own.map (·.2))))) := by
  obtain ⟨wi, pi, ri⟩ := hi.ex
  exact ⟨_, ps_setLc hc hN hy hyl hsw pi ok (fun s H C cl fp => (hg s H C cl fp).can) (fun s H C cl fp => (ht s H C cl fp).can) (fun s H C cl fp => (he s H C cl fp).can) hs, rs_asg (re_of_rn (rn_lc ri rg_tG rt_tT re_tE hts))⟩
/-! ## a, b = e1, e2 -/
/-- of both sides, whether the list is one's own -/
def RL (K : PySem.W.Frag) (t : TA) (W : Gam → (Gam → Prop) → Prop) (i j : Nat) : Prop :=
  ∀ (B : Bs) (Γ : Gam) (σ : L2.St) (H G : Hp) (Q : Gam → Prop) (Q' : L2.St → Hp → Prop), En K B σ H G Γ → W Γ Q →
    (∀ σ' H' G' Γ', En K B σ' H' G' Γ' → Same G G' → Q Γ' → Q' σ' H') → t σ H fun vs H1 => ∃ v w, vs = [v, w] ∧ Q' ((σ.set i (some v)).set j (some w)) H1
@[simp] def wPar (i j : Nat) (Wa Wb : WE) : WS := fun D Γ => Wa Γ fun x Γ1 => Wb Γ1 fun y Γ2 => D.nx ((Γ2.set i (.dat x)).set j (.dat y))
theorem ds_par {i j : Nat} {x y : Str} {px py pt : Pos} {kt k2 pt2} (hc : X.calm = true) (hN : X.N.Nodup) (hi : X.N[i]? = some x) (hj : X.N[j]? = some y) (hij : i ≠ j)
    (hx : X.env.scope.names.lookup x = some .local) (hy : X.env.scope.names.lookup y = some .local) (ha : DE X a Wa) (hb : DE X b Wb)
    (hw : swappedStores [.Tuple [.Name x px, .Name y py] kt pt] (.Tuple [a, b] k2 pt2) X.env = pure (some [x, y]))
    (hs : swapsWithSole [.Tuple [.Name x px, .Name y py] kt pt] (.Tuple [a, b] k2 pt2) pos.line X.env = pure false := by rfl) (h1 : starEach [a, b] X.env = (false, eval a X.env) :: starEach [b] X.env := by rfl) (h2 : starEach [b] X.env = (false, eval b X.env) :: starEach [] X.env := by rfl) :
    DS X (.Assign [.Tuple [.Name x px, .Name y py] kt pt] (.Tuple [a, b] k2 pt2) pos) (wPar i j Wa Wb) := by
  obtain ⟨t, p, r⟩ := ha.ex
  obtain ⟨t', p', r'⟩ := hb.ex
  refine ⟨_, ps_par hc hN hi hj hij hx hy (pa_cons p (pa_cons p' pa_nil h2) h1) hw hs, ?_⟩
  intro B Γ σ H G D D' E w l
  refine r B Γ σ H G _ _ E w fun v H1 G1 d Γ1 E1 s1 k1 d1 w1 => ?_
  refine r' B Γ1 σ H1 G1 _ _ E1 w1 fun u H2 G2 e Γ2 E2 s2 k2 d2 w2 => ?_
  exact ⟨v, u, rfl, l.nx _ H2 G2 _ ((E2.setDat i (d1.mono s2)).setDat j d2) (s1.trans s2) w2⟩
/-- the first a new list of one's own, the second data -/
@[simp] def wParL (i j : Nat) (Wr : WA) (Wb : WE) : WS := fun D Γ => Wr Γ fun x Γ1 => Wb Γ1 fun y Γ2 => Γ1 = Γ2 ∧ D.nx ((Γ2.set j (.dat y)).set i (.own x))
theorem ds_parL {i j : Nat} {x y : Str} {px py pt : Pos} {kt k2 pt2} {v0 : V} {d0 : PyData} (hc : X.calm = true) (hN : X.N.Nodup) (hi : X.N[i]? = some x) (hj : X.N[j]? = some y) (hij : i ≠ j)
    (hx : X.env.scope.names.lookup x = some .local) (hy : X.env.scope.names.lookup y = some .local) (ha : DN X a Wr) (hb : PE X b (tC v0)) (hd : ∀ G, Dd X.K G v0 d0)
    (hw : swappedStores [.Tuple [.Name x px, .Name y py] kt pt] (.Tuple [a, b] k2 pt2) X.env = pure (some [x, y]))
    (hs : swapsWithSole [.Tuple [.Name x px, .Name y py] kt pt] (.Tuple [a, b] k2 pt2) pos.line X.env = pure false := by rfl) (h1 : starEach [a, b] X.env = (false, eval a X.env) :: starEach [b] X.env := by rfl) (h2 : starEach [b] X.env = (false, eval b X.env) :: starEach [] X.env := by rfl) :
    DS X (.Assign [.Tuple [.Name x px, .Name y py] kt pt] (.Tuple [a, b] k2 pt2) pos) (wParL i j Wr (wC d0)) := by
  obtain ⟨t, p, r⟩ := ha.ex
  refine ⟨_, ps_par hc hN hi hj hij hx hy (pa_cons p (pa_cons hb pa_nil h2) h1) hw hs, ?_⟩
  intro B Γ σ H G D D' E w l
  refine r B Γ σ H G _ _ E w fun p vs H1 G1 ds Γ1 E1 s1 k1 g1 h1 d1 b1 n1 o1 w1 => ?_
  refine ⟨.ref p, v0, rfl, ?_⟩
  have E2 := E1.setDat (v := v0) (d := d0) j (hd G1)
  have o2 : ∀ (k : Nat) es, Own (Γ1.set j (.dat d0)) k es → (σ.set j (some v0))[k]? ≠ some (some (V.ref p)) := fun k es o z => by
    by_cases e : k = j
    · subst e
      rcases o with o | o <;>
        (by_cases hl : k < Γ1.length
         · rw [List.getElem?_set_self hl] at o; cases o
         · rw [List.getElem?_eq_none (by simpa using hl)] at o; cases o)
    · unfold Own at o
      rw [List.getElem?_set_ne (Ne.symm e)] at o z
      exact o1 k es o z
  have E3 := E2.setOwnNew i g1 h1 d1 b1 n1 o2
  rw [List.set_comm _ _ (Ne.symm hij)] at E3
  exact l.nx _ H1 G1 _ E3 s1 w1.2
/-! ## join, all -/
def strsD : List PyData → Option (List Str)
  | [] => some []
  | .str s :: ds => match strsD ds with
    | some r => some (s :: r)
    | none => none
  | _ => none
theorem strs_of {G : Hp} : ∀ {ds : List PyData} {vs : List V} {ss : List Str}, DdAll K G vs ds → strsD ds = some ss → vs = ss.map V.str
  | [], _, _, .nil, h => by cases h; rfl
  | .str s :: ds, _, _, .cons (.str _) t, h => by
    unfold strsD at h
    cases q : strsD ds with
    | none => rw [q] at h; cases h
    | some r =>
      rw [q] at h
      cases h
      rw [List.map_cons, strs_of t q]
  | .none :: _, _, _, _, h => by cases h
  | .bool _ :: _, _, _, _, h => by cases h
  | .int _ :: _, _, _, _, h => by cases h
  | .list _ :: _, _, _, _, h => by cases h
  | .tuple _ :: _, _, _, _, h => by cases h
  | .dict _ :: _, _, _, _, h => by cases h
def boolsD : List PyData → Option (List Bool)
  | [] => some []
  | .bool b :: ds => match boolsD ds with
    | some r => some (b :: r)
    | none => none
  | _ => none
theorem bools_of {G : Hp} : ∀ {ds : List PyData} {vs : List V} {bs : List Bool}, DdAll K G vs ds → boolsD ds = some bs → vs = bs.map V.bl
  | [], _, _, .nil, h => by cases h; rfl
  | .bool s :: ds, _, _, .cons (.bl _) t, h => by
    unfold boolsD at h
    cases q : boolsD ds with
    | none => rw [q] at h; cases h
    | some r =>
      rw [q] at h
      cases h
      rw [List.map_cons, bools_of t q]
  | .none :: _, _, _, _, h => by cases h
  | .str _ :: _, _, _, _, h => by cases h
  | .int _ :: _, _, _, _, h => by cases h
  | .list _ :: _, _, _, _, h => by cases h
  | .tuple _ :: _, _, _, _, h => by cases h
  | .dict _ :: _, _, _, _, h => by cases h
def allB : FA
  | [.list ds], k => match boolsD ds with
    | some bs => k (.bool (bs.all id))
    | none => False
  | _, _ => False
def anyB : FA
  | [.list ds], k => match boolsD ds with
    | some bs => k (.bool (bs.any id))
    | none => False
  | _, _ => False
end
end DL

namespace DL
open PySem PySem.Spec PyProof.Rows L2
section
variable {X : Cx} {K : PySem.W.Frag} {a b c e tg elt iter : Expr} {es tgs ifs : List Expr} {Wa Wb Wc We : WE} {Wr : WA} {pos : Pos} {WT' : WT} {ts us : List Nat}
theorem boot_all : bootBuiltins "all" = some (.builtin "all") := by decide +kernel
theorem boot_any : bootBuiltins "any" = some (.builtin "any") := by decide +kernel
theorem rv_all : RVA K (rAll K) allB := by
  intro B Γ σ H G xs ds Q Q' E h w k
  unfold allB at w
  split at w
  · obtain ⟨v, rfl, hv⟩ := ddAll1 h
    split at w
    · rename_i bs q
      cases hv with
      | lst ga da =>
        have e := bools_of da q
        subst e
        exact ⟨_, bs, rfl, SqL.of (E.gh _ _ ga), k _ H G _ E (Same.refl _) (.bl _) w⟩
    · exact w.elim
  · exact w.elim
theorem rv_any : RVA K (rAny K) anyB := by
  intro B Γ σ H G xs ds Q Q' E h w k
  unfold anyB at w
  split at w
  · obtain ⟨v, rfl, hv⟩ := ddAll1 h
    split at w
    · rename_i bs q
      cases hv with
      | lst ga da =>
        have e := bools_of da q
        subst e
        exact ⟨_, bs, rfl, SqL.of (E.gh _ _ ga), k _ H G _ E (Same.refl _) (.bl _) w⟩
    · exact w.elim
  · exact w.elim
theorem de_all {p : Pos} (hc : X.calm = true) (hg : Gl X "all") (hm : X.mg "all" = none) (ha : DE X a Wa) (h1 : starEach [a] X.env = (false, eval a X.env) :: starEach [] X.env := by rfl) (h2 : (backTo pos (starEach [] X.env)).any (·.1) = false := by rfl) : DE X (.Call (.Name "all" p) [a] [] pos) (wCB allB (wCons Wa wNil)) :=
  de_callB (cr_all hc) rv_all hg hm boot_all (da_cons ha da_nil h1) (by decide) (by decide) h1 h2
theorem de_any {p : Pos} (hc : X.calm = true) (hg : Gl X "any") (hm : X.mg "any" = none) (ha : DE X a Wa) (h1 : starEach [a] X.env = (false, eval a X.env) :: starEach [] X.env := by rfl) (h2 : (backTo pos (starEach [] X.env)).any (·.1) = false := by rfl) : DE X (.Call (.Name "any" p) [a] [] pos) (wCB anyB (wCons Wa wNil)) :=
  de_callB (cr_any hc) rv_any hg hm boot_any (da_cons ha da_nil h1) (by decide) (by decide) h1 h2
/-- sep.join(list of texts) -/
def joinS (s : Str) (ds : List PyData) (k : PyData → Prop) : Prop := match strsD ds with
  | some ss => (ss.map (·.length)).sum + ss.length * s.length ≤ 16777216 ∧ k (.str (Txt.join s ss))
  | none => False
def joinD (s : Str) : PyData → (PyData → Prop) → Prop
  | .list ds, k => joinS s ds k
  | .tuple ds, k => joinS s ds k
  | _, _ => False
@[simp] def wM1 (f : Str → PyData → (PyData → Prop) → Prop) (Wa Wb : WE) : WE := fun Γ Q => Wa Γ fun d Γ1 => match d with
  | .str s => Wb Γ1 fun e Γ2 => f s e fun z => Q z Γ2
  | _ => False
theorem de_join {apos : Pos} (ha : DE X a Wa) (hb : DE X b Wb) (hs : starEach [b] X.env = [(false, eval b X.env)] := by rfl) (hbase : attributeBase a "join" X.env (eval a X.env) = eval a X.env := by rfl) (hline : (apos.endLine == pos.line) = true := by rfl) :
    DE X (.Call (.Attribute a "join" apos) [b] [] pos) (wM1 joinD Wa Wb) := by
  obtain ⟨t, p, r⟩ := ha.ex
  obtain ⟨t', p', r'⟩ := hb.ex
  refine ⟨_, pe_join p p' hs hbase hline, ?_⟩
  intro B Γ σ H G Q Q' E w k
  refine r B Γ σ H G _ _ E w fun v H1 G1 d Γ1 E1 s1 k1 d1 w1 => ?_
  cases d1 with
  | str s =>
    refine ⟨⟨s, rfl⟩, ?_⟩
    refine r' B Γ1 σ H1 G1 _ _ E1 w1 fun u H2 G2 e Γ2 E2 s2 k2 d2 w2 => ?_
    cases d2 with
    | @lst _ _ ds ga da =>
      have w2 : joinS s ds (fun z => Q z Γ2) := w2
      unfold joinS at w2
      cases q : strsD ds with
      | none => rw [q] at w2; exact w2.elim
      | some ss =>
        rw [q] at w2
        have e := strs_of da q
        subst e
        exact ⟨s, _, ss, rfl, rfl, .inl (SqL.of (E2.gh _ _ ga)), w2.1, k _ H2 G2 _ Γ2 E2 (s1.trans s2) (k1.trans k2) (.str _) w2.2⟩
    | @tup _ _ ds ga da =>
      have w2 : joinS s ds (fun z => Q z Γ2) := w2
      unfold joinS at w2
      cases q : strsD ds with
      | none => rw [q] at w2; exact w2.elim
      | some ss =>
        rw [q] at w2
        have e := strs_of da q
        subst e
        exact ⟨s, _, ss, rfl, rfl, .inr (sqT_same E2.gh ga), w2.1, k _ H2 G2 _ Γ2 E2 (s1.trans s2) (k1.trans k2) (.str _) w2.2⟩
    | _ => exact w2.elim
  | _ => exact w1.elim
/-! ## callees by name -/
structure Cal (P : Program) (w : World) (K : PySem.W.Frag) (mg : Str → Option Value) (base : Heap) (x : Str) (ps : List Str) (k : Nat) (S : PSp) : Prop where
  ex : ∃ (f : Addr) (fd : FuncData), mg x = some (.ref f) ∧ PySem.W.keepIn K (.ref f) = true ∧ Binds K fd ps [] ∧ FnOk P w K mg base CX0 k f fd ps (spS K S)
theorem Cal.mono {P : Program} {w : World} {K : PySem.W.Frag} {mg : Str → Option Value} {base : Heap} {x : Str} {ps : List Str} {j k : Nat} {S : PSp} (C : Cal P w K mg base x ps j S) (h : j ≤ k) : Cal P w K mg base x ps k S := by
  obtain ⟨f, fd, h1, h2, h3, h4⟩ := C.ex
  exact ⟨f, fd, h1, h2, h3, h4.mono h⟩
theorem de_callC {S : PSp} {k : Nat} {ps : List Str} {x : Str} {p : Pos} {Wr : WPA} (C : Cal X.prog X.w X.K X.mg X.base x ps k S) (hr : Room k X.A) (hg : Gl X x)
    (ha : DPA X (e :: es) Wr) (hdb : (x == ("__debug__" : Str)) = false := by decide) (he : starEach (e :: es) X.env = (false, eval e X.env) :: starEach es X.env := by rfl) (hpl : (backTo pos (starEach es X.env)).any (·.1) = false := by rfl) :
    DE X (.Call (.Name x p) (e :: es) [] pos) (wCall S Wr) := by
  obtain ⟨f, fd, h1, h2, h3, h4⟩ := C.ex
  exact de_call h4 hr hg h1 h2 h3 ha hdb he hpl
theorem dn_callC {S : PSp} {k : Nat} {ps : List Str} {x : Str} {p : Pos} {Wr : WPA} (C : Cal X.prog X.w X.K X.mg X.base x ps k S) (hr : Room k X.A) (hg : Gl X x)
    (ha : DPA X (e :: es) Wr) (hdb : (x == ("__debug__" : Str)) = false := by decide) (he : starEach (e :: es) X.env = (false, eval e X.env) :: starEach es X.env := by rfl) (hpl : (backTo pos (starEach es X.env)).any (·.1) = false := by rfl) :
    DN X (.Call (.Name x p) (e :: es) [] pos) (wCallL S Wr) := by
  obtain ⟨f, fd, h1, h2, h3, h4⟩ := C.ex
  exact dn_call h4 hr hg h1 h2 h3 ha hdb he hpl
theorem de_callC0 {S : PSp} {k : Nat} {ps : List Str} {x : Str} {p : Pos} (C : Cal X.prog X.w X.K X.mg X.base x ps k S) (hr : Room k X.A) (hg : Gl X x) (hdb : (x == ("__debug__" : Str)) = false := by decide) : DE X (.Call (.Name x p) [] [] pos) (wCall S wPNil) := by
  obtain ⟨f, fd, h1, h2, h3, h4⟩ := C.ex
  exact de_call0 h4 hr hg h1 h2 h3 hdb
theorem de_gstr' {x z : Str} {p : Pos} (hg : Gl X x) (hm : ∃ t, X.mg x = some (.str z t)) (hd : (x == ("__debug__" : Str)) = false := by decide) : DE X (.Name x p) (wC (.str z)) := by
  obtain ⟨t, h⟩ := hm
  exact de_gstr hg h hd
/-! ## own lists changed by methods -/
theorem pe_append {x : Str} {p apos cpos : Pos} {t0 : TE} {t : TE} (h : PE X (.Name x p) t0) (he : PE X e t) (hs : starEach (e :: []) X.env = (false, eval e X.env) :: starEach [] X.env := by rfl) (hpl : (backTo cpos (starEach [] X.env)).any (·.1) = false := by rfl)
    (hb : attributeBase (.Name x p) "append" X.env (eval (.Name x p) X.env) = eval (.Name x p) X.env := by rfl) : True := trivial
/-- x = y, a def's text by its promise -/
theorem fn_cal {P : Program} {w : World} {K : PySem.W.Frag} {mg : Str → Option Value} {base : Heap} {x qual : Str} {st : Stmt} {f : Addr} {fd : FuncData} {ps : List Str} {k : Nat} {S : PSp} (hm : mg x = some (.ref f)) (F : Fun K x qual st f fd) (hb : Binds K fd ps []) (G : FnOk P w K mg base CX0 k f fd ps (spS K S)) : Cal P w K mg base x ps k S := ⟨f, fd, hm, F.kp, hb, G⟩
/-- or, by truth -/
def truD : PyData → Option Bool
  | .none => some false
  | .bool b => some b
  | .int i => some (i != 0)
  | .str z => if z.length ≤ sizeLine then some ((z.length : Int) != 0) else none
  | .list ds => some (!ds.isEmpty)
  | .tuple ds => some (!ds.isEmpty)
  | .dict _ => none
theorem isEmpty_dd {G : Hp} {vs : List V} {ds : List PyData} (h : DdAll K G vs ds) : vs.isEmpty = ds.isEmpty := by
  cases h <;> rfl
theorem truV_of {G H : Hp} (gh : Same G H) {v : V} {d : PyData} {b : Bool} (h : Dd K G v d) (t : truD d = some b) : TruV K v H b := by
  cases h with
  | non => cases t; exact rfl
  | bl b' => cases t; exact rfl
  | int i => cases t; exact rfl
  | str z =>
    have t : (if z.length ≤ sizeLine then some ((z.length : Int) != 0) else none) = some b := t
    by_cases hz : z.length ≤ sizeLine
    · rw [if_pos hz] at t
      cases t
      exact ⟨hz, rfl⟩
    · rw [if_neg hz] at t
      cases t
  | lst ga da => cases t; exact .inl ⟨_, SqL.of (gh _ _ ga), by rw [isEmpty_dd da]⟩
  | tup ga da => cases t; exact .inr (.inl ⟨_, sqT_same gh ga, by rw [isEmpty_dd da]⟩)
  | exc0 _ => cases t
  | exc1 _ _ _ => cases t
end
end DL

namespace DL
open PySem PySem.Spec PyProof.Rows L2
section
variable {X : Cx} {K : PySem.W.Frag} {a b c e tg elt iter : Expr} {es tgs ifs : List Expr} {Wa Wb Wc We : WE} {Wr Wr' : WA} {pos : Pos} {WT' : WT} {ts us : List Nat}
/-! ## the script -/
@[simp] def wSlS (j : Nat) (Wl Wh : WO) : WE := fun Γ Q => match Γ[j]? with
  | some (.scr ds) => Wl Γ fun lo Γ1 => Wh Γ1 fun hi Γ2 => Q (.list (cutD ds lo hi)) Γ2
  | _ => False
theorem de_sliceS {Wl Wh : WO} {lo hi : Option Expr} {p2 p : Pos} {x : Str} (j : Nat) (h : PE X (.Name x p) (tVar j)) (hl : DO X lo Wl) (hh : DO X hi Wh) : DE X (.Subscript (.Name x p) (.Slice lo hi none p2) pos) (wSlS j Wl Wh) := by
  obtain ⟨tl, pl, rl⟩ := hl.ex
  obtain ⟨th, ph, rh⟩ := hh.ex
  refine ⟨_, pe_slice sl_list h pl ph, ?_⟩
  intro B Γ σ H G Q Q' E w k
  unfold wSlS at w
  split at w
  · rename_i ds q
    obtain ⟨p, vs, h1, h2, h3⟩ := E.scr j ds q
    refine ⟨_, h1, ?_⟩
    refine rl B Γ σ H G _ _ E w fun lo H2 G2 Γ2 E2 s2 k2 w2 => ?_
    refine rh B Γ2 σ H2 G2 _ _ E2 w2 fun hi H3 G3 Γ3 E3 s3 k3 w3 => ?_
    refine ⟨p, vs, rfl, sqL_same E3.gh (sqL_same (s2.trans s3) h2), fun q hq => ?_⟩
    have gq := E3.gnone hq
    exact k _ _ _ _ Γ3 (E3.laid hq) ((s2.trans s3).trans (sameNew gq)) (k2.trans k3) (.lst upd_same (((h3.mono (s2.trans s3)).cut lo hi).mono (sameNew gq))) w3
  · exact w.elim
/-- a new list or another -/
@[simp] def wOrL (Wr Wr' : WA) : WA := fun Γ Q => Wr Γ fun ds Γ1 => if ds.isEmpty = true then Wr' Γ1 Q else Q ds Γ1
theorem dn_or (ha : DN X a Wr) (hb : DN X b Wr') : DN X (.BoolOp .Or [a, b] pos) (wOrL Wr Wr') := by
  obtain ⟨t, p, r⟩ := ha.ex
  obtain ⟨t', p', r'⟩ := hb.ex
  refine ⟨_, pe_orT p (pe_one p'), ?_⟩
  intro B Γ σ H G Q Q' E w k
  refine r B Γ σ H G _ _ E w fun p vs H1 G1 ds Γ1 E1 s1 k1 g1 h1 d1 b1 n1 o1 w1 => ?_
  refine ⟨!ds.isEmpty, .inl ⟨vs, SqL.of h1, by rw [isEmpty_dd d1]⟩, ?_⟩
  cases q : ds.isEmpty with
  | true =>
    rw [q] at w1
    exact r' B Γ1 σ H1 G1 _ _ E1 w1 fun p vs H2 G2 ds Γ2 E2 s2 k2 g2 h2 d2 b2 n2 o2 w2 => k p vs H2 G2 ds Γ2 E2 (s1.trans s2) (k1.trans k2) g2 h2 d2 b2 n2 o2 w2
  | false =>
    rw [q] at w1
    exact k p vs H1 G1 ds Γ1 E1 s1 k1 g1 h1 d1 b1 n1 o1 w1
/-! ## the ends of a law -/
theorem ddAll_ints {G : Hp} : ∀ ns : List Int, DdAll K G (ns.map V.int) (ns.map PyData.int)
  | [] => .nil
  | n :: ns => .cons (.int n) (ddAll_ints ns)
end
section
variable {P : Program} {w : World} {K : PySem.W.Frag} {mg : Str → Option Value} {base : Heap}
/-- the law: called with the script it hands back True -/
def spLaw (K : PySem.W.Frag) : Sp := fun vs H Q _ => ∃ (a : Addr) (ns : List Int), vs = [.ref a] ∧ SqL K H a (ns.map V.int) ∧ ns.length ≤ 63 ∧ ∀ H', Q (.bl true) H'
def sLaw : PSp := fun as R => ∃ ns : List Int, ns.length ≤ 63 ∧ as = [.scr (ns.map PyData.int)] ∧ ∀ as', R (.dat (.bool true)) as'
/-- a heap of which one thing is known -/
theorem fn_law {k : Nat} {f : Addr} {fd : FuncData} (F : FnOk P w K mg base CX0 k f fd ["script"] (spS K sLaw)) : FnOk P w K mg base CX0 k f fd ["script"] (spLaw K) := by
  refine F.imp fun vs H Q E h => ?_
  obtain ⟨a, ns, rfl, hS, hl, q⟩ := h
  -- what is frozen: the script alone
  refine ⟨H, [.scr (ns.map PyData.int)], fun r _ => r = .dat (.bool true), Same.refl H, ⟨rfl, fun i d h => ?_, fun i d h => ?_, fun i d h => ?_, fun i s h => ?_, fun i j p ds es h1 => ?_⟩, ⟨ns, hl, rfl, fun _ => rfl⟩, fun v G' H' as' r Po hr => ?_⟩
  · cases i with
    | zero => cases h
    | succ i => simp at h
  · cases i with
    | zero => cases h
    | succ i => simp at h
  · cases i with
    | zero => cases h; exact ⟨a, _, rfl, hS, ddAll_ints ns⟩
    | succ i => simp at h
  · cases i with
    | zero => cases h; exact .inr (.inr ⟨_, rfl⟩)
    | succ i => simp at h
  · cases i with
    | zero => cases h1
    | succ i => simp at h1
  · subst hr
    have := Po.res
    cases this
    exact q H'
end
end DL

namespace DL
open PySem PySem.Spec PyProof.Rows L2
/-! ## calls with keywords -/
@[simp] def pick {α : Type} : List Nat → List α → List α
  | [], _ => []
  | i :: is, l => match l[i]? with
    | some a => a :: pick is l
    | none => pick is l
theorem pick_vals : ∀ (is : List Nat) {vs : List V} {us : List Value}, Vals vs us → Vals (pick is vs) (pick is us)
  | [], _, _, _ => .nil
  | i :: is, vs, us, r => by
    unfold pick
    cases q : vs[i]? with
    | none =>
      rw [r.none_of q]
      exact pick_vals is r
    | some v =>
      obtain ⟨u, h1, h2⟩ := r.get q
      rw [h1]
      exact .cons h2 (pick_vals is r)
section
variable {X : Cx} {K : PySem.W.Frag} {a b c e tg elt iter : Expr} {es tgs ifs : List Expr} {Wa Wb Wc We : WE} {Wr Wr' : WA} {pos : Pos} {WT' : WT} {ts us : List Nat}
theorem pick_ops {σ : L2.St} {G : Hp} : ∀ (is : List Nat) {vs : List V} {os : List Opd}, OpsV K σ G vs os → OpsV K σ G (pick is vs) (pick is os)
  | [], _, _, _ => .nil
  | i :: is, vs, os, r => by
    unfold pick
    cases q : os[i]? with
    | none =>
      have : vs[i]? = none := by
        rw [List.getElem?_eq_none_iff] at q ⊢
        rw [r.length]
        exact q
      rw [this]
      exact pick_ops is r
    | some o =>
      obtain ⟨v, h1, h2⟩ := r.get q
      rw [h1]
      exact .cons h2 (pick_ops is r)
theorem OpsV.app {σ : L2.St} {G : Hp} : ∀ {vs us : List V} {os ps : List Opd}, OpsV K σ G vs os → OpsV K σ G us ps → OpsV K σ G (vs ++ us) (os ++ ps)
  | _, _, _, _, .nil, b => b
  | _, _, _, _, .cons h t, b => .cons h (OpsV.app t b)
structure DPK (X : Cx) (kws : List Keyword) (W : WPA) : Prop where
  ex : ∃ t, PK X kws t ∧ RPA X.K t W
theorem dpk_nil : DPK X [] wPNil := ⟨_, pk_nil, by
  intro B Γ σ H G Q Q' E w k
  exact k [] H G [] Γ E (Same.refl _) (KS.refl _) .nil w⟩
theorem dpk_cons {nm : Option Str} {kpos : Pos} {kws : List Keyword} {Wo : WP} {Wr : WPA} (h : DP X e Wo) (h' : DPK X kws Wr) : DPK X (⟨nm, e, kpos⟩ :: kws) (wPCons Wo Wr) := by
  obtain ⟨t, p, r⟩ := h.ex
  obtain ⟨t', p', r'⟩ := h'.ex
  refine ⟨_, pk_cons p p', ?_⟩
  intro B Γ σ H G Q Q' E w k
  refine r B Γ σ H G _ _ E w fun v H1 G1 o Γ1 E1 s1 k1 o1 w1 => ?_
  refine r' B Γ1 σ H1 G1 _ _ E1 w1 fun vs H2 G2 os Γ2 E2 s2 k2 o2 w2 => ?_
  exact k (v :: vs) H2 G2 (o :: os) Γ2 E2 (s1.trans s2) (k1.trans k2) (.cons (o1.mono s2) o2) w2
/-- a callee by name, called with n positional values and keywords ks; is: where the parameters, in their order, stand among them -/
structure CalK (P : Program) (w : World) (K : PySem.W.Frag) (mg : Str → Option Value) (base : Heap) (x : Str) (ps : List Str) (k : Nat) (S : PSp) (n : Nat) (ks : List Str) (is : List Nat) : Prop where
  ex : ∃ (f : Addr) (fd : FuncData), mg x = some (.ref f) ∧ PySem.W.keepIn K (.ref f) = true ∧ KBn K fd ps n ks (fun us ws => pick is (us ++ ws)) (fun us ws => pick is (us ++ ws)) ∧ FnOk P w K mg base CX0 k f fd ps (spS K S)
@[simp] def wCallK (S : PSp) (Wr Wk : WPA) (n m : Nat) (is : List Nat) : WE := fun Γ Q => Wr Γ fun os Γ1 => Wk Γ1 fun os2 Γ2 => os.length = n ∧ os2.length = m ∧ match argsOf Γ2 (pick is (os ++ os2)) with
  | some as => (varsOf (pick is (os ++ os2))).Nodup ∧ S as fun r as' => match r with
    | .dat d => Q d (putB Γ2 (pick is (os ++ os2)) as')
    | .new ds => Q (.list ds) (putB Γ2 (pick is (os ++ os2)) as')
  | none => False
theorem re_callK {S : PSp} {E0' : XK} {t tk : TA} {Wr Wk : WPA} {n m : Nat} {is : List Nat} (r : RPA K t Wr) (rk : RPA K tk Wk) : RE K (tCallN n m (spS K S) (fun us ws => pick is (us ++ ws)) E0' t tk) (wCallK S Wr Wk n m is) := by
  intro B Γ σ H G Q Q' E w k
  refine r B Γ σ H G _ _ E w fun vs H0 G0 os Γ0 E0 s0 k0 o0 w0 => ?_
  refine rk B Γ0 σ H0 G0 _ _ E0 w0 fun us H1 G1 os2 Γ1 E1 s1 k1 o1 w1 => ?_
  obtain ⟨l1, l2, w1⟩ := w1
  have oo := pick_ops is ((o0.mono s1).app o1)
  refine ⟨o0.length.trans l1, o1.length.trans l2, ?_⟩
  cases q : argsOf Γ1 (pick is (os ++ os2)) with
  | none => rw [q] at w1; exact w1.elim
  | some as =>
    rw [q] at w1
    obtain ⟨hn, hS⟩ := w1
    refine ⟨G1, as, _, E1.gh, argsV_of E1 oo q hn, hS, fun v G' H' as' r Po hR => ?_⟩
    have E2 := E1.called oo q hn Po
    have k2 : KS Γ (putB Γ1 (pick is (os ++ os2)) as') := (k0.trans k1).trans putB_KS
    cases r with
    | dat d => exact k v H' G' d _ E2 ((s0.trans s1).trans Po.gg) k2 Po.res hR
    | new ds =>
      obtain ⟨p, us, rfl, h1, h2, h3, h4⟩ := Po.res
      have no : ∀ (i : Nat) es, Own (putB Γ1 (pick is (os ++ os2)) as') i es → σ[i]? ≠ some (some (V.ref p)) := fun i es ow z => by
        obtain ⟨es0, o0⟩ := (putB_KS (os := pick is (os ++ os2)) (as := as')).mineB ow
        obtain ⟨p', us', g1, g2, g3, _⟩ := E1.mine i es0 o0
        rw [z] at g1
        cases g1
        rw [h4] at g3
        cases g3
      exact k (.ref p) H' (upd G' p (.lst us)) (.list ds) _ (E2.freeze h2 h1 (E1.bnone h4) no) (((s0.trans s1).trans Po.gg).trans (sameNew h1)) k2 (.lst upd_same (h3.mono (sameNew h1))) hR
theorem pe_callN0 {CX : CXT} {k : Nat} {f : Addr} {fd : FuncData} {ps ks : List Str} {sp : Sp} {E' : XK} {x : Str} {p : Pos} {kws : List Keyword} {tk : TA} {g : List Value → List Value → List Value} {gV : List V → List V → List V}
    (F : FnOk X.prog X.w X.K X.mg X.base CX k f fd ps sp) (hr : Room k X.A) (hg : Gl X x) (hm : X.mg x = some (.ref f)) (hk : PySem.W.keepIn X.K (.ref f) = true) (hb : KBn X.K fd ps 0 ks g gV) (hx : Passes CX X E')
    (hkw : PK X kws tk) (hall : (backToKw pos (keywordEach kws X.env)).all (·.1.isSome) = true := by rfl) (hks : (backToKw pos (keywordEach kws X.env)).filterMap (·.1) = ks := by rfl)
    (hdb : (x == ("__debug__" : Str)) = false := by decide) (hpl : ((backTo pos (starEach [] X.env)).any (·.1) || (backToKw pos (keywordEach kws X.env)).any (·.1.isNone)) = false := by rfl) :
    PE X (.Call (.Name x p) [] kws pos) (tCallN 0 ks.length sp gV E' tNil tk) := by
  refine ⟨fun pins s σ H Q I h => wpAny_Call_Name_kw (ld_glob I hg hm ?_ hdb)⟩
  refine PySem.W.callWith_KW0 (h₀ := X.base) I.ok.mod.kin hk hall (thn (hkw.run pos pins s σ H _ I h) fun ws s2 hh => ?_) hpl
  obtain ⟨zs, H2, I2, rz, l1, l2, q2⟩ := hh
  refine ⟨I2.kIn, ?_⟩
  rw [hks]
  exact run_fnN (us := []) (vs := []) F hr hb hx I2 .nil rz l1 l2 q2
theorem de_callK0 {S : PSp} {k : Nat} {ps ks : List Str} {is : List Nat} {x : Str} {p : Pos} {kws : List Keyword} {Wk : WPA} (C : CalK X.prog X.w X.K X.mg X.base x ps k S 0 ks is) (hr : Room k X.A) (hg : Gl X x) (hk : DPK X kws Wk)
    (hall : (backToKw pos (keywordEach kws X.env)).all (·.1.isSome) = true := by rfl) (hks : (backToKw pos (keywordEach kws X.env)).filterMap (·.1) = ks := by rfl)
    (hdb : (x == ("__debug__" : Str)) = false := by decide) (hpl : ((backTo pos (starEach [] X.env)).any (·.1) || (backToKw pos (keywordEach kws X.env)).any (·.1.isNone)) = false := by rfl) :
    DE X (.Call (.Name x p) [] kws pos) (wCallK S wPNil Wk 0 ks.length is) := by
  obtain ⟨f, fd, h1, h2, h3, h4⟩ := C.ex
  obtain ⟨t, pk, rk⟩ := hk.ex
  refine ⟨_, pe_callN0 (E' := L2.E0) h4 hr hg h1 h2 h3 pass0 pk hall hks hdb hpl, re_callK ?_ rk⟩
  intro B Γ σ H G Q Q' E w k
  exact k [] H G [] Γ E (Same.refl _) (KS.refl _) .nil w
theorem de_callKC {S : PSp} {k n : Nat} {ps ks : List Str} {is : List Nat} {x : Str} {p : Pos} {kws : List Keyword} {Wr Wk : WPA} (C : CalK X.prog X.w X.K X.mg X.base x ps k S n ks is) (hr : Room k X.A) (hg : Gl X x) (ha : DPA X (e :: es) Wr) (hk : DPK X kws Wk)
    (hall : (backToKw pos (keywordEach kws X.env)).all (·.1.isSome) = true := by rfl) (hks : (backToKw pos (keywordEach kws X.env)).filterMap (·.1) = ks := by rfl)
    (hdb : (x == ("__debug__" : Str)) = false := by decide) (he : starEach (e :: es) X.env = (false, eval e X.env) :: starEach es X.env := by rfl)
    (hpl : ((backTo pos (starEach (e :: es) X.env)).any (·.1) || (backToKw pos (keywordEach kws X.env)).any (·.1.isNone)) = false := by rfl) :
    DE X (.Call (.Name x p) (e :: es) kws pos) (wCallK S Wr Wk n ks.length is) := by
  obtain ⟨f, fd, h1, h2, h3, h4⟩ := C.ex
  obtain ⟨t, pk, rk⟩ := hk.ex
  obtain ⟨ta, pa, ra⟩ := ha.ex
  exact ⟨_, pe_callN (E := L2.E0) h4 hr hg h1 h2 h3 pass0 pa pk hall hks hdb he hpl, re_callK ra rk⟩
/-- the keywords' binding, by the def's text -/
theorem kbn_of {K : PySem.W.Frag} {x qual : Str} {st : Stmt} {f : Addr} {fd : FuncData} {ps ks : List Str} {n : Nat} {is : List Nat} (F : Fun K x qual st f fd)
    (h : ∀ (kV doc pm : Value) (an : Option Addr) (cdv ct : Value) (us ws : List Value), us.length = n → ws.length = ks.length → bindArgs (PySem.W.fnOf x qual (defArgs st) (defBody st) (defScope st) .none kV doc pm an cdv ct) ⟨us, ks.zip ws⟩ = pure (ps.zip (pick is (us ++ ws)))) :
    KBn K fd ps n ks (fun us ws => pick is (us ++ ws)) (fun us ws => pick is (us ++ ws)) := by
  obtain ⟨oc, od, kV, doc, pm, an, cdv, ct, osl, rfl, lk, hcd⟩ := F.ex
  exact ⟨fun s us ws _ h1 h2 => .of_eq (h kV doc pm an cdv ct us ws h1 h2), fun r r' => pick_vals is (r.append r')⟩
end
end DL

namespace DL
open PySem PySem.Spec PyProof.Rows L2
/-! ## the rows by which a reading is run -/
section
variable {k : PyData → Prop} {i j : Int} {b c : Bool} {s t : Str} {xs ys ds : List PyData} {x y d : PyData}
@[simp] theorem addD_int : addD (.int i) (.int j) k = k (.int (i + j)) := rfl
@[simp] theorem addD_str : addD (.str s) (.str t) k = (s.length + t.length ≤ sizeLine ∧ k (.str (s ++ t))) := rfl
@[simp] theorem addD_list : addD (.list xs) (.list ys) k = (xs.length + ys.length ≤ sizeLine ∧ k (.list (xs ++ ys))) := rfl
@[simp] theorem addD_tup : addD (.tuple xs) (.tuple ys) k = (xs.length + ys.length ≤ sizeLine ∧ k (.tuple (xs ++ ys))) := rfl
@[simp] theorem subD_int : subD (.int i) (.int j) k = k (.int (i - j)) := propext ⟨fun h => h.2, fun h => ⟨trivial, h⟩⟩
@[simp] theorem modD_int : modD (.int i) (.int j) k = (j ≠ 0 ∧ k (.int (i.fmod j))) := rfl
@[simp] theorem fdivD_int : fdivD (.int i) (.int j) k = (CDivN i j ∧ k (.int (i.fdiv j))) := rfl
@[simp] theorem powD_int : powD (.int i) (.int j) k = (CPow i j ∧ k (.int (i ^ j.toNat))) := rfl
@[simp] theorem mulD_int : mulD (.int i) (.int j) k = (CMul i j ∧ k (.int (i * j))) := rfl
@[simp] theorem mulD_list : mulD (.list xs) (.int j) k = (-(2 ^ 63) ≤ j ∧ j < 2 ^ 63 ∧ xs.length * j.toNat ≤ sizeLine ∧ k (.list (List.replicate j.toNat xs).flatten)) := rfl
@[simp] theorem ltD_int : ltD (.int i) (.int j) k = k (.bool (decide (i < j))) := rfl
@[simp] theorem leD_int : leD (.int i) (.int j) k = k (.bool (decide (i ≤ j))) := rfl
@[simp] theorem gtD_int : gtD (.int i) (.int j) k = k (.bool (decide (j < i))) := rfl
@[simp] theorem geD_int : geD (.int i) (.int j) k = k (.bool (decide (j ≤ i))) := rfl
/-! == of what stands at the top -/
@[simp] theorem eqD_str : eqD (.str s) (.str t) k = (PyData.strOk s = true ∧ PyData.strOk t = true ∧ k (.bool (s == t))) := by
  unfold eqD
  simp [SeqAt.shaped, PyData.canLay0, PyData.depth, PyData.eqv]
@[simp] theorem neD_str : neD (.str s) (.str t) k = (PyData.strOk s = true ∧ PyData.strOk t = true ∧ k (.bool (!(s == t)))) := by
  unfold neD
  simp [SeqAt.shaped, PyData.canLay0, PyData.depth, PyData.eqv]
@[simp] theorem eqD_int : eqD (.int i) (.int j) k = k (.bool (i == j)) := by
  unfold eqD
  simp [SeqAt.shaped, PyData.canLay0, PyData.depth, PyData.eqv]
@[simp] theorem neD_int : neD (.int i) (.int j) k = k (.bool (!(i == j))) := by
  unfold neD
  simp [SeqAt.shaped, PyData.canLay0, PyData.depth, PyData.eqv]
@[simp] theorem eqD_bool : eqD (.bool b) (.bool c) k = k (.bool (b == c)) := by
  unfold eqD
  simp [SeqAt.shaped, PyData.canLay0, PyData.depth, PyData.eqv]
@[simp] theorem neD_bool : neD (.bool b) (.bool c) k = k (.bool (!(b == c))) := by
  unfold neD
  simp [SeqAt.shaped, PyData.canLay0, PyData.depth, PyData.eqv]
@[simp] theorem eqv_str : PyData.eqv (.str s) (.str t) = (s == t) := by unfold PyData.eqv; rfl
@[simp] theorem eqv_int : PyData.eqv (.int i) (.int j) = (i == j) := by unfold PyData.eqv; rfl
@[simp] theorem eqv_bool : PyData.eqv (.bool b) (.bool c) = (b == c) := by unfold PyData.eqv; rfl
@[simp] theorem isND_non : isND x .none k = k (.bool (x matches .none)) := propext ⟨fun h => h.2, fun h => ⟨rfl, h⟩⟩
@[simp] theorem notND_non : notND x .none k = k (.bool !(x matches .none)) := propext ⟨fun h => h.2, fun h => ⟨rfl, h⟩⟩
theorem inStr_sign {c : Nat} {z : Str} : inStr ⟨#[c]⟩ z = decide (c ∈ z.cps.toList) := by
  unfold inStr
  exact (PySem.StrLaws.found_one z c)
@[simp] theorem inD_str : inD (.str s) (.str t) k = k (.bool (inStr s t)) := by unfold inD; rfl
@[simp] theorem notInD_str : notInD (.str s) (.str t) k = k (.bool (!inStr s t)) := rfl
theorem inD_list : inD d (.list xs) k = (flatD d = true ∧ xs.all flatD = true ∧ k (.bool (xs.any fun z => PyData.eqv z d))) := by
  unfold inD
  cases d <;> rfl
theorem inD_tup : inD d (.tuple xs) k = (flatD d = true ∧ xs.all flatD = true ∧ k (.bool (xs.any fun z => PyData.eqv z d))) := by
  unfold inD
  cases d <;> rfl
theorem notInD_list : notInD d (.list xs) k = (flatD d = true ∧ xs.all flatD = true ∧ k (.bool (!xs.any fun z => PyData.eqv z d))) := by
  cases d <;> rfl
theorem notInD_tup : notInD d (.tuple xs) k = (flatD d = true ∧ xs.all flatD = true ∧ k (.bool (!xs.any fun z => PyData.eqv z d))) := by
  cases d <;> rfl
@[simp] theorem ixD_list : ixD (.list xs) (.int i) k = optD (atI xs i) k := rfl
@[simp] theorem ixD_tup : ixD (.tuple xs) (.int i) k = optD (atI xs i) k := rfl
@[simp] theorem ixD_str : ixD (.str s) (.int i) k = (s.length ≤ sizeLine ∧ optD (atI s.cps.toList i) fun c => k (sign c)) := rfl
@[simp] theorem slD_list {lo hi : Option Int} : slD (.list xs) lo hi k = k (.list (cutD xs lo hi)) := rfl
@[simp] theorem slD_tup {lo hi : Option Int} : slD (.tuple xs) lo hi k = k (.tuple (cutD xs lo hi)) := rfl
@[simp] theorem slD_str {lo hi : Option Int} : slD (.str s) lo hi k = (s.length ≤ sizeLine ∧ k (.str (cutS s lo hi))) := rfl
@[simp] theorem lenD_list : lenD [.list xs] k = k (.int xs.length) := rfl
@[simp] theorem lenD_tup : lenD [.tuple xs] k = k (.int xs.length) := rfl
@[simp] theorem lenD_str : lenD [.str s] k = (s.length ≤ sizeLine ∧ k (.int s.length)) := rfl
@[simp] theorem absD_int : absD [.int i] k = k (.int (if i < 0 then -i else i)) := rfl
@[simp] theorem intT_int : intT [.int i] k = k (.int i) := rfl
@[simp] theorem intT_bool : intT [.bool b] k = k (.int (if b then 1 else 0)) := rfl
@[simp] theorem tupT_list : tupT [.list xs] k = k (.tuple xs) := rfl
@[simp] theorem tupT_tup : tupT [.tuple xs] k = k (.tuple xs) := rfl
@[simp] theorem joinD_list : joinD s (.list xs) k = joinS s xs k := rfl
@[simp] theorem joinD_tup : joinD s (.tuple xs) k = joinS s xs k := rfl
@[simp] theorem atI_0 {α : Type} {a : α} {l : List α} : atI (a :: l) 0 = some a := by
  simp [atI, ixN]
@[simp] theorem atI_1 {α : Type} {a b : α} {l : List α} : atI (a :: b :: l) 1 = some b := by
  have h : (1 : Int) < ((a :: b :: l).length : Int) := by simp only [List.length_cons]; omega
  simp only [atI, ixN, h]
  simp
@[simp] theorem atI_2 {α : Type} {a b c : α} {l : List α} : atI (a :: b :: c :: l) 2 = some c := by
  have h : (2 : Int) < ((a :: b :: c :: l).length : Int) := by simp only [List.length_cons]; omega
  simp only [atI, ixN, h]
  simp
end
end DL

namespace DL
open PySem PySem.Spec PyProof.Rows L2
section
variable {X : Cx} {K : PySem.W.Frag} {a b c e tg elt iter : Expr} {es tgs ifs : List Expr} {Wa Wb Wc We : WE} {Wr Wr' : WA} {pos : Pos} {WT' : WT} {ts us : List Nat}
/-! ## a call with one new list, which the callee may write -/
theorem En.called1 {B : Bs} {σ : L2.St} {H G H' G' : Hp} {Γ : Gam} {p : Addr} {us : List V} {ds : List PyData} {as' : List Sl} {v : V} {r : Rs} (E : En K B σ H G Γ) (gp : G p = none) (hp : H p = some (.lst us)) (bp : B.H p = none)
    (no : ∀ (i : Nat) es, Own Γ i es → σ[i]? ≠ some (some (V.ref p))) (Po : PostV K G H [V.ref p] [Sl.par ds] G' H' as' v r) : En K B σ H' G' Γ := by
  have keep : ∀ q o, H q = some o → q ≠ p → H' q = some o := fun q o h n => by
    refine Po.keep q o h fun i ds' h1 h2 => ?_
    cases i with
    | zero => simp at h2; exact n h2.symm
    | succ i => simp at h2
  refine ⟨E.len, Po.gh, E.g0.trans Po.gg, fun q o h hP => keep q o (E.h0 q o h hP) (fun z => by subst z; rw [bp] at h; cases h), fun q h => Po.alloc q (E.bh q h), fun q h h' => Po.free q (E.bh q h) (E.f0 q h h'), fun q h => E.nn q ?_, fun i d h => ?_, fun i es ow => ?_, fun i es ow => E.new i es ow, fun i es ow => E.par i es ow, fun i es ow => E.scrG Po.gg i es ow, fun i j q ds es o1 o2 h1 h2 => E.inj i j q ds es o1 o2 h1 h2⟩
  · cases q1 : H q with
    | none => rfl
    | some u => exact absurd h (Po.alloc q (by rw [q1]; exact fun z => by cases z))
  · obtain ⟨u, h1, h2⟩ := E.dat i d h
    exact ⟨u, h1, h2.mono Po.gg⟩
  · obtain ⟨q, us', g1, g2, g3, g4, g5⟩ := E.mine i es ow
    have n : q ≠ p := fun z => by subst z; exact no i es ow g1
    exact ⟨q, us', g1, Po.free q (by rw [g3]; exact fun z => by cases z) g2, keep q _ g3 n, g4.mono Po.gg, g5⟩
@[simp] def wCallN (S : PSp) (Wa : WA) : WE := fun Γ Q => Wa Γ fun ds Γ1 => S [.par ds] fun r as' => match r with
  | .dat d => Q d Γ1
  | .new es => Q (.list es) Γ1
theorem de_callN {S : PSp} {k : Nat} {ps : List Str} {x : Str} {p : Pos} (C : Cal X.prog X.w X.K X.mg X.base x ps k S) (hr : Room k X.A) (hg : Gl X x)
    (ha : DN X a Wr) (hdb : (x == ("__debug__" : Str)) = false := by decide) (he : starEach (a :: []) X.env = (false, eval a X.env) :: starEach [] X.env := by rfl) (hpl : (backTo pos (starEach [] X.env)).any (·.1) = false := by rfl) :
    DE X (.Call (.Name x p) (a :: []) [] pos) (wCallN S Wr) := by
  obtain ⟨f, fd, h1, h2, h3, h4⟩ := C.ex
  obtain ⟨t, pa, ra⟩ := ha.ex
  refine ⟨_, pe_call (dvs := []) (E := L2.E0) h4 hr hg h1 h2 h3 .nil pass0 (pa_cons pa pa_nil he) hdb he hpl, ?_⟩
  intro B Γ σ H G Q Q' E w k
  refine ra B Γ σ H G _ _ E w fun p us H1 G1 ds Γ1 E1 s1 k1 gp hp da bp np no w1 => ?_
  refine ⟨G1, [.par ds], _, E1.gh, ⟨rfl, fun i d h => ?_, fun i ds' h => ?_, fun i ds' h => ?_, fun i s h => ?_, fun i j q ds' es h1 h2 h3 h4 => ?_⟩, w1, fun v G' H' as' r Po hR => ?_⟩
  · cases i with
    | zero => cases h
    | succ i => simp at h
  · cases i with
    | zero => cases h; exact ⟨p, us, rfl, gp, hp, da⟩
    | succ i => simp at h
  · cases i with
    | zero => cases h
    | succ i => simp at h
  · cases i with
    | zero => cases h; exact .inr (.inl ⟨_, rfl⟩)
    | succ i => simp at h
  · cases i with
    | zero =>
      cases j with
      | zero => rfl
      | succ j => simp at h2
    | succ i => simp at h1
  · have E2 := E1.called1 gp hp bp no Po
    cases r with
    | dat d => exact k v H' G' d _ E2 (s1.trans Po.gg) k1 Po.res hR
    | new ds =>
      obtain ⟨q, us, rfl, h1, h2, h3, h4⟩ := Po.res
      have no : ∀ (i : Nat) es, Own Γ1 i es → σ[i]? ≠ some (some (V.ref q)) := fun i es ow z => by
        obtain ⟨p', us', g1, g2, g3, _⟩ := E1.mine i es ow
        rw [z] at g1
        cases g1
        rw [h4] at g3
        cases g3
      exact k (.ref q) H' (upd G' q (.lst us)) (.list ds) _ (E2.freeze h2 h1 (E1.bnone h4) no) ((s1.trans Po.gg).trans (sameNew h1)) k1 (.lst upd_same (h3.mono (sameNew h1))) hR
end
end DL

namespace DL
open PySem PySem.Spec PyProof.Rows L2
section
variable {X : Cx} {K : PySem.W.Frag} {a b c e tg elt iter : Expr} {es tgs ifs : List Expr} {Wa Wb Wc We : WE} {Wr Wr' : WA} {pos : Pos} {WT' : WT} {ts us : List Nat}
/-! ## a module's constants that are data -/
theorem En.drop {B : Bs} {σ : L2.St} {H G : Hp} {Γ : Gam} (E : En K B σ H G Γ) (i : Nat) : En K B σ H G (Γ.set i .un) := by
  have at_ : ∀ (k : Nat) (s : Sl), (Γ.set i .un)[k]? = some s → s ≠ .un → Γ[k]? = some s := fun k s h n => by
    by_cases e : k = i
    · subst e
      by_cases hl : k < Γ.length
      · rw [List.getElem?_set_self hl] at h; cases h; exact absurd rfl n
      · rw [List.getElem?_eq_none (by simpa using hl)] at h; cases h
    · rwa [List.getElem?_set_ne (Ne.symm e)] at h
  have own_ : ∀ (k : Nat) ds, Own (Γ.set i .un) k ds → Own Γ k ds := fun k ds o => by
    rcases o with o | o
    · exact .inl (at_ k _ o (fun z => by cases z))
    · exact .inr (at_ k _ o (fun z => by cases z))
  exact ⟨by simp [E.len], E.gh, E.g0, E.h0, E.bh, E.f0, E.nn, fun k d h => E.dat k d (at_ k _ h (fun z => by cases z)), fun k ds o => E.mine k ds (own_ k ds o), fun k ds o => E.new k ds (at_ k _ o (fun z => by cases z)),
    fun k ds o => E.par k ds (at_ k _ o (fun z => by cases z)), fun k ds o => E.scr k ds (at_ k _ o (fun z => by cases z)), fun k m p ds es o1 o2 h1 h2 => E.inj k m p ds es (own_ k ds o1) (own_ m es o2) h1 h2⟩
theorem En.own_no {B : Bs} {σ : L2.St} {H G : Hp} {Γ : Gam} {i : Nat} {ds : List PyData} {p : Addr} (E : En K B σ H G Γ) (o : Own Γ i ds) (hp : σ[i]? = some (some (V.ref p))) : ∀ (k : Nat) es, Own (Γ.set i .un) k es → σ[k]? ≠ some (some (V.ref p)) := fun k es ok h => by
  have hk : k ≠ i := fun e => by
    subst e
    rcases ok with ok | ok <;>
      (by_cases hl : k < Γ.length
       · rw [List.getElem?_set_self hl] at ok; cases ok
       · rw [List.getElem?_eq_none (by simpa using hl)] at ok; cases ok)
  have ok' : Own Γ k es := by
    unfold Own at ok ⊢
    rwa [List.getElem?_set_ne (Ne.symm hk)] at ok
  exact hk (E.inj k i p es ds ok' o h hp)
@[simp] def wFrz (j : Nat) (W : WS) : WS := fun D Γ => match Γ[j]? with
  | some (.own ds) => W D (Γ.set j (.dat (.list ds)))
  | _ => False
theorem dss_frz {st : List Stmt} {W : WS} (j : Nat) (h : DSs X st W) : DSs X st (wFrz j W) := by
  obtain ⟨t, p, r⟩ := h.ex
  refine ⟨t, p, ?_⟩
  intro B Γ σ H G D D' E w l
  unfold wFrz at w
  split at w
  · rename_i ds q
    obtain ⟨p, vs, h1, h2, h3, h4, h5⟩ := E.mine j ds (.inl q)
    obtain ⟨p', h1', n⟩ := E.new j ds q
    rw [h1] at h1'
    cases h1'
    have E2 := (E.drop j).freeze h3 h2 (l.nb p n) (E.own_no (.inl q) h1)
    have sg : Same G (upd G p (.lst vs)) := sameNew h2
    have E3 := E2.setDat (v := .ref p) (d := .list ds) j (.lst upd_same (h4.mono sg))
    have e1 : σ.set j (some (V.ref p)) = σ := by
      refine List.ext_getElem? fun k => ?_
      by_cases e : k = j
      · subst e
        have hl := (List.getElem?_eq_some_iff.mp h1).1
        rw [List.getElem?_set_self hl, h1]
      · rw [List.getElem?_set_ne (Ne.symm e)]
    have e2 : (Γ.set j .un).set j (.dat (.list ds)) = Γ.set j (.dat (.list ds)) := List.set_set ..
    rw [e1, e2] at E3
    exact r B _ σ H _ D D' E3 w (l.mono sg)
  · exact w.elim
/-! ## one's own list and another: a new one -/
end
end DL

/-! ## an own error class called with its one value by name -/
namespace PySem
namespace KwMade
open PySem.W PySem.Calls PyProof.Rows PySem.HandSPX
section
variable {M : Model} {A : Around} {E : Value → Shared → Prop} {h : Heap} {g : Array GenState} {d : Drawn} {t : Nat} {os : OsState}
variable {nm q kn : Str} {kv : Value} {C N : Addr} {bs bm bmB : List Value} {hdct : Bool} {sn : List Str} {sub : List Value} {ab : Bool} {col : Option Bool} {dd : Option Addr} {k0 k1 k2 k3 k5 : Option Value} {B newId initId : String}
theorem chk_new (F : ExcBaseFacts B newId initId bmB) (hT : ∀ X : String, bm.contains (.type X) = bmB.contains (.type X)) {Q : Unit → Shared → Prop}
    (hC : h.get? C = some (excClassObj nm q C N bs bm hdct sn sub ab col dd k0 k1 k2 k3 k5 newId)) (hq : Q () ⟨h, g, d, t, os⟩) : wpAny M A (checkBuiltinCall newId ⟨[.ref C], [(kn, kv)]⟩) Q E ⟨h, g, d, t, os⟩ := by
  have c1 : (Value.ref C :: bm).contains (.type B) = true := by
    rw [List.contains_cons, hT, F.hasB, Bool.or_true]
  have c2 := F.noStar
  simp only [checkBuiltinCall, F.newKind, F.newSplit, F.newRow]
  repeat (first
    | refine wpAny_loadPart_at hC ?_
    | (refine wpAny_isSubtype_exc hC ?_; rw [c1])
    | refine wpAny_staticBase_exc hC ?_
    | refine wpAny_madeBy_exc hC ?_
    | simp only [bne_self_eq_false, Bool.false_eq_true, if_false]
    | wp_step)
  exact hq
theorem chk_tc {Q : Unit → Shared → Prop} (hC : h.get? C = some (excClassObj nm q C N bs bm hdct sn sub ab col dd k0 k1 k2 k3 k5 newId)) (hq : Q () ⟨h, g, d, t, os⟩) :
    wpAny M A (checkBuiltinCall "type.__call__" ⟨[.ref C], [(kn, kv)]⟩) Q E ⟨h, g, d, t, os⟩ := by
  have s1 := tc_sub
  have ty : (⟨h, g, d, t, os⟩ : Shared).TypeIs (.ref C) "type" := ⟨_, hC, rfl⟩
  simp only [checkBuiltinCall, tc_kind, tc_split]
  repeat (any_goals (first
    | assumption
    | with_reducible refine wpAny_loadPart_at hC ?_
    | with_reducible refine wpAny_onRaise ?_
    | with_reducible refine wpAny_map ?_
    | wp_step))
end
section
variable {prog : Program} {w : World} {A : Around} {E : Value → Shared → Prop} {R : Result → Shared → Prop} {h : Heap} {g : Array GenState} {d : Drawn} {t : Nat} {os : OsState}
variable {nm q kn : Str} {kv : Value} {C N : Addr} {bs bm bmB : List Value} {hdct : Bool} {sn : List Str} {sub : List Value} {ab : Bool} {col : Option Bool} {dd : Option Addr} {k0 k1 k2 k3 k5 : Option Value} {B newId initId : String}
/-- the heap behind such a making, the own __init__ not called yet -/
def made (h : Heap) (C : Addr) : Heap := (h.push (W.kdv_tup [])).push (excO C h.objs.size)
theorem new_kw (F : ExcBaseFacts B newId initId bmB) (hT : ∀ X : String, bm.contains (.type X) = bmB.contains (.type X))
    (hC : h.get? C = some (excClassObj nm q C N bs bm hdct sn sub ab col dd k0 k1 k2 k3 k5 newId)) (hq : R (.ok (.ret (.ref (h.objs.size + 1)))) ⟨made h C, g, d, t, os⟩) :
    codeAny (model prog w) A (.builtin newId ⟨[.ref C], [(kn, kv)]⟩) R ⟨h, g, d, t, os⟩ := by
  have e0 := F.ends
  have c1 : (Value.ref C :: bm).contains (.type B) = true := by
    rw [List.contains_cons, hT, F.hasB, Bool.or_true]
  have c2 : (Value.ref C :: bm).contains (.type "AttributeError") = false := by
    rw [List.contains_cons, hT, F.noAttr]
    rfl
  have c3 : (Value.ref C :: bm).contains (.type "NameError") = false := by
    rw [List.contains_cons, hT, F.noName]
    rfl
  refine codeAny_builtinAt F.entry ?_
  unfold Builtin.«BaseException.__new__»
  refine wpAt_bind ?_
  show wpAt _ _ _ (stack >>= _) _ _ _
  refine wpAt_bind (wpAt_stack fun p below => wpAt_of_wpAny ?_)
  wp_walk
  refine wpAt_of_wpAny ?_
  rw [F.owner]
  repeat (first
    | with_reducible refine wpAny_madeHere_exc F.canon hC ?_
    | with_reducible refine wpAny_loadPart_at hC ?_
    | (with_reducible refine wpAny_isSubtype_exc hC ?_; first | rw [c1] | rw [c2] | rw [c3])
    | wp_step)
  show R _ _
  rw [Heap.size_push]
  exact hq
theorem tcall_kw (F : ExcBaseFacts B newId initId bmB) (hT : ∀ X : String, bm.contains (.type X) = bmB.contains (.type X)) {fI : Addr} {Q : Fin → Shared → Prop}
    (hC : h.get? C = some (excClassObj nm q C N bs bm hdct sn sub ab col dd k0 k1 k2 k3 k5 newId))
    (hi : W.Looks (model prog w) h (typeLookup (.ref C) "__init__") (some (.ref fI))) (hb : ∀ self, W.Looks (model prog w) h (bindSpecial (.ref fI) self) (.ref fI, [self]))
    (hq : codeAny (model prog w) A (.call (.ref fI) ⟨[.ref (h.objs.size + 1)], [(kn, kv)]⟩)
      (fun r s' => match r with
        | .ok (.ret v) => v = .none ∧ Q (.done (.ret (.ref (h.objs.size + 1)))) s'
        | .ok _ => False
        | .error e => E e s') ⟨made h C, g, d, t, os⟩) :
    wpAny (model prog w) A (Builtin.«type.__call__» ⟨[.ref C], [(kn, kv)]⟩) Q E ⟨h, g, d, t, os⟩ := by
  repeat (first
    | with_reducible refine wpAny_loadPart_at hC ?_
    | with_reducible refine wpAny_madeBy_exc hC ?_
    | wp_step)
  refine codeAny_call_builtin_code (Code.quiet_builtin _ F.quiet) (chk_new F hT hC ?_)
  refine new_kw F hT hC ?_
  show wpAny _ _ _ _ _ _
  have kp : ∀ b o, h.get? b = some o → (made h C).get? b = some o := fun b o e => Heap.get?_push_of_some _ (Heap.get?_push_of_some _ e)
  have hC1 := kp _ _ hC
  have there : (made h C).get? (h.objs.size + 1) = some (excO C h.objs.size) := by
    unfold made
    heap_get
  have cC : (Value.ref C :: bm).contains (.ref C) = true := by simp
  have j1 := hi.keeps kp
  have j2 := (hb (.ref (h.objs.size + 1))).keeps kp
  unfold isInstance
  repeat (first
    | with_reducible refine wpAny_loadPart_at there ?_
    | (with_reducible refine wpAny_isSubtype_exc hC1 ?_; rw [cC])
    | wp_step)
  show wpAny _ _ (typeLookup (.ref C) _) _ _ _
  refine j1.at ?_
  refine wpAny_holding (wpAny_bind (j2.at ?_))
  refine wpAny_bind (wpAny_call (codeAny_mono hq fun r s' z => ?_))
  rcases r with e | (v | _ | _ | _) <;> first | exact z | exact z.elim | skip
  obtain ⟨rfl, z⟩ := z
  first
    | exact wpAny_pure (wpAny_pure z)
    | (wp_walk; exact z)
theorem call_kw (F : ExcBaseFacts B newId initId bmB) (hT : ∀ X : String, bm.contains (.type X) = bmB.contains (.type X)) {fI : Addr}
    (hC : h.get? C = some (excClassObj nm q C N bs bm hdct sn sub ab col dd k0 k1 k2 k3 k5 newId))
    (hi : W.Looks (model prog w) h (typeLookup (.ref C) "__init__") (some (.ref fI))) (hb : ∀ self, W.Looks (model prog w) h (bindSpecial (.ref fI) self) (.ref fI, [self]))
    (hq : codeAny (model prog w) (A.under (.builtin "type.__call__" ⟨[.ref C], [(kn, kv)]⟩)) (.call (.ref fI) ⟨[.ref (h.objs.size + 1)], [(kn, kv)]⟩) (W.InitBack (h.objs.size + 1) R) ⟨made h C, g, d, t, os⟩) :
    codeAny (model prog w) A (.call (.ref C) ⟨[], [(kn, kv)]⟩) R ⟨h, g, d, t, os⟩ := by
  have s1 := tc_lookup
  have s2 := tc_bind (.ref C)
  have ty : (⟨h, g, d, t, os⟩ : Shared).TypeIs (.ref C) "type" := ⟨_, hC, rfl⟩
  refine codeAny_of_tree ?_
  show wpAny _ _ (callAny (.ref C) _) _ _ _
  repeat (any_goals (first
    | assumption
    | with_reducible refine wpAny_loadPart_at hC ?_
    | wp_step))
  refine ⟨rfl, ?_⟩
  refine codeAny_call_builtin_at (Code.quiet_builtin _ (by decide +kernel)) entry_typeCall (chk_tc hC (tcall_kw F hT hC hi hb ?_))
  refine codeAny_mono hq fun r s' z => ?_
  rcases r with e | (v | _ | _ | _) <;> exact z
end
end KwMade
end PySem

namespace DL
open PySem PySem.Spec PyProof.Rows L2
/-! ## errors as values: the readings -/
theorem exD_ok {P : Program} {w : World} {H : Hp} {h : Heap} {a C : Addr} {od : Option Addr} {oe : Obj} {vs : Array Value} (e : h.get? a = some oe) (z : Zc (.ref C) od oe) (d : oe.data = .fields vs) : ObjOk P w H h a (ExD C a od) :=
  ⟨⟨oe, vs, e, z, d⟩, ⟨oe, e⟩, fun _ _ ⟨o, v, q, r⟩ k => ⟨o, v, k o q, r⟩⟩
/-- C(e) -/
def tVal (C : Addr) (f : Str) (ta : TA) : TE := fun σ H Q => ta σ H fun vs H1 => ∃ v, vs = [v] ∧ ∀ a d, H1 a = none → H1 d = none → a ≠ d → Q (.ref a) (upd (upd H1 d (.xd [(f, v)])) a (ExD C a (some d)))
/-- e.f -/
def tGet (C : Addr) (f : Str) (te : TE) : TE := fun σ H Q => te σ H fun x H1 => ∃ a dd v, x = .ref a ∧ H1 a = some (ExD C a (some dd)) ∧ H1 dd = some (.xd [(f, v)]) ∧ Q v H1
/-- C() -/
def tVal0 (C : Addr) : TE := fun _ H Q => ∀ a, H a = none → Q (.ref a) (upd H a (ExD C a none))
end DL

namespace DL
open PySem PySem.Spec PyProof.Rows L2
section
variable {X : Cx} {K : PySem.W.Frag} {a b c e e' tE : Expr} {es : List Expr} {Wa We : WE} {pos p : Pos} {C CM : Addr} {f x : Str} {kws : List Keyword}
/-- C(), a class without own __init__ -/
theorem pe_val0 {bmB : List Value} {B newId initId : String} (F : ExcBaseFacts B newId initId bmB) (q : PySem.W.excIn X.K C bmB newId = true) (gC : X.mg x = some (.ref C)) (kC : PySem.W.keepIn X.K (.ref C) = true) (hg : Gl X x) (hdb : (x == ("__debug__" : Str)) = false := by decide) :
    PE X (.Call (.Name x p) [] [] pos) (tVal0 C) := by
  refine ⟨fun pins s σ H Q I h => ?_⟩
  refine wpAny_Call_Name_kw (ld_glob I hg gC ?_ hdb)
  refine PySem.W.callWith_K0 I.kIn kC ?_
  obtain ⟨bm, N, nm, qn, bs, hdct, sn, sub, ab, col, dd, k0, k1, k2, k3, k5, mN, hC, hN, hni, T⟩ := exc_obj I.kIn q
  refine wpAny_call_exc_subT F T hC hN hni (fun h' a hm => ?_) (by show 0 ≤ sizeLine; exact Nat.zero_le _)
  have hn : H a = none := I.hok.gone hm.new
  obtain ⟨t, ht, _, _⟩ := hm.there
  exact ⟨.ref a, upd H a (ExD C a none), I.laidN hm.keeps hm.new hn (exD_ok ht ⟨rfl, rfl⟩ rfl), rfl, h a hn⟩
/-- what a class must say for isinstance of its errors -/
structure ExcV (K : PySem.W.Frag) (C : Addr) : Prop where
  hd : PySem.W.hasDictIn K C = true
  ga : PySem.W.findIn K (.ref C) "__getattribute__" = some (some (.builtin "BaseException.__getattribute__"))
  gg : PySem.W.findIn K (.ref C) "__getattr__" = some none
  sb : PySem.W.subIn K (.ref C) (.type "BaseException") = some true
  ha : PySem.W.findIn K (.ref C) "__class__" = some (some (.builtin "object.__class__"))
  hn : PySem.W.specialIn K (.builtin "object.__class__") "__get__" = some (some (.builtin "getset_descriptor.__get__"))
  ht : PySem.W.takesIn K (.builtin "object.__class__") = some true
  hm : PySem.W.mroIn K C (.type "object") = some true
def rIsW (K : PySem.W.Frag) : List V → Hp → VK → Prop := fun xs H Q => ∃ (a C : Addr) (od : Option Addr) (c : V) (cv : Value) (b : Bool), xs = [.ref a, c] ∧ H a = some (ExD C a od) ∧ (∀ u, RelV c u → u = cv) ∧ (∀ d, od = some d → ∃ fs, H d = some (.xd fs)) ∧ ExcV K C ∧ PySem.W.kitOne K (.ref C) cv = some b ∧ Q (.bl b) H
theorem call_isW : CallR X (.builtin "isinstance") (rIsW X.K) := by
  intro pins s σ H xs us Q I r h
  obtain ⟨a, C, od, c, cv, b, rfl, ha, hcv, hod, T, e, q⟩ := h
  cases r with
  | cons rx rr =>
    cases rr with
    | cons rt rr =>
      cases rr
      cases rx
      have ec := hcv _ rt
      subst ec
      obtain ⟨⟨oe, vs, ho, hz, hv⟩, _, _⟩ : ObjOk X.prog X.w H s.heap a (ExD C a od) := I.hok a _ ha
      have hcl : (PySem.W.clsIn X.K C).isSome = true := by
        have h0 := T.hd
        unfold PySem.W.hasDictIn at h0
        cases q0 : PySem.W.clsIn X.K C with
        | none => rw [q0] at h0; cases h0
        | some _ => rfl
      have J : ∃ od, PySem.W.InstAt s.heap a oe C od := by
        have nc : PySem.W.notCls oe = true := by
          unfold PySem.W.notCls
          rw [hv] <;> rfl
        cases od with
        | none => exact ⟨none, ho, hz.1, nc, by rw [hz.2]; trivial⟩
        | some dd =>
          obtain ⟨fs, hf⟩ := hod dd rfl
          obtain ⟨mA, hns, _⟩ : ObjOk X.prog X.w H s.heap dd (.xd fs) := I.hok dd _ hf
          obtain ⟨od, hod, _⟩ := lookIn_ns hns
          exact ⟨some od, ho, hz.1, nc, by rw [hz.2]; exact hod⟩
      obtain ⟨od, J⟩ := J
      exact PySem.W.kia_one (PySem.W.kitx_exc (od := od) hcl T.ga T.gg T.sb T.ha T.hn T.ht T.hm) I.kIn J e (fun z => nomatch z) fun tk => ⟨.bl b, H, I.kept (t' := tk) fun _ _ z => z, rfl, q⟩
/-! ## .. as readings -/
def excA (C : Addr) (f : Str) (d : PyData) : PyData := .dict [(.int (Int.ofNat C), .none), (.str f, d)]
def excB (C : Addr) : PyData := .dict [(.int (Int.ofNat C), .none)]
@[simp] def wVal (C : Addr) (f : Str) (Wa : WE) : WE := fun Γ Q => Wa Γ fun d Γ1 => Q (excA C f d) Γ1
theorem re_val {ta : TE} {Wa : WE} (r : RE K ta Wa) : RE K (tVal C f (tCons ta tNil)) (wVal C f Wa) := by
  intro B Γ σ H G Q Q' E w k
  refine r B Γ σ H G _ _ E w fun v H1 G1 d Γ1 E1 s1 k1 d1 w1 => ?_
  refine ⟨v, rfl, fun a dd ha hd hne => ?_⟩
  have E2 := E1.laid (o := .xd [(f, v)]) hd
  have gd := E1.gnone hd
  have ha2 : upd H1 dd (.xd [(f, v)]) a = none := by
    rw [upd_ne hne]
    exact ha
  have E3 := E2.laid (o := ExD C a (some dd)) ha2
  have ga := E2.gnone ha2
  have s2 : Same G1 (upd (upd G1 dd (.xd [(f, v)])) a (ExD C a (some dd))) := (sameNew gd).trans (sameNew ga)
  refine k _ _ _ _ Γ1 E3 (s1.trans s2) k1 (.exc1 upd_same ?_ (d1.mono s2)) w1
  rw [upd_ne (Ne.symm hne)]
  exact upd_same
theorem de_val (ha : DE X a Wa) (pm : ∀ {ta : TA}, PA X [a] ta → PE X e (tVal C f ta)) (h1 : starEach [a] X.env = (false, eval a X.env) :: starEach [] X.env := by rfl) : DE X e (wVal C f Wa) := by
  obtain ⟨t, p, r⟩ := ha.ex
  exact ⟨_, pm (pa_cons p pa_nil h1), re_val r⟩
theorem de_valK {nm : Option Str} {kp : Pos} (ha : DE X a Wa) (pm : ∀ {tk : TA}, PK X [⟨nm, a, kp⟩] tk → PE X e (tVal C f tk)) : DE X e (wVal C f Wa) := by
  obtain ⟨t, p, r⟩ := ha.ex
  exact ⟨_, pm (pk_cons p pk_nil), re_val r⟩
theorem de_val0 (pm : PE X e (tVal0 C)) : DE X e (wC (excB C)) := by
  refine ⟨_, pm, ?_⟩
  intro B Γ σ H G Q Q' E w k a ha
  have ga := E.gnone ha
  exact k _ _ _ _ Γ (E.laid ha) (sameNew ga) (KS.refl _) (.exc0 upd_same) w
@[simp] def wGet (C : Addr) (f : Str) (We : WE) : WE := fun Γ Q => We Γ fun d Γ1 => ∃ x, d = excA C f x ∧ Q x Γ1
theorem de_get (he : DE X e We) (pm : ∀ {te : TE}, PE X e te → PE X e' (tGet C f te)) : DE X e' (wGet C f We) := by
  obtain ⟨t, p, r⟩ := he.ex
  refine ⟨_, pm p, ?_⟩
  intro B Γ σ H G Q Q' E w k
  refine r B Γ σ H G _ _ E w fun v H1 G1 d Γ1 E1 s1 k1 d1 w1 => ?_
  obtain ⟨x, ed, w2⟩ := w1
  unfold excA at ed
  subst ed
  cases d1 with
  | exc1 ga gd dx => exact ⟨_, _, _, rfl, E1.gh _ _ ga, E1.gh _ _ gd, k _ H1 G1 _ Γ1 E1 s1 k1 dx w2⟩
/-- the class of such data -/
def clsD : PyData → Option Addr
  | .dict ((.int (.ofNat C), _) :: _) => some C
  | _ => none
@[simp] def wIsW (K : PySem.W.Frag) (cv : Value) (Wa : WE) : WE := fun Γ Q => Wa Γ fun d Γ1 => ∃ C b, clsD d = some C ∧ ExcV K C ∧ PySem.W.kitOne K (.ref C) cv = some b ∧ Q (.bool b) Γ1
theorem de_isW {cM : V} {cv : Value} (hg : Gl X "isinstance") (hm : X.mg "isinstance" = none) (ha : DE X a Wa) (ht : PE X tE (tC cM)) (hcv : ∀ u, RelV cM u → u = cv)
    (h1 : starEach [a, tE] X.env = (false, eval a X.env) :: starEach [tE] X.env := by rfl) (h2 : starEach [tE] X.env = (false, eval tE X.env) :: starEach [] X.env := by rfl) (h3 : (backTo pos (starEach [tE] X.env)).any (·.1) = false := by rfl) :
    DE X (.Call (.Name "isinstance" p) [a, tE] [] pos) (wIsW X.K cv Wa) := by
  obtain ⟨t, pa, ra⟩ := ha.ex
  refine ⟨_, pe_callB call_isW hg hm boot_isinstance (pa_cons pa (pa_cons ht pa_nil h2) h1) (by decide) (by decide) h1 h3, ?_⟩
  intro B Γ σ H G Q Q' E w k
  refine ra B Γ σ H G _ _ E w fun v H1 G1 d Γ1 E1 s1 k1 d1 w1 => ?_
  obtain ⟨C, b, hc, T, kt, w2⟩ := w1
  cases d1 with
  | exc0 ga =>
    simp only [clsD] at hc
    cases hc
    exact ⟨_, _, _, cM, cv, b, rfl, E1.gh _ _ ga, hcv, (fun d z => nomatch z), T, kt, k _ H1 G1 _ Γ1 E1 s1 k1 (.bl _) w2⟩
  | exc1 ga gd dx =>
    simp only [clsD] at hc
    cases hc
    exact ⟨_, _, _, cM, cv, b, rfl, E1.gh _ _ ga, hcv, (fun d z => by cases z; exact ⟨_, E1.gh _ _ gd⟩), T, kt, k _ H1 G1 _ Γ1 E1 s1 k1 (.bl _) w2⟩
  | _ => cases hc
end
end DL

namespace DL
open PySem PySem.Spec PyProof.Rows L2
section
variable {K : PySem.W.Frag} {C M S : Addr}
/-- an error of the class at S is what 'except S' names -/
theorem exm_self (h1 : PySem.W.subIn K (.ref S) (.type "BaseException") = some true) (h2 : PySem.W.isClsIn K S = true) (h3 : PySem.W.typeIn K (.ref S) = some (.type "type")) (h4 : PySem.W.subIn K (.ref S) (.ref S) = some true) :
    PySem.W.exmOne K (.ref S) (.ref S) = some true := by
  have e2 : (PySem.W.clsIn K S).isSome = true := h2
  simp [PySem.W.exmOne, PySem.W.kitCls, h1, e2, h3, h4]
theorem kit_self : PySem.W.kitOne K (.ref C) (.ref C) = some true := by
  unfold PySem.W.kitOne
  simp
/-- of a class under M -/
theorem kit_sub (h2 : PySem.W.isClsIn K M = true) (h3 : PySem.W.typeIn K (.ref M) = some (.type "type")) (h4 : PySem.W.subIn K (.ref C) (.ref M) = some true) : PySem.W.kitOne K (.ref C) (.ref M) = some true := by
  have e2 : (PySem.W.clsIn K M).isSome = true := h2
  unfold PySem.W.kitOne
  split
  · rfl
  · simp [PySem.W.kitCls, e2, h3, h4]
/-- of a class beside M -/
theorem kit_not (h2 : PySem.W.isClsIn K M = true) (h3 : PySem.W.typeIn K (.ref M) = some (.type "type")) (h4 : PySem.W.subIn K (.ref C) (.ref M) = some false) (h5 : PySem.W.subIn K (.ref M) (.ref M) = some true) : PySem.W.kitOne K (.ref C) (.ref M) = some false := by
  have e2 : (PySem.W.clsIn K M).isSome = true := h2
  unfold PySem.W.kitOne
  split
  · rename_i h
    have h : Value.ref C = Value.ref M := by simpa using h
    rw [h, h5] at h4
    cases h4
  · simp [PySem.W.kitCls, e2, h3, h4]
theorem kit_val (h : PySem.W.subIn K (.ref C) (.type "ValueError") = some true) : PySem.W.kitOne K (.ref C) (.type "ValueError") = some true := by
  have m : PySem.W.kitMeta "ValueError" = true := by decide +kernel
  unfold PySem.W.kitOne
  split
  · rfl
  · simp [PySem.W.kitCls, m, h]
end
/-- what is so of each of thirteen -/
theorem look13 {α : Type} {P : Nat → α → Prop} {a0 a1 a2 a3 a4 a5 a6 a7 a8 a9 a10 a11 a12 : α} (p0 : P 0 a0) (p1 : P 1 a1) (p2 : P 2 a2) (p3 : P 3 a3) (p4 : P 4 a4) (p5 : P 5 a5) (p6 : P 6 a6) (p7 : P 7 a7) (p8 : P 8 a8) (p9 : P 9 a9) (p10 : P 10 a10) (p11 : P 11 a11) (p12 : P 12 a12) :
    ∀ (i : Nat) (a : α), [a0, a1, a2, a3, a4, a5, a6, a7, a8, a9, a10, a11, a12][i]? = some a → P i a := by
  intro i a h
  have hl : i < 13 := (List.getElem?_eq_some_iff.mp h).1
  match i, hl, h with
  | 0, _, h => cases h; exact p0
  | 1, _, h => cases h; exact p1
  | 2, _, h => cases h; exact p2
  | 3, _, h => cases h; exact p3
  | 4, _, h => cases h; exact p4
  | 5, _, h => cases h; exact p5
  | 6, _, h => cases h; exact p6
  | 7, _, h => cases h; exact p7
  | 8, _, h => cases h; exact p8
  | 9, _, h => cases h; exact p9
  | 10, _, h => cases h; exact p10
  | 11, _, h => cases h; exact p11
  | 12, _, h => cases h; exact p12
end DL

namespace PySem
namespace BadLineX
open PySem.W PySem.Calls PyProof.Rows PySem.HandSPX
/-! ### the text of __init__ -/
def iA (p1 p2 : Pos) : Arguments := { posonlyargs := [], args := [{ arg := "self", annotation := none, pos := p1 }, { arg := "number", annotation := none, pos := p2 }], vararg := none, kwonlyargs := [], kw_defaults := [], kwarg := none, defaults := [] }
def iB (q1 q2 q3 q4 : Pos) : List Stmt := [.Assign [.Attribute (.Name "self" q1) "number" q2] (.Name "number" q3) q4]
def iS : Scope := { kind := .function, names := [(PySem.Str.ofString "self", .local), (PySem.Str.ofString "number", .local)], isGenerator := false, isCoroutine := false, more := [] }
/-- what the written part says of Low, at C, and of its __init__, at fI -/
structure BadLineTxt (K : Frag) (mg : Str → Option Value) (C fI : Addr) : Prop where
  gC : mg "BadLine" = some (.ref C)
  cls : ∃ nm q N bs bm sn sub ab col dd k0 k1 k2 k3 k5, K.lookup C = some (excClassObj nm q C N bs bm true sn sub ab col dd k0 k1 k2 k3 k5 "ValueError.__new__") ∧ refsVE bm = true
  sa : findIn K (.ref C) "__setattr__" = some (some (.builtin "object.__setattr__"))
  ga : findIn K (.ref C) "__getattribute__" = some (some (.builtin "BaseException.__getattribute__"))
  gg : findIn K (.ref C) "__getattr__" = some none
  noN : findIn K (.ref C) "number" = some none
  iC : findIn K (.ref C) "__init__" = some (some (.ref fI))
  tC : typeIn K (.ref fI) = some (.type "function")
  kC : keepIn K (.ref C) = true
  exC : subIn K (.ref C) (.type "BaseException") = some true
  tyC : typeIn K (.ref C) = some (.type "type")
  hdC : hasDictIn K C = true
  te : exmOne K (.ref C) (.ref C) = some true
  fn : ∃ (oc : Value) (od : Option Addr) (doc pm : Value) (an : Option Addr) (cdv ct : Value) (osl : Array (Option Value)) (p1 p2 q1 q2 q3 q4 : Pos),
    K.lookup fI = some ⟨oc, od, .func (fnOf "__init__" "BadLine.__init__" (iA p1 p2) (iB q1 q2 q3 q4) iS .none .none doc pm an cdv ct), osl⟩ ∧ codeIn K cdv "BadLine.__init__" = true
theorem one_size (v : Value) : [v].length ≤ sizeLine := by
  rw [sizeLine_eq]
  exact (by decide : 1 ≤ 16777216)
theorem kept_but {K : Frag} {h h' : Heap} {x : Addr} (X : K.In h) (hx : K.lookup x = none) (k : ∀ b o, b ≠ x → h.get? b = some o → h'.get? b = some o) : K.In h' := fun a o e =>
  k a o (fun z => by rw [z, hx] at e; cases e) (X a o e)
theorem ldC {M : Model} {s : Shared} {name : Str} {scope : Scope} {L a : Addr} {cd : Value} {m : Str → Option Value} {x : Str} {pos : Pos} {v : Value} {Q : Value → Shared → Prop} {A : Around} {E : Value → Shared → Prop} (hn : s.heap.Ns L m) (hv : m x = some v) (h : Q v s)
    (hk : scope.kind = .function := by rfl) (hl : (envOfC name scope L a cd).kindOf x = some .local := by rfl) (hd : (x == ("__debug__" : Str)) = false := by decide) :
    wpAny M A (eval (.Name x pos) (envOfC name scope L a cd)) Q E s := wpAny_Name (wpAny_loadName_local hk hl hn hv h) hd
/-- what __init__ leaves of a fresh exception at x -/
structure InitEnd (h h' : Heap) (x C dx t1 : Addr) (v : Value) : Prop where
  keep : ∀ b o, b ≠ x → h.get? b = some o → h'.get? b = some o
  obj : h'.get? x = some { cls := .ref C, dict := some dx, data := .fields #[.ref t1, .none, .none, .none, .bool false, .none] }
  dbig : h.objs.size ≤ dx
  dne : dx ≠ x
  ns : h'.Ns1 dx (fun y => if y = "number" then some v else none)
/-- a made Low -/
structure OwnMade (h h' : Heap) (e C d : Addr) (v : Value) : Prop where
  keep : ∀ b o, h.get? b = some o → h'.get? b = some o
  new : h.objs.size ≤ e
  obj : ∃ oe vs, h'.get? e = some oe ∧ oe.cls = .ref C ∧ oe.dict = some d ∧ oe.data = .fields vs ∧ vs[1]? = some .none
  dbig : h.objs.size ≤ d
  dne : d ≠ e
  ns : h'.Ns1 d (fun y => if y = "number" then some v else none)
section
variable {prog : Program} {w : World} {A : Around} {E : Value → Shared → Prop} {R : Result → Shared → Prop} {s : Shared} {K : Frag} {mg : Str → Option Value} {C fI : Addr}
theorem low_init_BadLine (T : BadLineTxt K mg C fI) {x t0 : Addr} {v : Value} (X : K.In s.heap) (hlim : s.heap.NoLimit) (hx : s.heap.get? x = some (excO C t0)) (hnx : K.lookup x = none) (hroom : A.depth < recursionLimit)
    (hq : ∀ h' tk dx, InitEnd s.heap h' x C dx t0 v → R (.ok (.ret .none)) { s with heap := h', toks := tk }) :
    codeAny (model prog w) A (.call (.ref fI) ⟨[.ref x, v], []⟩) R s := by
  obtain ⟨oc, od, doc, pm, an, cdv, ct, osl, p1, p2, q1, q2, q3, q4, ho, hcd⟩ := T.fn
  obtain ⟨nm, q, N, bs, bm, sn, sub, ab, col, dd, k0, k1, k2, k3, k5, hC, hbm⟩ := T.cls
  have hcl : clsIn K C = some { name := nm, bases := bs, mro := .ref C :: bm, ns := N, qualname := q, hasDict := true, slotNames := sn, subclasses := sub, abstract := ab, collection := col, hasDel := false } := by unfold clsIn; rw [hC] <;> rfl
  refine Att.call_fn (binds := [("self", .ref x), ("number", v)]) X hlim ho hcd hroom (BindsTo.of_eq (by first | rfl | with_unfolding_all rfl)) (by first | rfl | decide | with_unfolding_all rfl) (fun s₁ IC => ?_) rfl rfl rfl
  obtain ⟨h₁, tk₁, rfl⟩ := IC.toInCall.same
  have k : ∀ b o, s.heap.get? b = some o → h₁.get? b = some o := IC.toInCall.keep
  have hn := IC.toInCall.ns
  have hxL : s.heap.objs.size ≠ x := Nat.ne_of_gt (Heap.lt_size hx)
  have X₁ : K.In h₁ := X.keeps k
  have hx₁ := k _ _ hx
  -- self.by = by
  show wpAny _ _ (execs _ _) _ _ _
  refine wpAny_execs_cons (plainObj_wpAny_Assign_Attribute ?_)
  refine ldC (v := v) hn (by first | rfl | with_unfolding_all rfl | kernel_rfl) (ldC (v := .ref x) hn (by first | rfl | with_unfolding_all rfl | kernel_rfl) ?_)
  refine set_plain X₁ (ox := excO C t0) (od := none) ⟨hx₁, rfl, rfl, trivial⟩ T.sa ?_
  refine exc_osa X₁ hx₁ hcl (show refsVE (.ref C :: bm) = true from hbm) rfl T.noN (fun h₃ tk₃ dx k₃ dn dne hx₃ hn₃ => ?_)
  show wpAny _ _ (execs _ _) _ _ _
  have z : s.heap.objs.size < h₁.objs.size := hn.lt
  exact wpAny_execs_nil (hq h₃ tk₃ dx ⟨fun b o hb e => k₃ b o hb (k b o e), hx₃, Nat.le_of_lt (Nat.lt_of_lt_of_le z dn), dne, hn₃⟩)
theorem low_made_BadLine (T : BadLineTxt K mg C fI) {v : Value} (X : K.In s.heap) (hlim : s.heap.NoLimit) (hroom : A.depth + 1 < recursionLimit)
    (hq : ∀ h' tk e d, OwnMade s.heap h' e C d v → R (.ok (.ret (.ref e))) { s with heap := h', toks := tk }) :
    codeAny (model prog w) A (.call (.ref C) ⟨[v], []⟩) R s := by
  obtain ⟨nm, q, N, bs, bm, sn, sub, ab, col, dd, k0, k1, k2, k3, k5, hC, hbm⟩ := T.cls
  obtain ⟨hp, g, dr, tk, os⟩ := s
  have k : ∀ b o, hp.get? b = some o → ((hp.push (kdv_tup [v])).push (excO C hp.objs.size)).get? b = some o := fun b o e => Heap.get?_push_of_some _ (Heap.get?_push_of_some _ e)
  have hget : ((hp.push (kdv_tup [v])).push (excO C hp.objs.size)).get? (hp.objs.size + 1) = some (excO C hp.objs.size) := by heap_get
  have hnx : K.lookup (hp.objs.size + 1) = none := by
    cases e : K.lookup (hp.objs.size + 1) with
    | none => rfl
    | some o =>
      have z : hp.get? (hp.objs.size + 1) = some o := X _ _ e
      exact absurd (Nat.lt_of_succ_lt (Heap.lt_size z)) (Nat.lt_irrefl _)
  refine call_own F.excBase_ValueError (fun X => refsVE_contains X bm hbm) (X _ _ hC) (looks_findIn X T.iC) (fun self => bind_fn X self T.tC) (one_size v) ?_
  refine low_init_BadLine (s := ⟨(hp.push (kdv_tup [v])).push (excO C hp.objs.size), g, dr, tk, os⟩) T (X.keeps k) (hlim.keeps k) hget hnx ?_ fun h' tk' dx ⟨k', hx, dn, dne, hns⟩ => ?_
  · show A.depth + 1 < recursionLimit
    exact hroom
  · have old : ∀ b o, hp.get? b = some o → h'.get? b = some o := fun b o e => k' b o (Nat.ne_of_lt (Nat.lt_succ_of_lt (Heap.lt_size e))) (k b o e)
    have z : hp.objs.size + 1 + 1 ≤ dx := by
      first
        | (simpa only [Heap.size_push] using dn)
        | exact dn
        | (have q := dn; rw [Heap.size_push, Heap.size_push] at q; exact q)
    exact ⟨rfl, hq h' tk' (hp.objs.size + 1) dx ⟨old, Nat.le_succ _, ⟨_, _, hx, rfl, rfl, rfl, rfl⟩, Nat.le_trans (Nat.le_trans (Nat.le_succ _) (Nat.le_succ _)) z, dne, hns⟩⟩
theorem low_initK_BadLine (T : BadLineTxt K mg C fI) {x t0 : Addr} {v : Value} (X : K.In s.heap) (hlim : s.heap.NoLimit) (hx : s.heap.get? x = some (excO C t0)) (hnx : K.lookup x = none) (hroom : A.depth < recursionLimit)
    (hq : ∀ h' tk dx, InitEnd s.heap h' x C dx t0 v → R (.ok (.ret .none)) { s with heap := h', toks := tk }) :
    codeAny (model prog w) A (.call (.ref fI) ⟨[.ref x], [("number", v)]⟩) R s := by
  obtain ⟨oc, od, doc, pm, an, cdv, ct, osl, p1, p2, q1, q2, q3, q4, ho, hcd⟩ := T.fn
  obtain ⟨nm, q, N, bs, bm, sn, sub, ab, col, dd, k0, k1, k2, k3, k5, hC, hbm⟩ := T.cls
  have hcl : clsIn K C = some { name := nm, bases := bs, mro := .ref C :: bm, ns := N, qualname := q, hasDict := true, slotNames := sn, subclasses := sub, abstract := ab, collection := col, hasDel := false } := by unfold clsIn; rw [hC] <;> rfl
  refine Att.call_fn (binds := [("self", .ref x), ("number", v)]) X hlim ho hcd hroom (BindsTo.of_eq (by first | rfl | with_unfolding_all rfl)) (by first | rfl | decide | with_unfolding_all rfl) (fun s₁ IC => ?_) rfl rfl rfl
  obtain ⟨h₁, tk₁, rfl⟩ := IC.toInCall.same
  have k : ∀ b o, s.heap.get? b = some o → h₁.get? b = some o := IC.toInCall.keep
  have hn := IC.toInCall.ns
  have hxL : s.heap.objs.size ≠ x := Nat.ne_of_gt (Heap.lt_size hx)
  have X₁ : K.In h₁ := X.keeps k
  have hx₁ := k _ _ hx
  -- self.by = by
  show wpAny _ _ (execs _ _) _ _ _
  refine wpAny_execs_cons (plainObj_wpAny_Assign_Attribute ?_)
  refine ldC (v := v) hn (by first | rfl | with_unfolding_all rfl | kernel_rfl) (ldC (v := .ref x) hn (by first | rfl | with_unfolding_all rfl | kernel_rfl) ?_)
  refine set_plain X₁ (ox := excO C t0) (od := none) ⟨hx₁, rfl, rfl, trivial⟩ T.sa ?_
  refine exc_osa X₁ hx₁ hcl (show refsVE (.ref C :: bm) = true from hbm) rfl T.noN (fun h₃ tk₃ dx k₃ dn dne hx₃ hn₃ => ?_)
  show wpAny _ _ (execs _ _) _ _ _
  have z : s.heap.objs.size < h₁.objs.size := hn.lt
  exact wpAny_execs_nil (hq h₃ tk₃ dx ⟨fun b o hb e => k₃ b o hb (k b o e), hx₃, Nat.le_of_lt (Nat.lt_of_lt_of_le z dn), dne, hn₃⟩)
theorem low_madeK_BadLine (T : BadLineTxt K mg C fI) {v : Value} (X : K.In s.heap) (hlim : s.heap.NoLimit) (hroom : A.depth + 1 < recursionLimit)
    (hq : ∀ h' tk e d, OwnMade s.heap h' e C d v → R (.ok (.ret (.ref e))) { s with heap := h', toks := tk }) :
    codeAny (model prog w) A (.call (.ref C) ⟨[], [("number", v)]⟩) R s := by
  obtain ⟨nm, q, N, bs, bm, sn, sub, ab, col, dd, k0, k1, k2, k3, k5, hC, hbm⟩ := T.cls
  obtain ⟨hp, g, dr, tk, os⟩ := s
  have k : ∀ b o, hp.get? b = some o → ((hp.push (kdv_tup [])).push (excO C hp.objs.size)).get? b = some o := fun b o e => Heap.get?_push_of_some _ (Heap.get?_push_of_some _ e)
  have hget : ((hp.push (kdv_tup [])).push (excO C hp.objs.size)).get? (hp.objs.size + 1) = some (excO C hp.objs.size) := by heap_get
  have hnx : K.lookup (hp.objs.size + 1) = none := by
    cases e : K.lookup (hp.objs.size + 1) with
    | none => rfl
    | some o =>
      have z : hp.get? (hp.objs.size + 1) = some o := X _ _ e
      exact absurd (Nat.lt_of_succ_lt (Heap.lt_size z)) (Nat.lt_irrefl _)
  refine PySem.KwMade.call_kw F.excBase_ValueError (fun X => refsVE_contains X bm hbm) (X _ _ hC) (looks_findIn X T.iC) (fun self => bind_fn X self T.tC) ?_
  refine low_initK_BadLine (s := ⟨(hp.push (kdv_tup [])).push (excO C hp.objs.size), g, dr, tk, os⟩) T (X.keeps k) (hlim.keeps k) hget hnx ?_ fun h' tk' dx ⟨k', hx, dn, dne, hns⟩ => ?_
  · show A.depth + 1 < recursionLimit
    exact hroom
  · have old : ∀ b o, hp.get? b = some o → h'.get? b = some o := fun b o e => k' b o (Nat.ne_of_lt (Nat.lt_succ_of_lt (Heap.lt_size e))) (k b o e)
    have z : hp.objs.size + 1 + 1 ≤ dx := by
      first
        | (simpa only [Heap.size_push] using dn)
        | exact dn
        | (have q := dn; rw [Heap.size_push, Heap.size_push] at q; exact q)
    exact ⟨rfl, hq h' tk' (hp.objs.size + 1) dx ⟨old, Nat.le_succ _, ⟨_, _, hx, rfl, rfl, rfl, rfl⟩, Nat.le_trans (Nat.le_trans (Nat.le_succ _) (Nat.le_succ _)) z, dne, hns⟩⟩
end
end BadLineX
end PySem

namespace L2
open PySem PySem.Spec PyProof.Rows
theorem relO_low_BadLine {v : V} {v' : Value} (r : RelV v v') (f : Str) : RelO (List.lookup f [(("number" : Str), v)]) (if f = "number" then some v' else none) := by
  by_cases hw : f = "number"
  · subst hw
    rw [if_pos rfl]
    have q : List.lookup ("number" : Str) [(("number" : Str), v)] = some v := by simp [List.lookup]
    rw [q]
    exact r
  · rw [if_neg hw]
    have qw : (f == ("number" : Str)) = false := by simpa using hw
    have q2 : List.lookup f [(("number" : Str), v)] = none := by simp [List.lookup, qw]
    rw [q2]
    trivial

end L2
namespace DL
open PySem PySem.Spec PyProof.Rows L2
section
variable {X : Cx} {C fI : Addr}
theorem lay_BadLine {pins : List (Addr × Obj)} {σ : L2.St} {H1 : Hp} {Q : VK} {hp h' : Heap} {g : Array GenState} {dr : Drawn} {tk tk' : Nat} {os : OsState} {e d : Addr} {v : V} {v' : Value} (I1 : Inv X pins σ H1 ⟨hp, g, dr, tk, os⟩) (rv : RelV v v') (M : PySem.BadLineX.OwnMade hp h' e C d v')
    (q1 : ∀ a d, H1 a = none → H1 d = none → a ≠ d → Q (.ref a) (upd (upd H1 d (.xd [(("number" : Str), v)])) a (ExD C a (some d)))) : EP X pins σ Q (.ref e) ⟨h', g, dr, tk', os⟩ := by
  obtain ⟨oe, fv, hoe, hc, hd, hdat, _⟩ := M.obj
  have hns := M.ns
  obtain ⟨G', g1, g2⟩ := restrict h' fun b => decide (b ≠ e)
  have gk : ∀ b, b ≠ e → G'.get? b = h'.get? b := fun b hb => g1 b (decide_eq_true hb)
  have ge : G'.get? e = none := g2 e (by simp)
  have old : ∀ b o, hp.get? b = some o → G'.get? b = some o := fun b o q =>
    (gk b (Nat.ne_of_lt (Nat.lt_of_lt_of_le (Heap.lt_size q) M.new))).trans (M.keep b o q)
  have ob : ObjOk X.prog X.w (upd H1 d (.xd [(("number" : Str), v)])) G' d (.xd [(("number" : Str), v)]) := ⟨_, hns.at (fun o q => (gk d M.dne).trans q), fun f => relO_low_BadLine rv f⟩
  have J : Inv X pins σ (upd H1 d (.xd [(("number" : Str), v)])) ⟨G', g, dr, tk', os⟩ := I1.laid (t' := tk') old M.dbig ob
  have he : H1 e = none := I1.hok.fresh M.new
  have hn : upd H1 d (.xd [(("number" : Str), v)]) e = none := by
    rw [upd_ne (Ne.symm M.dne)]
    exact he
  have kp : ∀ b u, G'.get? b = some u → h'.get? b = some u := fun b u q => by
    by_cases hb : b = e
    · rw [hb, ge] at q
      cases q
    · exact (gk b hb).symm.trans q
  exact ⟨.ref e, _, J.laidN (h' := h') (t' := tk') kp ge hn (exD_ok hoe ⟨hc, hd⟩ hdat), rfl, q1 e d he (I1.hok.fresh M.dbig) (Ne.symm M.dne)⟩
theorem pe_val_BadLine {a : Expr} {p pos : Pos} {k : Nat} {ta : TA} (T : PySem.BadLineX.BadLineTxt X.K X.mg C fI) (hr : Room k X.A) (hg : Gl X "BadLine") (ha : PA X [a] ta)
    (he : starEach (a :: []) X.env = (false, eval a X.env) :: starEach [] X.env := by rfl) (hpl : (backTo pos (starEach [] X.env)).any (·.1) = false := by rfl) : PE X (.Call (.Name "BadLine" p) [a] [] pos) (tVal C "number" ta) := by
  refine ⟨fun pins s σ H Q I h => ?_⟩
  refine wpAny_Call_Name_kw (ld_glob I hg T.gC ?_)
  refine PySem.W.callWith_K (h₀ := X.base) I.ok.mod.kin T.kC (thn (ha.run pos pins s σ H _ I h) fun us s1 ⟨vs, H1, I1, r1, v, ev, q1⟩ => ?_) he hpl
  subst ev
  refine ⟨I1.kIn, ?_⟩
  cases r1 with
  | cons rv rn =>
    cases rn
    have hlim := I1.nolimit
    obtain ⟨hp, g, dr, tk, os⟩ := s1
    exact wpAny_call (PySem.BadLineX.low_made_BadLine T I1.kIn hlim (by have := hr.dp; omega) fun h' tk' e d M => lay_BadLine I1 rv M q1)
theorem pe_valK_BadLine {p pos : Pos} {k : Nat} {kws : List Keyword} {tk : TA} (T : PySem.BadLineX.BadLineTxt X.K X.mg C fI) (hr : Room k X.A) (hg : Gl X "BadLine") (hkw : PK X kws tk)
    (hall : (backToKw pos (keywordEach kws X.env)).all (·.1.isSome) = true := by rfl) (hks : (backToKw pos (keywordEach kws X.env)).filterMap (·.1) = [("number" : Str)] := by rfl)
    (hpl : ((backTo pos (starEach [] X.env)).any (·.1) || (backToKw pos (keywordEach kws X.env)).any (·.1.isNone)) = false := by rfl) : PE X (.Call (.Name "BadLine" p) [] kws pos) (tVal C "number" tk) := by
  refine ⟨fun pins s σ H Q I h => ?_⟩
  refine wpAny_Call_Name_kw (ld_glob I hg T.gC ?_)
  refine PySem.W.callWith_KW0 (h₀ := X.base) I.ok.mod.kin T.kC hall ?_ hpl
  refine thn (hkw.run pos pins s σ H _ I h) fun us s1 ⟨vs, H1, I1, r1, v, ev, q1⟩ => ?_
  subst ev
  refine ⟨I1.kIn, ?_⟩
  rw [hks]
  cases r1 with
  | cons rv rn =>
    cases rn
    have hlim := I1.nolimit
    obtain ⟨hp, g, dr, tk, os⟩ := s1
    exact wpAny_call (PySem.BadLineX.low_madeK_BadLine T I1.kIn hlim (by have := hr.dp; omega) fun h' tk' e d M => lay_BadLine I1 rv M q1)
theorem pe_get_BadLine {e : Expr} {te : TE} {pos : Pos} (T : PySem.BadLineX.BadLineTxt X.K X.mg C fI) (he : PE X e te) (hb : attributeBase e "number" X.env (eval e X.env) = eval e X.env := by rfl) : PE X (.Attribute e "number" pos) (tGet C "number" te) := by
  refine ⟨fun pins s σ H Q I h => ?_⟩
  refine attr_of hb (thn (he.run pins s σ H _ I h) fun u s1 ⟨x, H1, I1, rx, a, dd, v, ex, ha, ea, q⟩ => ?_)
  subst ex
  cases rx
  obtain ⟨⟨oe, vs, ho, hz, hd⟩, _, _⟩ : ObjOk X.prog X.w H1 s1.heap a (ExD C a (some dd)) := I1.hok a _ ha
  obtain ⟨mA, hns, hr⟩ : ObjOk X.prog X.w H1 s1.heap dd (.xd [(("number" : Str), v)]) := I1.hok dd _ ea
  obtain ⟨od, hod, hl⟩ := lookIn_ns hns
  have l : List.lookup ("number" : Str) [(("number" : Str), v)] = some v := by simp [List.lookup]
  obtain ⟨u, hu, ru⟩ := RelO.some_of (v := v) (o := mA "number") (by rw [← l]; exact hr "number")
  have J : PySem.W.InstAt s1.heap a oe C (some od) := ⟨ho, hz.1, by unfold PySem.W.notCls; rw [hd] <;> rfl, by rw [hz.2]; exact hod⟩
  exact HandSPX.exc_get I1.kIn J T.ga T.gg T.exC (PySem.W.findObj_own T.hdC T.noN rfl (by rw [hl, hu])) (handed_of ru) ⟨v, H1, I1.tok _, ru, q⟩
end
end DL


namespace PySem
namespace BadTextX
open PySem.W PySem.Calls PyProof.Rows PySem.HandSPX
/-! ### the text of __init__ -/
def iA (p1 p2 : Pos) : Arguments := { posonlyargs := [], args := [{ arg := "self", annotation := none, pos := p1 }, { arg := "piece", annotation := none, pos := p2 }], vararg := none, kwonlyargs := [], kw_defaults := [], kwarg := none, defaults := [] }
def iB (q1 q2 q3 q4 : Pos) : List Stmt := [.Assign [.Attribute (.Name "self" q1) "piece" q2] (.Name "piece" q3) q4]
def iS : Scope := { kind := .function, names := [(PySem.Str.ofString "self", .local), (PySem.Str.ofString "piece", .local)], isGenerator := false, isCoroutine := false, more := [] }
/-- what the written part says of Low, at C, and of its __init__, at fI -/
structure BadTextTxt (K : Frag) (mg : Str → Option Value) (C fI : Addr) : Prop where
  gC : mg "BadText" = some (.ref C)
  cls : ∃ nm q N bs bm sn sub ab col dd k0 k1 k2 k3 k5, K.lookup C = some (excClassObj nm q C N bs bm true sn sub ab col dd k0 k1 k2 k3 k5 "ValueError.__new__") ∧ refsVE bm = true
  sa : findIn K (.ref C) "__setattr__" = some (some (.builtin "object.__setattr__"))
  ga : findIn K (.ref C) "__getattribute__" = some (some (.builtin "BaseException.__getattribute__"))
  gg : findIn K (.ref C) "__getattr__" = some none
  noN : findIn K (.ref C) "piece" = some none
  iC : findIn K (.ref C) "__init__" = some (some (.ref fI))
  tC : typeIn K (.ref fI) = some (.type "function")
  kC : keepIn K (.ref C) = true
  exC : subIn K (.ref C) (.type "BaseException") = some true
  tyC : typeIn K (.ref C) = some (.type "type")
  hdC : hasDictIn K C = true
  te : exmOne K (.ref C) (.ref C) = some true
  fn : ∃ (oc : Value) (od : Option Addr) (doc pm : Value) (an : Option Addr) (cdv ct : Value) (osl : Array (Option Value)) (p1 p2 q1 q2 q3 q4 : Pos),
    K.lookup fI = some ⟨oc, od, .func (fnOf "__init__" "BadText.__init__" (iA p1 p2) (iB q1 q2 q3 q4) iS .none .none doc pm an cdv ct), osl⟩ ∧ codeIn K cdv "BadText.__init__" = true
theorem one_size (v : Value) : [v].length ≤ sizeLine := by
  rw [sizeLine_eq]
  exact (by decide : 1 ≤ 16777216)
theorem kept_but {K : Frag} {h h' : Heap} {x : Addr} (X : K.In h) (hx : K.lookup x = none) (k : ∀ b o, b ≠ x → h.get? b = some o → h'.get? b = some o) : K.In h' := fun a o e =>
  k a o (fun z => by rw [z, hx] at e; cases e) (X a o e)
theorem ldC {M : Model} {s : Shared} {name : Str} {scope : Scope} {L a : Addr} {cd : Value} {m : Str → Option Value} {x : Str} {pos : Pos} {v : Value} {Q : Value → Shared → Prop} {A : Around} {E : Value → Shared → Prop} (hn : s.heap.Ns L m) (hv : m x = some v) (h : Q v s)
    (hk : scope.kind = .function := by rfl) (hl : (envOfC name scope L a cd).kindOf x = some .local := by rfl) (hd : (x == ("__debug__" : Str)) = false := by decide) :
    wpAny M A (eval (.Name x pos) (envOfC name scope L a cd)) Q E s := wpAny_Name (wpAny_loadName_local hk hl hn hv h) hd
/-- what __init__ leaves of a fresh exception at x -/
structure InitEnd (h h' : Heap) (x C dx t1 : Addr) (v : Value) : Prop where
  keep : ∀ b o, b ≠ x → h.get? b = some o → h'.get? b = some o
  obj : h'.get? x = some { cls := .ref C, dict := some dx, data := .fields #[.ref t1, .none, .none, .none, .bool false, .none] }
  dbig : h.objs.size ≤ dx
  dne : dx ≠ x
  ns : h'.Ns1 dx (fun y => if y = "piece" then some v else none)
/-- a made Low -/
structure OwnMade (h h' : Heap) (e C d : Addr) (v : Value) : Prop where
  keep : ∀ b o, h.get? b = some o → h'.get? b = some o
  new : h.objs.size ≤ e
  obj : ∃ oe vs, h'.get? e = some oe ∧ oe.cls = .ref C ∧ oe.dict = some d ∧ oe.data = .fields vs ∧ vs[1]? = some .none
  dbig : h.objs.size ≤ d
  dne : d ≠ e
  ns : h'.Ns1 d (fun y => if y = "piece" then some v else none)
section
variable {prog : Program} {w : World} {A : Around} {E : Value → Shared → Prop} {R : Result → Shared → Prop} {s : Shared} {K : Frag} {mg : Str → Option Value} {C fI : Addr}
theorem low_init_BadText (T : BadTextTxt K mg C fI) {x t0 : Addr} {v : Value} (X : K.In s.heap) (hlim : s.heap.NoLimit) (hx : s.heap.get? x = some (excO C t0)) (hnx : K.lookup x = none) (hroom : A.depth < recursionLimit)
    (hq : ∀ h' tk dx, InitEnd s.heap h' x C dx t0 v → R (.ok (.ret .none)) { s with heap := h', toks := tk }) :
    codeAny (model prog w) A (.call (.ref fI) ⟨[.ref x, v], []⟩) R s := by
  obtain ⟨oc, od, doc, pm, an, cdv, ct, osl, p1, p2, q1, q2, q3, q4, ho, hcd⟩ := T.fn
  obtain ⟨nm, q, N, bs, bm, sn, sub, ab, col, dd, k0, k1, k2, k3, k5, hC, hbm⟩ := T.cls
  have hcl : clsIn K C = some { name := nm, bases := bs, mro := .ref C :: bm, ns := N, qualname := q, hasDict := true, slotNames := sn, subclasses := sub, abstract := ab, collection := col, hasDel := false } := by unfold clsIn; rw [hC] <;> rfl
  refine Att.call_fn (binds := [("self", .ref x), ("piece", v)]) X hlim ho hcd hroom (BindsTo.of_eq (by first | rfl | with_unfolding_all rfl)) (by first | rfl | decide | with_unfolding_all rfl) (fun s₁ IC => ?_) rfl rfl rfl
  obtain ⟨h₁, tk₁, rfl⟩ := IC.toInCall.same
  have k : ∀ b o, s.heap.get? b = some o → h₁.get? b = some o := IC.toInCall.keep
  have hn := IC.toInCall.ns
  have hxL : s.heap.objs.size ≠ x := Nat.ne_of_gt (Heap.lt_size hx)
  have X₁ : K.In h₁ := X.keeps k
  have hx₁ := k _ _ hx
  -- self.by = by
  show wpAny _ _ (execs _ _) _ _ _
  refine wpAny_execs_cons (plainObj_wpAny_Assign_Attribute ?_)
  refine ldC (v := v) hn (by first | rfl | with_unfolding_all rfl | kernel_rfl) (ldC (v := .ref x) hn (by first | rfl | with_unfolding_all rfl | kernel_rfl) ?_)
  refine set_plain X₁ (ox := excO C t0) (od := none) ⟨hx₁, rfl, rfl, trivial⟩ T.sa ?_
  refine exc_osa X₁ hx₁ hcl (show refsVE (.ref C :: bm) = true from hbm) rfl T.noN (fun h₃ tk₃ dx k₃ dn dne hx₃ hn₃ => ?_)
  show wpAny _ _ (execs _ _) _ _ _
  have z : s.heap.objs.size < h₁.objs.size := hn.lt
  exact wpAny_execs_nil (hq h₃ tk₃ dx ⟨fun b o hb e => k₃ b o hb (k b o e), hx₃, Nat.le_of_lt (Nat.lt_of_lt_of_le z dn), dne, hn₃⟩)
theorem low_made_BadText (T : BadTextTxt K mg C fI) {v : Value} (X : K.In s.heap) (hlim : s.heap.NoLimit) (hroom : A.depth + 1 < recursionLimit)
    (hq : ∀ h' tk e d, OwnMade s.heap h' e C d v → R (.ok (.ret (.ref e))) { s with heap := h', toks := tk }) :
    codeAny (model prog w) A (.call (.ref C) ⟨[v], []⟩) R s := by
  obtain ⟨nm, q, N, bs, bm, sn, sub, ab, col, dd, k0, k1, k2, k3, k5, hC, hbm⟩ := T.cls
  obtain ⟨hp, g, dr, tk, os⟩ := s
  have k : ∀ b o, hp.get? b = some o → ((hp.push (kdv_tup [v])).push (excO C hp.objs.size)).get? b = some o := fun b o e => Heap.get?_push_of_some _ (Heap.get?_push_of_some _ e)
  have hget : ((hp.push (kdv_tup [v])).push (excO C hp.objs.size)).get? (hp.objs.size + 1) = some (excO C hp.objs.size) := by heap_get
  have hnx : K.lookup (hp.objs.size + 1) = none := by
    cases e : K.lookup (hp.objs.size + 1) with
    | none => rfl
    | some o =>
      have z : hp.get? (hp.objs.size + 1) = some o := X _ _ e
      exact absurd (Nat.lt_of_succ_lt (Heap.lt_size z)) (Nat.lt_irrefl _)
  refine call_own F.excBase_ValueError (fun X => refsVE_contains X bm hbm) (X _ _ hC) (looks_findIn X T.iC) (fun self => bind_fn X self T.tC) (one_size v) ?_
  refine low_init_BadText (s := ⟨(hp.push (kdv_tup [v])).push (excO C hp.objs.size), g, dr, tk, os⟩) T (X.keeps k) (hlim.keeps k) hget hnx ?_ fun h' tk' dx ⟨k', hx, dn, dne, hns⟩ => ?_
  · show A.depth + 1 < recursionLimit
    exact hroom
  · have old : ∀ b o, hp.get? b = some o → h'.get? b = some o := fun b o e => k' b o (Nat.ne_of_lt (Nat.lt_succ_of_lt (Heap.lt_size e))) (k b o e)
    have z : hp.objs.size + 1 + 1 ≤ dx := by
      first
        | (simpa only [Heap.size_push] using dn)
        | exact dn
        | (have q := dn; rw [Heap.size_push, Heap.size_push] at q; exact q)
    exact ⟨rfl, hq h' tk' (hp.objs.size + 1) dx ⟨old, Nat.le_succ _, ⟨_, _, hx, rfl, rfl, rfl, rfl⟩, Nat.le_trans (Nat.le_trans (Nat.le_succ _) (Nat.le_succ _)) z, dne, hns⟩⟩
theorem low_initK_BadText (T : BadTextTxt K mg C fI) {x t0 : Addr} {v : Value} (X : K.In s.heap) (hlim : s.heap.NoLimit) (hx : s.heap.get? x = some (excO C t0)) (hnx : K.lookup x = none) (hroom : A.depth < recursionLimit)
    (hq : ∀ h' tk dx, InitEnd s.heap h' x C dx t0 v → R (.ok (.ret .none)) { s with heap := h', toks := tk }) :
    codeAny (model prog w) A (.call (.ref fI) ⟨[.ref x], [("piece", v)]⟩) R s := by
  obtain ⟨oc, od, doc, pm, an, cdv, ct, osl, p1, p2, q1, q2, q3, q4, ho, hcd⟩ := T.fn
  obtain ⟨nm, q, N, bs, bm, sn, sub, ab, col, dd, k0, k1, k2, k3, k5, hC, hbm⟩ := T.cls
  have hcl : clsIn K C = some { name := nm, bases := bs, mro := .ref C :: bm, ns := N, qualname := q, hasDict := true, slotNames := sn, subclasses := sub, abstract := ab, collection := col, hasDel := false } := by unfold clsIn; rw [hC] <;> rfl
  refine Att.call_fn (binds := [("self", .ref x), ("piece", v)]) X hlim ho hcd hroom (BindsTo.of_eq (by first | rfl | with_unfolding_all rfl)) (by first | rfl | decide | with_unfolding_all rfl) (fun s₁ IC => ?_) rfl rfl rfl
  obtain ⟨h₁, tk₁, rfl⟩ := IC.toInCall.same
  have k : ∀ b o, s.heap.get? b = some o → h₁.get? b = some o := IC.toInCall.keep
  have hn := IC.toInCall.ns
  have hxL : s.heap.objs.size ≠ x := Nat.ne_of_gt (Heap.lt_size hx)
  have X₁ : K.In h₁ := X.keeps k
  have hx₁ := k _ _ hx
  -- self.by = by
  show wpAny _ _ (execs _ _) _ _ _
  refine wpAny_execs_cons (plainObj_wpAny_Assign_Attribute ?_)
  refine ldC (v := v) hn (by first | rfl | with_unfolding_all rfl | kernel_rfl) (ldC (v := .ref x) hn (by first | rfl | with_unfolding_all rfl | kernel_rfl) ?_)
  refine set_plain X₁ (ox := excO C t0) (od := none) ⟨hx₁, rfl, rfl, trivial⟩ T.sa ?_
  refine exc_osa X₁ hx₁ hcl (show refsVE (.ref C :: bm) = true from hbm) rfl T.noN (fun h₃ tk₃ dx k₃ dn dne hx₃ hn₃ => ?_)
  show wpAny _ _ (execs _ _) _ _ _
  have z : s.heap.objs.size < h₁.objs.size := hn.lt
  exact wpAny_execs_nil (hq h₃ tk₃ dx ⟨fun b o hb e => k₃ b o hb (k b o e), hx₃, Nat.le_of_lt (Nat.lt_of_lt_of_le z dn), dne, hn₃⟩)
theorem low_madeK_BadText (T : BadTextTxt K mg C fI) {v : Value} (X : K.In s.heap) (hlim : s.heap.NoLimit) (hroom : A.depth + 1 < recursionLimit)
    (hq : ∀ h' tk e d, OwnMade s.heap h' e C d v → R (.ok (.ret (.ref e))) { s with heap := h', toks := tk }) :
    codeAny (model prog w) A (.call (.ref C) ⟨[], [("piece", v)]⟩) R s := by
  obtain ⟨nm, q, N, bs, bm, sn, sub, ab, col, dd, k0, k1, k2, k3, k5, hC, hbm⟩ := T.cls
  obtain ⟨hp, g, dr, tk, os⟩ := s
  have k : ∀ b o, hp.get? b = some o → ((hp.push (kdv_tup [])).push (excO C hp.objs.size)).get? b = some o := fun b o e => Heap.get?_push_of_some _ (Heap.get?_push_of_some _ e)
  have hget : ((hp.push (kdv_tup [])).push (excO C hp.objs.size)).get? (hp.objs.size + 1) = some (excO C hp.objs.size) := by heap_get
  have hnx : K.lookup (hp.objs.size + 1) = none := by
    cases e : K.lookup (hp.objs.size + 1) with
    | none => rfl
    | some o =>
      have z : hp.get? (hp.objs.size + 1) = some o := X _ _ e
      exact absurd (Nat.lt_of_succ_lt (Heap.lt_size z)) (Nat.lt_irrefl _)
  refine PySem.KwMade.call_kw F.excBase_ValueError (fun X => refsVE_contains X bm hbm) (X _ _ hC) (looks_findIn X T.iC) (fun self => bind_fn X self T.tC) ?_
  refine low_initK_BadText (s := ⟨(hp.push (kdv_tup [])).push (excO C hp.objs.size), g, dr, tk, os⟩) T (X.keeps k) (hlim.keeps k) hget hnx ?_ fun h' tk' dx ⟨k', hx, dn, dne, hns⟩ => ?_
  · show A.depth + 1 < recursionLimit
    exact hroom
  · have old : ∀ b o, hp.get? b = some o → h'.get? b = some o := fun b o e => k' b o (Nat.ne_of_lt (Nat.lt_succ_of_lt (Heap.lt_size e))) (k b o e)
    have z : hp.objs.size + 1 + 1 ≤ dx := by
      first
        | (simpa only [Heap.size_push] using dn)
        | exact dn
        | (have q := dn; rw [Heap.size_push, Heap.size_push] at q; exact q)
    exact ⟨rfl, hq h' tk' (hp.objs.size + 1) dx ⟨old, Nat.le_succ _, ⟨_, _, hx, rfl, rfl, rfl, rfl⟩, Nat.le_trans (Nat.le_trans (Nat.le_succ _) (Nat.le_succ _)) z, dne, hns⟩⟩
end
end BadTextX
end PySem

namespace L2
open PySem PySem.Spec PyProof.Rows
theorem relO_low_BadText {v : V} {v' : Value} (r : RelV v v') (f : Str) : RelO (List.lookup f [(("piece" : Str), v)]) (if f = "piece" then some v' else none) := by
  by_cases hw : f = "piece"
  · subst hw
    rw [if_pos rfl]
    have q : List.lookup ("piece" : Str) [(("piece" : Str), v)] = some v := by simp [List.lookup]
    rw [q]
    exact r
  · rw [if_neg hw]
    have qw : (f == ("piece" : Str)) = false := by simpa using hw
    have q2 : List.lookup f [(("piece" : Str), v)] = none := by simp [List.lookup, qw]
    rw [q2]
    trivial

end L2
namespace DL
open PySem PySem.Spec PyProof.Rows L2
section
variable {X : Cx} {C fI : Addr}
theorem lay_BadText {pins : List (Addr × Obj)} {σ : L2.St} {H1 : Hp} {Q : VK} {hp h' : Heap} {g : Array GenState} {dr : Drawn} {tk tk' : Nat} {os : OsState} {e d : Addr} {v : V} {v' : Value} (I1 : Inv X pins σ H1 ⟨hp, g, dr, tk, os⟩) (rv : RelV v v') (M : PySem.BadTextX.OwnMade hp h' e C d v')
    (q1 : ∀ a d, H1 a = none → H1 d = none → a ≠ d → Q (.ref a) (upd (upd H1 d (.xd [(("piece" : Str), v)])) a (ExD C a (some d)))) : EP X pins σ Q (.ref e) ⟨h', g, dr, tk', os⟩ := by
  obtain ⟨oe, fv, hoe, hc, hd, hdat, _⟩ := M.obj
  have hns := M.ns
  obtain ⟨G', g1, g2⟩ := restrict h' fun b => decide (b ≠ e)
  have gk : ∀ b, b ≠ e → G'.get? b = h'.get? b := fun b hb => g1 b (decide_eq_true hb)
  have ge : G'.get? e = none := g2 e (by simp)
  have old : ∀ b o, hp.get? b = some o → G'.get? b = some o := fun b o q =>
    (gk b (Nat.ne_of_lt (Nat.lt_of_lt_of_le (Heap.lt_size q) M.new))).trans (M.keep b o q)
  have ob : ObjOk X.prog X.w (upd H1 d (.xd [(("piece" : Str), v)])) G' d (.xd [(("piece" : Str), v)]) := ⟨_, hns.at (fun o q => (gk d M.dne).trans q), fun f => relO_low_BadText rv f⟩
  have J : Inv X pins σ (upd H1 d (.xd [(("piece" : Str), v)])) ⟨G', g, dr, tk', os⟩ := I1.laid (t' := tk') old M.dbig ob
  have he : H1 e = none := I1.hok.fresh M.new
  have hn : upd H1 d (.xd [(("piece" : Str), v)]) e = none := by
    rw [upd_ne (Ne.symm M.dne)]
    exact he
  have kp : ∀ b u, G'.get? b = some u → h'.get? b = some u := fun b u q => by
    by_cases hb : b = e
    · rw [hb, ge] at q
      cases q
    · exact (gk b hb).symm.trans q
  exact ⟨.ref e, _, J.laidN (h' := h') (t' := tk') kp ge hn (exD_ok hoe ⟨hc, hd⟩ hdat), rfl, q1 e d he (I1.hok.fresh M.dbig) (Ne.symm M.dne)⟩
theorem pe_val_BadText {a : Expr} {p pos : Pos} {k : Nat} {ta : TA} (T : PySem.BadTextX.BadTextTxt X.K X.mg C fI) (hr : Room k X.A) (hg : Gl X "BadText") (ha : PA X [a] ta)
    (he : starEach (a :: []) X.env = (false, eval a X.env) :: starEach [] X.env := by rfl) (hpl : (backTo pos (starEach [] X.env)).any (·.1) = false := by rfl) : PE X (.Call (.Name "BadText" p) [a] [] pos) (tVal C "piece" ta) := by
  refine ⟨fun pins s σ H Q I h => ?_⟩
  refine wpAny_Call_Name_kw (ld_glob I hg T.gC ?_)
  refine PySem.W.callWith_K (h₀ := X.base) I.ok.mod.kin T.kC (thn (ha.run pos pins s σ H _ I h) fun us s1 ⟨vs, H1, I1, r1, v, ev, q1⟩ => ?_) he hpl
  subst ev
  refine ⟨I1.kIn, ?_⟩
  cases r1 with
  | cons rv rn =>
    cases rn
    have hlim := I1.nolimit
    obtain ⟨hp, g, dr, tk, os⟩ := s1
    exact wpAny_call (PySem.BadTextX.low_made_BadText T I1.kIn hlim (by have := hr.dp; omega) fun h' tk' e d M => lay_BadText I1 rv M q1)
theorem pe_valK_BadText {p pos : Pos} {k : Nat} {kws : List Keyword} {tk : TA} (T : PySem.BadTextX.BadTextTxt X.K X.mg C fI) (hr : Room k X.A) (hg : Gl X "BadText") (hkw : PK X kws tk)
    (hall : (backToKw pos (keywordEach kws X.env)).all (·.1.isSome) = true := by rfl) (hks : (backToKw pos (keywordEach kws X.env)).filterMap (·.1) = [("piece" : Str)] := by rfl)
    (hpl : ((backTo pos (starEach [] X.env)).any (·.1) || (backToKw pos (keywordEach kws X.env)).any (·.1.isNone)) = false := by rfl) : PE X (.Call (.Name "BadText" p) [] kws pos) (tVal C "piece" tk) := by
  refine ⟨fun pins s σ H Q I h => ?_⟩
  refine wpAny_Call_Name_kw (ld_glob I hg T.gC ?_)
  refine PySem.W.callWith_KW0 (h₀ := X.base) I.ok.mod.kin T.kC hall ?_ hpl
  refine thn (hkw.run pos pins s σ H _ I h) fun us s1 ⟨vs, H1, I1, r1, v, ev, q1⟩ => ?_
  subst ev
  refine ⟨I1.kIn, ?_⟩
  rw [hks]
  cases r1 with
  | cons rv rn =>
    cases rn
    have hlim := I1.nolimit
    obtain ⟨hp, g, dr, tk, os⟩ := s1
    exact wpAny_call (PySem.BadTextX.low_madeK_BadText T I1.kIn hlim (by have := hr.dp; omega) fun h' tk' e d M => lay_BadText I1 rv M q1)
theorem pe_get_BadText {e : Expr} {te : TE} {pos : Pos} (T : PySem.BadTextX.BadTextTxt X.K X.mg C fI) (he : PE X e te) (hb : attributeBase e "piece" X.env (eval e X.env) = eval e X.env := by rfl) : PE X (.Attribute e "piece" pos) (tGet C "piece" te) := by
  refine ⟨fun pins s σ H Q I h => ?_⟩
  refine attr_of hb (thn (he.run pins s σ H _ I h) fun u s1 ⟨x, H1, I1, rx, a, dd, v, ex, ha, ea, q⟩ => ?_)
  subst ex
  cases rx
  obtain ⟨⟨oe, vs, ho, hz, hd⟩, _, _⟩ : ObjOk X.prog X.w H1 s1.heap a (ExD C a (some dd)) := I1.hok a _ ha
  obtain ⟨mA, hns, hr⟩ : ObjOk X.prog X.w H1 s1.heap dd (.xd [(("piece" : Str), v)]) := I1.hok dd _ ea
  obtain ⟨od, hod, hl⟩ := lookIn_ns hns
  have l : List.lookup ("piece" : Str) [(("piece" : Str), v)] = some v := by simp [List.lookup]
  obtain ⟨u, hu, ru⟩ := RelO.some_of (v := v) (o := mA "piece") (by rw [← l]; exact hr "piece")
  have J : PySem.W.InstAt s1.heap a oe C (some od) := ⟨ho, hz.1, by unfold PySem.W.notCls; rw [hd] <;> rfl, by rw [hz.2]; exact hod⟩
  exact HandSPX.exc_get I1.kIn J T.ga T.gg T.exC (PySem.W.findObj_own T.hdC T.noN rfl (by rw [hl, hu])) (handed_of ru) ⟨v, H1, I1.tok _, ru, q⟩
end
end DL


namespace PySem
namespace KnownX
open PySem.W PySem.Calls PyProof.Rows PySem.HandSPX
/-! ### the text of __init__ -/
def iA (p1 p2 : Pos) : Arguments := { posonlyargs := [], args := [{ arg := "self", annotation := none, pos := p1 }, { arg := "name", annotation := none, pos := p2 }], vararg := none, kwonlyargs := [], kw_defaults := [], kwarg := none, defaults := [] }
def iB (q1 q2 q3 q4 : Pos) : List Stmt := [.Assign [.Attribute (.Name "self" q1) "name" q2] (.Name "name" q3) q4]
def iS : Scope := { kind := .function, names := [(PySem.Str.ofString "self", .local), (PySem.Str.ofString "name", .local)], isGenerator := false, isCoroutine := false, more := [] }
/-- what the written part says of Low, at C, and of its __init__, at fI -/
structure KnownTxt (K : Frag) (mg : Str → Option Value) (C fI : Addr) : Prop where
  gC : mg "Known" = some (.ref C)
  cls : ∃ nm q N bs bm sn sub ab col dd k0 k1 k2 k3 k5, K.lookup C = some (excClassObj nm q C N bs bm true sn sub ab col dd k0 k1 k2 k3 k5 "ValueError.__new__") ∧ refsVE bm = true
  sa : findIn K (.ref C) "__setattr__" = some (some (.builtin "object.__setattr__"))
  ga : findIn K (.ref C) "__getattribute__" = some (some (.builtin "BaseException.__getattribute__"))
  gg : findIn K (.ref C) "__getattr__" = some none
  noN : findIn K (.ref C) "name" = some none
  iC : findIn K (.ref C) "__init__" = some (some (.ref fI))
  tC : typeIn K (.ref fI) = some (.type "function")
  kC : keepIn K (.ref C) = true
  exC : subIn K (.ref C) (.type "BaseException") = some true
  tyC : typeIn K (.ref C) = some (.type "type")
  hdC : hasDictIn K C = true
  te : exmOne K (.ref C) (.ref C) = some true
  fn : ∃ (oc : Value) (od : Option Addr) (doc pm : Value) (an : Option Addr) (cdv ct : Value) (osl : Array (Option Value)) (p1 p2 q1 q2 q3 q4 : Pos),
    K.lookup fI = some ⟨oc, od, .func (fnOf "__init__" "Known.__init__" (iA p1 p2) (iB q1 q2 q3 q4) iS .none .none doc pm an cdv ct), osl⟩ ∧ codeIn K cdv "Known.__init__" = true
theorem one_size (v : Value) : [v].length ≤ sizeLine := by
  rw [sizeLine_eq]
  exact (by decide : 1 ≤ 16777216)
theorem kept_but {K : Frag} {h h' : Heap} {x : Addr} (X : K.In h) (hx : K.lookup x = none) (k : ∀ b o, b ≠ x → h.get? b = some o → h'.get? b = some o) : K.In h' := fun a o e =>
  k a o (fun z => by rw [z, hx] at e; cases e) (X a o e)
theorem ldC {M : Model} {s : Shared} {name : Str} {scope : Scope} {L a : Addr} {cd : Value} {m : Str → Option Value} {x : Str} {pos : Pos} {v : Value} {Q : Value → Shared → Prop} {A : Around} {E : Value → Shared → Prop} (hn : s.heap.Ns L m) (hv : m x = some v) (h : Q v s)
    (hk : scope.kind = .function := by rfl) (hl : (envOfC name scope L a cd).kindOf x = some .local := by rfl) (hd : (x == ("__debug__" : Str)) = false := by decide) :
    wpAny M A (eval (.Name x pos) (envOfC name scope L a cd)) Q E s := wpAny_Name (wpAny_loadName_local hk hl hn hv h) hd
/-- what __init__ leaves of a fresh exception at x -/
structure InitEnd (h h' : Heap) (x C dx t1 : Addr) (v : Value) : Prop where
  keep : ∀ b o, b ≠ x → h.get? b = some o → h'.get? b = some o
  obj : h'.get? x = some { cls := .ref C, dict := some dx, data := .fields #[.ref t1, .none, .none, .none, .bool false, .none] }
  dbig : h.objs.size ≤ dx
  dne : dx ≠ x
  ns : h'.Ns1 dx (fun y => if y = "name" then some v else none)
/-- a made Low -/
structure OwnMade (h h' : Heap) (e C d : Addr) (v : Value) : Prop where
  keep : ∀ b o, h.get? b = some o → h'.get? b = some o
  new : h.objs.size ≤ e
  obj : ∃ oe vs, h'.get? e = some oe ∧ oe.cls = .ref C ∧ oe.dict = some d ∧ oe.data = .fields vs ∧ vs[1]? = some .none
  dbig : h.objs.size ≤ d
  dne : d ≠ e
  ns : h'.Ns1 d (fun y => if y = "name" then some v else none)
section
variable {prog : Program} {w : World} {A : Around} {E : Value → Shared → Prop} {R : Result → Shared → Prop} {s : Shared} {K : Frag} {mg : Str → Option Value} {C fI : Addr}
theorem low_init_Known (T : KnownTxt K mg C fI) {x t0 : Addr} {v : Value} (X : K.In s.heap) (hlim : s.heap.NoLimit) (hx : s.heap.get? x = some (excO C t0)) (hnx : K.lookup x = none) (hroom : A.depth < recursionLimit)
    (hq : ∀ h' tk dx, InitEnd s.heap h' x C dx t0 v → R (.ok (.ret .none)) { s with heap := h', toks := tk }) :
    codeAny (model prog w) A (.call (.ref fI) ⟨[.ref x, v], []⟩) R s := by
  obtain ⟨oc, od, doc, pm, an, cdv, ct, osl, p1, p2, q1, q2, q3, q4, ho, hcd⟩ := T.fn
  obtain ⟨nm, q, N, bs, bm, sn, sub, ab, col, dd, k0, k1, k2, k3, k5, hC, hbm⟩ := T.cls
  have hcl : clsIn K C = some { name := nm, bases := bs, mro := .ref C :: bm, ns := N, qualname := q, hasDict := true, slotNames := sn, subclasses := sub, abstract := ab, collection := col, hasDel := false } := by unfold clsIn; rw [hC] <;> rfl
  refine Att.call_fn (binds := [("self", .ref x), ("name", v)]) X hlim ho hcd hroom (BindsTo.of_eq (by first | rfl | with_unfolding_all rfl)) (by first | rfl | decide | with_unfolding_all rfl) (fun s₁ IC => ?_) rfl rfl rfl
  obtain ⟨h₁, tk₁, rfl⟩ := IC.toInCall.same
  have k : ∀ b o, s.heap.get? b = some o → h₁.get? b = some o := IC.toInCall.keep
  have hn := IC.toInCall.ns
  have hxL : s.heap.objs.size ≠ x := Nat.ne_of_gt (Heap.lt_size hx)
  have X₁ : K.In h₁ := X.keeps k
  have hx₁ := k _ _ hx
  -- self.by = by
  show wpAny _ _ (execs _ _) _ _ _
  refine wpAny_execs_cons (plainObj_wpAny_Assign_Attribute ?_)
  refine ldC (v := v) hn (by first | rfl | with_unfolding_all rfl | kernel_rfl) (ldC (v := .ref x) hn (by first | rfl | with_unfolding_all rfl | kernel_rfl) ?_)
  refine set_plain X₁ (ox := excO C t0) (od := none) ⟨hx₁, rfl, rfl, trivial⟩ T.sa ?_
  refine exc_osa X₁ hx₁ hcl (show refsVE (.ref C :: bm) = true from hbm) rfl T.noN (fun h₃ tk₃ dx k₃ dn dne hx₃ hn₃ => ?_)
  show wpAny _ _ (execs _ _) _ _ _
  have z : s.heap.objs.size < h₁.objs.size := hn.lt
  exact wpAny_execs_nil (hq h₃ tk₃ dx ⟨fun b o hb e => k₃ b o hb (k b o e), hx₃, Nat.le_of_lt (Nat.lt_of_lt_of_le z dn), dne, hn₃⟩)
theorem low_made_Known (T : KnownTxt K mg C fI) {v : Value} (X : K.In s.heap) (hlim : s.heap.NoLimit) (hroom : A.depth + 1 < recursionLimit)
    (hq : ∀ h' tk e d, OwnMade s.heap h' e C d v → R (.ok (.ret (.ref e))) { s with heap := h', toks := tk }) :
    codeAny (model prog w) A (.call (.ref C) ⟨[v], []⟩) R s := by
  obtain ⟨nm, q, N, bs, bm, sn, sub, ab, col, dd, k0, k1, k2, k3, k5, hC, hbm⟩ := T.cls
  obtain ⟨hp, g, dr, tk, os⟩ := s
  have k : ∀ b o, hp.get? b = some o → ((hp.push (kdv_tup [v])).push (excO C hp.objs.size)).get? b = some o := fun b o e => Heap.get?_push_of_some _ (Heap.get?_push_of_some _ e)
  have hget : ((hp.push (kdv_tup [v])).push (excO C hp.objs.size)).get? (hp.objs.size + 1) = some (excO C hp.objs.size) := by heap_get
  have hnx : K.lookup (hp.objs.size + 1) = none := by
    cases e : K.lookup (hp.objs.size + 1) with
    | none => rfl
    | some o =>
      have z : hp.get? (hp.objs.size + 1) = some o := X _ _ e
      exact absurd (Nat.lt_of_succ_lt (Heap.lt_size z)) (Nat.lt_irrefl _)
  refine call_own F.excBase_ValueError (fun X => refsVE_contains X bm hbm) (X _ _ hC) (looks_findIn X T.iC) (fun self => bind_fn X self T.tC) (one_size v) ?_
  refine low_init_Known (s := ⟨(hp.push (kdv_tup [v])).push (excO C hp.objs.size), g, dr, tk, os⟩) T (X.keeps k) (hlim.keeps k) hget hnx ?_ fun h' tk' dx ⟨k', hx, dn, dne, hns⟩ => ?_
  · show A.depth + 1 < recursionLimit
    exact hroom
  · have old : ∀ b o, hp.get? b = some o → h'.get? b = some o := fun b o e => k' b o (Nat.ne_of_lt (Nat.lt_succ_of_lt (Heap.lt_size e))) (k b o e)
    have z : hp.objs.size + 1 + 1 ≤ dx := by
      first
        | (simpa only [Heap.size_push] using dn)
        | exact dn
        | (have q := dn; rw [Heap.size_push, Heap.size_push] at q; exact q)
    exact ⟨rfl, hq h' tk' (hp.objs.size + 1) dx ⟨old, Nat.le_succ _, ⟨_, _, hx, rfl, rfl, rfl, rfl⟩, Nat.le_trans (Nat.le_trans (Nat.le_succ _) (Nat.le_succ _)) z, dne, hns⟩⟩
theorem low_initK_Known (T : KnownTxt K mg C fI) {x t0 : Addr} {v : Value} (X : K.In s.heap) (hlim : s.heap.NoLimit) (hx : s.heap.get? x = some (excO C t0)) (hnx : K.lookup x = none) (hroom : A.depth < recursionLimit)
    (hq : ∀ h' tk dx, InitEnd s.heap h' x C dx t0 v → R (.ok (.ret .none)) { s with heap := h', toks := tk }) :
    codeAny (model prog w) A (.call (.ref fI) ⟨[.ref x], [("name", v)]⟩) R s := by
  obtain ⟨oc, od, doc, pm, an, cdv, ct, osl, p1, p2, q1, q2, q3, q4, ho, hcd⟩ := T.fn
  obtain ⟨nm, q, N, bs, bm, sn, sub, ab, col, dd, k0, k1, k2, k3, k5, hC, hbm⟩ := T.cls
  have hcl : clsIn K C = some { name := nm, bases := bs, mro := .ref C :: bm, ns := N, qualname := q, hasDict := true, slotNames := sn, subclasses := sub, abstract := ab, collection := col, hasDel := false } := by unfold clsIn; rw [hC] <;> rfl
  refine Att.call_fn (binds := [("self", .ref x), ("name", v)]) X hlim ho hcd hroom (BindsTo.of_eq (by first | rfl | with_unfolding_all rfl)) (by first | rfl | decide | with_unfolding_all rfl) (fun s₁ IC => ?_) rfl rfl rfl
  obtain ⟨h₁, tk₁, rfl⟩ := IC.toInCall.same
  have k : ∀ b o, s.heap.get? b = some o → h₁.get? b = some o := IC.toInCall.keep
  have hn := IC.toInCall.ns
  have hxL : s.heap.objs.size ≠ x := Nat.ne_of_gt (Heap.lt_size hx)
  have X₁ : K.In h₁ := X.keeps k
  have hx₁ := k _ _ hx
  -- self.by = by
  show wpAny _ _ (execs _ _) _ _ _
  refine wpAny_execs_cons (plainObj_wpAny_Assign_Attribute ?_)
  refine ldC (v := v) hn (by first | rfl | with_unfolding_all rfl | kernel_rfl) (ldC (v := .ref x) hn (by first | rfl | with_unfolding_all rfl | kernel_rfl) ?_)
  refine set_plain X₁ (ox := excO C t0) (od := none) ⟨hx₁, rfl, rfl, trivial⟩ T.sa ?_
  refine exc_osa X₁ hx₁ hcl (show refsVE (.ref C :: bm) = true from hbm) rfl T.noN (fun h₃ tk₃ dx k₃ dn dne hx₃ hn₃ => ?_)
  show wpAny _ _ (execs _ _) _ _ _
  have z : s.heap.objs.size < h₁.objs.size := hn.lt
  exact wpAny_execs_nil (hq h₃ tk₃ dx ⟨fun b o hb e => k₃ b o hb (k b o e), hx₃, Nat.le_of_lt (Nat.lt_of_lt_of_le z dn), dne, hn₃⟩)
theorem low_madeK_Known (T : KnownTxt K mg C fI) {v : Value} (X : K.In s.heap) (hlim : s.heap.NoLimit) (hroom : A.depth + 1 < recursionLimit)
    (hq : ∀ h' tk e d, OwnMade s.heap h' e C d v → R (.ok (.ret (.ref e))) { s with heap := h', toks := tk }) :
    codeAny (model prog w) A (.call (.ref C) ⟨[], [("name", v)]⟩) R s := by
  obtain ⟨nm, q, N, bs, bm, sn, sub, ab, col, dd, k0, k1, k2, k3, k5, hC, hbm⟩ := T.cls
  obtain ⟨hp, g, dr, tk, os⟩ := s
  have k : ∀ b o, hp.get? b = some o → ((hp.push (kdv_tup [])).push (excO C hp.objs.size)).get? b = some o := fun b o e => Heap.get?_push_of_some _ (Heap.get?_push_of_some _ e)
  have hget : ((hp.push (kdv_tup [])).push (excO C hp.objs.size)).get? (hp.objs.size + 1) = some (excO C hp.objs.size) := by heap_get
  have hnx : K.lookup (hp.objs.size + 1) = none := by
    cases e : K.lookup (hp.objs.size + 1) with
    | none => rfl
    | some o =>
      have z : hp.get? (hp.objs.size + 1) = some o := X _ _ e
      exact absurd (Nat.lt_of_succ_lt (Heap.lt_size z)) (Nat.lt_irrefl _)
  refine PySem.KwMade.call_kw F.excBase_ValueError (fun X => refsVE_contains X bm hbm) (X _ _ hC) (looks_findIn X T.iC) (fun self => bind_fn X self T.tC) ?_
  refine low_initK_Known (s := ⟨(hp.push (kdv_tup [])).push (excO C hp.objs.size), g, dr, tk, os⟩) T (X.keeps k) (hlim.keeps k) hget hnx ?_ fun h' tk' dx ⟨k', hx, dn, dne, hns⟩ => ?_
  · show A.depth + 1 < recursionLimit
    exact hroom
  · have old : ∀ b o, hp.get? b = some o → h'.get? b = some o := fun b o e => k' b o (Nat.ne_of_lt (Nat.lt_succ_of_lt (Heap.lt_size e))) (k b o e)
    have z : hp.objs.size + 1 + 1 ≤ dx := by
      first
        | (simpa only [Heap.size_push] using dn)
        | exact dn
        | (have q := dn; rw [Heap.size_push, Heap.size_push] at q; exact q)
    exact ⟨rfl, hq h' tk' (hp.objs.size + 1) dx ⟨old, Nat.le_succ _, ⟨_, _, hx, rfl, rfl, rfl, rfl⟩, Nat.le_trans (Nat.le_trans (Nat.le_succ _) (Nat.le_succ _)) z, dne, hns⟩⟩
end
end KnownX
end PySem

namespace L2
open PySem PySem.Spec PyProof.Rows
theorem relO_low_Known {v : V} {v' : Value} (r : RelV v v') (f : Str) : RelO (List.lookup f [(("name" : Str), v)]) (if f = "name" then some v' else none) := by
  by_cases hw : f = "name"
  · subst hw
    rw [if_pos rfl]
    have q : List.lookup ("name" : Str) [(("name" : Str), v)] = some v := by simp [List.lookup]
    rw [q]
    exact r
  · rw [if_neg hw]
    have qw : (f == ("name" : Str)) = false := by simpa using hw
    have q2 : List.lookup f [(("name" : Str), v)] = none := by simp [List.lookup, qw]
    rw [q2]
    trivial

end L2
namespace DL
open PySem PySem.Spec PyProof.Rows L2
section
variable {X : Cx} {C fI : Addr}
theorem lay_Known {pins : List (Addr × Obj)} {σ : L2.St} {H1 : Hp} {Q : VK} {hp h' : Heap} {g : Array GenState} {dr : Drawn} {tk tk' : Nat} {os : OsState} {e d : Addr} {v : V} {v' : Value} (I1 : Inv X pins σ H1 ⟨hp, g, dr, tk, os⟩) (rv : RelV v v') (M : PySem.KnownX.OwnMade hp h' e C d v')
    (q1 : ∀ a d, H1 a = none → H1 d = none → a ≠ d → Q (.ref a) (upd (upd H1 d (.xd [(("name" : Str), v)])) a (ExD C a (some d)))) : EP X pins σ Q (.ref e) ⟨h', g, dr, tk', os⟩ := by
  obtain ⟨oe, fv, hoe, hc, hd, hdat, _⟩ := M.obj
  have hns := M.ns
  obtain ⟨G', g1, g2⟩ := restrict h' fun b => decide (b ≠ e)
  have gk : ∀ b, b ≠ e → G'.get? b = h'.get? b := fun b hb => g1 b (decide_eq_true hb)
  have ge : G'.get? e = none := g2 e (by simp)
  have old : ∀ b o, hp.get? b = some o → G'.get? b = some o := fun b o q =>
    (gk b (Nat.ne_of_lt (Nat.lt_of_lt_of_le (Heap.lt_size q) M.new))).trans (M.keep b o q)
  have ob : ObjOk X.prog X.w (upd H1 d (.xd [(("name" : Str), v)])) G' d (.xd [(("name" : Str), v)]) := ⟨_, hns.at (fun o q => (gk d M.dne).trans q), fun f => relO_low_Known rv f⟩
  have J : Inv X pins σ (upd H1 d (.xd [(("name" : Str), v)])) ⟨G', g, dr, tk', os⟩ := I1.laid (t' := tk') old M.dbig ob
  have he : H1 e = none := I1.hok.fresh M.new
  have hn : upd H1 d (.xd [(("name" : Str), v)]) e = none := by
    rw [upd_ne (Ne.symm M.dne)]
    exact he
  have kp : ∀ b u, G'.get? b = some u → h'.get? b = some u := fun b u q => by
    by_cases hb : b = e
    · rw [hb, ge] at q
      cases q
    · exact (gk b hb).symm.trans q
  exact ⟨.ref e, _, J.laidN (h' := h') (t' := tk') kp ge hn (exD_ok hoe ⟨hc, hd⟩ hdat), rfl, q1 e d he (I1.hok.fresh M.dbig) (Ne.symm M.dne)⟩
theorem pe_val_Known {a : Expr} {p pos : Pos} {k : Nat} {ta : TA} (T : PySem.KnownX.KnownTxt X.K X.mg C fI) (hr : Room k X.A) (hg : Gl X "Known") (ha : PA X [a] ta)
    (he : starEach (a :: []) X.env = (false, eval a X.env) :: starEach [] X.env := by rfl) (hpl : (backTo pos (starEach [] X.env)).any (·.1) = false := by rfl) : PE X (.Call (.Name "Known" p) [a] [] pos) (tVal C "name" ta) := by
  refine ⟨fun pins s σ H Q I h => ?_⟩
  refine wpAny_Call_Name_kw (ld_glob I hg T.gC ?_)
  refine PySem.W.callWith_K (h₀ := X.base) I.ok.mod.kin T.kC (thn (ha.run pos pins s σ H _ I h) fun us s1 ⟨vs, H1, I1, r1, v, ev, q1⟩ => ?_) he hpl
  subst ev
  refine ⟨I1.kIn, ?_⟩
  cases r1 with
  | cons rv rn =>
    cases rn
    have hlim := I1.nolimit
    obtain ⟨hp, g, dr, tk, os⟩ := s1
    exact wpAny_call (PySem.KnownX.low_made_Known T I1.kIn hlim (by have := hr.dp; omega) fun h' tk' e d M => lay_Known I1 rv M q1)
theorem pe_valK_Known {p pos : Pos} {k : Nat} {kws : List Keyword} {tk : TA} (T : PySem.KnownX.KnownTxt X.K X.mg C fI) (hr : Room k X.A) (hg : Gl X "Known") (hkw : PK X kws tk)
    (hall : (backToKw pos (keywordEach kws X.env)).all (·.1.isSome) = true := by rfl) (hks : (backToKw pos (keywordEach kws X.env)).filterMap (·.1) = [("name" : Str)] := by rfl)
    (hpl : ((backTo pos (starEach [] X.env)).any (·.1) || (backToKw pos (keywordEach kws X.env)).any (·.1.isNone)) = false := by rfl) : PE X (.Call (.Name "Known" p) [] kws pos) (tVal C "name" tk) := by
  refine ⟨fun pins s σ H Q I h => ?_⟩
  refine wpAny_Call_Name_kw (ld_glob I hg T.gC ?_)
  refine PySem.W.callWith_KW0 (h₀ := X.base) I.ok.mod.kin T.kC hall ?_ hpl
  refine thn (hkw.run pos pins s σ H _ I h) fun us s1 ⟨vs, H1, I1, r1, v, ev, q1⟩ => ?_
  subst ev
  refine ⟨I1.kIn, ?_⟩
  rw [hks]
  cases r1 with
  | cons rv rn =>
    cases rn
    have hlim := I1.nolimit
    obtain ⟨hp, g, dr, tk, os⟩ := s1
    exact wpAny_call (PySem.KnownX.low_madeK_Known T I1.kIn hlim (by have := hr.dp; omega) fun h' tk' e d M => lay_Known I1 rv M q1)
theorem pe_get_Known {e : Expr} {te : TE} {pos : Pos} (T : PySem.KnownX.KnownTxt X.K X.mg C fI) (he : PE X e te) (hb : attributeBase e "name" X.env (eval e X.env) = eval e X.env := by rfl) : PE X (.Attribute e "name" pos) (tGet C "name" te) := by
  refine ⟨fun pins s σ H Q I h => ?_⟩
  refine attr_of hb (thn (he.run pins s σ H _ I h) fun u s1 ⟨x, H1, I1, rx, a, dd, v, ex, ha, ea, q⟩ => ?_)
  subst ex
  cases rx
  obtain ⟨⟨oe, vs, ho, hz, hd⟩, _, _⟩ : ObjOk X.prog X.w H1 s1.heap a (ExD C a (some dd)) := I1.hok a _ ha
  obtain ⟨mA, hns, hr⟩ : ObjOk X.prog X.w H1 s1.heap dd (.xd [(("name" : Str), v)]) := I1.hok dd _ ea
  obtain ⟨od, hod, hl⟩ := lookIn_ns hns
  have l : List.lookup ("name" : Str) [(("name" : Str), v)] = some v := by simp [List.lookup]
  obtain ⟨u, hu, ru⟩ := RelO.some_of (v := v) (o := mA "name") (by rw [← l]; exact hr "name")
  have J : PySem.W.InstAt s1.heap a oe C (some od) := ⟨ho, hz.1, by unfold PySem.W.notCls; rw [hd] <;> rfl, by rw [hz.2]; exact hod⟩
  exact HandSPX.exc_get I1.kIn J T.ga T.gg T.exC (PySem.W.findObj_own T.hdC T.noN rfl (by rw [hl, hu])) (handed_of ru) ⟨v, H1, I1.tok _, ru, q⟩
end
end DL


namespace PySem
namespace NoCellX
open PySem.W PySem.Calls PyProof.Rows PySem.HandSPX
/-! ### the text of __init__ -/
def iA (p1 p2 : Pos) : Arguments := { posonlyargs := [], args := [{ arg := "self", annotation := none, pos := p1 }, { arg := "name", annotation := none, pos := p2 }], vararg := none, kwonlyargs := [], kw_defaults := [], kwarg := none, defaults := [] }
def iB (q1 q2 q3 q4 : Pos) : List Stmt := [.Assign [.Attribute (.Name "self" q1) "name" q2] (.Name "name" q3) q4]
def iS : Scope := { kind := .function, names := [(PySem.Str.ofString "self", .local), (PySem.Str.ofString "name", .local)], isGenerator := false, isCoroutine := false, more := [] }
/-- what the written part says of Low, at C, and of its __init__, at fI -/
structure NoCellTxt (K : Frag) (mg : Str → Option Value) (C fI : Addr) : Prop where
  gC : mg "NoCell" = some (.ref C)
  cls : ∃ nm q N bs bm sn sub ab col dd k0 k1 k2 k3 k5, K.lookup C = some (excClassObj nm q C N bs bm true sn sub ab col dd k0 k1 k2 k3 k5 "ValueError.__new__") ∧ refsVE bm = true
  sa : findIn K (.ref C) "__setattr__" = some (some (.builtin "object.__setattr__"))
  ga : findIn K (.ref C) "__getattribute__" = some (some (.builtin "BaseException.__getattribute__"))
  gg : findIn K (.ref C) "__getattr__" = some none
  noN : findIn K (.ref C) "name" = some none
  iC : findIn K (.ref C) "__init__" = some (some (.ref fI))
  tC : typeIn K (.ref fI) = some (.type "function")
  kC : keepIn K (.ref C) = true
  exC : subIn K (.ref C) (.type "BaseException") = some true
  tyC : typeIn K (.ref C) = some (.type "type")
  hdC : hasDictIn K C = true
  te : exmOne K (.ref C) (.ref C) = some true
  fn : ∃ (oc : Value) (od : Option Addr) (doc pm : Value) (an : Option Addr) (cdv ct : Value) (osl : Array (Option Value)) (p1 p2 q1 q2 q3 q4 : Pos),
    K.lookup fI = some ⟨oc, od, .func (fnOf "__init__" "NoCell.__init__" (iA p1 p2) (iB q1 q2 q3 q4) iS .none .none doc pm an cdv ct), osl⟩ ∧ codeIn K cdv "NoCell.__init__" = true
theorem one_size (v : Value) : [v].length ≤ sizeLine := by
  rw [sizeLine_eq]
  exact (by decide : 1 ≤ 16777216)
theorem kept_but {K : Frag} {h h' : Heap} {x : Addr} (X : K.In h) (hx : K.lookup x = none) (k : ∀ b o, b ≠ x → h.get? b = some o → h'.get? b = some o) : K.In h' := fun a o e =>
  k a o (fun z => by rw [z, hx] at e; cases e) (X a o e)
theorem ldC {M : Model} {s : Shared} {name : Str} {scope : Scope} {L a : Addr} {cd : Value} {m : Str → Option Value} {x : Str} {pos : Pos} {v : Value} {Q : Value → Shared → Prop} {A : Around} {E : Value → Shared → Prop} (hn : s.heap.Ns L m) (hv : m x = some v) (h : Q v s)
    (hk : scope.kind = .function := by rfl) (hl : (envOfC name scope L a cd).kindOf x = some .local := by rfl) (hd : (x == ("__debug__" : Str)) = false := by decide) :
    wpAny M A (eval (.Name x pos) (envOfC name scope L a cd)) Q E s := wpAny_Name (wpAny_loadName_local hk hl hn hv h) hd
/-- what __init__ leaves of a fresh exception at x -/
structure InitEnd (h h' : Heap) (x C dx t1 : Addr) (v : Value) : Prop where
  keep : ∀ b o, b ≠ x → h.get? b = some o → h'.get? b = some o
  obj : h'.get? x = some { cls := .ref C, dict := some dx, data := .fields #[.ref t1, .none, .none, .none, .bool false, .none] }
  dbig : h.objs.size ≤ dx
  dne : dx ≠ x
  ns : h'.Ns1 dx (fun y => if y = "name" then some v else none)
/-- a made Low -/
structure OwnMade (h h' : Heap) (e C d : Addr) (v : Value) : Prop where
  keep : ∀ b o, h.get? b = some o → h'.get? b = some o
  new : h.objs.size ≤ e
  obj : ∃ oe vs, h'.get? e = some oe ∧ oe.cls = .ref C ∧ oe.dict = some d ∧ oe.data = .fields vs ∧ vs[1]? = some .none
  dbig : h.objs.size ≤ d
  dne : d ≠ e
  ns : h'.Ns1 d (fun y => if y = "name" then some v else none)
section
variable {prog : Program} {w : World} {A : Around} {E : Value → Shared → Prop} {R : Result → Shared → Prop} {s : Shared} {K : Frag} {mg : Str → Option Value} {C fI : Addr}
theorem low_init_NoCell (T : NoCellTxt K mg C fI) {x t0 : Addr} {v : Value} (X : K.In s.heap) (hlim : s.heap.NoLimit) (hx : s.heap.get? x = some (excO C t0)) (hnx : K.lookup x = none) (hroom : A.depth < recursionLimit)
    (hq : ∀ h' tk dx, InitEnd s.heap h' x C dx t0 v → R (.ok (.ret .none)) { s with heap := h', toks := tk }) :
    codeAny (model prog w) A (.call (.ref fI) ⟨[.ref x, v], []⟩) R s := by
  obtain ⟨oc, od, doc, pm, an, cdv, ct, osl, p1, p2, q1, q2, q3, q4, ho, hcd⟩ := T.fn
  obtain ⟨nm, q, N, bs, bm, sn, sub, ab, col, dd, k0, k1, k2, k3, k5, hC, hbm⟩ := T.cls
  have hcl : clsIn K C = some { name := nm, bases := bs, mro := .ref C :: bm, ns := N, qualname := q, hasDict := true, slotNames := sn, subclasses := sub, abstract := ab, collection := col, hasDel := false } := by unfold clsIn; rw [hC] <;> rfl
  refine Att.call_fn (binds := [("self", .ref x), ("name", v)]) X hlim ho hcd hroom (BindsTo.of_eq (by first | rfl | with_unfolding_all rfl)) (by first | rfl | decide | with_unfolding_all rfl) (fun s₁ IC => ?_) rfl rfl rfl
  obtain ⟨h₁, tk₁, rfl⟩ := IC.toInCall.same
  have k : ∀ b o, s.heap.get? b = some o → h₁.get? b = some o := IC.toInCall.keep
  have hn := IC.toInCall.ns
  have hxL : s.heap.objs.size ≠ x := Nat.ne_of_gt (Heap.lt_size hx)
  have X₁ : K.In h₁ := X.keeps k
  have hx₁ := k _ _ hx
  -- self.by = by
  show wpAny _ _ (execs _ _) _ _ _
  refine wpAny_execs_cons (plainObj_wpAny_Assign_Attribute ?_)
  refine ldC (v := v) hn (by first | rfl | with_unfolding_all rfl | kernel_rfl) (ldC (v := .ref x) hn (by first | rfl | with_unfolding_all rfl | kernel_rfl) ?_)
  refine set_plain X₁ (ox := excO C t0) (od := none) ⟨hx₁, rfl, rfl, trivial⟩ T.sa ?_
  refine exc_osa X₁ hx₁ hcl (show refsVE (.ref C :: bm) = true from hbm) rfl T.noN (fun h₃ tk₃ dx k₃ dn dne hx₃ hn₃ => ?_)
  show wpAny _ _ (execs _ _) _ _ _
  have z : s.heap.objs.size < h₁.objs.size := hn.lt
  exact wpAny_execs_nil (hq h₃ tk₃ dx ⟨fun b o hb e => k₃ b o hb (k b o e), hx₃, Nat.le_of_lt (Nat.lt_of_lt_of_le z dn), dne, hn₃⟩)
theorem low_made_NoCell (T : NoCellTxt K mg C fI) {v : Value} (X : K.In s.heap) (hlim : s.heap.NoLimit) (hroom : A.depth + 1 < recursionLimit)
    (hq : ∀ h' tk e d, OwnMade s.heap h' e C d v → R (.ok (.ret (.ref e))) { s with heap := h', toks := tk }) :
    codeAny (model prog w) A (.call (.ref C) ⟨[v], []⟩) R s := by
  obtain ⟨nm, q, N, bs, bm, sn, sub, ab, col, dd, k0, k1, k2, k3, k5, hC, hbm⟩ := T.cls
  obtain ⟨hp, g, dr, tk, os⟩ := s
  have k : ∀ b o, hp.get? b = some o → ((hp.push (kdv_tup [v])).push (excO C hp.objs.size)).get? b = some o := fun b o e => Heap.get?_push_of_some _ (Heap.get?_push_of_some _ e)
  have hget : ((hp.push (kdv_tup [v])).push (excO C hp.objs.size)).get? (hp.objs.size + 1) = some (excO C hp.objs.size) := by heap_get
  have hnx : K.lookup (hp.objs.size + 1) = none := by
    cases e : K.lookup (hp.objs.size + 1) with
    | none => rfl
    | some o =>
      have z : hp.get? (hp.objs.size + 1) = some o := X _ _ e
      exact absurd (Nat.lt_of_succ_lt (Heap.lt_size z)) (Nat.lt_irrefl _)
  refine call_own F.excBase_ValueError (fun X => refsVE_contains X bm hbm) (X _ _ hC) (looks_findIn X T.iC) (fun self => bind_fn X self T.tC) (one_size v) ?_
  refine low_init_NoCell (s := ⟨(hp.push (kdv_tup [v])).push (excO C hp.objs.size), g, dr, tk, os⟩) T (X.keeps k) (hlim.keeps k) hget hnx ?_ fun h' tk' dx ⟨k', hx, dn, dne, hns⟩ => ?_
  · show A.depth + 1 < recursionLimit
    exact hroom
  · have old : ∀ b o, hp.get? b = some o → h'.get? b = some o := fun b o e => k' b o (Nat.ne_of_lt (Nat.lt_succ_of_lt (Heap.lt_size e))) (k b o e)
    have z : hp.objs.size + 1 + 1 ≤ dx := by
      first
        | (simpa only [Heap.size_push] using dn)
        | exact dn
        | (have q := dn; rw [Heap.size_push, Heap.size_push] at q; exact q)
    exact ⟨rfl, hq h' tk' (hp.objs.size + 1) dx ⟨old, Nat.le_succ _, ⟨_, _, hx, rfl, rfl, rfl, rfl⟩, Nat.le_trans (Nat.le_trans (Nat.le_succ _) (Nat.le_succ _)) z, dne, hns⟩⟩
theorem low_initK_NoCell (T : NoCellTxt K mg C fI) {x t0 : Addr} {v : Value} (X : K.In s.heap) (hlim : s.heap.NoLimit) (hx : s.heap.get? x = some (excO C t0)) (hnx : K.lookup x = none) (hroom : A.depth < recursionLimit)
    (hq : ∀ h' tk dx, InitEnd s.heap h' x C dx t0 v → R (.ok (.ret .none)) { s with heap := h', toks := tk }) :
    codeAny (model prog w) A (.call (.ref fI) ⟨[.ref x], [("name", v)]⟩) R s := by
  obtain ⟨oc, od, doc, pm, an, cdv, ct, osl, p1, p2, q1, q2, q3, q4, ho, hcd⟩ := T.fn
  obtain ⟨nm, q, N, bs, bm, sn, sub, ab, col, dd, k0, k1, k2, k3, k5, hC, hbm⟩ := T.cls
  have hcl : clsIn K C = some { name := nm, bases := bs, mro := .ref C :: bm, ns := N, qualname := q, hasDict := true, slotNames := sn, subclasses := sub, abstract := ab, collection := col, hasDel := false } := by unfold clsIn; rw [hC] <;> rfl
  refine Att.call_fn (binds := [("self", .ref x), ("name", v)]) X hlim ho hcd hroom (BindsTo.of_eq (by first | rfl | with_unfolding_all rfl)) (by first | rfl | decide | with_unfolding_all rfl) (fun s₁ IC => ?_) rfl rfl rfl
  obtain ⟨h₁, tk₁, rfl⟩ := IC.toInCall.same
  have k : ∀ b o, s.heap.get? b = some o → h₁.get? b = some o := IC.toInCall.keep
  have hn := IC.toInCall.ns
  have hxL : s.heap.objs.size ≠ x := Nat.ne_of_gt (Heap.lt_size hx)
  have X₁ : K.In h₁ := X.keeps k
  have hx₁ := k _ _ hx
  -- self.by = by
  show wpAny _ _ (execs _ _) _ _ _
  refine wpAny_execs_cons (plainObj_wpAny_Assign_Attribute ?_)
  refine ldC (v := v) hn (by first | rfl | with_unfolding_all rfl | kernel_rfl) (ldC (v := .ref x) hn (by first | rfl | with_unfolding_all rfl | kernel_rfl) ?_)
  refine set_plain X₁ (ox := excO C t0) (od := none) ⟨hx₁, rfl, rfl, trivial⟩ T.sa ?_
  refine exc_osa X₁ hx₁ hcl (show refsVE (.ref C :: bm) = true from hbm) rfl T.noN (fun h₃ tk₃ dx k₃ dn dne hx₃ hn₃ => ?_)
  show wpAny _ _ (execs _ _) _ _ _
  have z : s.heap.objs.size < h₁.objs.size := hn.lt
  exact wpAny_execs_nil (hq h₃ tk₃ dx ⟨fun b o hb e => k₃ b o hb (k b o e), hx₃, Nat.le_of_lt (Nat.lt_of_lt_of_le z dn), dne, hn₃⟩)
theorem low_madeK_NoCell (T : NoCellTxt K mg C fI) {v : Value} (X : K.In s.heap) (hlim : s.heap.NoLimit) (hroom : A.depth + 1 < recursionLimit)
    (hq : ∀ h' tk e d, OwnMade s.heap h' e C d v → R (.ok (.ret (.ref e))) { s with heap := h', toks := tk }) :
    codeAny (model prog w) A (.call (.ref C) ⟨[], [("name", v)]⟩) R s := by
  obtain ⟨nm, q, N, bs, bm, sn, sub, ab, col, dd, k0, k1, k2, k3, k5, hC, hbm⟩ := T.cls
  obtain ⟨hp, g, dr, tk, os⟩ := s
  have k : ∀ b o, hp.get? b = some o → ((hp.push (kdv_tup [])).push (excO C hp.objs.size)).get? b = some o := fun b o e => Heap.get?_push_of_some _ (Heap.get?_push_of_some _ e)
  have hget : ((hp.push (kdv_tup [])).push (excO C hp.objs.size)).get? (hp.objs.size + 1) = some (excO C hp.objs.size) := by heap_get
  have hnx : K.lookup (hp.objs.size + 1) = none := by
    cases e : K.lookup (hp.objs.size + 1) with
    | none => rfl
    | some o =>
      have z : hp.get? (hp.objs.size + 1) = some o := X _ _ e
      exact absurd (Nat.lt_of_succ_lt (Heap.lt_size z)) (Nat.lt_irrefl _)
  refine PySem.KwMade.call_kw F.excBase_ValueError (fun X => refsVE_contains X bm hbm) (X _ _ hC) (looks_findIn X T.iC) (fun self => bind_fn X self T.tC) ?_
  refine low_initK_NoCell (s := ⟨(hp.push (kdv_tup [])).push (excO C hp.objs.size), g, dr, tk, os⟩) T (X.keeps k) (hlim.keeps k) hget hnx ?_ fun h' tk' dx ⟨k', hx, dn, dne, hns⟩ => ?_
  · show A.depth + 1 < recursionLimit
    exact hroom
  · have old : ∀ b o, hp.get? b = some o → h'.get? b = some o := fun b o e => k' b o (Nat.ne_of_lt (Nat.lt_succ_of_lt (Heap.lt_size e))) (k b o e)
    have z : hp.objs.size + 1 + 1 ≤ dx := by
      first
        | (simpa only [Heap.size_push] using dn)
        | exact dn
        | (have q := dn; rw [Heap.size_push, Heap.size_push] at q; exact q)
    exact ⟨rfl, hq h' tk' (hp.objs.size + 1) dx ⟨old, Nat.le_succ _, ⟨_, _, hx, rfl, rfl, rfl, rfl⟩, Nat.le_trans (Nat.le_trans (Nat.le_succ _) (Nat.le_succ _)) z, dne, hns⟩⟩
end
end NoCellX
end PySem

namespace L2
open PySem PySem.Spec PyProof.Rows
theorem relO_low_NoCell {v : V} {v' : Value} (r : RelV v v') (f : Str) : RelO (List.lookup f [(("name" : Str), v)]) (if f = "name" then some v' else none) := by
  by_cases hw : f = "name"
  · subst hw
    rw [if_pos rfl]
    have q : List.lookup ("name" : Str) [(("name" : Str), v)] = some v := by simp [List.lookup]
    rw [q]
    exact r
  · rw [if_neg hw]
    have qw : (f == ("name" : Str)) = false := by simpa using hw
    have q2 : List.lookup f [(("name" : Str), v)] = none := by simp [List.lookup, qw]
    rw [q2]
    trivial

end L2
namespace DL
open PySem PySem.Spec PyProof.Rows L2
section
variable {X : Cx} {C fI : Addr}
theorem lay_NoCell {pins : List (Addr × Obj)} {σ : L2.St} {H1 : Hp} {Q : VK} {hp h' : Heap} {g : Array GenState} {dr : Drawn} {tk tk' : Nat} {os : OsState} {e d : Addr} {v : V} {v' : Value} (I1 : Inv X pins σ H1 ⟨hp, g, dr, tk, os⟩) (rv : RelV v v') (M : PySem.NoCellX.OwnMade hp h' e C d v')
    (q1 : ∀ a d, H1 a = none → H1 d = none → a ≠ d → Q (.ref a) (upd (upd H1 d (.xd [(("name" : Str), v)])) a (ExD C a (some d)))) : EP X pins σ Q (.ref e) ⟨h', g, dr, tk', os⟩ := by
  obtain ⟨oe, fv, hoe, hc, hd, hdat, _⟩ := M.obj
  have hns := M.ns
  obtain ⟨G', g1, g2⟩ := restrict h' fun b => decide (b ≠ e)
  have gk : ∀ b, b ≠ e → G'.get? b = h'.get? b := fun b hb => g1 b (decide_eq_true hb)
  have ge : G'.get? e = none := g2 e (by simp)
  have old : ∀ b o, hp.get? b = some o → G'.get? b = some o := fun b o q =>
    (gk b (Nat.ne_of_lt (Nat.lt_of_lt_of_le (Heap.lt_size q) M.new))).trans (M.keep b o q)
  have ob : ObjOk X.prog X.w (upd H1 d (.xd [(("name" : Str), v)])) G' d (.xd [(("name" : Str), v)]) := ⟨_, hns.at (fun o q => (gk d M.dne).trans q), fun f => relO_low_NoCell rv f⟩
  have J : Inv X pins σ (upd H1 d (.xd [(("name" : Str), v)])) ⟨G', g, dr, tk', os⟩ := I1.laid (t' := tk') old M.dbig ob
  have he : H1 e = none := I1.hok.fresh M.new
  have hn : upd H1 d (.xd [(("name" : Str), v)]) e = none := by
    rw [upd_ne (Ne.symm M.dne)]
    exact he
  have kp : ∀ b u, G'.get? b = some u → h'.get? b = some u := fun b u q => by
    by_cases hb : b = e
    · rw [hb, ge] at q
      cases q
    · exact (gk b hb).symm.trans q
  exact ⟨.ref e, _, J.laidN (h' := h') (t' := tk') kp ge hn (exD_ok hoe ⟨hc, hd⟩ hdat), rfl, q1 e d he (I1.hok.fresh M.dbig) (Ne.symm M.dne)⟩
theorem pe_val_NoCell {a : Expr} {p pos : Pos} {k : Nat} {ta : TA} (T : PySem.NoCellX.NoCellTxt X.K X.mg C fI) (hr : Room k X.A) (hg : Gl X "NoCell") (ha : PA X [a] ta)
    (he : starEach (a :: []) X.env = (false, eval a X.env) :: starEach [] X.env := by rfl) (hpl : (backTo pos (starEach [] X.env)).any (·.1) = false := by rfl) : PE X (.Call (.Name "NoCell" p) [a] [] pos) (tVal C "name" ta) := by
  refine ⟨fun pins s σ H Q I h => ?_⟩
  refine wpAny_Call_Name_kw (ld_glob I hg T.gC ?_)
  refine PySem.W.callWith_K (h₀ := X.base) I.ok.mod.kin T.kC (thn (ha.run pos pins s σ H _ I h) fun us s1 ⟨vs, H1, I1, r1, v, ev, q1⟩ => ?_) he hpl
  subst ev
  refine ⟨I1.kIn, ?_⟩
  cases r1 with
  | cons rv rn =>
    cases rn
    have hlim := I1.nolimit
    obtain ⟨hp, g, dr, tk, os⟩ := s1
    exact wpAny_call (PySem.NoCellX.low_made_NoCell T I1.kIn hlim (by have := hr.dp; omega) fun h' tk' e d M => lay_NoCell I1 rv M q1)
theorem pe_valK_NoCell {p pos : Pos} {k : Nat} {kws : List Keyword} {tk : TA} (T : PySem.NoCellX.NoCellTxt X.K X.mg C fI) (hr : Room k X.A) (hg : Gl X "NoCell") (hkw : PK X kws tk)
    (hall : (backToKw pos (keywordEach kws X.env)).all (·.1.isSome) = true := by rfl) (hks : (backToKw pos (keywordEach kws X.env)).filterMap (·.1) = [("name" : Str)] := by rfl)
    (hpl : ((backTo pos (starEach [] X.env)).any (·.1) || (backToKw pos (keywordEach kws X.env)).any (·.1.isNone)) = false := by rfl) : PE X (.Call (.Name "NoCell" p) [] kws pos) (tVal C "name" tk) := by
  refine ⟨fun pins s σ H Q I h => ?_⟩
  refine wpAny_Call_Name_kw (ld_glob I hg T.gC ?_)
  refine PySem.W.callWith_KW0 (h₀ := X.base) I.ok.mod.kin T.kC hall ?_ hpl
  refine thn (hkw.run pos pins s σ H _ I h) fun us s1 ⟨vs, H1, I1, r1, v, ev, q1⟩ => ?_
  subst ev
  refine ⟨I1.kIn, ?_⟩
  rw [hks]
  cases r1 with
  | cons rv rn =>
    cases rn
    have hlim := I1.nolimit
    obtain ⟨hp, g, dr, tk, os⟩ := s1
    exact wpAny_call (PySem.NoCellX.low_madeK_NoCell T I1.kIn hlim (by have := hr.dp; omega) fun h' tk' e d M => lay_NoCell I1 rv M q1)
theorem pe_get_NoCell {e : Expr} {te : TE} {pos : Pos} (T : PySem.NoCellX.NoCellTxt X.K X.mg C fI) (he : PE X e te) (hb : attributeBase e "name" X.env (eval e X.env) = eval e X.env := by rfl) : PE X (.Attribute e "name" pos) (tGet C "name" te) := by
  refine ⟨fun pins s σ H Q I h => ?_⟩
  refine attr_of hb (thn (he.run pins s σ H _ I h) fun u s1 ⟨x, H1, I1, rx, a, dd, v, ex, ha, ea, q⟩ => ?_)
  subst ex
  cases rx
  obtain ⟨⟨oe, vs, ho, hz, hd⟩, _, _⟩ : ObjOk X.prog X.w H1 s1.heap a (ExD C a (some dd)) := I1.hok a _ ha
  obtain ⟨mA, hns, hr⟩ : ObjOk X.prog X.w H1 s1.heap dd (.xd [(("name" : Str), v)]) := I1.hok dd _ ea
  obtain ⟨od, hod, hl⟩ := lookIn_ns hns
  have l : List.lookup ("name" : Str) [(("name" : Str), v)] = some v := by simp [List.lookup]
  obtain ⟨u, hu, ru⟩ := RelO.some_of (v := v) (o := mA "name") (by rw [← l]; exact hr "name")
  have J : PySem.W.InstAt s1.heap a oe C (some od) := ⟨ho, hz.1, by unfold PySem.W.notCls; rw [hd] <;> rfl, by rw [hz.2]; exact hod⟩
  exact HandSPX.exc_get I1.kIn J T.ga T.gg T.exC (PySem.W.findObj_own T.hdC T.noN rfl (by rw [hl, hu])) (handed_of ru) ⟨v, H1, I1.tok _, ru, q⟩
end
end DL


namespace PySem
namespace NoLabelX
open PySem.W PySem.Calls PyProof.Rows PySem.HandSPX
/-! ### the text of __init__ -/
def iA (p1 p2 : Pos) : Arguments := { posonlyargs := [], args := [{ arg := "self", annotation := none, pos := p1 }, { arg := "name", annotation := none, pos := p2 }], vararg := none, kwonlyargs := [], kw_defaults := [], kwarg := none, defaults := [] }
def iB (q1 q2 q3 q4 : Pos) : List Stmt := [.Assign [.Attribute (.Name "self" q1) "name" q2] (.Name "name" q3) q4]
def iS : Scope := { kind := .function, names := [(PySem.Str.ofString "self", .local), (PySem.Str.ofString "name", .local)], isGenerator := false, isCoroutine := false, more := [] }
/-- what the written part says of Low, at C, and of its __init__, at fI -/
structure NoLabelTxt (K : Frag) (mg : Str → Option Value) (C fI : Addr) : Prop where
  gC : mg "NoLabel" = some (.ref C)
  cls : ∃ nm q N bs bm sn sub ab col dd k0 k1 k2 k3 k5, K.lookup C = some (excClassObj nm q C N bs bm true sn sub ab col dd k0 k1 k2 k3 k5 "ValueError.__new__") ∧ refsVE bm = true
  sa : findIn K (.ref C) "__setattr__" = some (some (.builtin "object.__setattr__"))
  ga : findIn K (.ref C) "__getattribute__" = some (some (.builtin "BaseException.__getattribute__"))
  gg : findIn K (.ref C) "__getattr__" = some none
  noN : findIn K (.ref C) "name" = some none
  iC : findIn K (.ref C) "__init__" = some (some (.ref fI))
  tC : typeIn K (.ref fI) = some (.type "function")
  kC : keepIn K (.ref C) = true
  exC : subIn K (.ref C) (.type "BaseException") = some true
  tyC : typeIn K (.ref C) = some (.type "type")
  hdC : hasDictIn K C = true
  te : exmOne K (.ref C) (.ref C) = some true
  fn : ∃ (oc : Value) (od : Option Addr) (doc pm : Value) (an : Option Addr) (cdv ct : Value) (osl : Array (Option Value)) (p1 p2 q1 q2 q3 q4 : Pos),
    K.lookup fI = some ⟨oc, od, .func (fnOf "__init__" "NoLabel.__init__" (iA p1 p2) (iB q1 q2 q3 q4) iS .none .none doc pm an cdv ct), osl⟩ ∧ codeIn K cdv "NoLabel.__init__" = true
theorem one_size (v : Value) : [v].length ≤ sizeLine := by
  rw [sizeLine_eq]
  exact (by decide : 1 ≤ 16777216)
theorem kept_but {K : Frag} {h h' : Heap} {x : Addr} (X : K.In h) (hx : K.lookup x = none) (k : ∀ b o, b ≠ x → h.get? b = some o → h'.get? b = some o) : K.In h' := fun a o e =>
  k a o (fun z => by rw [z, hx] at e; cases e) (X a o e)
theorem ldC {M : Model} {s : Shared} {name : Str} {scope : Scope} {L a : Addr} {cd : Value} {m : Str → Option Value} {x : Str} {pos : Pos} {v : Value} {Q : Value → Shared → Prop} {A : Around} {E : Value → Shared → Prop} (hn : s.heap.Ns L m) (hv : m x = some v) (h : Q v s)
    (hk : scope.kind = .function := by rfl) (hl : (envOfC name scope L a cd).kindOf x = some .local := by rfl) (hd : (x == ("__debug__" : Str)) = false := by decide) :
    wpAny M A (eval (.Name x pos) (envOfC name scope L a cd)) Q E s := wpAny_Name (wpAny_loadName_local hk hl hn hv h) hd
/-- what __init__ leaves of a fresh exception at x -/
structure InitEnd (h h' : Heap) (x C dx t1 : Addr) (v : Value) : Prop where
  keep : ∀ b o, b ≠ x → h.get? b = some o → h'.get? b = some o
  obj : h'.get? x = some { cls := .ref C, dict := some dx, data := .fields #[.ref t1, .none, .none, .none, .bool false, .none] }
  dbig : h.objs.size ≤ dx
  dne : dx ≠ x
  ns : h'.Ns1 dx (fun y => if y = "name" then some v else none)
/-- a made Low -/
structure OwnMade (h h' : Heap) (e C d : Addr) (v : Value) : Prop where
  keep : ∀ b o, h.get? b = some o → h'.get? b = some o
  new : h.objs.size ≤ e
  obj : ∃ oe vs, h'.get? e = some oe ∧ oe.cls = .ref C ∧ oe.dict = some d ∧ oe.data = .fields vs ∧ vs[1]? = some .none
  dbig : h.objs.size ≤ d
  dne : d ≠ e
  ns : h'.Ns1 d (fun y => if y = "name" then some v else none)
section
variable {prog : Program} {w : World} {A : Around} {E : Value → Shared → Prop} {R : Result → Shared → Prop} {s : Shared} {K : Frag} {mg : Str → Option Value} {C fI : Addr}
theorem low_init_NoLabel (T : NoLabelTxt K mg C fI) {x t0 : Addr} {v : Value} (X : K.In s.heap) (hlim : s.heap.NoLimit) (hx : s.heap.get? x = some (excO C t0)) (hnx : K.lookup x = none) (hroom : A.depth < recursionLimit)
    (hq : ∀ h' tk dx, InitEnd s.heap h' x C dx t0 v → R (.ok (.ret .none)) { s with heap := h', toks := tk }) :
    codeAny (model prog w) A (.call (.ref fI) ⟨[.ref x, v], []⟩) R s := by
  obtain ⟨oc, od, doc, pm, an, cdv, ct, osl, p1, p2, q1, q2, q3, q4, ho, hcd⟩ := T.fn
  obtain ⟨nm, q, N, bs, bm, sn, sub, ab, col, dd, k0, k1, k2, k3, k5, hC, hbm⟩ := T.cls
  have hcl : clsIn K C = some { name := nm, bases := bs, mro := .ref C :: bm, ns := N, qualname := q, hasDict := true, slotNames := sn, subclasses := sub, abstract := ab, collection := col, hasDel := false } := by unfold clsIn; rw [hC] <;> rfl
  refine Att.call_fn (binds := [("self", .ref x), ("name", v)]) X hlim ho hcd hroom (BindsTo.of_eq (by first | rfl | with_unfolding_all rfl)) (by first | rfl | decide | with_unfolding_all rfl) (fun s₁ IC => ?_) rfl rfl rfl
  obtain ⟨h₁, tk₁, rfl⟩ := IC.toInCall.same
  have k : ∀ b o, s.heap.get? b = some o → h₁.get? b = some o := IC.toInCall.keep
  have hn := IC.toInCall.ns
  have hxL : s.heap.objs.size ≠ x := Nat.ne_of_gt (Heap.lt_size hx)
  have X₁ : K.In h₁ := X.keeps k
  have hx₁ := k _ _ hx
  -- self.by = by
  show wpAny _ _ (execs _ _) _ _ _
  refine wpAny_execs_cons (plainObj_wpAny_Assign_Attribute ?_)
  refine ldC (v := v) hn (by first | rfl | with_unfolding_all rfl | kernel_rfl) (ldC (v := .ref x) hn (by first | rfl | with_unfolding_all rfl | kernel_rfl) ?_)
  refine set_plain X₁ (ox := excO C t0) (od := none) ⟨hx₁, rfl, rfl, trivial⟩ T.sa ?_
  refine exc_osa X₁ hx₁ hcl (show refsVE (.ref C :: bm) = true from hbm) rfl T.noN (fun h₃ tk₃ dx k₃ dn dne hx₃ hn₃ => ?_)
  show wpAny _ _ (execs _ _) _ _ _
  have z : s.heap.objs.size < h₁.objs.size := hn.lt
  exact wpAny_execs_nil (hq h₃ tk₃ dx ⟨fun b o hb e => k₃ b o hb (k b o e), hx₃, Nat.le_of_lt (Nat.lt_of_lt_of_le z dn), dne, hn₃⟩)
theorem low_made_NoLabel (T : NoLabelTxt K mg C fI) {v : Value} (X : K.In s.heap) (hlim : s.heap.NoLimit) (hroom : A.depth + 1 < recursionLimit)
    (hq : ∀ h' tk e d, OwnMade s.heap h' e C d v → R (.ok (.ret (.ref e))) { s with heap := h', toks := tk }) :
    codeAny (model prog w) A (.call (.ref C) ⟨[v], []⟩) R s := by
  obtain ⟨nm, q, N, bs, bm, sn, sub, ab, col, dd, k0, k1, k2, k3, k5, hC, hbm⟩ := T.cls
  obtain ⟨hp, g, dr, tk, os⟩ := s
  have k : ∀ b o, hp.get? b = some o → ((hp.push (kdv_tup [v])).push (excO C hp.objs.size)).get? b = some o := fun b o e => Heap.get?_push_of_some _ (Heap.get?_push_of_some _ e)
  have hget : ((hp.push (kdv_tup [v])).push (excO C hp.objs.size)).get? (hp.objs.size + 1) = some (excO C hp.objs.size) := by heap_get
  have hnx : K.lookup (hp.objs.size + 1) = none := by
    cases e : K.lookup (hp.objs.size + 1) with
    | none => rfl
    | some o =>
      have z : hp.get? (hp.objs.size + 1) = some o := X _ _ e
      exact absurd (Nat.lt_of_succ_lt (Heap.lt_size z)) (Nat.lt_irrefl _)
  refine call_own F.excBase_ValueError (fun X => refsVE_contains X bm hbm) (X _ _ hC) (looks_findIn X T.iC) (fun self => bind_fn X self T.tC) (one_size v) ?_
  refine low_init_NoLabel (s := ⟨(hp.push (kdv_tup [v])).push (excO C hp.objs.size), g, dr, tk, os⟩) T (X.keeps k) (hlim.keeps k) hget hnx ?_ fun h' tk' dx ⟨k', hx, dn, dne, hns⟩ => ?_
  · show A.depth + 1 < recursionLimit
    exact hroom
  · have old : ∀ b o, hp.get? b = some o → h'.get? b = some o := fun b o e => k' b o (Nat.ne_of_lt (Nat.lt_succ_of_lt (Heap.lt_size e))) (k b o e)
    have z : hp.objs.size + 1 + 1 ≤ dx := by
      first
        | (simpa only [Heap.size_push] using dn)
        | exact dn
        | (have q := dn; rw [Heap.size_push, Heap.size_push] at q; exact q)
    exact ⟨rfl, hq h' tk' (hp.objs.size + 1) dx ⟨old, Nat.le_succ _, ⟨_, _, hx, rfl, rfl, rfl, rfl⟩, Nat.le_trans (Nat.le_trans (Nat.le_succ _) (Nat.le_succ _)) z, dne, hns⟩⟩
theorem low_initK_NoLabel (T : NoLabelTxt K mg C fI) {x t0 : Addr} {v : Value} (X : K.In s.heap) (hlim : s.heap.NoLimit) (hx : s.heap.get? x = some (excO C t0)) (hnx : K.lookup x = none) (hroom : A.depth < recursionLimit)
    (hq : ∀ h' tk dx, InitEnd s.heap h' x C dx t0 v → R (.ok (.ret .none)) { s with heap := h', toks := tk }) :
    codeAny (model prog w) A (.call (.ref fI) ⟨[.ref x], [("name", v)]⟩) R s := by
  obtain ⟨oc, od, doc, pm, an, cdv, ct, osl, p1, p2, q1, q2, q3, q4, ho, hcd⟩ := T.fn
  obtain ⟨nm, q, N, bs, bm, sn, sub, ab, col, dd, k0, k1, k2, k3, k5, hC, hbm⟩ := T.cls
  have hcl : clsIn K C = some { name := nm, bases := bs, mro := .ref C :: bm, ns := N, qualname := q, hasDict := true, slotNames := sn, subclasses := sub, abstract := ab, collection := col, hasDel := false } := by unfold clsIn; rw [hC] <;> rfl
  refine Att.call_fn (binds := [("self", .ref x), ("name", v)]) X hlim ho hcd hroom (BindsTo.of_eq (by first | rfl | with_unfolding_all rfl)) (by first | rfl | decide | with_unfolding_all rfl) (fun s₁ IC => ?_) rfl rfl rfl
  obtain ⟨h₁, tk₁, rfl⟩ := IC.toInCall.same
  have k : ∀ b o, s.heap.get? b = some o → h₁.get? b = some o := IC.toInCall.keep
  have hn := IC.toInCall.ns
  have hxL : s.heap.objs.size ≠ x := Nat.ne_of_gt (Heap.lt_size hx)
  have X₁ : K.In h₁ := X.keeps k
  have hx₁ := k _ _ hx
  -- self.by = by
  show wpAny _ _ (execs _ _) _ _ _
  refine wpAny_execs_cons (plainObj_wpAny_Assign_Attribute ?_)
  refine ldC (v := v) hn (by first | rfl | with_unfolding_all rfl | kernel_rfl) (ldC (v := .ref x) hn (by first | rfl | with_unfolding_all rfl | kernel_rfl) ?_)
  refine set_plain X₁ (ox := excO C t0) (od := none) ⟨hx₁, rfl, rfl, trivial⟩ T.sa ?_
  refine exc_osa X₁ hx₁ hcl (show refsVE (.ref C :: bm) = true from hbm) rfl T.noN (fun h₃ tk₃ dx k₃ dn dne hx₃ hn₃ => ?_)
  show wpAny _ _ (execs _ _) _ _ _
  have z : s.heap.objs.size < h₁.objs.size := hn.lt
  exact wpAny_execs_nil (hq h₃ tk₃ dx ⟨fun b o hb e => k₃ b o hb (k b o e), hx₃, Nat.le_of_lt (Nat.lt_of_lt_of_le z dn), dne, hn₃⟩)
theorem low_madeK_NoLabel (T : NoLabelTxt K mg C fI) {v : Value} (X : K.In s.heap) (hlim : s.heap.NoLimit) (hroom : A.depth + 1 < recursionLimit)
    (hq : ∀ h' tk e d, OwnMade s.heap h' e C d v → R (.ok (.ret (.ref e))) { s with heap := h', toks := tk }) :
    codeAny (model prog w) A (.call (.ref C) ⟨[], [("name", v)]⟩) R s := by
  obtain ⟨nm, q, N, bs, bm, sn, sub, ab, col, dd, k0, k1, k2, k3, k5, hC, hbm⟩ := T.cls
  obtain ⟨hp, g, dr, tk, os⟩ := s
  have k : ∀ b o, hp.get? b = some o → ((hp.push (kdv_tup [])).push (excO C hp.objs.size)).get? b = some o := fun b o e => Heap.get?_push_of_some _ (Heap.get?_push_of_some _ e)
  have hget : ((hp.push (kdv_tup [])).push (excO C hp.objs.size)).get? (hp.objs.size + 1) = some (excO C hp.objs.size) := by heap_get
  have hnx : K.lookup (hp.objs.size + 1) = none := by
    cases e : K.lookup (hp.objs.size + 1) with
    | none => rfl
    | some o =>
      have z : hp.get? (hp.objs.size + 1) = some o := X _ _ e
      exact absurd (Nat.lt_of_succ_lt (Heap.lt_size z)) (Nat.lt_irrefl _)
  refine PySem.KwMade.call_kw F.excBase_ValueError (fun X => refsVE_contains X bm hbm) (X _ _ hC) (looks_findIn X T.iC) (fun self => bind_fn X self T.tC) ?_
  refine low_initK_NoLabel (s := ⟨(hp.push (kdv_tup [])).push (excO C hp.objs.size), g, dr, tk, os⟩) T (X.keeps k) (hlim.keeps k) hget hnx ?_ fun h' tk' dx ⟨k', hx, dn, dne, hns⟩ => ?_
  · show A.depth + 1 < recursionLimit
    exact hroom
  · have old : ∀ b o, hp.get? b = some o → h'.get? b = some o := fun b o e => k' b o (Nat.ne_of_lt (Nat.lt_succ_of_lt (Heap.lt_size e))) (k b o e)
    have z : hp.objs.size + 1 + 1 ≤ dx := by
      first
        | (simpa only [Heap.size_push] using dn)
        | exact dn
        | (have q := dn; rw [Heap.size_push, Heap.size_push] at q; exact q)
    exact ⟨rfl, hq h' tk' (hp.objs.size + 1) dx ⟨old, Nat.le_succ _, ⟨_, _, hx, rfl, rfl, rfl, rfl⟩, Nat.le_trans (Nat.le_trans (Nat.le_succ _) (Nat.le_succ _)) z, dne, hns⟩⟩
end
end NoLabelX
end PySem

namespace L2
open PySem PySem.Spec PyProof.Rows
theorem relO_low_NoLabel {v : V} {v' : Value} (r : RelV v v') (f : Str) : RelO (List.lookup f [(("name" : Str), v)]) (if f = "name" then some v' else none) := by
  by_cases hw : f = "name"
  · subst hw
    rw [if_pos rfl]
    have q : List.lookup ("name" : Str) [(("name" : Str), v)] = some v := by simp [List.lookup]
    rw [q]
    exact r
  · rw [if_neg hw]
    have qw : (f == ("name" : Str)) = false := by simpa using hw
    have q2 : List.lookup f [(("name" : Str), v)] = none := by simp [List.lookup, qw]
    rw [q2]
    trivial

end L2
namespace DL
open PySem PySem.Spec PyProof.Rows L2
section
variable {X : Cx} {C fI : Addr}
theorem lay_NoLabel {pins : List (Addr × Obj)} {σ : L2.St} {H1 : Hp} {Q : VK} {hp h' : Heap} {g : Array GenState} {dr : Drawn} {tk tk' : Nat} {os : OsState} {e d : Addr} {v : V} {v' : Value} (I1 : Inv X pins σ H1 ⟨hp, g, dr, tk, os⟩) (rv : RelV v v') (M : PySem.NoLabelX.OwnMade hp h' e C d v')
    (q1 : ∀ a d, H1 a = none → H1 d = none → a ≠ d → Q (.ref a) (upd (upd H1 d (.xd [(("name" : Str), v)])) a (ExD C a (some d)))) : EP X pins σ Q (.ref e) ⟨h', g, dr, tk', os⟩ := by
  obtain ⟨oe, fv, hoe, hc, hd, hdat, _⟩ := M.obj
  have hns := M.ns
  obtain ⟨G', g1, g2⟩ := restrict h' fun b => decide (b ≠ e)
  have gk : ∀ b, b ≠ e → G'.get? b = h'.get? b := fun b hb => g1 b (decide_eq_true hb)
  have ge : G'.get? e = none := g2 e (by simp)
  have old : ∀ b o, hp.get? b = some o → G'.get? b = some o := fun b o q =>
    (gk b (Nat.ne_of_lt (Nat.lt_of_lt_of_le (Heap.lt_size q) M.new))).trans (M.keep b o q)
  have ob : ObjOk X.prog X.w (upd H1 d (.xd [(("name" : Str), v)])) G' d (.xd [(("name" : Str), v)]) := ⟨_, hns.at (fun o q => (gk d M.dne).trans q), fun f => relO_low_NoLabel rv f⟩
  have J : Inv X pins σ (upd H1 d (.xd [(("name" : Str), v)])) ⟨G', g, dr, tk', os⟩ := I1.laid (t' := tk') old M.dbig ob
  have he : H1 e = none := I1.hok.fresh M.new
  have hn : upd H1 d (.xd [(("name" : Str), v)]) e = none := by
    rw [upd_ne (Ne.symm M.dne)]
    exact he
  have kp : ∀ b u, G'.get? b = some u → h'.get? b = some u := fun b u q => by
    by_cases hb : b = e
    · rw [hb, ge] at q
      cases q
    · exact (gk b hb).symm.trans q
  exact ⟨.ref e, _, J.laidN (h' := h') (t' := tk') kp ge hn (exD_ok hoe ⟨hc, hd⟩ hdat), rfl, q1 e d he (I1.hok.fresh M.dbig) (Ne.symm M.dne)⟩
theorem pe_val_NoLabel {a : Expr} {p pos : Pos} {k : Nat} {ta : TA} (T : PySem.NoLabelX.NoLabelTxt X.K X.mg C fI) (hr : Room k X.A) (hg : Gl X "NoLabel") (ha : PA X [a] ta)
    (he : starEach (a :: []) X.env = (false, eval a X.env) :: starEach [] X.env := by rfl) (hpl : (backTo pos (starEach [] X.env)).any (·.1) = false := by rfl) : PE X (.Call (.Name "NoLabel" p) [a] [] pos) (tVal C "name" ta) := by
  refine ⟨fun pins s σ H Q I h => ?_⟩
  refine wpAny_Call_Name_kw (ld_glob I hg T.gC ?_)
  refine PySem.W.callWith_K (h₀ := X.base) I.ok.mod.kin T.kC (thn (ha.run pos pins s σ H _ I h) fun us s1 ⟨vs, H1, I1, r1, v, ev, q1⟩ => ?_) he hpl
  subst ev
  refine ⟨I1.kIn, ?_⟩
  cases r1 with
  | cons rv rn =>
    cases rn
    have hlim := I1.nolimit
    obtain ⟨hp, g, dr, tk, os⟩ := s1
    exact wpAny_call (PySem.NoLabelX.low_made_NoLabel T I1.kIn hlim (by have := hr.dp; omega) fun h' tk' e d M => lay_NoLabel I1 rv M q1)
theorem pe_valK_NoLabel {p pos : Pos} {k : Nat} {kws : List Keyword} {tk : TA} (T : PySem.NoLabelX.NoLabelTxt X.K X.mg C fI) (hr : Room k X.A) (hg : Gl X "NoLabel") (hkw : PK X kws tk)
    (hall : (backToKw pos (keywordEach kws X.env)).all (·.1.isSome) = true := by rfl) (hks : (backToKw pos (keywordEach kws X.env)).filterMap (·.1) = [("name" : Str)] := by rfl)
    (hpl : ((backTo pos (starEach [] X.env)).any (·.1) || (backToKw pos (keywordEach kws X.env)).any (·.1.isNone)) = false := by rfl) : PE X (.Call (.Name "NoLabel" p) [] kws pos) (tVal C "name" tk) := by
  refine ⟨fun pins s σ H Q I h => ?_⟩
  refine wpAny_Call_Name_kw (ld_glob I hg T.gC ?_)
  refine PySem.W.callWith_KW0 (h₀ := X.base) I.ok.mod.kin T.kC hall ?_ hpl
  refine thn (hkw.run pos pins s σ H _ I h) fun us s1 ⟨vs, H1, I1, r1, v, ev, q1⟩ => ?_
  subst ev
  refine ⟨I1.kIn, ?_⟩
  rw [hks]
  cases r1 with
  | cons rv rn =>
    cases rn
    have hlim := I1.nolimit
    obtain ⟨hp, g, dr, tk, os⟩ := s1
    exact wpAny_call (PySem.NoLabelX.low_madeK_NoLabel T I1.kIn hlim (by have := hr.dp; omega) fun h' tk' e d M => lay_NoLabel I1 rv M q1)
theorem pe_get_NoLabel {e : Expr} {te : TE} {pos : Pos} (T : PySem.NoLabelX.NoLabelTxt X.K X.mg C fI) (he : PE X e te) (hb : attributeBase e "name" X.env (eval e X.env) = eval e X.env := by rfl) : PE X (.Attribute e "name" pos) (tGet C "name" te) := by
  refine ⟨fun pins s σ H Q I h => ?_⟩
  refine attr_of hb (thn (he.run pins s σ H _ I h) fun u s1 ⟨x, H1, I1, rx, a, dd, v, ex, ha, ea, q⟩ => ?_)
  subst ex
  cases rx
  obtain ⟨⟨oe, vs, ho, hz, hd⟩, _, _⟩ : ObjOk X.prog X.w H1 s1.heap a (ExD C a (some dd)) := I1.hok a _ ha
  obtain ⟨mA, hns, hr⟩ : ObjOk X.prog X.w H1 s1.heap dd (.xd [(("name" : Str), v)]) := I1.hok dd _ ea
  obtain ⟨od, hod, hl⟩ := lookIn_ns hns
  have l : List.lookup ("name" : Str) [(("name" : Str), v)] = some v := by simp [List.lookup]
  obtain ⟨u, hu, ru⟩ := RelO.some_of (v := v) (o := mA "name") (by rw [← l]; exact hr "name")
  have J : PySem.W.InstAt s1.heap a oe C (some od) := ⟨ho, hz.1, by unfold PySem.W.notCls; rw [hd] <;> rfl, by rw [hz.2]; exact hod⟩
  exact HandSPX.exc_get I1.kIn J T.ga T.gg T.exC (PySem.W.findObj_own T.hdC T.noN rfl (by rw [hl, hu])) (handed_of ru) ⟨v, H1, I1.tok _, ru, q⟩
end
end DL


namespace PySem
namespace NoNumberX
open PySem.W PySem.Calls PyProof.Rows PySem.HandSPX
/-! ### the text of __init__ -/
def iA (p1 p2 : Pos) : Arguments := { posonlyargs := [], args := [{ arg := "self", annotation := none, pos := p1 }, { arg := "number", annotation := none, pos := p2 }], vararg := none, kwonlyargs := [], kw_defaults := [], kwarg := none, defaults := [] }
def iB (q1 q2 q3 q4 : Pos) : List Stmt := [.Assign [.Attribute (.Name "self" q1) "number" q2] (.Name "number" q3) q4]
def iS : Scope := { kind := .function, names := [(PySem.Str.ofString "self", .local), (PySem.Str.ofString "number", .local)], isGenerator := false, isCoroutine := false, more := [] }
/-- what the written part says of Low, at C, and of its __init__, at fI -/
structure NoNumberTxt (K : Frag) (mg : Str → Option Value) (C fI : Addr) : Prop where
  gC : mg "NoNumber" = some (.ref C)
  cls : ∃ nm q N bs bm sn sub ab col dd k0 k1 k2 k3 k5, K.lookup C = some (excClassObj nm q C N bs bm true sn sub ab col dd k0 k1 k2 k3 k5 "ValueError.__new__") ∧ refsVE bm = true
  sa : findIn K (.ref C) "__setattr__" = some (some (.builtin "object.__setattr__"))
  ga : findIn K (.ref C) "__getattribute__" = some (some (.builtin "BaseException.__getattribute__"))
  gg : findIn K (.ref C) "__getattr__" = some none
  noN : findIn K (.ref C) "number" = some none
  iC : findIn K (.ref C) "__init__" = some (some (.ref fI))
  tC : typeIn K (.ref fI) = some (.type "function")
  kC : keepIn K (.ref C) = true
  exC : subIn K (.ref C) (.type "BaseException") = some true
  tyC : typeIn K (.ref C) = some (.type "type")
  hdC : hasDictIn K C = true
  te : exmOne K (.ref C) (.ref C) = some true
  fn : ∃ (oc : Value) (od : Option Addr) (doc pm : Value) (an : Option Addr) (cdv ct : Value) (osl : Array (Option Value)) (p1 p2 q1 q2 q3 q4 : Pos),
    K.lookup fI = some ⟨oc, od, .func (fnOf "__init__" "NoNumber.__init__" (iA p1 p2) (iB q1 q2 q3 q4) iS .none .none doc pm an cdv ct), osl⟩ ∧ codeIn K cdv "NoNumber.__init__" = true
theorem one_size (v : Value) : [v].length ≤ sizeLine := by
  rw [sizeLine_eq]
  exact (by decide : 1 ≤ 16777216)
theorem kept_but {K : Frag} {h h' : Heap} {x : Addr} (X : K.In h) (hx : K.lookup x = none) (k : ∀ b o, b ≠ x → h.get? b = some o → h'.get? b = some o) : K.In h' := fun a o e =>
  k a o (fun z => by rw [z, hx] at e; cases e) (X a o e)
theorem ldC {M : Model} {s : Shared} {name : Str} {scope : Scope} {L a : Addr} {cd : Value} {m : Str → Option Value} {x : Str} {pos : Pos} {v : Value} {Q : Value → Shared → Prop} {A : Around} {E : Value → Shared → Prop} (hn : s.heap.Ns L m) (hv : m x = some v) (h : Q v s)
    (hk : scope.kind = .function := by rfl) (hl : (envOfC name scope L a cd).kindOf x = some .local := by rfl) (hd : (x == ("__debug__" : Str)) = false := by decide) :
    wpAny M A (eval (.Name x pos) (envOfC name scope L a cd)) Q E s := wpAny_Name (wpAny_loadName_local hk hl hn hv h) hd
/-- what __init__ leaves of a fresh exception at x -/
structure InitEnd (h h' : Heap) (x C dx t1 : Addr) (v : Value) : Prop where
  keep : ∀ b o, b ≠ x → h.get? b = some o → h'.get? b = some o
  obj : h'.get? x = some { cls := .ref C, dict := some dx, data := .fields #[.ref t1, .none, .none, .none, .bool false, .none] }
  dbig : h.objs.size ≤ dx
  dne : dx ≠ x
  ns : h'.Ns1 dx (fun y => if y = "number" then some v else none)
/-- a made Low -/
structure OwnMade (h h' : Heap) (e C d : Addr) (v : Value) : Prop where
  keep : ∀ b o, h.get? b = some o → h'.get? b = some o
  new : h.objs.size ≤ e
  obj : ∃ oe vs, h'.get? e = some oe ∧ oe.cls = .ref C ∧ oe.dict = some d ∧ oe.data = .fields vs ∧ vs[1]? = some .none
  dbig : h.objs.size ≤ d
  dne : d ≠ e
  ns : h'.Ns1 d (fun y => if y = "number" then some v else none)
section
variable {prog : Program} {w : World} {A : Around} {E : Value → Shared → Prop} {R : Result → Shared → Prop} {s : Shared} {K : Frag} {mg : Str → Option Value} {C fI : Addr}
theorem low_init_NoNumber (T : NoNumberTxt K mg C fI) {x t0 : Addr} {v : Value} (X : K.In s.heap) (hlim : s.heap.NoLimit) (hx : s.heap.get? x = some (excO C t0)) (hnx : K.lookup x = none) (hroom : A.depth < recursionLimit)
    (hq : ∀ h' tk dx, InitEnd s.heap h' x C dx t0 v → R (.ok (.ret .none)) { s with heap := h', toks := tk }) :
    codeAny (model prog w) A (.call (.ref fI) ⟨[.ref x, v], []⟩) R s := by
  obtain ⟨oc, od, doc, pm, an, cdv, ct, osl, p1, p2, q1, q2, q3, q4, ho, hcd⟩ := T.fn
  obtain ⟨nm, q, N, bs, bm, sn, sub, ab, col, dd, k0, k1, k2, k3, k5, hC, hbm⟩ := T.cls
  have hcl : clsIn K C = some { name := nm, bases := bs, mro := .ref C :: bm, ns := N, qualname := q, hasDict := true, slotNames := sn, subclasses := sub, abstract := ab, collection := col, hasDel := false } := by unfold clsIn; rw [hC] <;> rfl
  refine Att.call_fn (binds := [("self", .ref x), ("number", v)]) X hlim ho hcd hroom (BindsTo.of_eq (by first | rfl | with_unfolding_all rfl)) (by first | rfl | decide | with_unfolding_all rfl) (fun s₁ IC => ?_) rfl rfl rfl
  obtain ⟨h₁, tk₁, rfl⟩ := IC.toInCall.same
  have k : ∀ b o, s.heap.get? b = some o → h₁.get? b = some o := IC.toInCall.keep
  have hn := IC.toInCall.ns
  have hxL : s.heap.objs.size ≠ x := Nat.ne_of_gt (Heap.lt_size hx)
  have X₁ : K.In h₁ := X.keeps k
  have hx₁ := k _ _ hx
  -- self.by = by
  show wpAny _ _ (execs _ _) _ _ _
  refine wpAny_execs_cons (plainObj_wpAny_Assign_Attribute ?_)
  refine ldC (v := v) hn (by first | rfl | with_unfolding_all rfl | kernel_rfl) (ldC (v := .ref x) hn (by first | rfl | with_unfolding_all rfl | kernel_rfl) ?_)
  refine set_plain X₁ (ox := excO C t0) (od := none) ⟨hx₁, rfl, rfl, trivial⟩ T.sa ?_
  refine exc_osa X₁ hx₁ hcl (show refsVE (.ref C :: bm) = true from hbm) rfl T.noN (fun h₃ tk₃ dx k₃ dn dne hx₃ hn₃ => ?_)
  show wpAny _ _ (execs _ _) _ _ _
  have z : s.heap.objs.size < h₁.objs.size := hn.lt
  exact wpAny_execs_nil (hq h₃ tk₃ dx ⟨fun b o hb e => k₃ b o hb (k b o e), hx₃, Nat.le_of_lt (Nat.lt_of_lt_of_le z dn), dne, hn₃⟩)
theorem low_made_NoNumber (T : NoNumberTxt K mg C fI) {v : Value} (X : K.In s.heap) (hlim : s.heap.NoLimit) (hroom : A.depth + 1 < recursionLimit)
    (hq : ∀ h' tk e d, OwnMade s.heap h' e C d v → R (.ok (.ret (.ref e))) { s with heap := h', toks := tk }) :
    codeAny (model prog w) A (.call (.ref C) ⟨[v], []⟩) R s := by
  obtain ⟨nm, q, N, bs, bm, sn, sub, ab, col, dd, k0, k1, k2, k3, k5, hC, hbm⟩ := T.cls
  obtain ⟨hp, g, dr, tk, os⟩ := s
  have k : ∀ b o, hp.get? b = some o → ((hp.push (kdv_tup [v])).push (excO C hp.objs.size)).get? b = some o := fun b o e => Heap.get?_push_of_some _ (Heap.get?_push_of_some _ e)
  have hget : ((hp.push (kdv_tup [v])).push (excO C hp.objs.size)).get? (hp.objs.size + 1) = some (excO C hp.objs.size) := by heap_get
  have hnx : K.lookup (hp.objs.size + 1) = none := by
    cases e : K.lookup (hp.objs.size + 1) with
    | none => rfl
    | some o =>
      have z : hp.get? (hp.objs.size + 1) = some o := X _ _ e
      exact absurd (Nat.lt_of_succ_lt (Heap.lt_size z)) (Nat.lt_irrefl _)
  refine call_own F.excBase_ValueError (fun X => refsVE_contains X bm hbm) (X _ _ hC) (looks_findIn X T.iC) (fun self => bind_fn X self T.tC) (one_size v) ?_
  refine low_init_NoNumber (s := ⟨(hp.push (kdv_tup [v])).push (excO C hp.objs.size), g, dr, tk, os⟩) T (X.keeps k) (hlim.keeps k) hget hnx ?_ fun h' tk' dx ⟨k', hx, dn, dne, hns⟩ => ?_
  · show A.depth + 1 < recursionLimit
    exact hroom
  · have old : ∀ b o, hp.get? b = some o → h'.get? b = some o := fun b o e => k' b o (Nat.ne_of_lt (Nat.lt_succ_of_lt (Heap.lt_size e))) (k b o e)
    have z : hp.objs.size + 1 + 1 ≤ dx := by
      first
        | (simpa only [Heap.size_push] using dn)
        | exact dn
        | (have q := dn; rw [Heap.size_push, Heap.size_push] at q; exact q)
    exact ⟨rfl, hq h' tk' (hp.objs.size + 1) dx ⟨old, Nat.le_succ _, ⟨_, _, hx, rfl, rfl, rfl, rfl⟩, Nat.le_trans (Nat.le_trans (Nat.le_succ _) (Nat.le_succ _)) z, dne, hns⟩⟩
theorem low_initK_NoNumber (T : NoNumberTxt K mg C fI) {x t0 : Addr} {v : Value} (X : K.In s.heap) (hlim : s.heap.NoLimit) (hx : s.heap.get? x = some (excO C t0)) (hnx : K.lookup x = none) (hroom : A.depth < recursionLimit)
    (hq : ∀ h' tk dx, InitEnd s.heap h' x C dx t0 v → R (.ok (.ret .none)) { s with heap := h', toks := tk }) :
    codeAny (model prog w) A (.call (.ref fI) ⟨[.ref x], [("number", v)]⟩) R s := by
  obtain ⟨oc, od, doc, pm, an, cdv, ct, osl, p1, p2, q1, q2, q3, q4, ho, hcd⟩ := T.fn
  obtain ⟨nm, q, N, bs, bm, sn, sub, ab, col, dd, k0, k1, k2, k3, k5, hC, hbm⟩ := T.cls
  have hcl : clsIn K C = some { name := nm, bases := bs, mro := .ref C :: bm, ns := N, qualname := q, hasDict := true, slotNames := sn, subclasses := sub, abstract := ab, collection := col, hasDel := false } := by unfold clsIn; rw [hC] <;> rfl
  refine Att.call_fn (binds := [("self", .ref x), ("number", v)]) X hlim ho hcd hroom (BindsTo.of_eq (by first | rfl | with_unfolding_all rfl)) (by first | rfl | decide | with_unfolding_all rfl) (fun s₁ IC => ?_) rfl rfl rfl
  obtain ⟨h₁, tk₁, rfl⟩ := IC.toInCall.same
  have k : ∀ b o, s.heap.get? b = some o → h₁.get? b = some o := IC.toInCall.keep
  have hn := IC.toInCall.ns
  have hxL : s.heap.objs.size ≠ x := Nat.ne_of_gt (Heap.lt_size hx)
  have X₁ : K.In h₁ := X.keeps k
  have hx₁ := k _ _ hx
  -- self.by = by
  show wpAny _ _ (execs _ _) _ _ _
  refine wpAny_execs_cons (plainObj_wpAny_Assign_Attribute ?_)
  refine ldC (v := v) hn (by first | rfl | with_unfolding_all rfl | kernel_rfl) (ldC (v := .ref x) hn (by first | rfl | with_unfolding_all rfl | kernel_rfl) ?_)
  refine set_plain X₁ (ox := excO C t0) (od := none) ⟨hx₁, rfl, rfl, trivial⟩ T.sa ?_
  refine exc_osa X₁ hx₁ hcl (show refsVE (.ref C :: bm) = true from hbm) rfl T.noN (fun h₃ tk₃ dx k₃ dn dne hx₃ hn₃ => ?_)
  show wpAny _ _ (execs _ _) _ _ _
  have z : s.heap.objs.size < h₁.objs.size := hn.lt
  exact wpAny_execs_nil (hq h₃ tk₃ dx ⟨fun b o hb e => k₃ b o hb (k b o e), hx₃, Nat.le_of_lt (Nat.lt_of_lt_of_le z dn), dne, hn₃⟩)
theorem low_madeK_NoNumber (T : NoNumberTxt K mg C fI) {v : Value} (X : K.In s.heap) (hlim : s.heap.NoLimit) (hroom : A.depth + 1 < recursionLimit)
    (hq : ∀ h' tk e d, OwnMade s.heap h' e C d v → R (.ok (.ret (.ref e))) { s with heap := h', toks := tk }) :
    codeAny (model prog w) A (.call (.ref C) ⟨[], [("number", v)]⟩) R s := by
  obtain ⟨nm, q, N, bs, bm, sn, sub, ab, col, dd, k0, k1, k2, k3, k5, hC, hbm⟩ := T.cls
  obtain ⟨hp, g, dr, tk, os⟩ := s
  have k : ∀ b o, hp.get? b = some o → ((hp.push (kdv_tup [])).push (excO C hp.objs.size)).get? b = some o := fun b o e => Heap.get?_push_of_some _ (Heap.get?_push_of_some _ e)
  have hget : ((hp.push (kdv_tup [])).push (excO C hp.objs.size)).get? (hp.objs.size + 1) = some (excO C hp.objs.size) := by heap_get
  have hnx : K.lookup (hp.objs.size + 1) = none := by
    cases e : K.lookup (hp.objs.size + 1) with
    | none => rfl
    | some o =>
      have z : hp.get? (hp.objs.size + 1) = some o := X _ _ e
      exact absurd (Nat.lt_of_succ_lt (Heap.lt_size z)) (Nat.lt_irrefl _)
  refine PySem.KwMade.call_kw F.excBase_ValueError (fun X => refsVE_contains X bm hbm) (X _ _ hC) (looks_findIn X T.iC) (fun self => bind_fn X self T.tC) ?_
  refine low_initK_NoNumber (s := ⟨(hp.push (kdv_tup [])).push (excO C hp.objs.size), g, dr, tk, os⟩) T (X.keeps k) (hlim.keeps k) hget hnx ?_ fun h' tk' dx ⟨k', hx, dn, dne, hns⟩ => ?_
  · show A.depth + 1 < recursionLimit
    exact hroom
  · have old : ∀ b o, hp.get? b = some o → h'.get? b = some o := fun b o e => k' b o (Nat.ne_of_lt (Nat.lt_succ_of_lt (Heap.lt_size e))) (k b o e)
    have z : hp.objs.size + 1 + 1 ≤ dx := by
      first
        | (simpa only [Heap.size_push] using dn)
        | exact dn
        | (have q := dn; rw [Heap.size_push, Heap.size_push] at q; exact q)
    exact ⟨rfl, hq h' tk' (hp.objs.size + 1) dx ⟨old, Nat.le_succ _, ⟨_, _, hx, rfl, rfl, rfl, rfl⟩, Nat.le_trans (Nat.le_trans (Nat.le_succ _) (Nat.le_succ _)) z, dne, hns⟩⟩
end
end NoNumberX
end PySem

namespace L2
open PySem PySem.Spec PyProof.Rows
theorem relO_low_NoNumber {v : V} {v' : Value} (r : RelV v v') (f : Str) : RelO (List.lookup f [(("number" : Str), v)]) (if f = "number" then some v' else none) := by
  by_cases hw : f = "number"
  · subst hw
    rw [if_pos rfl]
    have q : List.lookup ("number" : Str) [(("number" : Str), v)] = some v := by simp [List.lookup]
    rw [q]
    exact r
  · rw [if_neg hw]
    have qw : (f == ("number" : Str)) = false := by simpa using hw
    have q2 : List.lookup f [(("number" : Str), v)] = none := by simp [List.lookup, qw]
    rw [q2]
    trivial

end L2
namespace DL
open PySem PySem.Spec PyProof.Rows L2
section
variable {X : Cx} {C fI : Addr}
theorem lay_NoNumber {pins : List (Addr × Obj)} {σ : L2.St} {H1 : Hp} {Q : VK} {hp h' : Heap} {g : Array GenState} {dr : Drawn} {tk tk' : Nat} {os : OsState} {e d : Addr} {v : V} {v' : Value} (I1 : Inv X pins σ H1 ⟨hp, g, dr, tk, os⟩) (rv : RelV v v') (M : PySem.NoNumberX.OwnMade hp h' e C d v')
    (q1 : ∀ a d, H1 a = none → H1 d = none → a ≠ d → Q (.ref a) (upd (upd H1 d (.xd [(("number" : Str), v)])) a (ExD C a (some d)))) : EP X pins σ Q (.ref e) ⟨h', g, dr, tk', os⟩ := by
  obtain ⟨oe, fv, hoe, hc, hd, hdat, _⟩ := M.obj
  have hns := M.ns
  obtain ⟨G', g1, g2⟩ := restrict h' fun b => decide (b ≠ e)
  have gk : ∀ b, b ≠ e → G'.get? b = h'.get? b := fun b hb => g1 b (decide_eq_true hb)
  have ge : G'.get? e = none := g2 e (by simp)
  have old : ∀ b o, hp.get? b = some o → G'.get? b = some o := fun b o q =>
    (gk b (Nat.ne_of_lt (Nat.lt_of_lt_of_le (Heap.lt_size q) M.new))).trans (M.keep b o q)
  have ob : ObjOk X.prog X.w (upd H1 d (.xd [(("number" : Str), v)])) G' d (.xd [(("number" : Str), v)]) := ⟨_, hns.at (fun o q => (gk d M.dne).trans q), fun f => relO_low_NoNumber rv f⟩
  have J : Inv X pins σ (upd H1 d (.xd [(("number" : Str), v)])) ⟨G', g, dr, tk', os⟩ := I1.laid (t' := tk') old M.dbig ob
  have he : H1 e = none := I1.hok.fresh M.new
  have hn : upd H1 d (.xd [(("number" : Str), v)]) e = none := by
    rw [upd_ne (Ne.symm M.dne)]
    exact he
  have kp : ∀ b u, G'.get? b = some u → h'.get? b = some u := fun b u q => by
    by_cases hb : b = e
    · rw [hb, ge] at q
      cases q
    · exact (gk b hb).symm.trans q
  exact ⟨.ref e, _, J.laidN (h' := h') (t' := tk') kp ge hn (exD_ok hoe ⟨hc, hd⟩ hdat), rfl, q1 e d he (I1.hok.fresh M.dbig) (Ne.symm M.dne)⟩
theorem pe_val_NoNumber {a : Expr} {p pos : Pos} {k : Nat} {ta : TA} (T : PySem.NoNumberX.NoNumberTxt X.K X.mg C fI) (hr : Room k X.A) (hg : Gl X "NoNumber") (ha : PA X [a] ta)
    (he : starEach (a :: []) X.env = (false, eval a X.env) :: starEach [] X.env := by rfl) (hpl : (backTo pos (starEach [] X.env)).any (·.1) = false := by rfl) : PE X (.Call (.Name "NoNumber" p) [a] [] pos) (tVal C "number" ta) := by
  refine ⟨fun pins s σ H Q I h => ?_⟩
  refine wpAny_Call_Name_kw (ld_glob I hg T.gC ?_)
  refine PySem.W.callWith_K (h₀ := X.base) I.ok.mod.kin T.kC (thn (ha.run pos pins s σ H _ I h) fun us s1 ⟨vs, H1, I1, r1, v, ev, q1⟩ => ?_) he hpl
  subst ev
  refine ⟨I1.kIn, ?_⟩
  cases r1 with
  | cons rv rn =>
    cases rn
    have hlim := I1.nolimit
    obtain ⟨hp, g, dr, tk, os⟩ := s1
    exact wpAny_call (PySem.NoNumberX.low_made_NoNumber T I1.kIn hlim (by have := hr.dp; omega) fun h' tk' e d M => lay_NoNumber I1 rv M q1)
theorem pe_valK_NoNumber {p pos : Pos} {k : Nat} {kws : List Keyword} {tk : TA} (T : PySem.NoNumberX.NoNumberTxt X.K X.mg C fI) (hr : Room k X.A) (hg : Gl X "NoNumber") (hkw : PK X kws tk)
    (hall : (backToKw pos (keywordEach kws X.env)).all (·.1.isSome) = true := by rfl) (hks : (backToKw pos (keywordEach kws X.env)).filterMap (·.1) = [("number" : Str)] := by rfl)
    (hpl : ((backTo pos (starEach [] X.env)).any (·.1) || (backToKw pos (keywordEach kws X.env)).any (·.1.isNone)) = false := by rfl) : PE X (.Call (.Name "NoNumber" p) [] kws pos) (tVal C "number" tk) := by
  refine ⟨fun pins s σ H Q I h => ?_⟩
  refine wpAny_Call_Name_kw (ld_glob I hg T.gC ?_)
  refine PySem.W.callWith_KW0 (h₀ := X.base) I.ok.mod.kin T.kC hall ?_ hpl
  refine thn (hkw.run pos pins s σ H _ I h) fun us s1 ⟨vs, H1, I1, r1, v, ev, q1⟩ => ?_
  subst ev
  refine ⟨I1.kIn, ?_⟩
  rw [hks]
  cases r1 with
  | cons rv rn =>
    cases rn
    have hlim := I1.nolimit
    obtain ⟨hp, g, dr, tk, os⟩ := s1
    exact wpAny_call (PySem.NoNumberX.low_madeK_NoNumber T I1.kIn hlim (by have := hr.dp; omega) fun h' tk' e d M => lay_NoNumber I1 rv M q1)
theorem pe_get_NoNumber {e : Expr} {te : TE} {pos : Pos} (T : PySem.NoNumberX.NoNumberTxt X.K X.mg C fI) (he : PE X e te) (hb : attributeBase e "number" X.env (eval e X.env) = eval e X.env := by rfl) : PE X (.Attribute e "number" pos) (tGet C "number" te) := by
  refine ⟨fun pins s σ H Q I h => ?_⟩
  refine attr_of hb (thn (he.run pins s σ H _ I h) fun u s1 ⟨x, H1, I1, rx, a, dd, v, ex, ha, ea, q⟩ => ?_)
  subst ex
  cases rx
  obtain ⟨⟨oe, vs, ho, hz, hd⟩, _, _⟩ : ObjOk X.prog X.w H1 s1.heap a (ExD C a (some dd)) := I1.hok a _ ha
  obtain ⟨mA, hns, hr⟩ : ObjOk X.prog X.w H1 s1.heap dd (.xd [(("number" : Str), v)]) := I1.hok dd _ ea
  obtain ⟨od, hod, hl⟩ := lookIn_ns hns
  have l : List.lookup ("number" : Str) [(("number" : Str), v)] = some v := by simp [List.lookup]
  obtain ⟨u, hu, ru⟩ := RelO.some_of (v := v) (o := mA "number") (by rw [← l]; exact hr "number")
  have J : PySem.W.InstAt s1.heap a oe C (some od) := ⟨ho, hz.1, by unfold PySem.W.notCls; rw [hd] <;> rfl, by rw [hz.2]; exact hod⟩
  exact HandSPX.exc_get I1.kIn J T.ga T.gg T.exC (PySem.W.findObj_own T.hdC T.noN rfl (by rw [hl, hu])) (handed_of ru) ⟨v, H1, I1.tok _, ru, q⟩
end
end DL


namespace PySem
namespace NoPartX
open PySem.W PySem.Calls PyProof.Rows PySem.HandSPX
/-! ### the text of __init__ -/
def iA (p1 p2 : Pos) : Arguments := { posonlyargs := [], args := [{ arg := "self", annotation := none, pos := p1 }, { arg := "name", annotation := none, pos := p2 }], vararg := none, kwonlyargs := [], kw_defaults := [], kwarg := none, defaults := [] }
def iB (q1 q2 q3 q4 : Pos) : List Stmt := [.Assign [.Attribute (.Name "self" q1) "name" q2] (.Name "name" q3) q4]
def iS : Scope := { kind := .function, names := [(PySem.Str.ofString "self", .local), (PySem.Str.ofString "name", .local)], isGenerator := false, isCoroutine := false, more := [] }
/-- what the written part says of Low, at C, and of its __init__, at fI -/
structure NoPartTxt (K : Frag) (mg : Str → Option Value) (C fI : Addr) : Prop where
  gC : mg "NoPart" = some (.ref C)
  cls : ∃ nm q N bs bm sn sub ab col dd k0 k1 k2 k3 k5, K.lookup C = some (excClassObj nm q C N bs bm true sn sub ab col dd k0 k1 k2 k3 k5 "ValueError.__new__") ∧ refsVE bm = true
  sa : findIn K (.ref C) "__setattr__" = some (some (.builtin "object.__setattr__"))
  ga : findIn K (.ref C) "__getattribute__" = some (some (.builtin "BaseException.__getattribute__"))
  gg : findIn K (.ref C) "__getattr__" = some none
  noN : findIn K (.ref C) "name" = some none
  iC : findIn K (.ref C) "__init__" = some (some (.ref fI))
  tC : typeIn K (.ref fI) = some (.type "function")
  kC : keepIn K (.ref C) = true
  exC : subIn K (.ref C) (.type "BaseException") = some true
  tyC : typeIn K (.ref C) = some (.type "type")
  hdC : hasDictIn K C = true
  te : exmOne K (.ref C) (.ref C) = some true
  fn : ∃ (oc : Value) (od : Option Addr) (doc pm : Value) (an : Option Addr) (cdv ct : Value) (osl : Array (Option Value)) (p1 p2 q1 q2 q3 q4 : Pos),
    K.lookup fI = some ⟨oc, od, .func (fnOf "__init__" "NoPart.__init__" (iA p1 p2) (iB q1 q2 q3 q4) iS .none .none doc pm an cdv ct), osl⟩ ∧ codeIn K cdv "NoPart.__init__" = true
theorem one_size (v : Value) : [v].length ≤ sizeLine := by
  rw [sizeLine_eq]
  exact (by decide : 1 ≤ 16777216)
theorem kept_but {K : Frag} {h h' : Heap} {x : Addr} (X : K.In h) (hx : K.lookup x = none) (k : ∀ b o, b ≠ x → h.get? b = some o → h'.get? b = some o) : K.In h' := fun a o e =>
  k a o (fun z => by rw [z, hx] at e; cases e) (X a o e)
theorem ldC {M : Model} {s : Shared} {name : Str} {scope : Scope} {L a : Addr} {cd : Value} {m : Str → Option Value} {x : Str} {pos : Pos} {v : Value} {Q : Value → Shared → Prop} {A : Around} {E : Value → Shared → Prop} (hn : s.heap.Ns L m) (hv : m x = some v) (h : Q v s)
    (hk : scope.kind = .function := by rfl) (hl : (envOfC name scope L a cd).kindOf x = some .local := by rfl) (hd : (x == ("__debug__" : Str)) = false := by decide) :
    wpAny M A (eval (.Name x pos) (envOfC name scope L a cd)) Q E s := wpAny_Name (wpAny_loadName_local hk hl hn hv h) hd
/-- what __init__ leaves of a fresh exception at x -/
structure InitEnd (h h' : Heap) (x C dx t1 : Addr) (v : Value) : Prop where
  keep : ∀ b o, b ≠ x → h.get? b = some o → h'.get? b = some o
  obj : h'.get? x = some { cls := .ref C, dict := some dx, data := .fields #[.ref t1, .none, .none, .none, .bool false, .none] }
  dbig : h.objs.size ≤ dx
  dne : dx ≠ x
  ns : h'.Ns1 dx (fun y => if y = "name" then some v else none)
/-- a made Low -/
structure OwnMade (h h' : Heap) (e C d : Addr) (v : Value) : Prop where
  keep : ∀ b o, h.get? b = some o → h'.get? b = some o
  new : h.objs.size ≤ e
  obj : ∃ oe vs, h'.get? e = some oe ∧ oe.cls = .ref C ∧ oe.dict = some d ∧ oe.data = .fields vs ∧ vs[1]? = some .none
  dbig : h.objs.size ≤ d
  dne : d ≠ e
  ns : h'.Ns1 d (fun y => if y = "name" then some v else none)
section
variable {prog : Program} {w : World} {A : Around} {E : Value → Shared → Prop} {R : Result → Shared → Prop} {s : Shared} {K : Frag} {mg : Str → Option Value} {C fI : Addr}
theorem low_init_NoPart (T : NoPartTxt K mg C fI) {x t0 : Addr} {v : Value} (X : K.In s.heap) (hlim : s.heap.NoLimit) (hx : s.heap.get? x = some (excO C t0)) (hnx : K.lookup x = none) (hroom : A.depth < recursionLimit)
    (hq : ∀ h' tk dx, InitEnd s.heap h' x C dx t0 v → R (.ok (.ret .none)) { s with heap := h', toks := tk }) :
    codeAny (model prog w) A (.call (.ref fI) ⟨[.ref x, v], []⟩) R s := by
  obtain ⟨oc, od, doc, pm, an, cdv, ct, osl, p1, p2, q1, q2, q3, q4, ho, hcd⟩ := T.fn
  obtain ⟨nm, q, N, bs, bm, sn, sub, ab, col, dd, k0, k1, k2, k3, k5, hC, hbm⟩ := T.cls
  have hcl : clsIn K C = some { name := nm, bases := bs, mro := .ref C :: bm, ns := N, qualname := q, hasDict := true, slotNames := sn, subclasses := sub, abstract := ab, collection := col, hasDel := false } := by unfold clsIn; rw [hC] <;> rfl
  refine Att.call_fn (binds := [("self", .ref x), ("name", v)]) X hlim ho hcd hroom (BindsTo.of_eq (by first | rfl | with_unfolding_all rfl)) (by first | rfl | decide | with_unfolding_all rfl) (fun s₁ IC => ?_) rfl rfl rfl
  obtain ⟨h₁, tk₁, rfl⟩ := IC.toInCall.same
  have k : ∀ b o, s.heap.get? b = some o → h₁.get? b = some o := IC.toInCall.keep
  have hn := IC.toInCall.ns
  have hxL : s.heap.objs.size ≠ x := Nat.ne_of_gt (Heap.lt_size hx)
  have X₁ : K.In h₁ := X.keeps k
  have hx₁ := k _ _ hx
  -- self.by = by
  show wpAny _ _ (execs _ _) _ _ _
  refine wpAny_execs_cons (plainObj_wpAny_Assign_Attribute ?_)
  refine ldC (v := v) hn (by first | rfl | with_unfolding_all rfl | kernel_rfl) (ldC (v := .ref x) hn (by first | rfl | with_unfolding_all rfl | kernel_rfl) ?_)
  refine set_plain X₁ (ox := excO C t0) (od := none) ⟨hx₁, rfl, rfl, trivial⟩ T.sa ?_
  refine exc_osa X₁ hx₁ hcl (show refsVE (.ref C :: bm) = true from hbm) rfl T.noN (fun h₃ tk₃ dx k₃ dn dne hx₃ hn₃ => ?_)
  show wpAny _ _ (execs _ _) _ _ _
  have z : s.heap.objs.size < h₁.objs.size := hn.lt
  exact wpAny_execs_nil (hq h₃ tk₃ dx ⟨fun b o hb e => k₃ b o hb (k b o e), hx₃, Nat.le_of_lt (Nat.lt_of_lt_of_le z dn), dne, hn₃⟩)
theorem low_made_NoPart (T : NoPartTxt K mg C fI) {v : Value} (X : K.In s.heap) (hlim : s.heap.NoLimit) (hroom : A.depth + 1 < recursionLimit)
    (hq : ∀ h' tk e d, OwnMade s.heap h' e C d v → R (.ok (.ret (.ref e))) { s with heap := h', toks := tk }) :
    codeAny (model prog w) A (.call (.ref C) ⟨[v], []⟩) R s := by
  obtain ⟨nm, q, N, bs, bm, sn, sub, ab, col, dd, k0, k1, k2, k3, k5, hC, hbm⟩ := T.cls
  obtain ⟨hp, g, dr, tk, os⟩ := s
  have k : ∀ b o, hp.get? b = some o → ((hp.push (kdv_tup [v])).push (excO C hp.objs.size)).get? b = some o := fun b o e => Heap.get?_push_of_some _ (Heap.get?_push_of_some _ e)
  have hget : ((hp.push (kdv_tup [v])).push (excO C hp.objs.size)).get? (hp.objs.size + 1) = some (excO C hp.objs.size) := by heap_get
  have hnx : K.lookup (hp.objs.size + 1) = none := by
    cases e : K.lookup (hp.objs.size + 1) with
    | none => rfl
    | some o =>
      have z : hp.get? (hp.objs.size + 1) = some o := X _ _ e
      exact absurd (Nat.lt_of_succ_lt (Heap.lt_size z)) (Nat.lt_irrefl _)
  refine call_own F.excBase_ValueError (fun X => refsVE_contains X bm hbm) (X _ _ hC) (looks_findIn X T.iC) (fun self => bind_fn X self T.tC) (one_size v) ?_
  refine low_init_NoPart (s := ⟨(hp.push (kdv_tup [v])).push (excO C hp.objs.size), g, dr, tk, os⟩) T (X.keeps k) (hlim.keeps k) hget hnx ?_ fun h' tk' dx ⟨k', hx, dn, dne, hns⟩ => ?_
  · show A.depth + 1 < recursionLimit
    exact hroom
  · have old : ∀ b o, hp.get? b = some o → h'.get? b = some o := fun b o e => k' b o (Nat.ne_of_lt (Nat.lt_succ_of_lt (Heap.lt_size e))) (k b o e)
    have z : hp.objs.size + 1 + 1 ≤ dx := by
      first
        | (simpa only [Heap.size_push] using dn)
        | exact dn
        | (have q := dn; rw [Heap.size_push, Heap.size_push] at q; exact q)
    exact ⟨rfl, hq h' tk' (hp.objs.size + 1) dx ⟨old, Nat.le_succ _, ⟨_, _, hx, rfl, rfl, rfl, rfl⟩, Nat.le_trans (Nat.le_trans (Nat.le_succ _) (Nat.le_succ _)) z, dne, hns⟩⟩
theorem low_initK_NoPart (T : NoPartTxt K mg C fI) {x t0 : Addr} {v : Value} (X : K.In s.heap) (hlim : s.heap.NoLimit) (hx : s.heap.get? x = some (excO C t0)) (hnx : K.lookup x = none) (hroom : A.depth < recursionLimit)
    (hq : ∀ h' tk dx, InitEnd s.heap h' x C dx t0 v → R (.ok (.ret .none)) { s with heap := h', toks := tk }) :
    codeAny (model prog w) A (.call (.ref fI) ⟨[.ref x], [("name", v)]⟩) R s := by
  obtain ⟨oc, od, doc, pm, an, cdv, ct, osl, p1, p2, q1, q2, q3, q4, ho, hcd⟩ := T.fn
  obtain ⟨nm, q, N, bs, bm, sn, sub, ab, col, dd, k0, k1, k2, k3, k5, hC, hbm⟩ := T.cls
  have hcl : clsIn K C = some { name := nm, bases := bs, mro := .ref C :: bm, ns := N, qualname := q, hasDict := true, slotNames := sn, subclasses := sub, abstract := ab, collection := col, hasDel := false } := by unfold clsIn; rw [hC] <;> rfl
  refine Att.call_fn (binds := [("self", .ref x), ("name", v)]) X hlim ho hcd hroom (BindsTo.of_eq (by first | rfl | with_unfolding_all rfl)) (by first | rfl | decide | with_unfolding_all rfl) (fun s₁ IC => ?_) rfl rfl rfl
  obtain ⟨h₁, tk₁, rfl⟩ := IC.toInCall.same
  have k : ∀ b o, s.heap.get? b = some o → h₁.get? b = some o := IC.toInCall.keep
  have hn := IC.toInCall.ns
  have hxL : s.heap.objs.size ≠ x := Nat.ne_of_gt (Heap.lt_size hx)
  have X₁ : K.In h₁ := X.keeps k
  have hx₁ := k _ _ hx
  -- self.by = by
  show wpAny _ _ (execs _ _) _ _ _
  refine wpAny_execs_cons (plainObj_wpAny_Assign_Attribute ?_)
  refine ldC (v := v) hn (by first | rfl | with_unfolding_all rfl | kernel_rfl) (ldC (v := .ref x) hn (by first | rfl | with_unfolding_all rfl | kernel_rfl) ?_)
  refine set_plain X₁ (ox := excO C t0) (od := none) ⟨hx₁, rfl, rfl, trivial⟩ T.sa ?_
  refine exc_osa X₁ hx₁ hcl (show refsVE (.ref C :: bm) = true from hbm) rfl T.noN (fun h₃ tk₃ dx k₃ dn dne hx₃ hn₃ => ?_)
  show wpAny _ _ (execs _ _) _ _ _
  have z : s.heap.objs.size < h₁.objs.size := hn.lt
  exact wpAny_execs_nil (hq h₃ tk₃ dx ⟨fun b o hb e => k₃ b o hb (k b o e), hx₃, Nat.le_of_lt (Nat.lt_of_lt_of_le z dn), dne, hn₃⟩)
theorem low_madeK_NoPart (T : NoPartTxt K mg C fI) {v : Value} (X : K.In s.heap) (hlim : s.heap.NoLimit) (hroom : A.depth + 1 < recursionLimit)
    (hq : ∀ h' tk e d, OwnMade s.heap h' e C d v → R (.ok (.ret (.ref e))) { s with heap := h', toks := tk }) :
    codeAny (model prog w) A (.call (.ref C) ⟨[], [("name", v)]⟩) R s := by
  obtain ⟨nm, q, N, bs, bm, sn, sub, ab, col, dd, k0, k1, k2, k3, k5, hC, hbm⟩ := T.cls
  obtain ⟨hp, g, dr, tk, os⟩ := s
  have k : ∀ b o, hp.get? b = some o → ((hp.push (kdv_tup [])).push (excO C hp.objs.size)).get? b = some o := fun b o e => Heap.get?_push_of_some _ (Heap.get?_push_of_some _ e)
  have hget : ((hp.push (kdv_tup [])).push (excO C hp.objs.size)).get? (hp.objs.size + 1) = some (excO C hp.objs.size) := by heap_get
  have hnx : K.lookup (hp.objs.size + 1) = none := by
    cases e : K.lookup (hp.objs.size + 1) with
    | none => rfl
    | some o =>
      have z : hp.get? (hp.objs.size + 1) = some o := X _ _ e
      exact absurd (Nat.lt_of_succ_lt (Heap.lt_size z)) (Nat.lt_irrefl _)
  refine PySem.KwMade.call_kw F.excBase_ValueError (fun X => refsVE_contains X bm hbm) (X _ _ hC) (looks_findIn X T.iC) (fun self => bind_fn X self T.tC) ?_
  refine low_initK_NoPart (s := ⟨(hp.push (kdv_tup [])).push (excO C hp.objs.size), g, dr, tk, os⟩) T (X.keeps k) (hlim.keeps k) hget hnx ?_ fun h' tk' dx ⟨k', hx, dn, dne, hns⟩ => ?_
  · show A.depth + 1 < recursionLimit
    exact hroom
  · have old : ∀ b o, hp.get? b = some o → h'.get? b = some o := fun b o e => k' b o (Nat.ne_of_lt (Nat.lt_succ_of_lt (Heap.lt_size e))) (k b o e)
    have z : hp.objs.size + 1 + 1 ≤ dx := by
      first
        | (simpa only [Heap.size_push] using dn)
        | exact dn
        | (have q := dn; rw [Heap.size_push, Heap.size_push] at q; exact q)
    exact ⟨rfl, hq h' tk' (hp.objs.size + 1) dx ⟨old, Nat.le_succ _, ⟨_, _, hx, rfl, rfl, rfl, rfl⟩, Nat.le_trans (Nat.le_trans (Nat.le_succ _) (Nat.le_succ _)) z, dne, hns⟩⟩
end
end NoPartX
end PySem

namespace L2
open PySem PySem.Spec PyProof.Rows
theorem relO_low_NoPart {v : V} {v' : Value} (r : RelV v v') (f : Str) : RelO (List.lookup f [(("name" : Str), v)]) (if f = "name" then some v' else none) := by
  by_cases hw : f = "name"
  · subst hw
    rw [if_pos rfl]
    have q : List.lookup ("name" : Str) [(("name" : Str), v)] = some v := by simp [List.lookup]
    rw [q]
    exact r
  · rw [if_neg hw]
    have qw : (f == ("name" : Str)) = false := by simpa using hw
    have q2 : List.lookup f [(("name" : Str), v)] = none := by simp [List.lookup, qw]
    rw [q2]
    trivial

end L2
namespace DL
open PySem PySem.Spec PyProof.Rows L2
section
variable {X : Cx} {C fI : Addr}
theorem lay_NoPart {pins : List (Addr × Obj)} {σ : L2.St} {H1 : Hp} {Q : VK} {hp h' : Heap} {g : Array GenState} {dr : Drawn} {tk tk' : Nat} {os : OsState} {e d : Addr} {v : V} {v' : Value} (I1 : Inv X pins σ H1 ⟨hp, g, dr, tk, os⟩) (rv : RelV v v') (M : PySem.NoPartX.OwnMade hp h' e C d v')
    (q1 : ∀ a d, H1 a = none → H1 d = none → a ≠ d → Q (.ref a) (upd (upd H1 d (.xd [(("name" : Str), v)])) a (ExD C a (some d)))) : EP X pins σ Q (.ref e) ⟨h', g, dr, tk', os⟩ := by
  obtain ⟨oe, fv, hoe, hc, hd, hdat, _⟩ := M.obj
  have hns := M.ns
  obtain ⟨G', g1, g2⟩ := restrict h' fun b => decide (b ≠ e)
  have gk : ∀ b, b ≠ e → G'.get? b = h'.get? b := fun b hb => g1 b (decide_eq_true hb)
  have ge : G'.get? e = none := g2 e (by simp)
  have old : ∀ b o, hp.get? b = some o → G'.get? b = some o := fun b o q =>
    (gk b (Nat.ne_of_lt (Nat.lt_of_lt_of_le (Heap.lt_size q) M.new))).trans (M.keep b o q)
  have ob : ObjOk X.prog X.w (upd H1 d (.xd [(("name" : Str), v)])) G' d (.xd [(("name" : Str), v)]) := ⟨_, hns.at (fun o q => (gk d M.dne).trans q), fun f => relO_low_NoPart rv f⟩
  have J : Inv X pins σ (upd H1 d (.xd [(("name" : Str), v)])) ⟨G', g, dr, tk', os⟩ := I1.laid (t' := tk') old M.dbig ob
  have he : H1 e = none := I1.hok.fresh M.new
  have hn : upd H1 d (.xd [(("name" : Str), v)]) e = none := by
    rw [upd_ne (Ne.symm M.dne)]
    exact he
  have kp : ∀ b u, G'.get? b = some u → h'.get? b = some u := fun b u q => by
    by_cases hb : b = e
    · rw [hb, ge] at q
      cases q
    · exact (gk b hb).symm.trans q
  exact ⟨.ref e, _, J.laidN (h' := h') (t' := tk') kp ge hn (exD_ok hoe ⟨hc, hd⟩ hdat), rfl, q1 e d he (I1.hok.fresh M.dbig) (Ne.symm M.dne)⟩
theorem pe_val_NoPart {a : Expr} {p pos : Pos} {k : Nat} {ta : TA} (T : PySem.NoPartX.NoPartTxt X.K X.mg C fI) (hr : Room k X.A) (hg : Gl X "NoPart") (ha : PA X [a] ta)
    (he : starEach (a :: []) X.env = (false, eval a X.env) :: starEach [] X.env := by rfl) (hpl : (backTo pos (starEach [] X.env)).any (·.1) = false := by rfl) : PE X (.Call (.Name "NoPart" p) [a] [] pos) (tVal C "name" ta) := by
  refine ⟨fun pins s σ H Q I h => ?_⟩
  refine wpAny_Call_Name_kw (ld_glob I hg T.gC ?_)
  refine PySem.W.callWith_K (h₀ := X.base) I.ok.mod.kin T.kC (thn (ha.run pos pins s σ H _ I h) fun us s1 ⟨vs, H1, I1, r1, v, ev, q1⟩ => ?_) he hpl
  subst ev
  refine ⟨I1.kIn, ?_⟩
  cases r1 with
  | cons rv rn =>
    cases rn
    have hlim := I1.nolimit
    obtain ⟨hp, g, dr, tk, os⟩ := s1
    exact wpAny_call (PySem.NoPartX.low_made_NoPart T I1.kIn hlim (by have := hr.dp; omega) fun h' tk' e d M => lay_NoPart I1 rv M q1)
theorem pe_valK_NoPart {p pos : Pos} {k : Nat} {kws : List Keyword} {tk : TA} (T : PySem.NoPartX.NoPartTxt X.K X.mg C fI) (hr : Room k X.A) (hg : Gl X "NoPart") (hkw : PK X kws tk)
    (hall : (backToKw pos (keywordEach kws X.env)).all (·.1.isSome) = true := by rfl) (hks : (backToKw pos (keywordEach kws X.env)).filterMap (·.1) = [("name" : Str)] := by rfl)
    (hpl : ((backTo pos (starEach [] X.env)).any (·.1) || (backToKw pos (keywordEach kws X.env)).any (·.1.isNone)) = false := by rfl) : PE X (.Call (.Name "NoPart" p) [] kws pos) (tVal C "name" tk) := by
  refine ⟨fun pins s σ H Q I h => ?_⟩
  refine wpAny_Call_Name_kw (ld_glob I hg T.gC ?_)
  refine PySem.W.callWith_KW0 (h₀ := X.base) I.ok.mod.kin T.kC hall ?_ hpl
  refine thn (hkw.run pos pins s σ H _ I h) fun us s1 ⟨vs, H1, I1, r1, v, ev, q1⟩ => ?_
  subst ev
  refine ⟨I1.kIn, ?_⟩
  rw [hks]
  cases r1 with
  | cons rv rn =>
    cases rn
    have hlim := I1.nolimit
    obtain ⟨hp, g, dr, tk, os⟩ := s1
    exact wpAny_call (PySem.NoPartX.low_madeK_NoPart T I1.kIn hlim (by have := hr.dp; omega) fun h' tk' e d M => lay_NoPart I1 rv M q1)
theorem pe_get_NoPart {e : Expr} {te : TE} {pos : Pos} (T : PySem.NoPartX.NoPartTxt X.K X.mg C fI) (he : PE X e te) (hb : attributeBase e "name" X.env (eval e X.env) = eval e X.env := by rfl) : PE X (.Attribute e "name" pos) (tGet C "name" te) := by
  refine ⟨fun pins s σ H Q I h => ?_⟩
  refine attr_of hb (thn (he.run pins s σ H _ I h) fun u s1 ⟨x, H1, I1, rx, a, dd, v, ex, ha, ea, q⟩ => ?_)
  subst ex
  cases rx
  obtain ⟨⟨oe, vs, ho, hz, hd⟩, _, _⟩ : ObjOk X.prog X.w H1 s1.heap a (ExD C a (some dd)) := I1.hok a _ ha
  obtain ⟨mA, hns, hr⟩ : ObjOk X.prog X.w H1 s1.heap dd (.xd [(("name" : Str), v)]) := I1.hok dd _ ea
  obtain ⟨od, hod, hl⟩ := lookIn_ns hns
  have l : List.lookup ("name" : Str) [(("name" : Str), v)] = some v := by simp [List.lookup]
  obtain ⟨u, hu, ru⟩ := RelO.some_of (v := v) (o := mA "name") (by rw [← l]; exact hr "name")
  have J : PySem.W.InstAt s1.heap a oe C (some od) := ⟨ho, hz.1, by unfold PySem.W.notCls; rw [hd] <;> rfl, by rw [hz.2]; exact hod⟩
  exact HandSPX.exc_get I1.kIn J T.ga T.gg T.exC (PySem.W.findObj_own T.hdC T.noN rfl (by rw [hl, hu])) (handed_of ru) ⟨v, H1, I1.tok _, ru, q⟩
end
end DL


namespace PySem
namespace NoQueueX
open PySem.W PySem.Calls PyProof.Rows PySem.HandSPX
/-! ### the text of __init__ -/
def iA (p1 p2 : Pos) : Arguments := { posonlyargs := [], args := [{ arg := "self", annotation := none, pos := p1 }, { arg := "name", annotation := none, pos := p2 }], vararg := none, kwonlyargs := [], kw_defaults := [], kwarg := none, defaults := [] }
def iB (q1 q2 q3 q4 : Pos) : List Stmt := [.Assign [.Attribute (.Name "self" q1) "name" q2] (.Name "name" q3) q4]
def iS : Scope := { kind := .function, names := [(PySem.Str.ofString "self", .local), (PySem.Str.ofString "name", .local)], isGenerator := false, isCoroutine := false, more := [] }
/-- what the written part says of Low, at C, and of its __init__, at fI -/
structure NoQueueTxt (K : Frag) (mg : Str → Option Value) (C fI : Addr) : Prop where
  gC : mg "NoQueue" = some (.ref C)
  cls : ∃ nm q N bs bm sn sub ab col dd k0 k1 k2 k3 k5, K.lookup C = some (excClassObj nm q C N bs bm true sn sub ab col dd k0 k1 k2 k3 k5 "ValueError.__new__") ∧ refsVE bm = true
  sa : findIn K (.ref C) "__setattr__" = some (some (.builtin "object.__setattr__"))
  ga : findIn K (.ref C) "__getattribute__" = some (some (.builtin "BaseException.__getattribute__"))
  gg : findIn K (.ref C) "__getattr__" = some none
  noN : findIn K (.ref C) "name" = some none
  iC : findIn K (.ref C) "__init__" = some (some (.ref fI))
  tC : typeIn K (.ref fI) = some (.type "function")
  kC : keepIn K (.ref C) = true
  exC : subIn K (.ref C) (.type "BaseException") = some true
  tyC : typeIn K (.ref C) = some (.type "type")
  hdC : hasDictIn K C = true
  te : exmOne K (.ref C) (.ref C) = some true
  fn : ∃ (oc : Value) (od : Option Addr) (doc pm : Value) (an : Option Addr) (cdv ct : Value) (osl : Array (Option Value)) (p1 p2 q1 q2 q3 q4 : Pos),
    K.lookup fI = some ⟨oc, od, .func (fnOf "__init__" "NoQueue.__init__" (iA p1 p2) (iB q1 q2 q3 q4) iS .none .none doc pm an cdv ct), osl⟩ ∧ codeIn K cdv "NoQueue.__init__" = true
theorem one_size (v : Value) : [v].length ≤ sizeLine := by
  rw [sizeLine_eq]
  exact (by decide : 1 ≤ 16777216)
theorem kept_but {K : Frag} {h h' : Heap} {x : Addr} (X : K.In h) (hx : K.lookup x = none) (k : ∀ b o, b ≠ x → h.get? b = some o → h'.get? b = some o) : K.In h' := fun a o e =>
  k a o (fun z => by rw [z, hx] at e; cases e) (X a o e)
theorem ldC {M : Model} {s : Shared} {name : Str} {scope : Scope} {L a : Addr} {cd : Value} {m : Str → Option Value} {x : Str} {pos : Pos} {v : Value} {Q : Value → Shared → Prop} {A : Around} {E : Value → Shared → Prop} (hn : s.heap.Ns L m) (hv : m x = some v) (h : Q v s)
    (hk : scope.kind = .function := by rfl) (hl : (envOfC name scope L a cd).kindOf x = some .local := by rfl) (hd : (x == ("__debug__" : Str)) = false := by decide) :
    wpAny M A (eval (.Name x pos) (envOfC name scope L a cd)) Q E s := wpAny_Name (wpAny_loadName_local hk hl hn hv h) hd
/-- what __init__ leaves of a fresh exception at x -/
structure InitEnd (h h' : Heap) (x C dx t1 : Addr) (v : Value) : Prop where
  keep : ∀ b o, b ≠ x → h.get? b = some o → h'.get? b = some o
  obj : h'.get? x = some { cls := .ref C, dict := some dx, data := .fields #[.ref t1, .none, .none, .none, .bool false, .none] }
  dbig : h.objs.size ≤ dx
  dne : dx ≠ x
  ns : h'.Ns1 dx (fun y => if y = "name" then some v else none)
/-- a made Low -/
structure OwnMade (h h' : Heap) (e C d : Addr) (v : Value) : Prop where
  keep : ∀ b o, h.get? b = some o → h'.get? b = some o
  new : h.objs.size ≤ e
  obj : ∃ oe vs, h'.get? e = some oe ∧ oe.cls = .ref C ∧ oe.dict = some d ∧ oe.data = .fields vs ∧ vs[1]? = some .none
  dbig : h.objs.size ≤ d
  dne : d ≠ e
  ns : h'.Ns1 d (fun y => if y = "name" then some v else none)
section
variable {prog : Program} {w : World} {A : Around} {E : Value → Shared → Prop} {R : Result → Shared → Prop} {s : Shared} {K : Frag} {mg : Str → Option Value} {C fI : Addr}
theorem low_init_NoQueue (T : NoQueueTxt K mg C fI) {x t0 : Addr} {v : Value} (X : K.In s.heap) (hlim : s.heap.NoLimit) (hx : s.heap.get? x = some (excO C t0)) (hnx : K.lookup x = none) (hroom : A.depth < recursionLimit)
    (hq : ∀ h' tk dx, InitEnd s.heap h' x C dx t0 v → R (.ok (.ret .none)) { s with heap := h', toks := tk }) :
    codeAny (model prog w) A (.call (.ref fI) ⟨[.ref x, v], []⟩) R s := by
  obtain ⟨oc, od, doc, pm, an, cdv, ct, osl, p1, p2, q1, q2, q3, q4, ho, hcd⟩ := T.fn
  obtain ⟨nm, q, N, bs, bm, sn, sub, ab, col, dd, k0, k1, k2, k3, k5, hC, hbm⟩ := T.cls
  have hcl : clsIn K C = some { name := nm, bases := bs, mro := .ref C :: bm, ns := N, qualname := q, hasDict := true, slotNames := sn, subclasses := sub, abstract := ab, collection := col, hasDel := false } := by unfold clsIn; rw [hC] <;> rfl
  refine Att.call_fn (binds := [("self", .ref x), ("name", v)]) X hlim ho hcd hroom (BindsTo.of_eq (by first | rfl | with_unfolding_all rfl)) (by first | rfl | decide | with_unfolding_all rfl) (fun s₁ IC => ?_) rfl rfl rfl
  obtain ⟨h₁, tk₁, rfl⟩ := IC.toInCall.same
  have k : ∀ b o, s.heap.get? b = some o → h₁.get? b = some o := IC.toInCall.keep
  have hn := IC.toInCall.ns
  have hxL : s.heap.objs.size ≠ x := Nat.ne_of_gt (Heap.lt_size hx)
  have X₁ : K.In h₁ := X.keeps k
  have hx₁ := k _ _ hx
  -- self.by = by
  show wpAny _ _ (execs _ _) _ _ _
  refine wpAny_execs_cons (plainObj_wpAny_Assign_Attribute ?_)
  refine ldC (v := v) hn (by first | rfl | with_unfolding_all rfl | kernel_rfl) (ldC (v := .ref x) hn (by first | rfl | with_unfolding_all rfl | kernel_rfl) ?_)
  refine set_plain X₁ (ox := excO C t0) (od := none) ⟨hx₁, rfl, rfl, trivial⟩ T.sa ?_
  refine exc_osa X₁ hx₁ hcl (show refsVE (.ref C :: bm) = true from hbm) rfl T.noN (fun h₃ tk₃ dx k₃ dn dne hx₃ hn₃ => ?_)
  show wpAny _ _ (execs _ _) _ _ _
  have z : s.heap.objs.size < h₁.objs.size := hn.lt
  exact wpAny_execs_nil (hq h₃ tk₃ dx ⟨fun b o hb e => k₃ b o hb (k b o e), hx₃, Nat.le_of_lt (Nat.lt_of_lt_of_le z dn), dne, hn₃⟩)
theorem low_made_NoQueue (T : NoQueueTxt K mg C fI) {v : Value} (X : K.In s.heap) (hlim : s.heap.NoLimit) (hroom : A.depth + 1 < recursionLimit)
    (hq : ∀ h' tk e d, OwnMade s.heap h' e C d v → R (.ok (.ret (.ref e))) { s with heap := h', toks := tk }) :
    codeAny (model prog w) A (.call (.ref C) ⟨[v], []⟩) R s := by
  obtain ⟨nm, q, N, bs, bm, sn, sub, ab, col, dd, k0, k1, k2, k3, k5, hC, hbm⟩ := T.cls
  obtain ⟨hp, g, dr, tk, os⟩ := s
  have k : ∀ b o, hp.get? b = some o → ((hp.push (kdv_tup [v])).push (excO C hp.objs.size)).get? b = some o := fun b o e => Heap.get?_push_of_some _ (Heap.get?_push_of_some _ e)
  have hget : ((hp.push (kdv_tup [v])).push (excO C hp.objs.size)).get? (hp.objs.size + 1) = some (excO C hp.objs.size) := by heap_get
  have hnx : K.lookup (hp.objs.size + 1) = none := by
    cases e : K.lookup (hp.objs.size + 1) with
    | none => rfl
    | some o =>
      have z : hp.get? (hp.objs.size + 1) = some o := X _ _ e
      exact absurd (Nat.lt_of_succ_lt (Heap.lt_size z)) (Nat.lt_irrefl _)
  refine call_own F.excBase_ValueError (fun X => refsVE_contains X bm hbm) (X _ _ hC) (looks_findIn X T.iC) (fun self => bind_fn X self T.tC) (one_size v) ?_
  refine low_init_NoQueue (s := ⟨(hp.push (kdv_tup [v])).push (excO C hp.objs.size), g, dr, tk, os⟩) T (X.keeps k) (hlim.keeps k) hget hnx ?_ fun h' tk' dx ⟨k', hx, dn, dne, hns⟩ => ?_
  · show A.depth + 1 < recursionLimit
    exact hroom
  · have old : ∀ b o, hp.get? b = some o → h'.get? b = some o := fun b o e => k' b o (Nat.ne_of_lt (Nat.lt_succ_of_lt (Heap.lt_size e))) (k b o e)
    have z : hp.objs.size + 1 + 1 ≤ dx := by
      first
        | (simpa only [Heap.size_push] using dn)
        | exact dn
        | (have q := dn; rw [Heap.size_push, Heap.size_push] at q; exact q)
    exact ⟨rfl, hq h' tk' (hp.objs.size + 1) dx ⟨old, Nat.le_succ _, ⟨_, _, hx, rfl, rfl, rfl, rfl⟩, Nat.le_trans (Nat.le_trans (Nat.le_succ _) (Nat.le_succ _)) z, dne, hns⟩⟩
theorem low_initK_NoQueue (T : NoQueueTxt K mg C fI) {x t0 : Addr} {v : Value} (X : K.In s.heap) (hlim : s.heap.NoLimit) (hx : s.heap.get? x = some (excO C t0)) (hnx : K.lookup x = none) (hroom : A.depth < recursionLimit)
    (hq : ∀ h' tk dx, InitEnd s.heap h' x C dx t0 v → R (.ok (.ret .none)) { s with heap := h', toks := tk }) :
    codeAny (model prog w) A (.call (.ref fI) ⟨[.ref x], [("name", v)]⟩) R s := by
  obtain ⟨oc, od, doc, pm, an, cdv, ct, osl, p1, p2, q1, q2, q3, q4, ho, hcd⟩ := T.fn
  obtain ⟨nm, q, N, bs, bm, sn, sub, ab, col, dd, k0, k1, k2, k3, k5, hC, hbm⟩ := T.cls
  have hcl : clsIn K C = some { name := nm, bases := bs, mro := .ref C :: bm, ns := N, qualname := q, hasDict := true, slotNames := sn, subclasses := sub, abstract := ab, collection := col, hasDel := false } := by unfold clsIn; rw [hC] <;> rfl
  refine Att.call_fn (binds := [("self", .ref x), ("name", v)]) X hlim ho hcd hroom (BindsTo.of_eq (by first | rfl | with_unfolding_all rfl)) (by first | rfl | decide | with_unfolding_all rfl) (fun s₁ IC => ?_) rfl rfl rfl
  obtain ⟨h₁, tk₁, rfl⟩ := IC.toInCall.same
  have k : ∀ b o, s.heap.get? b = some o → h₁.get? b = some o := IC.toInCall.keep
  have hn := IC.toInCall.ns
  have hxL : s.heap.objs.size ≠ x := Nat.ne_of_gt (Heap.lt_size hx)
  have X₁ : K.In h₁ := X.keeps k
  have hx₁ := k _ _ hx
  -- self.by = by
  show wpAny _ _ (execs _ _) _ _ _
  refine wpAny_execs_cons (plainObj_wpAny_Assign_Attribute ?_)
  refine ldC (v := v) hn (by first | rfl | with_unfolding_all rfl | kernel_rfl) (ldC (v := .ref x) hn (by first | rfl | with_unfolding_all rfl | kernel_rfl) ?_)
  refine set_plain X₁ (ox := excO C t0) (od := none) ⟨hx₁, rfl, rfl, trivial⟩ T.sa ?_
  refine exc_osa X₁ hx₁ hcl (show refsVE (.ref C :: bm) = true from hbm) rfl T.noN (fun h₃ tk₃ dx k₃ dn dne hx₃ hn₃ => ?_)
  show wpAny _ _ (execs _ _) _ _ _
  have z : s.heap.objs.size < h₁.objs.size := hn.lt
  exact wpAny_execs_nil (hq h₃ tk₃ dx ⟨fun b o hb e => k₃ b o hb (k b o e), hx₃, Nat.le_of_lt (Nat.lt_of_lt_of_le z dn), dne, hn₃⟩)
theorem low_madeK_NoQueue (T : NoQueueTxt K mg C fI) {v : Value} (X : K.In s.heap) (hlim : s.heap.NoLimit) (hroom : A.depth + 1 < recursionLimit)
    (hq : ∀ h' tk e d, OwnMade s.heap h' e C d v → R (.ok (.ret (.ref e))) { s with heap := h', toks := tk }) :
    codeAny (model prog w) A (.call (.ref C) ⟨[], [("name", v)]⟩) R s := by
  obtain ⟨nm, q, N, bs, bm, sn, sub, ab, col, dd, k0, k1, k2, k3, k5, hC, hbm⟩ := T.cls
  obtain ⟨hp, g, dr, tk, os⟩ := s
  have k : ∀ b o, hp.get? b = some o → ((hp.push (kdv_tup [])).push (excO C hp.objs.size)).get? b = some o := fun b o e => Heap.get?_push_of_some _ (Heap.get?_push_of_some _ e)
  have hget : ((hp.push (kdv_tup [])).push (excO C hp.objs.size)).get? (hp.objs.size + 1) = some (excO C hp.objs.size) := by heap_get
  have hnx : K.lookup (hp.objs.size + 1) = none := by
    cases e : K.lookup (hp.objs.size + 1) with
    | none => rfl
    | some o =>
      have z : hp.get? (hp.objs.size + 1) = some o := X _ _ e
      exact absurd (Nat.lt_of_succ_lt (Heap.lt_size z)) (Nat.lt_irrefl _)
  refine PySem.KwMade.call_kw F.excBase_ValueError (fun X => refsVE_contains X bm hbm) (X _ _ hC) (looks_findIn X T.iC) (fun self => bind_fn X self T.tC) ?_
  refine low_initK_NoQueue (s := ⟨(hp.push (kdv_tup [])).push (excO C hp.objs.size), g, dr, tk, os⟩) T (X.keeps k) (hlim.keeps k) hget hnx ?_ fun h' tk' dx ⟨k', hx, dn, dne, hns⟩ => ?_
  · show A.depth + 1 < recursionLimit
    exact hroom
  · have old : ∀ b o, hp.get? b = some o → h'.get? b = some o := fun b o e => k' b o (Nat.ne_of_lt (Nat.lt_succ_of_lt (Heap.lt_size e))) (k b o e)
    have z : hp.objs.size + 1 + 1 ≤ dx := by
      first
        | (simpa only [Heap.size_push] using dn)
        | exact dn
        | (have q := dn; rw [Heap.size_push, Heap.size_push] at q; exact q)
    exact ⟨rfl, hq h' tk' (hp.objs.size + 1) dx ⟨old, Nat.le_succ _, ⟨_, _, hx, rfl, rfl, rfl, rfl⟩, Nat.le_trans (Nat.le_trans (Nat.le_succ _) (Nat.le_succ _)) z, dne, hns⟩⟩
end
end NoQueueX
end PySem

namespace L2
open PySem PySem.Spec PyProof.Rows
theorem relO_low_NoQueue {v : V} {v' : Value} (r : RelV v v') (f : Str) : RelO (List.lookup f [(("name" : Str), v)]) (if f = "name" then some v' else none) := by
  by_cases hw : f = "name"
  · subst hw
    rw [if_pos rfl]
    have q : List.lookup ("name" : Str) [(("name" : Str), v)] = some v := by simp [List.lookup]
    rw [q]
    exact r
  · rw [if_neg hw]
    have qw : (f == ("name" : Str)) = false := by simpa using hw
    have q2 : List.lookup f [(("name" : Str), v)] = none := by simp [List.lookup, qw]
    rw [q2]
    trivial

end L2
namespace DL
open PySem PySem.Spec PyProof.Rows L2
section
variable {X : Cx} {C fI : Addr}
theorem lay_NoQueue {pins : List (Addr × Obj)} {σ : L2.St} {H1 : Hp} {Q : VK} {hp h' : Heap} {g : Array GenState} {dr : Drawn} {tk tk' : Nat} {os : OsState} {e d : Addr} {v : V} {v' : Value} (I1 : Inv X pins σ H1 ⟨hp, g, dr, tk, os⟩) (rv : RelV v v') (M : PySem.NoQueueX.OwnMade hp h' e C d v')
    (q1 : ∀ a d, H1 a = none → H1 d = none → a ≠ d → Q (.ref a) (upd (upd H1 d (.xd [(("name" : Str), v)])) a (ExD C a (some d)))) : EP X pins σ Q (.ref e) ⟨h', g, dr, tk', os⟩ := by
  obtain ⟨oe, fv, hoe, hc, hd, hdat, _⟩ := M.obj
  have hns := M.ns
  obtain ⟨G', g1, g2⟩ := restrict h' fun b => decide (b ≠ e)
  have gk : ∀ b, b ≠ e → G'.get? b = h'.get? b := fun b hb => g1 b (decide_eq_true hb)
  have ge : G'.get? e = none := g2 e (by simp)
  have old : ∀ b o, hp.get? b = some o → G'.get? b = some o := fun b o q =>
    (gk b (Nat.ne_of_lt (Nat.lt_of_lt_of_le (Heap.lt_size q) M.new))).trans (M.keep b o q)
  have ob : ObjOk X.prog X.w (upd H1 d (.xd [(("name" : Str), v)])) G' d (.xd [(("name" : Str), v)]) := ⟨_, hns.at (fun o q => (gk d M.dne).trans q), fun f => relO_low_NoQueue rv f⟩
  have J : Inv X pins σ (upd H1 d (.xd [(("name" : Str), v)])) ⟨G', g, dr, tk', os⟩ := I1.laid (t' := tk') old M.dbig ob
  have he : H1 e = none := I1.hok.fresh M.new
  have hn : upd H1 d (.xd [(("name" : Str), v)]) e = none := by
    rw [upd_ne (Ne.symm M.dne)]
    exact he
  have kp : ∀ b u, G'.get? b = some u → h'.get? b = some u := fun b u q => by
    by_cases hb : b = e
    · rw [hb, ge] at q
      cases q
    · exact (gk b hb).symm.trans q
  exact ⟨.ref e, _, J.laidN (h' := h') (t' := tk') kp ge hn (exD_ok hoe ⟨hc, hd⟩ hdat), rfl, q1 e d he (I1.hok.fresh M.dbig) (Ne.symm M.dne)⟩
theorem pe_val_NoQueue {a : Expr} {p pos : Pos} {k : Nat} {ta : TA} (T : PySem.NoQueueX.NoQueueTxt X.K X.mg C fI) (hr : Room k X.A) (hg : Gl X "NoQueue") (ha : PA X [a] ta)
    (he : starEach (a :: []) X.env = (false, eval a X.env) :: starEach [] X.env := by rfl) (hpl : (backTo pos (starEach [] X.env)).any (·.1) = false := by rfl) : PE X (.Call (.Name "NoQueue" p) [a] [] pos) (tVal C "name" ta) := by
  refine ⟨fun pins s σ H Q I h => ?_⟩
  refine wpAny_Call_Name_kw (ld_glob I hg T.gC ?_)
  refine PySem.W.callWith_K (h₀ := X.base) I.ok.mod.kin T.kC (thn (ha.run pos pins s σ H _ I h) fun us s1 ⟨vs, H1, I1, r1, v, ev, q1⟩ => ?_) he hpl
  subst ev
  refine ⟨I1.kIn, ?_⟩
  cases r1 with
  | cons rv rn =>
    cases rn
    have hlim := I1.nolimit
    obtain ⟨hp, g, dr, tk, os⟩ := s1
    exact wpAny_call (PySem.NoQueueX.low_made_NoQueue T I1.kIn hlim (by have := hr.dp; omega) fun h' tk' e d M => lay_NoQueue I1 rv M q1)
theorem pe_valK_NoQueue {p pos : Pos} {k : Nat} {kws : List Keyword} {tk : TA} (T : PySem.NoQueueX.NoQueueTxt X.K X.mg C fI) (hr : Room k X.A) (hg : Gl X "NoQueue") (hkw : PK X kws tk)
    (hall : (backToKw pos (keywordEach kws X.env)).all (·.1.isSome) = true := by rfl) (hks : (backToKw pos (keywordEach kws X.env)).filterMap (·.1) = [("name" : Str)] := by rfl)
    (hpl : ((backTo pos (starEach [] X.env)).any (·.1) || (backToKw pos (keywordEach kws X.env)).any (·.1.isNone)) = false := by rfl) : PE X (.Call (.Name "NoQueue" p) [] kws pos) (tVal C "name" tk) := by
  refine ⟨fun pins s σ H Q I h => ?_⟩
  refine wpAny_Call_Name_kw (ld_glob I hg T.gC ?_)
  refine PySem.W.callWith_KW0 (h₀ := X.base) I.ok.mod.kin T.kC hall ?_ hpl
  refine thn (hkw.run pos pins s σ H _ I h) fun us s1 ⟨vs, H1, I1, r1, v, ev, q1⟩ => ?_
  subst ev
  refine ⟨I1.kIn, ?_⟩
  rw [hks]
  cases r1 with
  | cons rv rn =>
    cases rn
    have hlim := I1.nolimit
    obtain ⟨hp, g, dr, tk, os⟩ := s1
    exact wpAny_call (PySem.NoQueueX.low_madeK_NoQueue T I1.kIn hlim (by have := hr.dp; omega) fun h' tk' e d M => lay_NoQueue I1 rv M q1)
theorem pe_get_NoQueue {e : Expr} {te : TE} {pos : Pos} (T : PySem.NoQueueX.NoQueueTxt X.K X.mg C fI) (he : PE X e te) (hb : attributeBase e "name" X.env (eval e X.env) = eval e X.env := by rfl) : PE X (.Attribute e "name" pos) (tGet C "name" te) := by
  refine ⟨fun pins s σ H Q I h => ?_⟩
  refine attr_of hb (thn (he.run pins s σ H _ I h) fun u s1 ⟨x, H1, I1, rx, a, dd, v, ex, ha, ea, q⟩ => ?_)
  subst ex
  cases rx
  obtain ⟨⟨oe, vs, ho, hz, hd⟩, _, _⟩ : ObjOk X.prog X.w H1 s1.heap a (ExD C a (some dd)) := I1.hok a _ ha
  obtain ⟨mA, hns, hr⟩ : ObjOk X.prog X.w H1 s1.heap dd (.xd [(("name" : Str), v)]) := I1.hok dd _ ea
  obtain ⟨od, hod, hl⟩ := lookIn_ns hns
  have l : List.lookup ("name" : Str) [(("name" : Str), v)] = some v := by simp [List.lookup]
  obtain ⟨u, hu, ru⟩ := RelO.some_of (v := v) (o := mA "name") (by rw [← l]; exact hr "name")
  have J : PySem.W.InstAt s1.heap a oe C (some od) := ⟨ho, hz.1, by unfold PySem.W.notCls; rw [hd] <;> rfl, by rw [hz.2]; exact hod⟩
  exact HandSPX.exc_get I1.kIn J T.ga T.gg T.exC (PySem.W.findObj_own T.hdC T.noN rfl (by rw [hl, hu])) (handed_of ru) ⟨v, H1, I1.tok _, ru, q⟩
end
end DL


namespace PySem
namespace NoSystemX
open PySem.W PySem.Calls PyProof.Rows PySem.HandSPX
/-! ### the text of __init__ -/
def iA (p1 p2 : Pos) : Arguments := { posonlyargs := [], args := [{ arg := "self", annotation := none, pos := p1 }, { arg := "name", annotation := none, pos := p2 }], vararg := none, kwonlyargs := [], kw_defaults := [], kwarg := none, defaults := [] }
def iB (q1 q2 q3 q4 : Pos) : List Stmt := [.Assign [.Attribute (.Name "self" q1) "name" q2] (.Name "name" q3) q4]
def iS : Scope := { kind := .function, names := [(PySem.Str.ofString "self", .local), (PySem.Str.ofString "name", .local)], isGenerator := false, isCoroutine := false, more := [] }
/-- what the written part says of Low, at C, and of its __init__, at fI -/
structure NoSystemTxt (K : Frag) (mg : Str → Option Value) (C fI : Addr) : Prop where
  gC : mg "NoSystem" = some (.ref C)
  cls : ∃ nm q N bs bm sn sub ab col dd k0 k1 k2 k3 k5, K.lookup C = some (excClassObj nm q C N bs bm true sn sub ab col dd k0 k1 k2 k3 k5 "ValueError.__new__") ∧ refsVE bm = true
  sa : findIn K (.ref C) "__setattr__" = some (some (.builtin "object.__setattr__"))
  ga : findIn K (.ref C) "__getattribute__" = some (some (.builtin "BaseException.__getattribute__"))
  gg : findIn K (.ref C) "__getattr__" = some none
  noN : findIn K (.ref C) "name" = some none
  iC : findIn K (.ref C) "__init__" = some (some (.ref fI))
  tC : typeIn K (.ref fI) = some (.type "function")
  kC : keepIn K (.ref C) = true
  exC : subIn K (.ref C) (.type "BaseException") = some true
  tyC : typeIn K (.ref C) = some (.type "type")
  hdC : hasDictIn K C = true
  te : exmOne K (.ref C) (.ref C) = some true
  fn : ∃ (oc : Value) (od : Option Addr) (doc pm : Value) (an : Option Addr) (cdv ct : Value) (osl : Array (Option Value)) (p1 p2 q1 q2 q3 q4 : Pos),
    K.lookup fI = some ⟨oc, od, .func (fnOf "__init__" "NoSystem.__init__" (iA p1 p2) (iB q1 q2 q3 q4) iS .none .none doc pm an cdv ct), osl⟩ ∧ codeIn K cdv "NoSystem.__init__" = true
theorem one_size (v : Value) : [v].length ≤ sizeLine := by
  rw [sizeLine_eq]
  exact (by decide : 1 ≤ 16777216)
theorem kept_but {K : Frag} {h h' : Heap} {x : Addr} (X : K.In h) (hx : K.lookup x = none) (k : ∀ b o, b ≠ x → h.get? b = some o → h'.get? b = some o) : K.In h' := fun a o e =>
  k a o (fun z => by rw [z, hx] at e; cases e) (X a o e)
theorem ldC {M : Model} {s : Shared} {name : Str} {scope : Scope} {L a : Addr} {cd : Value} {m : Str → Option Value} {x : Str} {pos : Pos} {v : Value} {Q : Value → Shared → Prop} {A : Around} {E : Value → Shared → Prop} (hn : s.heap.Ns L m) (hv : m x = some v) (h : Q v s)
    (hk : scope.kind = .function := by rfl) (hl : (envOfC name scope L a cd).kindOf x = some .local := by rfl) (hd : (x == ("__debug__" : Str)) = false := by decide) :
    wpAny M A (eval (.Name x pos) (envOfC name scope L a cd)) Q E s := wpAny_Name (wpAny_loadName_local hk hl hn hv h) hd
/-- what __init__ leaves of a fresh exception at x -/
structure InitEnd (h h' : Heap) (x C dx t1 : Addr) (v : Value) : Prop where
  keep : ∀ b o, b ≠ x → h.get? b = some o → h'.get? b = some o
  obj : h'.get? x = some { cls := .ref C, dict := some dx, data := .fields #[.ref t1, .none, .none, .none, .bool false, .none] }
  dbig : h.objs.size ≤ dx
  dne : dx ≠ x
  ns : h'.Ns1 dx (fun y => if y = "name" then some v else none)
/-- a made Low -/
structure OwnMade (h h' : Heap) (e C d : Addr) (v : Value) : Prop where
  keep : ∀ b o, h.get? b = some o → h'.get? b = some o
  new : h.objs.size ≤ e
  obj : ∃ oe vs, h'.get? e = some oe ∧ oe.cls = .ref C ∧ oe.dict = some d ∧ oe.data = .fields vs ∧ vs[1]? = some .none
  dbig : h.objs.size ≤ d
  dne : d ≠ e
  ns : h'.Ns1 d (fun y => if y = "name" then some v else none)
section
variable {prog : Program} {w : World} {A : Around} {E : Value → Shared → Prop} {R : Result → Shared → Prop} {s : Shared} {K : Frag} {mg : Str → Option Value} {C fI : Addr}
theorem low_init_NoSystem (T : NoSystemTxt K mg C fI) {x t0 : Addr} {v : Value} (X : K.In s.heap) (hlim : s.heap.NoLimit) (hx : s.heap.get? x = some (excO C t0)) (hnx : K.lookup x = none) (hroom : A.depth < recursionLimit)
    (hq : ∀ h' tk dx, InitEnd s.heap h' x C dx t0 v → R (.ok (.ret .none)) { s with heap := h', toks := tk }) :
    codeAny (model prog w) A (.call (.ref fI) ⟨[.ref x, v], []⟩) R s := by
  obtain ⟨oc, od, doc, pm, an, cdv, ct, osl, p1, p2, q1, q2, q3, q4, ho, hcd⟩ := T.fn
  obtain ⟨nm, q, N, bs, bm, sn, sub, ab, col, dd, k0, k1, k2, k3, k5, hC, hbm⟩ := T.cls
  have hcl : clsIn K C = some { name := nm, bases := bs, mro := .ref C :: bm, ns := N, qualname := q, hasDict := true, slotNames := sn, subclasses := sub, abstract := ab, collection := col, hasDel := false } := by unfold clsIn; rw [hC] <;> rfl
  refine Att.call_fn (binds := [("self", .ref x), ("name", v)]) X hlim ho hcd hroom (BindsTo.of_eq (by first | rfl | with_unfolding_all rfl)) (by first | rfl | decide | with_unfolding_all rfl) (fun s₁ IC => ?_) rfl rfl rfl
  obtain ⟨h₁, tk₁, rfl⟩ := IC.toInCall.same
  have k : ∀ b o, s.heap.get? b = some o → h₁.get? b = some o := IC.toInCall.keep
  have hn := IC.toInCall.ns
  have hxL : s.heap.objs.size ≠ x := Nat.ne_of_gt (Heap.lt_size hx)
  have X₁ : K.In h₁ := X.keeps k
  have hx₁ := k _ _ hx
  -- self.by = by
  show wpAny _ _ (execs _ _) _ _ _
  refine wpAny_execs_cons (plainObj_wpAny_Assign_Attribute ?_)
  refine ldC (v := v) hn (by first | rfl | with_unfolding_all rfl | kernel_rfl) (ldC (v := .ref x) hn (by first | rfl | with_unfolding_all rfl | kernel_rfl) ?_)
  refine set_plain X₁ (ox := excO C t0) (od := none) ⟨hx₁, rfl, rfl, trivial⟩ T.sa ?_
  refine exc_osa X₁ hx₁ hcl (show refsVE (.ref C :: bm) = true from hbm) rfl T.noN (fun h₃ tk₃ dx k₃ dn dne hx₃ hn₃ => ?_)
  show wpAny _ _ (execs _ _) _ _ _
  have z : s.heap.objs.size < h₁.objs.size := hn.lt
  exact wpAny_execs_nil (hq h₃ tk₃ dx ⟨fun b o hb e => k₃ b o hb (k b o e), hx₃, Nat.le_of_lt (Nat.lt_of_lt_of_le z dn), dne, hn₃⟩)
theorem low_made_NoSystem (T : NoSystemTxt K mg C fI) {v : Value} (X : K.In s.heap) (hlim : s.heap.NoLimit) (hroom : A.depth + 1 < recursionLimit)
    (hq : ∀ h' tk e d, OwnMade s.heap h' e C d v → R (.ok (.ret (.ref e))) { s with heap := h', toks := tk }) :
    codeAny (model prog w) A (.call (.ref C) ⟨[v], []⟩) R s := by
  obtain ⟨nm, q, N, bs, bm, sn, sub, ab, col, dd, k0, k1, k2, k3, k5, hC, hbm⟩ := T.cls
  obtain ⟨hp, g, dr, tk, os⟩ := s
  have k : ∀ b o, hp.get? b = some o → ((hp.push (kdv_tup [v])).push (excO C hp.objs.size)).get? b = some o := fun b o e => Heap.get?_push_of_some _ (Heap.get?_push_of_some _ e)
  have hget : ((hp.push (kdv_tup [v])).push (excO C hp.objs.size)).get? (hp.objs.size + 1) = some (excO C hp.objs.size) := by heap_get
  have hnx : K.lookup (hp.objs.size + 1) = none := by
    cases e : K.lookup (hp.objs.size + 1) with
    | none => rfl
    | some o =>
      have z : hp.get? (hp.objs.size + 1) = some o := X _ _ e
      exact absurd (Nat.lt_of_succ_lt (Heap.lt_size z)) (Nat.lt_irrefl _)
  refine call_own F.excBase_ValueError (fun X => refsVE_contains X bm hbm) (X _ _ hC) (looks_findIn X T.iC) (fun self => bind_fn X self T.tC) (one_size v) ?_
  refine low_init_NoSystem (s := ⟨(hp.push (kdv_tup [v])).push (excO C hp.objs.size), g, dr, tk, os⟩) T (X.keeps k) (hlim.keeps k) hget hnx ?_ fun h' tk' dx ⟨k', hx, dn, dne, hns⟩ => ?_
  · show A.depth + 1 < recursionLimit
    exact hroom
  · have old : ∀ b o, hp.get? b = some o → h'.get? b = some o := fun b o e => k' b o (Nat.ne_of_lt (Nat.lt_succ_of_lt (Heap.lt_size e))) (k b o e)
    have z : hp.objs.size + 1 + 1 ≤ dx := by
      first
        | (simpa only [Heap.size_push] using dn)
        | exact dn
        | (have q := dn; rw [Heap.size_push, Heap.size_push] at q; exact q)
    exact ⟨rfl, hq h' tk' (hp.objs.size + 1) dx ⟨old, Nat.le_succ _, ⟨_, _, hx, rfl, rfl, rfl, rfl⟩, Nat.le_trans (Nat.le_trans (Nat.le_succ _) (Nat.le_succ _)) z, dne, hns⟩⟩
theorem low_initK_NoSystem (T : NoSystemTxt K mg C fI) {x t0 : Addr} {v : Value} (X : K.In s.heap) (hlim : s.heap.NoLimit) (hx : s.heap.get? x = some (excO C t0)) (hnx : K.lookup x = none) (hroom : A.depth < recursionLimit)
    (hq : ∀ h' tk dx, InitEnd s.heap h' x C dx t0 v → R (.ok (.ret .none)) { s with heap := h', toks := tk }) :
    codeAny (model prog w) A (.call (.ref fI) ⟨[.ref x], [("name", v)]⟩) R s := by
  obtain ⟨oc, od, doc, pm, an, cdv, ct, osl, p1, p2, q1, q2, q3, q4, ho, hcd⟩ := T.fn
  obtain ⟨nm, q, N, bs, bm, sn, sub, ab, col, dd, k0, k1, k2, k3, k5, hC, hbm⟩ := T.cls
  have hcl : clsIn K C = some { name := nm, bases := bs, mro := .ref C :: bm, ns := N, qualname := q, hasDict := true, slotNames := sn, subclasses := sub, abstract := ab, collection := col, hasDel := false } := by unfold clsIn; rw [hC] <;> rfl
  refine Att.call_fn (binds := [("self", .ref x), ("name", v)]) X hlim ho hcd hroom (BindsTo.of_eq (by first | rfl | with_unfolding_all rfl)) (by first | rfl | decide | with_unfolding_all rfl) (fun s₁ IC => ?_) rfl rfl rfl
  obtain ⟨h₁, tk₁, rfl⟩ := IC.toInCall.same
  have k : ∀ b o, s.heap.get? b = some o → h₁.get? b = some o := IC.toInCall.keep
  have hn := IC.toInCall.ns
  have hxL : s.heap.objs.size ≠ x := Nat.ne_of_gt (Heap.lt_size hx)
  have X₁ : K.In h₁ := X.keeps k
  have hx₁ := k _ _ hx
  -- self.by = by
  show wpAny _ _ (execs _ _) _ _ _
  refine wpAny_execs_cons (plainObj_wpAny_Assign_Attribute ?_)
  refine ldC (v := v) hn (by first | rfl | with_unfolding_all rfl | kernel_rfl) (ldC (v := .ref x) hn (by first | rfl | with_unfolding_all rfl | kernel_rfl) ?_)
  refine set_plain X₁ (ox := excO C t0) (od := none) ⟨hx₁, rfl, rfl, trivial⟩ T.sa ?_
  refine exc_osa X₁ hx₁ hcl (show refsVE (.ref C :: bm) = true from hbm) rfl T.noN (fun h₃ tk₃ dx k₃ dn dne hx₃ hn₃ => ?_)
  show wpAny _ _ (execs _ _) _ _ _
  have z : s.heap.objs.size < h₁.objs.size := hn.lt
  exact wpAny_execs_nil (hq h₃ tk₃ dx ⟨fun b o hb e => k₃ b o hb (k b o e), hx₃, Nat.le_of_lt (Nat.lt_of_lt_of_le z dn), dne, hn₃⟩)
theorem low_madeK_NoSystem (T : NoSystemTxt K mg C fI) {v : Value} (X : K.In s.heap) (hlim : s.heap.NoLimit) (hroom : A.depth + 1 < recursionLimit)
    (hq : ∀ h' tk e d, OwnMade s.heap h' e C d v → R (.ok (.ret (.ref e))) { s with heap := h', toks := tk }) :
    codeAny (model prog w) A (.call (.ref C) ⟨[], [("name", v)]⟩) R s := by
  obtain ⟨nm, q, N, bs, bm, sn, sub, ab, col, dd, k0, k1, k2, k3, k5, hC, hbm⟩ := T.cls
  obtain ⟨hp, g, dr, tk, os⟩ := s
  have k : ∀ b o, hp.get? b = some o → ((hp.push (kdv_tup [])).push (excO C hp.objs.size)).get? b = some o := fun b o e => Heap.get?_push_of_some _ (Heap.get?_push_of_some _ e)
  have hget : ((hp.push (kdv_tup [])).push (excO C hp.objs.size)).get? (hp.objs.size + 1) = some (excO C hp.objs.size) := by heap_get
  have hnx : K.lookup (hp.objs.size + 1) = none := by
    cases e : K.lookup (hp.objs.size + 1) with
    | none => rfl
    | some o =>
      have z : hp.get? (hp.objs.size + 1) = some o := X _ _ e
      exact absurd (Nat.lt_of_succ_lt (Heap.lt_size z)) (Nat.lt_irrefl _)
  refine PySem.KwMade.call_kw F.excBase_ValueError (fun X => refsVE_contains X bm hbm) (X _ _ hC) (looks_findIn X T.iC) (fun self => bind_fn X self T.tC) ?_
  refine low_initK_NoSystem (s := ⟨(hp.push (kdv_tup [])).push (excO C hp.objs.size), g, dr, tk, os⟩) T (X.keeps k) (hlim.keeps k) hget hnx ?_ fun h' tk' dx ⟨k', hx, dn, dne, hns⟩ => ?_
  · show A.depth + 1 < recursionLimit
    exact hroom
  · have old : ∀ b o, hp.get? b = some o → h'.get? b = some o := fun b o e => k' b o (Nat.ne_of_lt (Nat.lt_succ_of_lt (Heap.lt_size e))) (k b o e)
    have z : hp.objs.size + 1 + 1 ≤ dx := by
      first
        | (simpa only [Heap.size_push] using dn)
        | exact dn
        | (have q := dn; rw [Heap.size_push, Heap.size_push] at q; exact q)
    exact ⟨rfl, hq h' tk' (hp.objs.size + 1) dx ⟨old, Nat.le_succ _, ⟨_, _, hx, rfl, rfl, rfl, rfl⟩, Nat.le_trans (Nat.le_trans (Nat.le_succ _) (Nat.le_succ _)) z, dne, hns⟩⟩
end
end NoSystemX
end PySem

namespace L2
open PySem PySem.Spec PyProof.Rows
theorem relO_low_NoSystem {v : V} {v' : Value} (r : RelV v v') (f : Str) : RelO (List.lookup f [(("name" : Str), v)]) (if f = "name" then some v' else none) := by
  by_cases hw : f = "name"
  · subst hw
    rw [if_pos rfl]
    have q : List.lookup ("name" : Str) [(("name" : Str), v)] = some v := by simp [List.lookup]
    rw [q]
    exact r
  · rw [if_neg hw]
    have qw : (f == ("name" : Str)) = false := by simpa using hw
    have q2 : List.lookup f [(("name" : Str), v)] = none := by simp [List.lookup, qw]
    rw [q2]
    trivial

end L2
namespace DL
open PySem PySem.Spec PyProof.Rows L2
section
variable {X : Cx} {C fI : Addr}
theorem lay_NoSystem {pins : List (Addr × Obj)} {σ : L2.St} {H1 : Hp} {Q : VK} {hp h' : Heap} {g : Array GenState} {dr : Drawn} {tk tk' : Nat} {os : OsState} {e d : Addr} {v : V} {v' : Value} (I1 : Inv X pins σ H1 ⟨hp, g, dr, tk, os⟩) (rv : RelV v v') (M : PySem.NoSystemX.OwnMade hp h' e C d v')
    (q1 : ∀ a d, H1 a = none → H1 d = none → a ≠ d → Q (.ref a) (upd (upd H1 d (.xd [(("name" : Str), v)])) a (ExD C a (some d)))) : EP X pins σ Q (.ref e) ⟨h', g, dr, tk', os⟩ := by
  obtain ⟨oe, fv, hoe, hc, hd, hdat, _⟩ := M.obj
  have hns := M.ns
  obtain ⟨G', g1, g2⟩ := restrict h' fun b => decide (b ≠ e)
  have gk : ∀ b, b ≠ e → G'.get? b = h'.get? b := fun b hb => g1 b (decide_eq_true hb)
  have ge : G'.get? e = none := g2 e (by simp)
  have old : ∀ b o, hp.get? b = some o → G'.get? b = some o := fun b o q =>
    (gk b (Nat.ne_of_lt (Nat.lt_of_lt_of_le (Heap.lt_size q) M.new))).trans (M.keep b o q)
  have ob : ObjOk X.prog X.w (upd H1 d (.xd [(("name" : Str), v)])) G' d (.xd [(("name" : Str), v)]) := ⟨_, hns.at (fun o q => (gk d M.dne).trans q), fun f => relO_low_NoSystem rv f⟩
  have J : Inv X pins σ (upd H1 d (.xd [(("name" : Str), v)])) ⟨G', g, dr, tk', os⟩ := I1.laid (t' := tk') old M.dbig ob
  have he : H1 e = none := I1.hok.fresh M.new
  have hn : upd H1 d (.xd [(("name" : Str), v)]) e = none := by
    rw [upd_ne (Ne.symm M.dne)]
    exact he
  have kp : ∀ b u, G'.get? b = some u → h'.get? b = some u := fun b u q => by
    by_cases hb : b = e
    · rw [hb, ge] at q
      cases q
    · exact (gk b hb).symm.trans q
  exact ⟨.ref e, _, J.laidN (h' := h') (t' := tk') kp ge hn (exD_ok hoe ⟨hc, hd⟩ hdat), rfl, q1 e d he (I1.hok.fresh M.dbig) (Ne.symm M.dne)⟩
theorem pe_val_NoSystem {a : Expr} {p pos : Pos} {k : Nat} {ta : TA} (T : PySem.NoSystemX.NoSystemTxt X.K X.mg C fI) (hr : Room k X.A) (hg : Gl X "NoSystem") (ha : PA X [a] ta)
    (he : starEach (a :: []) X.env = (false, eval a X.env) :: starEach [] X.env := by rfl) (hpl : (backTo pos (starEach [] X.env)).any (·.1) = false := by rfl) : PE X (.Call (.Name "NoSystem" p) [a] [] pos) (tVal C "name" ta) := by
  refine ⟨fun pins s σ H Q I h => ?_⟩
  refine wpAny_Call_Name_kw (ld_glob I hg T.gC ?_)
  refine PySem.W.callWith_K (h₀ := X.base) I.ok.mod.kin T.kC (thn (ha.run pos pins s σ H _ I h) fun us s1 ⟨vs, H1, I1, r1, v, ev, q1⟩ => ?_) he hpl
  subst ev
  refine ⟨I1.kIn, ?_⟩
  cases r1 with
  | cons rv rn =>
    cases rn
    have hlim := I1.nolimit
    obtain ⟨hp, g, dr, tk, os⟩ := s1
    exact wpAny_call (PySem.NoSystemX.low_made_NoSystem T I1.kIn hlim (by have := hr.dp; omega) fun h' tk' e d M => lay_NoSystem I1 rv M q1)
theorem pe_valK_NoSystem {p pos : Pos} {k : Nat} {kws : List Keyword} {tk : TA} (T : PySem.NoSystemX.NoSystemTxt X.K X.mg C fI) (hr : Room k X.A) (hg : Gl X "NoSystem") (hkw : PK X kws tk)
    (hall : (backToKw pos (keywordEach kws X.env)).all (·.1.isSome) = true := by rfl) (hks : (backToKw pos (keywordEach kws X.env)).filterMap (·.1) = [("name" : Str)] := by rfl)
    (hpl : ((backTo pos (starEach [] X.env)).any (·.1) || (backToKw pos (keywordEach kws X.env)).any (·.1.isNone)) = false := by rfl) : PE X (.Call (.Name "NoSystem" p) [] kws pos) (tVal C "name" tk) := by
  refine ⟨fun pins s σ H Q I h => ?_⟩
  refine wpAny_Call_Name_kw (ld_glob I hg T.gC ?_)
  refine PySem.W.callWith_KW0 (h₀ := X.base) I.ok.mod.kin T.kC hall ?_ hpl
  refine thn (hkw.run pos pins s σ H _ I h) fun us s1 ⟨vs, H1, I1, r1, v, ev, q1⟩ => ?_
  subst ev
  refine ⟨I1.kIn, ?_⟩
  rw [hks]
  cases r1 with
  | cons rv rn =>
    cases rn
    have hlim := I1.nolimit
    obtain ⟨hp, g, dr, tk, os⟩ := s1
    exact wpAny_call (PySem.NoSystemX.low_madeK_NoSystem T I1.kIn hlim (by have := hr.dp; omega) fun h' tk' e d M => lay_NoSystem I1 rv M q1)
theorem pe_get_NoSystem {e : Expr} {te : TE} {pos : Pos} (T : PySem.NoSystemX.NoSystemTxt X.K X.mg C fI) (he : PE X e te) (hb : attributeBase e "name" X.env (eval e X.env) = eval e X.env := by rfl) : PE X (.Attribute e "name" pos) (tGet C "name" te) := by
  refine ⟨fun pins s σ H Q I h => ?_⟩
  refine attr_of hb (thn (he.run pins s σ H _ I h) fun u s1 ⟨x, H1, I1, rx, a, dd, v, ex, ha, ea, q⟩ => ?_)
  subst ex
  cases rx
  obtain ⟨⟨oe, vs, ho, hz, hd⟩, _, _⟩ : ObjOk X.prog X.w H1 s1.heap a (ExD C a (some dd)) := I1.hok a _ ha
  obtain ⟨mA, hns, hr⟩ : ObjOk X.prog X.w H1 s1.heap dd (.xd [(("name" : Str), v)]) := I1.hok dd _ ea
  obtain ⟨od, hod, hl⟩ := lookIn_ns hns
  have l : List.lookup ("name" : Str) [(("name" : Str), v)] = some v := by simp [List.lookup]
  obtain ⟨u, hu, ru⟩ := RelO.some_of (v := v) (o := mA "name") (by rw [← l]; exact hr "name")
  have J : PySem.W.InstAt s1.heap a oe C (some od) := ⟨ho, hz.1, by unfold PySem.W.notCls; rw [hd] <;> rfl, by rw [hz.2]; exact hod⟩
  exact HandSPX.exc_get I1.kIn J T.ga T.gg T.exC (PySem.W.findObj_own T.hdC T.noN rfl (by rw [hl, hu])) (handed_of ru) ⟨v, H1, I1.tok _, ru, q⟩
end
end DL


namespace PySem
namespace NoWordX
open PySem.W PySem.Calls PyProof.Rows PySem.HandSPX
/-! ### the text of __init__ -/
def iA (p1 p2 : Pos) : Arguments := { posonlyargs := [], args := [{ arg := "self", annotation := none, pos := p1 }, { arg := "name", annotation := none, pos := p2 }], vararg := none, kwonlyargs := [], kw_defaults := [], kwarg := none, defaults := [] }
def iB (q1 q2 q3 q4 : Pos) : List Stmt := [.Assign [.Attribute (.Name "self" q1) "name" q2] (.Name "name" q3) q4]
def iS : Scope := { kind := .function, names := [(PySem.Str.ofString "self", .local), (PySem.Str.ofString "name", .local)], isGenerator := false, isCoroutine := false, more := [] }
/-- what the written part says of Low, at C, and of its __init__, at fI -/
structure NoWordTxt (K : Frag) (mg : Str → Option Value) (C fI : Addr) : Prop where
  gC : mg "NoWord" = some (.ref C)
  cls : ∃ nm q N bs bm sn sub ab col dd k0 k1 k2 k3 k5, K.lookup C = some (excClassObj nm q C N bs bm true sn sub ab col dd k0 k1 k2 k3 k5 "ValueError.__new__") ∧ refsVE bm = true
  sa : findIn K (.ref C) "__setattr__" = some (some (.builtin "object.__setattr__"))
  ga : findIn K (.ref C) "__getattribute__" = some (some (.builtin "BaseException.__getattribute__"))
  gg : findIn K (.ref C) "__getattr__" = some none
  noN : findIn K (.ref C) "name" = some none
  iC : findIn K (.ref C) "__init__" = some (some (.ref fI))
  tC : typeIn K (.ref fI) = some (.type "function")
  kC : keepIn K (.ref C) = true
  exC : subIn K (.ref C) (.type "BaseException") = some true
  tyC : typeIn K (.ref C) = some (.type "type")
  hdC : hasDictIn K C = true
  te : exmOne K (.ref C) (.ref C) = some true
  fn : ∃ (oc : Value) (od : Option Addr) (doc pm : Value) (an : Option Addr) (cdv ct : Value) (osl : Array (Option Value)) (p1 p2 q1 q2 q3 q4 : Pos),
    K.lookup fI = some ⟨oc, od, .func (fnOf "__init__" "NoWord.__init__" (iA p1 p2) (iB q1 q2 q3 q4) iS .none .none doc pm an cdv ct), osl⟩ ∧ codeIn K cdv "NoWord.__init__" = true
theorem one_size (v : Value) : [v].length ≤ sizeLine := by
  rw [sizeLine_eq]
  exact (by decide : 1 ≤ 16777216)
theorem kept_but {K : Frag} {h h' : Heap} {x : Addr} (X : K.In h) (hx : K.lookup x = none) (k : ∀ b o, b ≠ x → h.get? b = some o → h'.get? b = some o) : K.In h' := fun a o e =>
  k a o (fun z => by rw [z, hx] at e; cases e) (X a o e)
theorem ldC {M : Model} {s : Shared} {name : Str} {scope : Scope} {L a : Addr} {cd : Value} {m : Str → Option Value} {x : Str} {pos : Pos} {v : Value} {Q : Value → Shared → Prop} {A : Around} {E : Value → Shared → Prop} (hn : s.heap.Ns L m) (hv : m x = some v) (h : Q v s)
    (hk : scope.kind = .function := by rfl) (hl : (envOfC name scope L a cd).kindOf x = some .local := by rfl) (hd : (x == ("__debug__" : Str)) = false := by decide) :
    wpAny M A (eval (.Name x pos) (envOfC name scope L a cd)) Q E s := wpAny_Name (wpAny_loadName_local hk hl hn hv h) hd
/-- what __init__ leaves of a fresh exception at x -/
structure InitEnd (h h' : Heap) (x C dx t1 : Addr) (v : Value) : Prop where
  keep : ∀ b o, b ≠ x → h.get? b = some o → h'.get? b = some o
  obj : h'.get? x = some { cls := .ref C, dict := some dx, data := .fields #[.ref t1, .none, .none, .none, .bool false, .none] }
  dbig : h.objs.size ≤ dx
  dne : dx ≠ x
  ns : h'.Ns1 dx (fun y => if y = "name" then some v else none)
/-- a made Low -/
structure OwnMade (h h' : Heap) (e C d : Addr) (v : Value) : Prop where
  keep : ∀ b o, h.get? b = some o → h'.get? b = some o
  new : h.objs.size ≤ e
  obj : ∃ oe vs, h'.get? e = some oe ∧ oe.cls = .ref C ∧ oe.dict = some d ∧ oe.data = .fields vs ∧ vs[1]? = some .none
  dbig : h.objs.size ≤ d
  dne : d ≠ e
  ns : h'.Ns1 d (fun y => if y = "name" then some v else none)
section
variable {prog : Program} {w : World} {A : Around} {E : Value → Shared → Prop} {R : Result → Shared → Prop} {s : Shared} {K : Frag} {mg : Str → Option Value} {C fI : Addr}
theorem low_init_NoWord (T : NoWordTxt K mg C fI) {x t0 : Addr} {v : Value} (X : K.In s.heap) (hlim : s.heap.NoLimit) (hx : s.heap.get? x = some (excO C t0)) (hnx : K.lookup x = none) (hroom : A.depth < recursionLimit)
    (hq : ∀ h' tk dx, InitEnd s.heap h' x C dx t0 v → R (.ok (.ret .none)) { s with heap := h', toks := tk }) :
    codeAny (model prog w) A (.call (.ref fI) ⟨[.ref x, v], []⟩) R s := by
  obtain ⟨oc, od, doc, pm, an, cdv, ct, osl, p1, p2, q1, q2, q3, q4, ho, hcd⟩ := T.fn
  obtain ⟨nm, q, N, bs, bm, sn, sub, ab, col, dd, k0, k1, k2, k3, k5, hC, hbm⟩ := T.cls
  have hcl : clsIn K C = some { name := nm, bases := bs, mro := .ref C :: bm, ns := N, qualname := q, hasDict := true, slotNames := sn, subclasses := sub, abstract := ab, collection := col, hasDel := false } := by unfold clsIn; rw [hC] <;> rfl
  refine Att.call_fn (binds := [("self", .ref x), ("name", v)]) X hlim ho hcd hroom (BindsTo.of_eq (by first | rfl | with_unfolding_all rfl)) (by first | rfl | decide | with_unfolding_all rfl) (fun s₁ IC => ?_) rfl rfl rfl
  obtain ⟨h₁, tk₁, rfl⟩ := IC.toInCall.same
  have k : ∀ b o, s.heap.get? b = some o → h₁.get? b = some o := IC.toInCall.keep
  have hn := IC.toInCall.ns
  have hxL : s.heap.objs.size ≠ x := Nat.ne_of_gt (Heap.lt_size hx)
  have X₁ : K.In h₁ := X.keeps k
  have hx₁ := k _ _ hx
  -- self.by = by
  show wpAny _ _ (execs _ _) _ _ _
  refine wpAny_execs_cons (plainObj_wpAny_Assign_Attribute ?_)
  refine ldC (v := v) hn (by first | rfl | with_unfolding_all rfl | kernel_rfl) (ldC (v := .ref x) hn (by first | rfl | with_unfolding_all rfl | kernel_rfl) ?_)
  refine set_plain X₁ (ox := excO C t0) (od := none) ⟨hx₁, rfl, rfl, trivial⟩ T.sa ?_
  refine exc_osa X₁ hx₁ hcl (show refsVE (.ref C :: bm) = true from hbm) rfl T.noN (fun h₃ tk₃ dx k₃ dn dne hx₃ hn₃ => ?_)
  show wpAny _ _ (execs _ _) _ _ _
  have z : s.heap.objs.size < h₁.objs.size := hn.lt
  exact wpAny_execs_nil (hq h₃ tk₃ dx ⟨fun b o hb e => k₃ b o hb (k b o e), hx₃, Nat.le_of_lt (Nat.lt_of_lt_of_le z dn), dne, hn₃⟩)
theorem low_made_NoWord (T : NoWordTxt K mg C fI) {v : Value} (X : K.In s.heap) (hlim : s.heap.NoLimit) (hroom : A.depth + 1 < recursionLimit)
    (hq : ∀ h' tk e d, OwnMade s.heap h' e C d v → R (.ok (.ret (.ref e))) { s with heap := h', toks := tk }) :
    codeAny (model prog w) A (.call (.ref C) ⟨[v], []⟩) R s := by
  obtain ⟨nm, q, N, bs, bm, sn, sub, ab, col, dd, k0, k1, k2, k3, k5, hC, hbm⟩ := T.cls
  obtain ⟨hp, g, dr, tk, os⟩ := s
  have k : ∀ b o, hp.get? b = some o → ((hp.push (kdv_tup [v])).push (excO C hp.objs.size)).get? b = some o := fun b o e => Heap.get?_push_of_some _ (Heap.get?_push_of_some _ e)
  have hget : ((hp.push (kdv_tup [v])).push (excO C hp.objs.size)).get? (hp.objs.size + 1) = some (excO C hp.objs.size) := by heap_get
  have hnx : K.lookup (hp.objs.size + 1) = none := by
    cases e : K.lookup (hp.objs.size + 1) with
    | none => rfl
    | some o =>
      have z : hp.get? (hp.objs.size + 1) = some o := X _ _ e
      exact absurd (Nat.lt_of_succ_lt (Heap.lt_size z)) (Nat.lt_irrefl _)
  refine call_own F.excBase_ValueError (fun X => refsVE_contains X bm hbm) (X _ _ hC) (looks_findIn X T.iC) (fun self => bind_fn X self T.tC) (one_size v) ?_
  refine low_init_NoWord (s := ⟨(hp.push (kdv_tup [v])).push (excO C hp.objs.size), g, dr, tk, os⟩) T (X.keeps k) (hlim.keeps k) hget hnx ?_ fun h' tk' dx ⟨k', hx, dn, dne, hns⟩ => ?_
  · show A.depth + 1 < recursionLimit
    exact hroom
  · have old : ∀ b o, hp.get? b = some o → h'.get? b = some o := fun b o e => k' b o (Nat.ne_of_lt (Nat.lt_succ_of_lt (Heap.lt_size e))) (k b o e)
    have z : hp.objs.size + 1 + 1 ≤ dx := by
      first
        | (simpa only [Heap.size_push] using dn)
        | exact dn
        | (have q := dn; rw [Heap.size_push, Heap.size_push] at q; exact q)
    exact ⟨rfl, hq h' tk' (hp.objs.size + 1) dx ⟨old, Nat.le_succ _, ⟨_, _, hx, rfl, rfl, rfl, rfl⟩, Nat.le_trans (Nat.le_trans (Nat.le_succ _) (Nat.le_succ _)) z, dne, hns⟩⟩
theorem low_initK_NoWord (T : NoWordTxt K mg C fI) {x t0 : Addr} {v : Value} (X : K.In s.heap) (hlim : s.heap.NoLimit) (hx : s.heap.get? x = some (excO C t0)) (hnx : K.lookup x = none) (hroom : A.depth < recursionLimit)
    (hq : ∀ h' tk dx, InitEnd s.heap h' x C dx t0 v → R (.ok (.ret .none)) { s with heap := h', toks := tk }) :
    codeAny (model prog w) A (.call (.ref fI) ⟨[.ref x], [("name", v)]⟩) R s := by
  obtain ⟨oc, od, doc, pm, an, cdv, ct, osl, p1, p2, q1, q2, q3, q4, ho, hcd⟩ := T.fn
  obtain ⟨nm, q, N, bs, bm, sn, sub, ab, col, dd, k0, k1, k2, k3, k5, hC, hbm⟩ := T.cls
  have hcl : clsIn K C = some { name := nm, bases := bs, mro := .ref C :: bm, ns := N, qualname := q, hasDict := true, slotNames := sn, subclasses := sub, abstract := ab, collection := col, hasDel := false } := by unfold clsIn; rw [hC] <;> rfl
  refine Att.call_fn (binds := [("self", .ref x), ("name", v)]) X hlim ho hcd hroom (BindsTo.of_eq (by first | rfl | with_unfolding_all rfl)) (by first | rfl | decide | with_unfolding_all rfl) (fun s₁ IC => ?_) rfl rfl rfl
  obtain ⟨h₁, tk₁, rfl⟩ := IC.toInCall.same
  have k : ∀ b o, s.heap.get? b = some o → h₁.get? b = some o := IC.toInCall.keep
  have hn := IC.toInCall.ns
  have hxL : s.heap.objs.size ≠ x := Nat.ne_of_gt (Heap.lt_size hx)
  have X₁ : K.In h₁ := X.keeps k
  have hx₁ := k _ _ hx
  -- self.by = by
  show wpAny _ _ (execs _ _) _ _ _
  refine wpAny_execs_cons (plainObj_wpAny_Assign_Attribute ?_)
  refine ldC (v := v) hn (by first | rfl | with_unfolding_all rfl | kernel_rfl) (ldC (v := .ref x) hn (by first | rfl | with_unfolding_all rfl | kernel_rfl) ?_)
  refine set_plain X₁ (ox := excO C t0) (od := none) ⟨hx₁, rfl, rfl, trivial⟩ T.sa ?_
  refine exc_osa X₁ hx₁ hcl (show refsVE (.ref C :: bm) = true from hbm) rfl T.noN (fun h₃ tk₃ dx k₃ dn dne hx₃ hn₃ => ?_)
  show wpAny _ _ (execs _ _) _ _ _
  have z : s.heap.objs.size < h₁.objs.size := hn.lt
  exact wpAny_execs_nil (hq h₃ tk₃ dx ⟨fun b o hb e => k₃ b o hb (k b o e), hx₃, Nat.le_of_lt (Nat.lt_of_lt_of_le z dn), dne, hn₃⟩)
theorem low_madeK_NoWord (T : NoWordTxt K mg C fI) {v : Value} (X : K.In s.heap) (hlim : s.heap.NoLimit) (hroom : A.depth + 1 < recursionLimit)
    (hq : ∀ h' tk e d, OwnMade s.heap h' e C d v → R (.ok (.ret (.ref e))) { s with heap := h', toks := tk }) :
    codeAny (model prog w) A (.call (.ref C) ⟨[], [("name", v)]⟩) R s := by
  obtain ⟨nm, q, N, bs, bm, sn, sub, ab, col, dd, k0, k1, k2, k3, k5, hC, hbm⟩ := T.cls
  obtain ⟨hp, g, dr, tk, os⟩ := s
  have k : ∀ b o, hp.get? b = some o → ((hp.push (kdv_tup [])).push (excO C hp.objs.size)).get? b = some o := fun b o e => Heap.get?_push_of_some _ (Heap.get?_push_of_some _ e)
  have hget : ((hp.push (kdv_tup [])).push (excO C hp.objs.size)).get? (hp.objs.size + 1) = some (excO C hp.objs.size) := by heap_get
  have hnx : K.lookup (hp.objs.size + 1) = none := by
    cases e : K.lookup (hp.objs.size + 1) with
    | none => rfl
    | some o =>
      have z : hp.get? (hp.objs.size + 1) = some o := X _ _ e
      exact absurd (Nat.lt_of_succ_lt (Heap.lt_size z)) (Nat.lt_irrefl _)
  refine PySem.KwMade.call_kw F.excBase_ValueError (fun X => refsVE_contains X bm hbm) (X _ _ hC) (looks_findIn X T.iC) (fun self => bind_fn X self T.tC) ?_
  refine low_initK_NoWord (s := ⟨(hp.push (kdv_tup [])).push (excO C hp.objs.size), g, dr, tk, os⟩) T (X.keeps k) (hlim.keeps k) hget hnx ?_ fun h' tk' dx ⟨k', hx, dn, dne, hns⟩ => ?_
  · show A.depth + 1 < recursionLimit
    exact hroom
  · have old : ∀ b o, hp.get? b = some o → h'.get? b = some o := fun b o e => k' b o (Nat.ne_of_lt (Nat.lt_succ_of_lt (Heap.lt_size e))) (k b o e)
    have z : hp.objs.size + 1 + 1 ≤ dx := by
      first
        | (simpa only [Heap.size_push] using dn)
        | exact dn
        | (have q := dn; rw [Heap.size_push, Heap.size_push] at q; exact q)
    exact ⟨rfl, hq h' tk' (hp.objs.size + 1) dx ⟨old, Nat.le_succ _, ⟨_, _, hx, rfl, rfl, rfl, rfl⟩, Nat.le_trans (Nat.le_trans (Nat.le_succ _) (Nat.le_succ _)) z, dne, hns⟩⟩
end
end NoWordX
end PySem

namespace L2
open PySem PySem.Spec PyProof.Rows
theorem relO_low_NoWord {v : V} {v' : Value} (r : RelV v v') (f : Str) : RelO (List.lookup f [(("name" : Str), v)]) (if f = "name" then some v' else none) := by
  by_cases hw : f = "name"
  · subst hw
    rw [if_pos rfl]
    have q : List.lookup ("name" : Str) [(("name" : Str), v)] = some v := by simp [List.lookup]
    rw [q]
    exact r
  · rw [if_neg hw]
    have qw : (f == ("name" : Str)) = false := by simpa using hw
    have q2 : List.lookup f [(("name" : Str), v)] = none := by simp [List.lookup, qw]
    rw [q2]
    trivial

end L2
namespace DL
open PySem PySem.Spec PyProof.Rows L2
section
variable {X : Cx} {C fI : Addr}
theorem lay_NoWord {pins : List (Addr × Obj)} {σ : L2.St} {H1 : Hp} {Q : VK} {hp h' : Heap} {g : Array GenState} {dr : Drawn} {tk tk' : Nat} {os : OsState} {e d : Addr} {v : V} {v' : Value} (I1 : Inv X pins σ H1 ⟨hp, g, dr, tk, os⟩) (rv : RelV v v') (M : PySem.NoWordX.OwnMade hp h' e C d v')
    (q1 : ∀ a d, H1 a = none → H1 d = none → a ≠ d → Q (.ref a) (upd (upd H1 d (.xd [(("name" : Str), v)])) a (ExD C a (some d)))) : EP X pins σ Q (.ref e) ⟨h', g, dr, tk', os⟩ := by
  obtain ⟨oe, fv, hoe, hc, hd, hdat, _⟩ := M.obj
  have hns := M.ns
  obtain ⟨G', g1, g2⟩ := restrict h' fun b => decide (b ≠ e)
  have gk : ∀ b, b ≠ e → G'.get? b = h'.get? b := fun b hb => g1 b (decide_eq_true hb)
  have ge : G'.get? e = none := g2 e (by simp)
  have old : ∀ b o, hp.get? b = some o → G'.get? b = some o := fun b o q =>
    (gk b (Nat.ne_of_lt (Nat.lt_of_lt_of_le (Heap.lt_size q) M.new))).trans (M.keep b o q)
  have ob : ObjOk X.prog X.w (upd H1 d (.xd [(("name" : Str), v)])) G' d (.xd [(("name" : Str), v)]) := ⟨_, hns.at (fun o q => (gk d M.dne).trans q), fun f => relO_low_NoWord rv f⟩
  have J : Inv X pins σ (upd H1 d (.xd [(("name" : Str), v)])) ⟨G', g, dr, tk', os⟩ := I1.laid (t' := tk') old M.dbig ob
  have he : H1 e = none := I1.hok.fresh M.new
  have hn : upd H1 d (.xd [(("name" : Str), v)]) e = none := by
    rw [upd_ne (Ne.symm M.dne)]
    exact he
  have kp : ∀ b u, G'.get? b = some u → h'.get? b = some u := fun b u q => by
    by_cases hb : b = e
    · rw [hb, ge] at q
      cases q
    · exact (gk b hb).symm.trans q
  exact ⟨.ref e, _, J.laidN (h' := h') (t' := tk') kp ge hn (exD_ok hoe ⟨hc, hd⟩ hdat), rfl, q1 e d he (I1.hok.fresh M.dbig) (Ne.symm M.dne)⟩
theorem pe_val_NoWord {a : Expr} {p pos : Pos} {k : Nat} {ta : TA} (T : PySem.NoWordX.NoWordTxt X.K X.mg C fI) (hr : Room k X.A) (hg : Gl X "NoWord") (ha : PA X [a] ta)
    (he : starEach (a :: []) X.env = (false, eval a X.env) :: starEach [] X.env := by rfl) (hpl : (backTo pos (starEach [] X.env)).any (·.1) = false := by rfl) : PE X (.Call (.Name "NoWord" p) [a] [] pos) (tVal C "name" ta) := by
  refine ⟨fun pins s σ H Q I h => ?_⟩
  refine wpAny_Call_Name_kw (ld_glob I hg T.gC ?_)
  refine PySem.W.callWith_K (h₀ := X.base) I.ok.mod.kin T.kC (thn (ha.run pos pins s σ H _ I h) fun us s1 ⟨vs, H1, I1, r1, v, ev, q1⟩ => ?_) he hpl
  subst ev
  refine ⟨I1.kIn, ?_⟩
  cases r1 with
  | cons rv rn =>
    cases rn
    have hlim := I1.nolimit
    obtain ⟨hp, g, dr, tk, os⟩ := s1
    exact wpAny_call (PySem.NoWordX.low_made_NoWord T I1.kIn hlim (by have := hr.dp; omega) fun h' tk' e d M => lay_NoWord I1 rv M q1)
theorem pe_valK_NoWord {p pos : Pos} {k : Nat} {kws : List Keyword} {tk : TA} (T : PySem.NoWordX.NoWordTxt X.K X.mg C fI) (hr : Room k X.A) (hg : Gl X "NoWord") (hkw : PK X kws tk)
    (hall : (backToKw pos (keywordEach kws X.env)).all (·.1.isSome) = true := by rfl) (hks : (backToKw pos (keywordEach kws X.env)).filterMap (·.1) = [("name" : Str)] := by rfl)
    (hpl : ((backTo pos (starEach [] X.env)).any (·.1) || (backToKw pos (keywordEach kws X.env)).any (·.1.isNone)) = false := by rfl) : PE X (.Call (.Name "NoWord" p) [] kws pos) (tVal C "name" tk) := by
  refine ⟨fun pins s σ H Q I h => ?_⟩
  refine wpAny_Call_Name_kw (ld_glob I hg T.gC ?_)
  refine PySem.W.callWith_KW0 (h₀ := X.base) I.ok.mod.kin T.kC hall ?_ hpl
  refine thn (hkw.run pos pins s σ H _ I h) fun us s1 ⟨vs, H1, I1, r1, v, ev, q1⟩ => ?_
  subst ev
  refine ⟨I1.kIn, ?_⟩
  rw [hks]
  cases r1 with
  | cons rv rn =>
    cases rn
    have hlim := I1.nolimit
    obtain ⟨hp, g, dr, tk, os⟩ := s1
    exact wpAny_call (PySem.NoWordX.low_madeK_NoWord T I1.kIn hlim (by have := hr.dp; omega) fun h' tk' e d M => lay_NoWord I1 rv M q1)
theorem pe_get_NoWord {e : Expr} {te : TE} {pos : Pos} (T : PySem.NoWordX.NoWordTxt X.K X.mg C fI) (he : PE X e te) (hb : attributeBase e "name" X.env (eval e X.env) = eval e X.env := by rfl) : PE X (.Attribute e "name" pos) (tGet C "name" te) := by
  refine ⟨fun pins s σ H Q I h => ?_⟩
  refine attr_of hb (thn (he.run pins s σ H _ I h) fun u s1 ⟨x, H1, I1, rx, a, dd, v, ex, ha, ea, q⟩ => ?_)
  subst ex
  cases rx
  obtain ⟨⟨oe, vs, ho, hz, hd⟩, _, _⟩ : ObjOk X.prog X.w H1 s1.heap a (ExD C a (some dd)) := I1.hok a _ ha
  obtain ⟨mA, hns, hr⟩ : ObjOk X.prog X.w H1 s1.heap dd (.xd [(("name" : Str), v)]) := I1.hok dd _ ea
  obtain ⟨od, hod, hl⟩ := lookIn_ns hns
  have l : List.lookup ("name" : Str) [(("name" : Str), v)] = some v := by simp [List.lookup]
  obtain ⟨u, hu, ru⟩ := RelO.some_of (v := v) (o := mA "name") (by rw [← l]; exact hr "name")
  have J : PySem.W.InstAt s1.heap a oe C (some od) := ⟨ho, hz.1, by unfold PySem.W.notCls; rw [hd] <;> rfl, by rw [hz.2]; exact hod⟩
  exact HandSPX.exc_get I1.kIn J T.ga T.gg T.exC (PySem.W.findObj_own T.hdC T.noN rfl (by rw [hl, hu])) (handed_of ru) ⟨v, H1, I1.tok _, ru, q⟩
end
end DL


namespace K00
open PySem PySem.Spec PyProof.Rows L2 DL
def topS (i : Nat) : Stmt := PySem.Challenge.pw_runclaims_k00_errors.main.body.getD i (.Pass ⟨0, 0, 0, 0⟩)
abbrev s__law_box : Stmt := topS 16
abbrev N__law_box : List Str := ["script", "k", "cell"]
theorem sc__law_box : FnScope N__law_box ["script", "k"] (defScope s__law_box) := ⟨rfl, rfl, rfl, by decide +kernel, rfl, by decide +kernel, by decide +kernel⟩
abbrev s__law_take : Stmt := topS 17
abbrev N__law_take : List Str := ["box", "size_so", "some", "once", "far", "again"]
theorem sc__law_take : FnScope N__law_take ["box", "size_so"] (defScope s__law_take) := ⟨rfl, rfl, rfl, by decide +kernel, rfl, by decide +kernel, by decide +kernel⟩
abbrev s__law_cells : Stmt := topS 18
abbrev N__law_cells : List Str := ["script", "top_so", "cells_so", "k", "cell", "at_so"]
theorem sc__law_cells : FnScope N__law_cells ["script", "top_so"] (defScope s__law_cells) := ⟨rfl, rfl, rfl, by decide +kernel, rfl, by decide +kernel, by decide +kernel⟩
abbrev s__law_of : Stmt := topS 19
abbrev N__law_of : List Str := ["box", "goods_so"]
theorem sc__law_of : FnScope N__law_of ["box", "goods_so"] (defScope s__law_of) := ⟨rfl, rfl, rfl, by decide +kernel, rfl, by decide +kernel, by decide +kernel⟩
abbrev s__law_same : Stmt := topS 20
abbrev N__law_same : List Str := ["got", "due", "mine", "its"]
theorem sc__law_same : FnScope N__law_same ["got", "due"] (defScope s__law_same) := ⟨rfl, rfl, rfl, by decide +kernel, rfl, by decide +kernel, by decide +kernel⟩
abbrev s__law_sorts : Stmt := topS 21
abbrev N__law_sorts : List Str := ["caught", "kinds_so"]
theorem sc__law_sorts : FnScope N__law_sorts ["caught"] (defScope s__law_sorts) := ⟨rfl, rfl, rfl, by decide +kernel, rfl, by decide +kernel, by decide +kernel⟩
abbrev s__law_right : Stmt := topS 22
abbrev N__law_right : List Str := ["box", "far", "tag", "every_so", "k", "own", "got", "due", "j"]
theorem sc__law_right : FnScope N__law_right ["box"] (defScope s__law_right) := ⟨rfl, rfl, rfl, by decide +kernel, rfl, by decide +kernel, by decide +kernel⟩
abbrev s_law : Stmt := topS 23
abbrev N_law : List Str := ["script", "cells", "k"]
theorem sc_law : FnScope N_law ["script"] (defScope s_law) := ⟨rfl, rfl, rfl, by decide +kernel, rfl, by decide +kernel, by decide +kernel⟩
structure Txt (K : PySem.W.Frag) (mg : Str → Option Value) : Prop where
  z_ValueError : mg "ValueError" = none
  z_abs : mg "abs" = none
  z_all : mg "all" = none
  z_bool : mg "bool" = none
  z_enumerate : mg "enumerate" = none
  z_int : mg "int" = none
  z_isinstance : mg "isinstance" = none
  z_len : mg "len" = none
  z_list : mg "list" = none
  z_range : mg "range" = none
  z_str : mg "str" = none
  z_tuple : mg "tuple" = none
  z_zip : mg "zip" = none

def W__law_box : WS :=
  (wSeq (wAsg 2 (wIf (wB (wOp ltD (wVar 1) (wCB lenD (wCons (wVar 0) wNil)))) (wOp ixD (wVar 0) (wVar 1)) (wC (.int 0))))
    (wRetL (wLst (wCons (wOp mulD (wCB absD (wCons (wVar 2) wNil)) (wCB intT (wCons (wOp geD (wCB absD (wCons (wVar 2) wNil)) (wOp powD (wC (.int 10)) (wC (.int 18)))) wNil))) (wCons (wOp addD (wOp addD (wOp modD (wCB intT (wCons (wVar 2) wNil)) (wC (.int 2305843009213693951))) (wOp mulD (wC (.int 39373)) (wVar 1))) (wC (.int 93937))) (wCons (wC (.int 0)) wNil))))))
theorem d__law_box {P : Program} {w : World} {K : PySem.W.Frag} {mg : Str → Option Value} {base : Heap} {k : Nat} (T : Txt K mg) {f : Addr} {cdv : Value} {A : Around} {outer : List Env} {s : Shared} {H : Hp} {E : XK} (hr : Room k (A.deeper (envOfC "_law_box" (defScope s__law_box) s.heap.objs.size f cdv))) :
    DSs (cxOf CX0 P w K mg base N__law_box "_law_box" (defScope s__law_box) f cdv A outer s H E).nox (defBody s__law_box) (W__law_box) :=
  (dss_cons (ds_set (i := 2) sc__law_box.nd rfl (by first | exact Or.inl rfl | exact Or.inr rfl) (de_if (dt_lt (de_var 1 (pv 1)) (de_len (by rfl) T.z_len (de_var 0 (pv 0)))) (de_ix (de_var 0 (pv 0)) (de_var 1 (pv 1))) de_int))
    (dss_one (ds_retL (dn_lst (da_cons (de_mul (de_abs (by rfl) T.z_abs (de_var 2 (pv 2))) (de_intT (by rfl) T.z_int (de_ge (de_abs (by rfl) T.z_abs (de_var 2 (pv 2))) (de_pow de_int de_int)))) (da_cons (de_add (de_add (de_mod (de_intT (by rfl) T.z_int (de_var 2 (pv 2))) de_int) (de_mul de_int (de_var 1 (pv 1)))) de_int) (da_cons de_int da_nil)))))))
def W__law_take : WS :=
  (wSeq (wIfS (wB (wOp gtD (wIxO (wO 0) (wC (.int 0))) (wC (.int 0)))) (wSeq (wAsg 2 (wOp modD (wCB intT (wCons (wIxO (wO 0) (wC (.int 0))) wNil)) (wVar 1)))
    (wSeq (wSetI 0 (wC (.int 0)) (wOp fdivD (wIxO (wO 0) (wC (.int 0))) (wVar 1)))
    (wRet (wVar 2)))) wNext)
    (wSeq (wSetI 0 (wC (.int 2)) (wOp addD (wIxO (wO 0) (wC (.int 2))) (wC (.int 1))))
    (wSeq (wAsg 3 (wOp modD (wCB intT (wCons (wOp mulD (wOp addD (wIxO (wO 0) (wC (.int 1))) (wOp mulD (wC (.int 48271)) (wIxO (wO 0) (wC (.int 2))))) (wOp addD (wC (.int 39373)) (wIxO (wO 0) (wC (.int 2))))) wNil)) (wC (.int 2147483647))))
    (wSeq (wAsg 4 (wOp addD (wOp modD (wCB intT (wCons (wVar 3) wNil)) (wC (.int 40009))) (wC (.int 7))))
    (wSeq (wAsg 5 (wOp modD (wCB intT (wCons (wOp mulD (wOp addD (wOp addD (wVar 3) (wIxO (wO 0) (wC (.int 2)))) (wOp fdivD (wIxO (wO 0) (wC (.int 1))) (wC (.int 1000003)))) (wVar 4)) wNil)) (wC (.int 2147483629))))
    (wRet (wOp modD (wCB intT (wCons (wOp fdivD (wOp modD (wCB intT (wCons (wOp addD (wOp mulD (wVar 5) (wC (.int 48271))) (wVar 3)) wNil)) (wC (.int 2147483587))) (wC (.int 64))) wNil)) (wVar 1))))))))
theorem d__law_take {P : Program} {w : World} {K : PySem.W.Frag} {mg : Str → Option Value} {base : Heap} {k : Nat} (T : Txt K mg) {f : Addr} {cdv : Value} {A : Around} {outer : List Env} {s : Shared} {H : Hp} {E : XK} (hr : Room k (A.deeper (envOfC "_law_take" (defScope s__law_take) s.heap.objs.size f cdv))) :
    DSs (cxOf CX0 P w K mg base N__law_take "_law_take" (defScope s__law_take) f cdv A outer s H E).nox (defBody s__law_take) (W__law_take) :=
  (dss_cons (ds_if (dt_gt (de_ixO (dp_own 0 (pv 0)) de_int) de_int) (dss_cons (ds_set (i := 2) sc__law_take.nd rfl (by first | exact Or.inl rfl | exact Or.inr rfl) (de_mod (de_intT (by rfl) T.z_int (de_ixO (dp_own 0 (pv 0)) de_int)) (de_var 1 (pv 1))))
    (dss_cons (ds_setI 0 (pv 0) de_int (de_fdiv (de_ixO (dp_own 0 (pv 0)) de_int) (de_var 1 (pv 1))))
    (dss_one (ds_ret (de_var 2 (pv 2)))))) dss_nil)
    (dss_cons (ds_setI 0 (pv 0) de_int (de_add (de_ixO (dp_own 0 (pv 0)) de_int) de_int))
    (dss_cons (ds_set (i := 3) sc__law_take.nd rfl (by first | exact Or.inl rfl | exact Or.inr rfl) (de_mod (de_intT (by rfl) T.z_int (de_mul (de_add (de_ixO (dp_own 0 (pv 0)) de_int) (de_mul de_int (de_ixO (dp_own 0 (pv 0)) de_int))) (de_add de_int (de_ixO (dp_own 0 (pv 0)) de_int)))) de_int))
    (dss_cons (ds_set (i := 4) sc__law_take.nd rfl (by first | exact Or.inl rfl | exact Or.inr rfl) (de_add (de_mod (de_intT (by rfl) T.z_int (de_var 3 (pv 3))) de_int) de_int))
    (dss_cons (ds_set (i := 5) sc__law_take.nd rfl (by first | exact Or.inl rfl | exact Or.inr rfl) (de_mod (de_intT (by rfl) T.z_int (de_mul (de_add (de_add (de_var 3 (pv 3)) (de_ixO (dp_own 0 (pv 0)) de_int)) (de_fdiv (de_ixO (dp_own 0 (pv 0)) de_int) de_int)) (de_var 4 (pv 4)))) de_int))
    (dss_one (ds_ret (de_mod (de_intT (by rfl) T.z_int (de_fdiv (de_mod (de_intT (by rfl) T.z_int (de_add (de_mul (de_var 5 (pv 5)) de_int) (de_var 3 (pv 3)))) de_int) de_int)) (de_var 1 (pv 1))))))))))
def W__law_cells : WS :=
  (wSeq (wAsgL 2 (wOrL (wListO (wD (wSlS 0 wNone (wSome (wVar 1))))) (wLst (wCons (wC (.int 0)) wNil))))
    (wSeq (wFor (wEnum (wSlS 0 (wSome (wVar 1)) (wSome (wC (.int 63))))) (wgTup 2 (wgCons (wgName 3) (wgCons (wgName 4) wgNil))) (wSeq (wAsg 5 (wOp modD (wCB intT (wCons (wVar 3) wNil)) (wVar 1)))
    (wSetI 2 (wVar 5) (wOp addD (wIxO (wO 2) (wVar 5)) (wOp mulD (wVar 4) (wOp addD (wVar 3) (wC (.int 2))))))))
    (wRetO 2)))
theorem d__law_cells {P : Program} {w : World} {K : PySem.W.Frag} {mg : Str → Option Value} {base : Heap} {k : Nat} (T : Txt K mg) {f : Addr} {cdv : Value} {A : Around} {outer : List Env} {s : Shared} {H : Hp} {E : XK} (hr : Room k (A.deeper (envOfC "_law_cells" (defScope s__law_cells) s.heap.objs.size f cdv))) :
    DSs (cxOf CX0 P w K mg base N__law_cells "_law_cells" (defScope s__law_cells) f cdv A outer s H E).nox (defBody s__law_cells) (W__law_cells) :=
  (dss_cons (ds_setL (i := 2) sc__law_cells.nd rfl (by first | exact Or.inl rfl | exact Or.inr rfl) (dn_or (dn_listO (by rfl) T.z_list (DE.dp (de_sliceS 0 (pv 0) do_none (do_some (de_var 1 (pv 1)))))) (dn_lst (da_cons de_int da_nil))))
    (dss_cons (ds_for PassesOwn.never rfl (di_enum (by rfl) T.z_enumerate (de_sliceS 0 (pv 0) (do_some (de_var 1 (pv 1))) (do_some de_int))) (dg_tup rfl (dgs_cons (dg_name (i := 3) sc__law_cells.nd rfl (by first | exact Or.inl rfl | exact Or.inr rfl)) (dgs_cons (dg_name (i := 4) sc__law_cells.nd rfl (by first | exact Or.inl rfl | exact Or.inr rfl)) dgs_nil))) (dss_cons (ds_set (i := 5) sc__law_cells.nd rfl (by first | exact Or.inl rfl | exact Or.inr rfl) (de_mod (de_intT (by rfl) T.z_int (de_var 3 (pv 3))) (de_var 1 (pv 1))))
    (dss_one (ds_setI 2 (pv 2) (de_var 5 (pv 5)) (de_add (de_ixO (dp_own 2 (pv 2)) (de_var 5 (pv 5))) (de_mul (de_var 4 (pv 4)) (de_add (de_var 3 (pv 3)) de_int)))))))
    (dss_one (ds_retO 2 (pv 2)))))
def W__law_of (S__law_take : PSp) : WS :=
  (wRet (wOp ixD (wVar 1) (wCall S__law_take (wPCons (wO 0) (wPCons (wD (wCB lenD (wCons (wVar 1) wNil))) wPNil)))))
theorem d__law_of {P : Program} {w : World} {K : PySem.W.Frag} {mg : Str → Option Value} {base : Heap} {k : Nat} {S__law_take : PSp} (T : Txt K mg) (C__law_take : Cal P w K mg base "_law_take" ["box", "size_so"] k S__law_take) {f : Addr} {cdv : Value} {A : Around} {outer : List Env} {s : Shared} {H : Hp} {E : XK} (hr : Room k (A.deeper (envOfC "_law_of" (defScope s__law_of) s.heap.objs.size f cdv))) :
    DSs (cxOf CX0 P w K mg base N__law_of "_law_of" (defScope s__law_of) f cdv A outer s H E).nox (defBody s__law_of) (W__law_of S__law_take) :=
  (dss_one (ds_ret (de_ix (de_var 1 (pv 1)) (de_callC C__law_take hr (by rfl) (dpa_cons (dp_own 0 (pv 0)) (dpa_cons (DE.dp (de_len (by rfl) T.z_len (de_var 1 (pv 1)))) dpa_nil))))))
def W__law_same (S__law_same : PSp) : WS :=
  (wSeq (wIfS (wB (wIsi2 "list" "tuple" (wVar 1))) (wSeq (wIfS (wB (wOp neD (wIsi "list" (wVar 0)) (wIsi "list" (wVar 1)))) (wRet (wC (.bool false))) wNext)
    (wSeq (wIfS (wB (wOp neD (wIsi "tuple" (wVar 0)) (wIsi "tuple" (wVar 1)))) (wRet (wC (.bool false))) wNext)
    (wRet (wAndV (wOp eqD (wCB lenD (wCons (wVar 0) wNil)) (wCB lenD (wCons (wVar 1) wNil))) (wCB allB (wCons (wL (wLc (wZip (wVar 0) (wVar 1)) (wgTup 2 (wgCons (wgName 2) (wgCons (wgName 3) wgNil))) wYes (wCall S__law_same (wPCons (wD (wVar 2)) (wPCons (wD (wVar 3)) wPNil))) [2, 3])) wNil)))))) wNext)
    (wSeq (wIfS (wOr (wB (wOp isND (wVar 1) (wC .none))) (wB (wIsi2 "bool" "str" (wVar 1)))) (wRet (wAndV (wOp eqD (wVar 0) (wVar 1)) (wAndV (wOp eqD (wIsi "bool" (wVar 0)) (wIsi "bool" (wVar 1))) (wOp eqD (wOp isND (wVar 0) (wC .none)) (wOp isND (wVar 1) (wC .none)))))) wNext)
    (wRet (wAndV (wIsi "int" (wVar 0)) (wAndV (wNotV (wIsi "bool" (wVar 0))) (wOp eqD (wVar 0) (wVar 1)))))))
theorem d__law_same {P : Program} {w : World} {K : PySem.W.Frag} {mg : Str → Option Value} {base : Heap} {k : Nat} {S__law_same : PSp} (T : Txt K mg) (C__law_same : Cal P w K mg base "_law_same" ["got", "due"] k S__law_same) {f : Addr} {cdv : Value} {A : Around} {outer : List Env} {s : Shared} {H : Hp} {E : XK} (hr : Room k (A.deeper (envOfC "_law_same" (defScope s__law_same) s.heap.objs.size f cdv))) :
    DSs (cxOf CX0 P w K mg base N__law_same "_law_same" (defScope s__law_same) f cdv A outer s H E).nox (defBody s__law_same) (W__law_same S__law_same) :=
  (dss_cons (ds_if (dt_val (de_isi2 (by rfl) T.z_isinstance kit_list kit_tuple (pe_ty (by rfl) T.z_list (by decide +kernel)) (pe_ty (by rfl) T.z_tuple (by decide +kernel)) (de_var 1 (pv 1)))) (dss_cons (ds_if (dt_ne hr.units (de_isi (by rfl) T.z_isinstance kit_list (pe_ty (by rfl) T.z_list (by decide +kernel)) (de_var 0 (pv 0))) (de_isi (by rfl) T.z_isinstance kit_list (pe_ty (by rfl) T.z_list (by decide +kernel)) (de_var 1 (pv 1)))) (dss_one (ds_ret de_bl)) dss_nil)
    (dss_cons (ds_if (dt_ne hr.units (de_isi (by rfl) T.z_isinstance kit_tuple (pe_ty (by rfl) T.z_tuple (by decide +kernel)) (de_var 0 (pv 0))) (de_isi (by rfl) T.z_isinstance kit_tuple (pe_ty (by rfl) T.z_tuple (by decide +kernel)) (de_var 1 (pv 1)))) (dss_one (ds_ret de_bl)) dss_nil)
    (dss_one (ds_ret (de_and (de_eq hr.units (de_len (by rfl) T.z_len (de_var 0 (pv 0))) (de_len (by rfl) T.z_len (de_var 1 (pv 1)))) (de_one (de_all rfl (by rfl) T.z_all (DN.de (dn_lc rfl sc__law_same.nd (own := [("mine", 2), ("its", 3)]) (di_zip (by rfl) T.z_zip (de_var 0 (pv 0)) (de_var 1 (pv 1))) (blkOk_by (own := [("mine", 2), ("its", 3)]) (N := N__law_same) (sc := defScope s__law_same) (by decide +kernel)) (fun _ _ _ _ _ => (dg_tup rfl (dgs_cons (dg_name (i := 2) sc__law_same.nd rfl (by first | exact Or.inl rfl | exact Or.inr rfl)) (dgs_cons (dg_name (i := 3) sc__law_same.nd rfl (by first | exact Or.inl rfl | exact Or.inr rfl)) dgs_nil)))) (fun _ _ _ _ _ => dts_nil) (fun _ _ _ _ _ => (de_callC C__law_same hr (by rfl) (dpa_cons (DE.dp (de_var 2 (pv 2))) (dpa_cons (DE.dp (de_var 3 (pv 3))) dpa_nil)))) (by decide)))))))))) dss_nil)
    (dss_cons (ds_if (DW.dt (dw_or (dt_isN (de_var 1 (pv 1)) de_non) (dw_or1 (dt_val (de_isi2 (by rfl) T.z_isinstance kit_bool kit_str (pe_ty (by rfl) T.z_bool (by decide +kernel)) (pe_ty (by rfl) T.z_str (by decide +kernel)) (de_var 1 (pv 1))))))) (dss_one (ds_ret (de_and (de_eq hr.units (de_var 0 (pv 0)) (de_var 1 (pv 1))) (de_and (de_eq hr.units (de_isi (by rfl) T.z_isinstance kit_bool (pe_ty (by rfl) T.z_bool (by decide +kernel)) (de_var 0 (pv 0))) (de_isi (by rfl) T.z_isinstance kit_bool (pe_ty (by rfl) T.z_bool (by decide +kernel)) (de_var 1 (pv 1)))) (de_one (de_eq hr.units (de_isN (de_var 0 (pv 0)) de_non) (de_isN (de_var 1 (pv 1)) de_non))))))) dss_nil)
    (dss_one (ds_ret (de_and (de_isi (by rfl) T.z_isinstance kit_int (pe_ty (by rfl) T.z_int (by decide +kernel)) (de_var 0 (pv 0))) (de_and (de_not (de_isi (by rfl) T.z_isinstance kit_bool (pe_ty (by rfl) T.z_bool (by decide +kernel)) (de_var 0 (pv 0)))) (de_one (de_eq hr.units (de_var 0 (pv 0)) (de_var 1 (pv 1))))))))))
def W__law_sorts (K : PySem.W.Frag) (CE_NoPart : Addr) (CE_NoCell : Addr) (CE_NoQueue : Addr) (CE_NoLabel : Addr) (CE_NoWord : Addr) (CE_NoSystem : Addr) (CE_NoNumber : Addr) (CE_Known : Addr) (CE_BadText : Addr) (CE_BadLine : Addr) (CE_NotReady : Addr) (CE_Unfit : Addr) (CE_NothingDone : Addr) : WS :=
  (wSeq (wAsgL 1 (wLst wNil))
    (wSeq (wApp 1 (wIsW K (.ref CE_NoPart) (wVar 0)))
    (wSeq (wApp 1 (wIsW K (.ref CE_NoCell) (wVar 0)))
    (wSeq (wApp 1 (wIsW K (.ref CE_NoQueue) (wVar 0)))
    (wSeq (wApp 1 (wIsW K (.ref CE_NoLabel) (wVar 0)))
    (wSeq (wApp 1 (wIsW K (.ref CE_NoWord) (wVar 0)))
    (wSeq (wApp 1 (wIsW K (.ref CE_NoSystem) (wVar 0)))
    (wSeq (wApp 1 (wIsW K (.ref CE_NoNumber) (wVar 0)))
    (wSeq (wApp 1 (wIsW K (.ref CE_NotReady) (wVar 0)))
    (wSeq (wApp 1 (wIsW K (.ref CE_Unfit) (wVar 0)))
    (wSeq (wApp 1 (wIsW K (.ref CE_Known) (wVar 0)))
    (wSeq (wApp 1 (wIsW K (.ref CE_NothingDone) (wVar 0)))
    (wSeq (wApp 1 (wIsW K (.ref CE_BadText) (wVar 0)))
    (wSeq (wApp 1 (wIsW K (.ref CE_BadLine) (wVar 0)))
    (wRetO 1)))))))))))))))
theorem d__law_sorts {P : Program} {w : World} {K : PySem.W.Frag} {mg : Str → Option Value} {base : Heap} {k : Nat} {CE_NoPart fI_NoPart : Addr} {CE_NoCell fI_NoCell : Addr} {CE_NoQueue fI_NoQueue : Addr} {CE_NoLabel fI_NoLabel : Addr} {CE_NoWord fI_NoWord : Addr} {CE_NoSystem fI_NoSystem : Addr} {CE_NoNumber fI_NoNumber : Addr} {CE_Known fI_Known : Addr} {CE_BadText fI_BadText : Addr} {CE_BadLine fI_BadLine : Addr} {CE_NotReady : Addr} {CE_Unfit : Addr} {CE_NothingDone : Addr} (T : Txt K mg) (TX_NoPart : PySem.NoPartX.NoPartTxt K mg CE_NoPart fI_NoPart) (TX_NoCell : PySem.NoCellX.NoCellTxt K mg CE_NoCell fI_NoCell) (TX_NoQueue : PySem.NoQueueX.NoQueueTxt K mg CE_NoQueue fI_NoQueue) (TX_NoLabel : PySem.NoLabelX.NoLabelTxt K mg CE_NoLabel fI_NoLabel) (TX_NoWord : PySem.NoWordX.NoWordTxt K mg CE_NoWord fI_NoWord) (TX_NoSystem : PySem.NoSystemX.NoSystemTxt K mg CE_NoSystem fI_NoSystem) (TX_NoNumber : PySem.NoNumberX.NoNumberTxt K mg CE_NoNumber fI_NoNumber) (TX_Known : PySem.KnownX.KnownTxt K mg CE_Known fI_Known) (TX_BadText : PySem.BadTextX.BadTextTxt K mg CE_BadText fI_BadText) (TX_BadLine : PySem.BadLineX.BadLineTxt K mg CE_BadLine fI_BadLine) (qx_NotReady : PySem.W.excIn K CE_NotReady [.type "ValueError", .type "Exception", .type "BaseException", .type "object"] "ValueError.__new__" = true) (gx_NotReady : mg "NotReady" = some (.ref CE_NotReady)) (kx_NotReady : PySem.W.keepIn K (.ref CE_NotReady) = true) (qx_Unfit : PySem.W.excIn K CE_Unfit [.type "ValueError", .type "Exception", .type "BaseException", .type "object"] "ValueError.__new__" = true) (gx_Unfit : mg "Unfit" = some (.ref CE_Unfit)) (kx_Unfit : PySem.W.keepIn K (.ref CE_Unfit) = true) (qx_NothingDone : PySem.W.excIn K CE_NothingDone [.type "ValueError", .type "Exception", .type "BaseException", .type "object"] "ValueError.__new__" = true) (gx_NothingDone : mg "NothingDone" = some (.ref CE_NothingDone)) (kx_NothingDone : PySem.W.keepIn K (.ref CE_NothingDone) = true) {f : Addr} {cdv : Value} {A : Around} {outer : List Env} {s : Shared} {H : Hp} {E : XK} (hr : Room k (A.deeper (envOfC "_law_sorts" (defScope s__law_sorts) s.heap.objs.size f cdv))) :
    DSs (cxOf CX0 P w K mg base N__law_sorts "_law_sorts" (defScope s__law_sorts) f cdv A outer s H E).nox (defBody s__law_sorts) (W__law_sorts K CE_NoPart CE_NoCell CE_NoQueue CE_NoLabel CE_NoWord CE_NoSystem CE_NoNumber CE_Known CE_BadText CE_BadLine CE_NotReady CE_Unfit CE_NothingDone) :=
  (dss_cons (ds_setL (i := 1) sc__law_sorts.nd rfl (by first | exact Or.inl rfl | exact Or.inr rfl) (dn_lst da_nil))
    (dss_cons (ds_app 1 (t0 := tVar 1) (pv 1) (de_isW (cM := .ref CE_NoPart) (cv := .ref CE_NoPart) (by rfl) T.z_isinstance (de_var 0 (pv 0)) (pe_glob (v := .ref CE_NoPart) (by rfl) TX_NoPart.gC rfl (by decide)) (fun u h => by cases h; rfl)) (fun pe => pe_bm PySem.F.plainAttrs_list PySem.F.slot_list_append PySem.F.type_list_append mt_append (pv 1) (pa_cons pe pa_nil)))
    (dss_cons (ds_app 1 (t0 := tVar 1) (pv 1) (de_isW (cM := .ref CE_NoCell) (cv := .ref CE_NoCell) (by rfl) T.z_isinstance (de_var 0 (pv 0)) (pe_glob (v := .ref CE_NoCell) (by rfl) TX_NoCell.gC rfl (by decide)) (fun u h => by cases h; rfl)) (fun pe => pe_bm PySem.F.plainAttrs_list PySem.F.slot_list_append PySem.F.type_list_append mt_append (pv 1) (pa_cons pe pa_nil)))
    (dss_cons (ds_app 1 (t0 := tVar 1) (pv 1) (de_isW (cM := .ref CE_NoQueue) (cv := .ref CE_NoQueue) (by rfl) T.z_isinstance (de_var 0 (pv 0)) (pe_glob (v := .ref CE_NoQueue) (by rfl) TX_NoQueue.gC rfl (by decide)) (fun u h => by cases h; rfl)) (fun pe => pe_bm PySem.F.plainAttrs_list PySem.F.slot_list_append PySem.F.type_list_append mt_append (pv 1) (pa_cons pe pa_nil)))
    (dss_cons (ds_app 1 (t0 := tVar 1) (pv 1) (de_isW (cM := .ref CE_NoLabel) (cv := .ref CE_NoLabel) (by rfl) T.z_isinstance (de_var 0 (pv 0)) (pe_glob (v := .ref CE_NoLabel) (by rfl) TX_NoLabel.gC rfl (by decide)) (fun u h => by cases h; rfl)) (fun pe => pe_bm PySem.F.plainAttrs_list PySem.F.slot_list_append PySem.F.type_list_append mt_append (pv 1) (pa_cons pe pa_nil)))
    (dss_cons (ds_app 1 (t0 := tVar 1) (pv 1) (de_isW (cM := .ref CE_NoWord) (cv := .ref CE_NoWord) (by rfl) T.z_isinstance (de_var 0 (pv 0)) (pe_glob (v := .ref CE_NoWord) (by rfl) TX_NoWord.gC rfl (by decide)) (fun u h => by cases h; rfl)) (fun pe => pe_bm PySem.F.plainAttrs_list PySem.F.slot_list_append PySem.F.type_list_append mt_append (pv 1) (pa_cons pe pa_nil)))
    (dss_cons (ds_app 1 (t0 := tVar 1) (pv 1) (de_isW (cM := .ref CE_NoSystem) (cv := .ref CE_NoSystem) (by rfl) T.z_isinstance (de_var 0 (pv 0)) (pe_glob (v := .ref CE_NoSystem) (by rfl) TX_NoSystem.gC rfl (by decide)) (fun u h => by cases h; rfl)) (fun pe => pe_bm PySem.F.plainAttrs_list PySem.F.slot_list_append PySem.F.type_list_append mt_append (pv 1) (pa_cons pe pa_nil)))
    (dss_cons (ds_app 1 (t0 := tVar 1) (pv 1) (de_isW (cM := .ref CE_NoNumber) (cv := .ref CE_NoNumber) (by rfl) T.z_isinstance (de_var 0 (pv 0)) (pe_glob (v := .ref CE_NoNumber) (by rfl) TX_NoNumber.gC rfl (by decide)) (fun u h => by cases h; rfl)) (fun pe => pe_bm PySem.F.plainAttrs_list PySem.F.slot_list_append PySem.F.type_list_append mt_append (pv 1) (pa_cons pe pa_nil)))
    (dss_cons (ds_app 1 (t0 := tVar 1) (pv 1) (de_isW (cM := .ref CE_NotReady) (cv := .ref CE_NotReady) (by rfl) T.z_isinstance (de_var 0 (pv 0)) (pe_glob (v := .ref CE_NotReady) (by rfl) gx_NotReady rfl (by decide)) (fun u h => by cases h; rfl)) (fun pe => pe_bm PySem.F.plainAttrs_list PySem.F.slot_list_append PySem.F.type_list_append mt_append (pv 1) (pa_cons pe pa_nil)))
    (dss_cons (ds_app 1 (t0 := tVar 1) (pv 1) (de_isW (cM := .ref CE_Unfit) (cv := .ref CE_Unfit) (by rfl) T.z_isinstance (de_var 0 (pv 0)) (pe_glob (v := .ref CE_Unfit) (by rfl) gx_Unfit rfl (by decide)) (fun u h => by cases h; rfl)) (fun pe => pe_bm PySem.F.plainAttrs_list PySem.F.slot_list_append PySem.F.type_list_append mt_append (pv 1) (pa_cons pe pa_nil)))
    (dss_cons (ds_app 1 (t0 := tVar 1) (pv 1) (de_isW (cM := .ref CE_Known) (cv := .ref CE_Known) (by rfl) T.z_isinstance (de_var 0 (pv 0)) (pe_glob (v := .ref CE_Known) (by rfl) TX_Known.gC rfl (by decide)) (fun u h => by cases h; rfl)) (fun pe => pe_bm PySem.F.plainAttrs_list PySem.F.slot_list_append PySem.F.type_list_append mt_append (pv 1) (pa_cons pe pa_nil)))
    (dss_cons (ds_app 1 (t0 := tVar 1) (pv 1) (de_isW (cM := .ref CE_NothingDone) (cv := .ref CE_NothingDone) (by rfl) T.z_isinstance (de_var 0 (pv 0)) (pe_glob (v := .ref CE_NothingDone) (by rfl) gx_NothingDone rfl (by decide)) (fun u h => by cases h; rfl)) (fun pe => pe_bm PySem.F.plainAttrs_list PySem.F.slot_list_append PySem.F.type_list_append mt_append (pv 1) (pa_cons pe pa_nil)))
    (dss_cons (ds_app 1 (t0 := tVar 1) (pv 1) (de_isW (cM := .ref CE_BadText) (cv := .ref CE_BadText) (by rfl) T.z_isinstance (de_var 0 (pv 0)) (pe_glob (v := .ref CE_BadText) (by rfl) TX_BadText.gC rfl (by decide)) (fun u h => by cases h; rfl)) (fun pe => pe_bm PySem.F.plainAttrs_list PySem.F.slot_list_append PySem.F.type_list_append mt_append (pv 1) (pa_cons pe pa_nil)))
    (dss_cons (ds_app 1 (t0 := tVar 1) (pv 1) (de_isW (cM := .ref CE_BadLine) (cv := .ref CE_BadLine) (by rfl) T.z_isinstance (de_var 0 (pv 0)) (pe_glob (v := .ref CE_BadLine) (by rfl) TX_BadLine.gC rfl (by decide)) (fun u h => by cases h; rfl)) (fun pe => pe_bm PySem.F.plainAttrs_list PySem.F.slot_list_append PySem.F.type_list_append mt_append (pv 1) (pa_cons pe pa_nil)))
    (dss_one (ds_retO 1 (pv 1)))))))))))))))))
def W__law_right (K : PySem.W.Frag) (CE_NoPart : Addr) (CE_NoCell : Addr) (CE_NoQueue : Addr) (CE_NoLabel : Addr) (CE_NoWord : Addr) (CE_NoSystem : Addr) (CE_NoNumber : Addr) (CE_Known : Addr) (CE_BadText : Addr) (CE_BadLine : Addr) (CE_NotReady : Addr) (CE_Unfit : Addr) (CE_NothingDone : Addr) (CE_ModelError : Addr) (S__law_take : PSp) (S__law_of : PSp) (S__law_same : PSp) (S__law_sorts : PSp) : WS :=
  (wSeq (wPar 1 2 (wOp addD (wC (.int 1)) (wCall S__law_take (wPCons (wO 0) (wPCons (wD (wOp powD (wC (.int 10)) (wC (.int 6)))) wPNil)))) (wCall S__law_of (wPCons (wO 0) (wPCons (wD (wL (wLst (wCons (wC (.str "a")) (wCons (wC (.str "ants")) (wCons (wC (.str "abcdefgh")) (wCons (wC (.str "zz")) wNil))))))) wPNil))))
    (wSeq (wAsgL 3 (wLst wNil))
    (wSeq (wApp 3 (wVal CE_NoPart "name" (wVar 2)))
    (wSeq (wApp 3 (wVal CE_NoCell "name" (wVar 2)))
    (wSeq (wApp 3 (wVal CE_NoQueue "name" (wVar 2)))
    (wSeq (wApp 3 (wVal CE_NoLabel "name" (wVar 2)))
    (wSeq (wApp 3 (wVal CE_NoWord "name" (wVar 2)))
    (wSeq (wApp 3 (wVal CE_NoSystem "name" (wVar 2)))
    (wSeq (wApp 3 (wVal CE_NoNumber "number" (wVar 1)))
    (wSeq (wApp 3 (wC (excB CE_NotReady)))
    (wSeq (wApp 3 (wC (excB CE_Unfit)))
    (wSeq (wApp 3 (wVal CE_Known "name" (wVar 2)))
    (wSeq (wApp 3 (wC (excB CE_NothingDone)))
    (wSeq (wApp 3 (wVal CE_BadText "piece" (wVar 1)))
    (wSeq (wApp 3 (wVal CE_BadLine "number" (wVar 1)))
    (wFrz 3 (wSeq (wFor (wEnum (wVar 3)) (wgTup 2 (wgCons (wgName 4) (wgCons (wgName 5) wgNil))) (wSeq (wIfS (wNot (wB (wCall S__law_same (wPCons (wD (wCall S__law_sorts (wPCons (wD (wVar 5)) wPNil))) (wPCons (wD (wL (wLc (wRng1 (wC (.int 13))) (wgName 8) wYes (wOp eqD (wVar 8) (wVar 4)) [8]))) wPNil))))) (wRet (wC (.bool false))) wNext)
    (wIfS (wOr (wNot (wB (wIsW K (.ref CE_ModelError) (wVar 5)))) (wNot (wB (wIsW K (.type "ValueError") (wVar 5))))) (wRet (wC (.bool false))) wNext)))
    (wSeq (wPar 6 7 (wL (wLst wNil)) (wL (wLst wNil)))
    (wSeq (wAsg 6 (wOp addD (wVar 6) (wL (wLst (wCons (wGet CE_NoPart "name" (wOp ixD (wVar 3) (wC (.int 0)))) (wCons (wGet CE_NoPart "name" (wVal CE_NoPart "name" (wC (.str "b")))) wNil))))))
    (wSeq (wAsg 7 (wOp addD (wVar 7) (wL (wLst (wCons (wVar 2) (wCons (wC (.str "b")) wNil))))))
    (wSeq (wAsg 6 (wOp addD (wVar 6) (wL (wLst (wCons (wGet CE_NoCell "name" (wOp ixD (wVar 3) (wC (.int 1)))) (wCons (wGet CE_NoCell "name" (wVal CE_NoCell "name" (wC (.str "b")))) wNil))))))
    (wSeq (wAsg 7 (wOp addD (wVar 7) (wL (wLst (wCons (wVar 2) (wCons (wC (.str "b")) wNil))))))
    (wSeq (wAsg 6 (wOp addD (wVar 6) (wL (wLst (wCons (wGet CE_NoQueue "name" (wOp ixD (wVar 3) (wC (.int 2)))) (wCons (wGet CE_NoQueue "name" (wVal CE_NoQueue "name" (wC (.str "b")))) wNil))))))
    (wSeq (wAsg 7 (wOp addD (wVar 7) (wL (wLst (wCons (wVar 2) (wCons (wC (.str "b")) wNil))))))
    (wSeq (wAsg 6 (wOp addD (wVar 6) (wL (wLst (wCons (wGet CE_NoLabel "name" (wOp ixD (wVar 3) (wC (.int 3)))) (wCons (wGet CE_NoLabel "name" (wVal CE_NoLabel "name" (wC (.str "b")))) wNil))))))
    (wSeq (wAsg 7 (wOp addD (wVar 7) (wL (wLst (wCons (wVar 2) (wCons (wC (.str "b")) wNil))))))
    (wSeq (wAsg 6 (wOp addD (wVar 6) (wL (wLst (wCons (wGet CE_NoWord "name" (wOp ixD (wVar 3) (wC (.int 4)))) (wCons (wGet CE_NoWord "name" (wVal CE_NoWord "name" (wC (.str "b")))) wNil))))))
    (wSeq (wAsg 7 (wOp addD (wVar 7) (wL (wLst (wCons (wVar 2) (wCons (wC (.str "b")) wNil))))))
    (wSeq (wAsg 6 (wOp addD (wVar 6) (wL (wLst (wCons (wGet CE_NoSystem "name" (wOp ixD (wVar 3) (wC (.int 5)))) (wCons (wGet CE_NoSystem "name" (wVal CE_NoSystem "name" (wC (.str "b")))) wNil))))))
    (wSeq (wAsg 7 (wOp addD (wVar 7) (wL (wLst (wCons (wVar 2) (wCons (wC (.str "b")) wNil))))))
    (wSeq (wAsg 6 (wOp addD (wVar 6) (wL (wLst (wCons (wGet CE_NoNumber "number" (wOp ixD (wVar 3) (wC (.int 6)))) (wCons (wGet CE_NoNumber "number" (wVal CE_NoNumber "number" (wC (.int 6)))) wNil))))))
    (wSeq (wAsg 7 (wOp addD (wVar 7) (wL (wLst (wCons (wVar 1) (wCons (wC (.int 6)) wNil))))))
    (wSeq (wAsg 6 (wOp addD (wVar 6) (wL (wLst (wCons (wGet CE_Known "name" (wOp ixD (wVar 3) (wC (.int 9)))) (wCons (wGet CE_Known "name" (wVal CE_Known "name" (wC (.str "b")))) wNil))))))
    (wSeq (wAsg 7 (wOp addD (wVar 7) (wL (wLst (wCons (wVar 2) (wCons (wC (.str "b")) wNil))))))
    (wSeq (wAsg 6 (wOp addD (wVar 6) (wL (wLst (wCons (wGet CE_BadText "piece" (wOp ixD (wVar 3) (wC (.int 11)))) (wCons (wGet CE_BadText "piece" (wVal CE_BadText "piece" (wC (.int 11)))) wNil))))))
    (wSeq (wAsg 7 (wOp addD (wVar 7) (wL (wLst (wCons (wVar 1) (wCons (wC (.int 11)) wNil))))))
    (wSeq (wAsg 6 (wOp addD (wVar 6) (wL (wLst (wCons (wGet CE_BadLine "number" (wOp ixD (wVar 3) (wC (.int 12)))) (wCons (wGet CE_BadLine "number" (wVal CE_BadLine "number" (wC (.int 12)))) wNil))))))
    (wSeq (wAsg 7 (wOp addD (wVar 7) (wL (wLst (wCons (wVar 1) (wCons (wC (.int 12)) wNil))))))
    (wRet (wCall S__law_same (wPCons (wD (wVar 6)) (wPCons (wD (wVar 7)) wPNil))))))))))))))))))))))))))))))))))))))))))
theorem d__law_right {P : Program} {w : World} {K : PySem.W.Frag} {mg : Str → Option Value} {base : Heap} {k : Nat} {CE_NoPart fI_NoPart : Addr} {CE_NoCell fI_NoCell : Addr} {CE_NoQueue fI_NoQueue : Addr} {CE_NoLabel fI_NoLabel : Addr} {CE_NoWord fI_NoWord : Addr} {CE_NoSystem fI_NoSystem : Addr} {CE_NoNumber fI_NoNumber : Addr} {CE_Known fI_Known : Addr} {CE_BadText fI_BadText : Addr} {CE_BadLine fI_BadLine : Addr} {CE_NotReady : Addr} {CE_Unfit : Addr} {CE_NothingDone : Addr} {CE_ModelError : Addr} {S__law_take : PSp} {S__law_of : PSp} {S__law_same : PSp} {S__law_sorts : PSp} (T : Txt K mg) (TX_NoPart : PySem.NoPartX.NoPartTxt K mg CE_NoPart fI_NoPart) (TX_NoCell : PySem.NoCellX.NoCellTxt K mg CE_NoCell fI_NoCell) (TX_NoQueue : PySem.NoQueueX.NoQueueTxt K mg CE_NoQueue fI_NoQueue) (TX_NoLabel : PySem.NoLabelX.NoLabelTxt K mg CE_NoLabel fI_NoLabel) (TX_NoWord : PySem.NoWordX.NoWordTxt K mg CE_NoWord fI_NoWord) (TX_NoSystem : PySem.NoSystemX.NoSystemTxt K mg CE_NoSystem fI_NoSystem) (TX_NoNumber : PySem.NoNumberX.NoNumberTxt K mg CE_NoNumber fI_NoNumber) (TX_Known : PySem.KnownX.KnownTxt K mg CE_Known fI_Known) (TX_BadText : PySem.BadTextX.BadTextTxt K mg CE_BadText fI_BadText) (TX_BadLine : PySem.BadLineX.BadLineTxt K mg CE_BadLine fI_BadLine) (qx_NotReady : PySem.W.excIn K CE_NotReady [.type "ValueError", .type "Exception", .type "BaseException", .type "object"] "ValueError.__new__" = true) (gx_NotReady : mg "NotReady" = some (.ref CE_NotReady)) (kx_NotReady : PySem.W.keepIn K (.ref CE_NotReady) = true) (qx_Unfit : PySem.W.excIn K CE_Unfit [.type "ValueError", .type "Exception", .type "BaseException", .type "object"] "ValueError.__new__" = true) (gx_Unfit : mg "Unfit" = some (.ref CE_Unfit)) (kx_Unfit : PySem.W.keepIn K (.ref CE_Unfit) = true) (qx_NothingDone : PySem.W.excIn K CE_NothingDone [.type "ValueError", .type "Exception", .type "BaseException", .type "object"] "ValueError.__new__" = true) (gx_NothingDone : mg "NothingDone" = some (.ref CE_NothingDone)) (kx_NothingDone : PySem.W.keepIn K (.ref CE_NothingDone) = true) (mB_ModelError : mg "ModelError" = some (.ref CE_ModelError)) (C__law_take : Cal P w K mg base "_law_take" ["box", "size_so"] k S__law_take) (C__law_of : Cal P w K mg base "_law_of" ["box", "goods_so"] k S__law_of) (C__law_same : Cal P w K mg base "_law_same" ["got", "due"] k S__law_same) (C__law_sorts : Cal P w K mg base "_law_sorts" ["caught"] k S__law_sorts) {f : Addr} {cdv : Value} {A : Around} {outer : List Env} {s : Shared} {H : Hp} {E : XK} (hr : Room k (A.deeper (envOfC "_law_right" (defScope s__law_right) s.heap.objs.size f cdv))) :
    DSs (cxOf CX0 P w K mg base N__law_right "_law_right" (defScope s__law_right) f cdv A outer s H E).nox (defBody s__law_right) (W__law_right K CE_NoPart CE_NoCell CE_NoQueue CE_NoLabel CE_NoWord CE_NoSystem CE_NoNumber CE_Known CE_BadText CE_BadLine CE_NotReady CE_Unfit CE_NothingDone CE_ModelError S__law_take S__law_of S__law_same S__law_sorts) :=
  (dss_cons (ds_par (i := 1) (j := 2) rfl sc__law_right.nd rfl rfl (by decide) rfl rfl (de_add de_int (de_callC C__law_take hr (by rfl) (dpa_cons (dp_own 0 (pv 0)) (dpa_cons (DE.dp (de_pow de_int de_int)) dpa_nil)))) (de_callC C__law_of hr (by rfl) (dpa_cons (dp_own 0 (pv 0)) (dpa_cons (DE.dp (DN.de (dn_lst (da_cons de_str (da_cons de_str (da_cons de_str (da_cons de_str da_nil))))))) dpa_nil))) (by rfl))
    (dss_cons (ds_setL (i := 3) sc__law_right.nd rfl (by first | exact Or.inl rfl | exact Or.inr rfl) (dn_lst da_nil))
    (dss_cons (ds_app 3 (t0 := tVar 3) (pv 3) (de_val (de_var 2 (pv 2)) (fun pa => pe_val_NoPart TX_NoPart hr (by rfl) pa)) (fun pe => pe_bm PySem.F.plainAttrs_list PySem.F.slot_list_append PySem.F.type_list_append mt_append (pv 3) (pa_cons pe pa_nil)))
    (dss_cons (ds_app 3 (t0 := tVar 3) (pv 3) (de_val (de_var 2 (pv 2)) (fun pa => pe_val_NoCell TX_NoCell hr (by rfl) pa)) (fun pe => pe_bm PySem.F.plainAttrs_list PySem.F.slot_list_append PySem.F.type_list_append mt_append (pv 3) (pa_cons pe pa_nil)))
    (dss_cons (ds_app 3 (t0 := tVar 3) (pv 3) (de_val (de_var 2 (pv 2)) (fun pa => pe_val_NoQueue TX_NoQueue hr (by rfl) pa)) (fun pe => pe_bm PySem.F.plainAttrs_list PySem.F.slot_list_append PySem.F.type_list_append mt_append (pv 3) (pa_cons pe pa_nil)))
    (dss_cons (ds_app 3 (t0 := tVar 3) (pv 3) (de_val (de_var 2 (pv 2)) (fun pa => pe_val_NoLabel TX_NoLabel hr (by rfl) pa)) (fun pe => pe_bm PySem.F.plainAttrs_list PySem.F.slot_list_append PySem.F.type_list_append mt_append (pv 3) (pa_cons pe pa_nil)))
    (dss_cons (ds_app 3 (t0 := tVar 3) (pv 3) (de_val (de_var 2 (pv 2)) (fun pa => pe_val_NoWord TX_NoWord hr (by rfl) pa)) (fun pe => pe_bm PySem.F.plainAttrs_list PySem.F.slot_list_append PySem.F.type_list_append mt_append (pv 3) (pa_cons pe pa_nil)))
    (dss_cons (ds_app 3 (t0 := tVar 3) (pv 3) (de_val (de_var 2 (pv 2)) (fun pa => pe_val_NoSystem TX_NoSystem hr (by rfl) pa)) (fun pe => pe_bm PySem.F.plainAttrs_list PySem.F.slot_list_append PySem.F.type_list_append mt_append (pv 3) (pa_cons pe pa_nil)))
    (dss_cons (ds_app 3 (t0 := tVar 3) (pv 3) (de_val (de_var 1 (pv 1)) (fun pa => pe_val_NoNumber TX_NoNumber hr (by rfl) pa)) (fun pe => pe_bm PySem.F.plainAttrs_list PySem.F.slot_list_append PySem.F.type_list_append mt_append (pv 3) (pa_cons pe pa_nil)))
    (dss_cons (ds_app 3 (t0 := tVar 3) (pv 3) (de_val0 (pe_val0 PySem.F.excBase_ValueError qx_NotReady gx_NotReady kx_NotReady (by rfl))) (fun pe => pe_bm PySem.F.plainAttrs_list PySem.F.slot_list_append PySem.F.type_list_append mt_append (pv 3) (pa_cons pe pa_nil)))
    (dss_cons (ds_app 3 (t0 := tVar 3) (pv 3) (de_val0 (pe_val0 PySem.F.excBase_ValueError qx_Unfit gx_Unfit kx_Unfit (by rfl))) (fun pe => pe_bm PySem.F.plainAttrs_list PySem.F.slot_list_append PySem.F.type_list_append mt_append (pv 3) (pa_cons pe pa_nil)))
    (dss_cons (ds_app 3 (t0 := tVar 3) (pv 3) (de_val (de_var 2 (pv 2)) (fun pa => pe_val_Known TX_Known hr (by rfl) pa)) (fun pe => pe_bm PySem.F.plainAttrs_list PySem.F.slot_list_append PySem.F.type_list_append mt_append (pv 3) (pa_cons pe pa_nil)))
    (dss_cons (ds_app 3 (t0 := tVar 3) (pv 3) (de_val0 (pe_val0 PySem.F.excBase_ValueError qx_NothingDone gx_NothingDone kx_NothingDone (by rfl))) (fun pe => pe_bm PySem.F.plainAttrs_list PySem.F.slot_list_append PySem.F.type_list_append mt_append (pv 3) (pa_cons pe pa_nil)))
    (dss_cons (ds_app 3 (t0 := tVar 3) (pv 3) (de_val (de_var 1 (pv 1)) (fun pa => pe_val_BadText TX_BadText hr (by rfl) pa)) (fun pe => pe_bm PySem.F.plainAttrs_list PySem.F.slot_list_append PySem.F.type_list_append mt_append (pv 3) (pa_cons pe pa_nil)))
    (dss_cons (ds_app 3 (t0 := tVar 3) (pv 3) (de_val (de_var 1 (pv 1)) (fun pa => pe_val_BadLine TX_BadLine hr (by rfl) pa)) (fun pe => pe_bm PySem.F.plainAttrs_list PySem.F.slot_list_append PySem.F.type_list_append mt_append (pv 3) (pa_cons pe pa_nil)))
    (dss_frz 3 (dss_cons (ds_for PassesOwn.never rfl (di_enum (by rfl) T.z_enumerate (de_var 3 (pv 3))) (dg_tup rfl (dgs_cons (dg_name (i := 4) sc__law_right.nd rfl (by first | exact Or.inl rfl | exact Or.inr rfl)) (dgs_cons (dg_name (i := 5) sc__law_right.nd rfl (by first | exact Or.inl rfl | exact Or.inr rfl)) dgs_nil))) (dss_cons (ds_if (dt_not (dt_val (de_callC C__law_same hr (by rfl) (dpa_cons (DE.dp (de_callC C__law_sorts hr (by rfl) (dpa_cons (DE.dp (de_var 5 (pv 5))) dpa_nil))) (dpa_cons (DE.dp (DN.de (dn_lc rfl sc__law_right.nd (own := [("j", 8)]) (di_range1 (by rfl) T.z_range de_int) (blkOk_by (own := [("j", 8)]) (N := N__law_right) (sc := defScope s__law_right) (by decide +kernel)) (fun _ _ _ _ _ => (dg_name (i := 8) sc__law_right.nd rfl (by first | exact Or.inl rfl | exact Or.inr rfl))) (fun _ _ _ _ _ => dts_nil) (fun _ _ _ _ _ => (de_eq hr.units (de_var 8 (pv 8)) (de_var 4 (pv 4)))) (by decide)))) dpa_nil))))) (dss_one (ds_ret de_bl)) dss_nil)
    (dss_one (ds_if (DW.dt (dw_or (dt_not (dt_val (de_isW (cM := .ref CE_ModelError) (cv := .ref CE_ModelError) (by rfl) T.z_isinstance (de_var 5 (pv 5)) (pe_glob (v := .ref CE_ModelError) (by rfl) mB_ModelError rfl (by decide)) (fun u h => by cases h; rfl)))) (dw_or1 (dt_not (dt_val (de_isW (cM := .ty "ValueError") (cv := .type "ValueError") (by rfl) T.z_isinstance (de_var 5 (pv 5)) (pe_ty (by rfl) T.z_ValueError (by decide +kernel)) (fun u h => by cases h; rfl))))))) (dss_one (ds_ret de_bl)) dss_nil))))
    (dss_cons (ds_par (i := 6) (j := 7) rfl sc__law_right.nd rfl rfl (by decide) rfl rfl (DN.de (dn_lst da_nil)) (DN.de (dn_lst da_nil)) (by rfl))
    (dss_cons (ds_set (i := 6) sc__law_right.nd rfl (by first | exact Or.inl rfl | exact Or.inr rfl) (de_add (de_var 6 (pv 6)) (DN.de (dn_lst (da_cons (de_get (de_ix (de_var 3 (pv 3)) de_int) (fun pe => pe_get_NoPart TX_NoPart pe)) (da_cons (de_get (de_valK de_str (fun pk => pe_valK_NoPart TX_NoPart hr (by rfl) pk)) (fun pe => pe_get_NoPart TX_NoPart pe)) da_nil))))))
    (dss_cons (ds_set (i := 7) sc__law_right.nd rfl (by first | exact Or.inl rfl | exact Or.inr rfl) (de_add (de_var 7 (pv 7)) (DN.de (dn_lst (da_cons (de_var 2 (pv 2)) (da_cons de_str da_nil))))))
    (dss_cons (ds_set (i := 6) sc__law_right.nd rfl (by first | exact Or.inl rfl | exact Or.inr rfl) (de_add (de_var 6 (pv 6)) (DN.de (dn_lst (da_cons (de_get (de_ix (de_var 3 (pv 3)) de_int) (fun pe => pe_get_NoCell TX_NoCell pe)) (da_cons (de_get (de_valK de_str (fun pk => pe_valK_NoCell TX_NoCell hr (by rfl) pk)) (fun pe => pe_get_NoCell TX_NoCell pe)) da_nil))))))
    (dss_cons (ds_set (i := 7) sc__law_right.nd rfl (by first | exact Or.inl rfl | exact Or.inr rfl) (de_add (de_var 7 (pv 7)) (DN.de (dn_lst (da_cons (de_var 2 (pv 2)) (da_cons de_str da_nil))))))
    (dss_cons (ds_set (i := 6) sc__law_right.nd rfl (by first | exact Or.inl rfl | exact Or.inr rfl) (de_add (de_var 6 (pv 6)) (DN.de (dn_lst (da_cons (de_get (de_ix (de_var 3 (pv 3)) de_int) (fun pe => pe_get_NoQueue TX_NoQueue pe)) (da_cons (de_get (de_valK de_str (fun pk => pe_valK_NoQueue TX_NoQueue hr (by rfl) pk)) (fun pe => pe_get_NoQueue TX_NoQueue pe)) da_nil))))))
    (dss_cons (ds_set (i := 7) sc__law_right.nd rfl (by first | exact Or.inl rfl | exact Or.inr rfl) (de_add (de_var 7 (pv 7)) (DN.de (dn_lst (da_cons (de_var 2 (pv 2)) (da_cons de_str da_nil))))))
    (dss_cons (ds_set (i := 6) sc__law_right.nd rfl (by first | exact Or.inl rfl | exact Or.inr rfl) (de_add (de_var 6 (pv 6)) (DN.de (dn_lst (da_cons (de_get (de_ix (de_var 3 (pv 3)) de_int) (fun pe => pe_get_NoLabel TX_NoLabel pe)) (da_cons (de_get (de_valK de_str (fun pk => pe_valK_NoLabel TX_NoLabel hr (by rfl) pk)) (fun pe => pe_get_NoLabel TX_NoLabel pe)) da_nil))))))
    (dss_cons (ds_set (i := 7) sc__law_right.nd rfl (by first | exact Or.inl rfl | exact Or.inr rfl) (de_add (de_var 7 (pv 7)) (DN.de (dn_lst (da_cons (de_var 2 (pv 2)) (da_cons de_str da_nil))))))
    (dss_cons (ds_set (i := 6) sc__law_right.nd rfl (by first | exact Or.inl rfl | exact Or.inr rfl) (de_add (de_var 6 (pv 6)) (DN.de (dn_lst (da_cons (de_get (de_ix (de_var 3 (pv 3)) de_int) (fun pe => pe_get_NoWord TX_NoWord pe)) (da_cons (de_get (de_valK de_str (fun pk => pe_valK_NoWord TX_NoWord hr (by rfl) pk)) (fun pe => pe_get_NoWord TX_NoWord pe)) da_nil))))))
    (dss_cons (ds_set (i := 7) sc__law_right.nd rfl (by first | exact Or.inl rfl | exact Or.inr rfl) (de_add (de_var 7 (pv 7)) (DN.de (dn_lst (da_cons (de_var 2 (pv 2)) (da_cons de_str da_nil))))))
    (dss_cons (ds_set (i := 6) sc__law_right.nd rfl (by first | exact Or.inl rfl | exact Or.inr rfl) (de_add (de_var 6 (pv 6)) (DN.de (dn_lst (da_cons (de_get (de_ix (de_var 3 (pv 3)) de_int) (fun pe => pe_get_NoSystem TX_NoSystem pe)) (da_cons (de_get (de_valK de_str (fun pk => pe_valK_NoSystem TX_NoSystem hr (by rfl) pk)) (fun pe => pe_get_NoSystem TX_NoSystem pe)) da_nil))))))
    (dss_cons (ds_set (i := 7) sc__law_right.nd rfl (by first | exact Or.inl rfl | exact Or.inr rfl) (de_add (de_var 7 (pv 7)) (DN.de (dn_lst (da_cons (de_var 2 (pv 2)) (da_cons de_str da_nil))))))
    (dss_cons (ds_set (i := 6) sc__law_right.nd rfl (by first | exact Or.inl rfl | exact Or.inr rfl) (de_add (de_var 6 (pv 6)) (DN.de (dn_lst (da_cons (de_get (de_ix (de_var 3 (pv 3)) de_int) (fun pe => pe_get_NoNumber TX_NoNumber pe)) (da_cons (de_get (de_valK de_int (fun pk => pe_valK_NoNumber TX_NoNumber hr (by rfl) pk)) (fun pe => pe_get_NoNumber TX_NoNumber pe)) da_nil))))))
    (dss_cons (ds_set (i := 7) sc__law_right.nd rfl (by first | exact Or.inl rfl | exact Or.inr rfl) (de_add (de_var 7 (pv 7)) (DN.de (dn_lst (da_cons (de_var 1 (pv 1)) (da_cons de_int da_nil))))))
    (dss_cons (ds_set (i := 6) sc__law_right.nd rfl (by first | exact Or.inl rfl | exact Or.inr rfl) (de_add (de_var 6 (pv 6)) (DN.de (dn_lst (da_cons (de_get (de_ix (de_var 3 (pv 3)) de_int) (fun pe => pe_get_Known TX_Known pe)) (da_cons (de_get (de_valK de_str (fun pk => pe_valK_Known TX_Known hr (by rfl) pk)) (fun pe => pe_get_Known TX_Known pe)) da_nil))))))
    (dss_cons (ds_set (i := 7) sc__law_right.nd rfl (by first | exact Or.inl rfl | exact Or.inr rfl) (de_add (de_var 7 (pv 7)) (DN.de (dn_lst (da_cons (de_var 2 (pv 2)) (da_cons de_str da_nil))))))
    (dss_cons (ds_set (i := 6) sc__law_right.nd rfl (by first | exact Or.inl rfl | exact Or.inr rfl) (de_add (de_var 6 (pv 6)) (DN.de (dn_lst (da_cons (de_get (de_ix (de_var 3 (pv 3)) de_int) (fun pe => pe_get_BadText TX_BadText pe)) (da_cons (de_get (de_valK de_int (fun pk => pe_valK_BadText TX_BadText hr (by rfl) pk)) (fun pe => pe_get_BadText TX_BadText pe)) da_nil))))))
    (dss_cons (ds_set (i := 7) sc__law_right.nd rfl (by first | exact Or.inl rfl | exact Or.inr rfl) (de_add (de_var 7 (pv 7)) (DN.de (dn_lst (da_cons (de_var 1 (pv 1)) (da_cons de_int da_nil))))))
    (dss_cons (ds_set (i := 6) sc__law_right.nd rfl (by first | exact Or.inl rfl | exact Or.inr rfl) (de_add (de_var 6 (pv 6)) (DN.de (dn_lst (da_cons (de_get (de_ix (de_var 3 (pv 3)) de_int) (fun pe => pe_get_BadLine TX_BadLine pe)) (da_cons (de_get (de_valK de_int (fun pk => pe_valK_BadLine TX_BadLine hr (by rfl) pk)) (fun pe => pe_get_BadLine TX_BadLine pe)) da_nil))))))
    (dss_cons (ds_set (i := 7) sc__law_right.nd rfl (by first | exact Or.inl rfl | exact Or.inr rfl) (de_add (de_var 7 (pv 7)) (DN.de (dn_lst (da_cons (de_var 1 (pv 1)) (da_cons de_int da_nil))))))
    (dss_one (ds_ret (de_callC C__law_same hr (by rfl) (dpa_cons (DE.dp (de_var 6 (pv 6))) (dpa_cons (DE.dp (de_var 7 (pv 7))) dpa_nil)))))))))))))))))))))))))))))))))))))))))))
def W_law (S__law_cells : PSp) (S__law_right : PSp) (S__law_box : PSp) : WS :=
  (wSeq (wAsg 1 (wCall S__law_cells (wPCons (wOs 0) (wPCons (wD (wC (.int 3))) wPNil))))
    (wRet (wCB allB (wCons (wL (wLc (wRng1 (wCB lenD (wCons (wVar 1) wNil))) (wgName 2) wYes (wCallN S__law_right (wCallL S__law_box (wPCons (wD (wVar 1)) (wPCons (wD (wVar 2)) wPNil)))) [2])) wNil))))
theorem d_law {P : Program} {w : World} {K : PySem.W.Frag} {mg : Str → Option Value} {base : Heap} {k : Nat} {S__law_cells : PSp} {S__law_right : PSp} {S__law_box : PSp} (T : Txt K mg) (C__law_cells : Cal P w K mg base "_law_cells" ["script", "top_so"] k S__law_cells) (C__law_right : Cal P w K mg base "_law_right" ["box"] k S__law_right) (C__law_box : Cal P w K mg base "_law_box" ["script", "k"] k S__law_box) {f : Addr} {cdv : Value} {A : Around} {outer : List Env} {s : Shared} {H : Hp} {E : XK} (hr : Room k (A.deeper (envOfC "law" (defScope s_law) s.heap.objs.size f cdv))) :
    DSs (cxOf CX0 P w K mg base N_law "law" (defScope s_law) f cdv A outer s H E).nox (defBody s_law) (W_law S__law_cells S__law_right S__law_box) :=
  (dss_cons (ds_set (i := 1) sc_law.nd rfl (by first | exact Or.inl rfl | exact Or.inr rfl) (de_callC C__law_cells hr (by rfl) (dpa_cons (dp_scr 0 (pv 0)) (dpa_cons (DE.dp de_int) dpa_nil))))
    (dss_one (ds_ret (de_all rfl (by rfl) T.z_all (DN.de (dn_lc rfl sc_law.nd (own := [("k", 2)]) (di_range1 (by rfl) T.z_range (de_len (by rfl) T.z_len (de_var 1 (pv 1)))) (blkOk_by (own := [("k", 2)]) (N := N_law) (sc := defScope s_law) (by decide +kernel)) (fun _ _ _ _ _ => (dg_name (i := 2) sc_law.nd rfl (by first | exact Or.inl rfl | exact Or.inr rfl))) (fun _ _ _ _ _ => dts_nil) (fun _ _ _ _ _ => (de_callN C__law_right hr (by rfl) (dn_callC C__law_box hr (by rfl) (dpa_cons (DE.dp (de_var 1 (pv 1))) (dpa_cons (DE.dp (de_var 2 (pv 2))) dpa_nil))))) (by decide)))))))
end K00

namespace K00
open PySem PySem.Spec PyProof.Rows L2 DL
/-! ## what the law's own helpers promise -/
/-- a box that is good for n more draws -/
def Box (n : Nat) (ds : List PyData) : Prop := ∃ a b c : Int, ds = [.int a, .int b, .int c] ∧ 0 ≤ a ∧ 0 ≤ c ∧ c + n ≤ 1152921504606846976
theorem Box.less {n m : Nat} {ds : List PyData} (h : Box n ds) (le : m ≤ n) : Box m ds := by
  obtain ⟨a, b, c, e, h1, h2, h3⟩ := h
  exact ⟨a, b, c, e, h1, h2, by omega⟩
theorem fmod_in {i m : Int} (h : 1 ≤ m) : 0 ≤ i.fmod m ∧ i.fmod m < m := by
  rw [Int.fmod_eq_emod_of_nonneg i (by omega)]
  exact ⟨Int.emod_nonneg i (by omega), Int.emod_lt_of_pos i (by omega)⟩
theorem fdiv_nn {i m : Int} (h0 : 0 ≤ i) (h : 1 ≤ m) : 0 ≤ i.fdiv m := by
  rw [Int.fdiv_eq_ediv_of_nonneg i (by omega)]
  exact Int.ediv_nonneg h0 (by omega)
def S_take : PSp := fun as R => ∃ (n : Nat) (ds : List PyData) (m : Int), as = [.par ds, .dat (.int m)] ∧ Box (n + 1) ds ∧ 1 ≤ m ∧ m < 1073741824 ∧
  ∀ (r : Int) ds', Box n ds' → 0 ≤ r → r < m → R (.dat (.int r)) [.par ds', .dat (.int m)]
theorem ix3_0 : ixN 3 0 = some 0 := by decide
theorem ix3_1 : ixN 3 1 = some 1 := by decide
theorem ix3_2 : ixN 3 2 = some 2 := by decide
theorem cmul_r {i j : Int} (h : 0 ≤ j) (h' : j < 18446744073709551616) : CMul i j := .inr ⟨by omega, by omega⟩
theorem cdiv_n {i j : Int} (h : 1 ≤ j) (h' : j < 1073741824) : CDivN i j := ⟨by omega, by omega⟩
theorem w_take {as : List Sl} {R : Rs → List Sl → Prop} (h : S_take as R) : W__law_take (endsF as R) (startG N__law_take as) := by
  obtain ⟨n, ds, m, rfl, ⟨a, b, c, rfl, ha, hc, hb⟩, h1, h2, k⟩ := h
  simp [W__law_take, wSeq, startG, ix3_0, ix3_1, ix3_2]
  have hm : m ≠ 0 := by omega
  have f := @fmod_in
  by_cases h0 : 0 < a
  · simp only [h0, if_true]
    refine ⟨hm, cdiv_n h1 h2, k _ _ ⟨_, b, c, rfl, fdiv_nn (by omega) h1, hc, by omega⟩ (f h1).1 (f h1).2⟩
  · simp only [h0, if_false]
    have h40 := @f ((b + 48271 * (c + 1)) * (39373 + (c + 1)) |>.fmod 2147483647) 40009 (by omega)
    refine ⟨cmul_r (by omega) (by omega), cmul_r (by omega) (by omega), cdiv_n (by omega) (by omega), cmul_r (by omega) (by omega), cmul_r (by omega) (by omega), cdiv_n (by omega) (by omega), hm, k _ _ ⟨a, b, c + 1, rfl, ha, by omega, by omega⟩ (f h1).1 (f h1).2⟩

def S_box : PSp := fun as R => ∃ (ns : List Int) (k : Nat), as = [.dat (.list (ns.map PyData.int)), .dat (.int (k : Int))] ∧ k ≤ 1000 ∧ ns.length ≤ 1000 ∧ ∀ ds, Box 1152921504606846976 ds → R (.new ds) as
theorem atI_ints {ns : List Int} {k : Nat} {n : Int} (h : ns[k]? = some n) : atI (ns.map PyData.int) (k : Int) = some (.int n) := by
  refine atI_nat ?_
  rw [List.getElem?_map, h]
  rfl
theorem w_box {as : List Sl} {R : Rs → List Sl → Prop} (h : S_box as R) : W__law_box (endsF as R) (startG N__law_box as) := by
  obtain ⟨ns, k, rfl, hk, hl, kR⟩ := h
  have p18 : CPow 10 18 := ⟨by omega, by omega, by decide⟩
  have fin : ∀ x : Int, CMul (if x < 0 then -x else x) (if 1000000000000000000 ≤ (if x < 0 then -x else x) then 1 else 0) := fun x => by
    refine cmul_r ?_ ?_ <;> split <;> omega
  have s3 : 3 ≤ sizeLine := by decide
  simp [W__law_box, wSeq, startG]
  by_cases h : (k : Int) < (ns.length : Int)
  · have hk' : k < ns.length := by omega
    have e := atI_ints (List.getElem?_eq_getElem hk')
    simp [hk', e]
    refine ⟨p18, fin _, cmul_r (by omega) (by omega), s3, kR _ ⟨_, _, 0, rfl, ?_, by omega, by omega⟩⟩
    refine Int.mul_nonneg ?_ ?_ <;> split <;> omega
  · have hk' : ¬ k < ns.length := by omega
    simp [hk']
    exact ⟨p18, cmul_r (by omega) (by omega), cmul_r (by omega) (by omega), s3, kR _ ⟨_, _, 0, rfl, by omega, by omega, by omega⟩⟩
def S_cells : PSp := fun as R => ∃ (ns : List Int) (t : Nat), as = [.scr (ns.map PyData.int), .dat (.int (t : Int))] ∧ ns.length ≤ 63 ∧ 1 ≤ t ∧ t ≤ 60 ∧ ∀ cs : List Int, 1 ≤ cs.length → cs.length ≤ t → R (.new (cs.map PyData.int)) as
theorem cut_lo {ns : List Int} {t : Nat} : DL.cutD (ns.map PyData.int) none (some (t : Int)) = (ns.take t).map PyData.int := by
  unfold DL.cutD
  rw [HT.sIx_none, HT.sIx_nat, List.length_map]
  simp [List.map_take]
theorem cut_hi {ns : List Int} {lo hi : Option Int} : ∃ xs : List Int, DL.cutD (ns.map PyData.int) lo hi = xs.map PyData.int ∧ (HT.sIx ns.length 0 lo = ns.length → xs = []) := by
  refine ⟨(ns.drop (HT.sIx ns.length 0 lo)).take (HT.sIx ns.length ns.length hi - HT.sIx ns.length 0 lo), ?_, fun h => ?_⟩
  · unfold DL.cutD
    rw [List.length_map, List.map_take, List.map_drop]
  · rw [h]
    simp
theorem w_cells {as : List Sl} {R : Rs → List Sl → Prop} (h : S_cells as R) : W__law_cells (endsF as R) (startG N__law_cells as) := by
  obtain ⟨ns, t, rfl, hl, h1, h2, k⟩ := h
  have loop : ∀ (xs : List Int) (k0 : Nat) (cs : List Int) (s3 s4 s5 : Sl), k0 + xs.length ≤ 100 → cs.length = t →
      forW (wgTup 2 (wgCons (wgName 3) (wgCons (wgName 4) wgNil))) (wSeq (wAsg 5 (wOp modD (wCB intT (wCons (wVar 3) wNil)) (wVar 1)))
        (wSetI 2 (wVar 5) (wOp addD (wIxO (wO 2) (wVar 5)) (wOp mulD (wVar 4) (wOp addD (wVar 3) (wC (.int 2)))))))
        { endsF [.scr (ns.map PyData.int), .dat (.int (t : Int))] R with nx := wRetO 2 (endsF [.scr (ns.map PyData.int), .dat (.int (t : Int))] R) } (enumFrom k0 (xs.map PyData.int))
        [.scr (ns.map PyData.int), .dat (.int (t : Int)), .own (cs.map PyData.int), s3, s4, s5] := by
    intro xs
    induction xs with
    | nil =>
      intro k0 cs s3 s4 s5 _ hc
      simp [enumFrom, forW, wRetO]
      exact k cs (by omega) (by omega)
    | cons x xs ih =>
      intro k0 cs s3 s4 s5 hk hc
      simp only [List.length_cons] at hk
      simp only [List.map_cons, enumFrom, forW]
      have ht : (t : Int) ≠ 0 := by omega
      obtain ⟨f0, f1⟩ := fmod_in (i := (k0 : Int)) (m := (t : Int)) (by omega)
      obtain ⟨j, hj⟩ : ∃ j : Nat, (k0 : Int).fmod t = (j : Int) := ⟨((k0 : Int).fmod t).toNat, by omega⟩
      rw [hj] at f0 f1
      have hlt : j < cs.length := by omega
      have ei : atI (cs.map PyData.int) (j : Int) = some (.int cs[j]) := atI_ints (List.getElem?_eq_getElem hlt)
      have ex : ixN cs.length (j : Int) = some j := by
        unfold ixN
        rw [if_pos f0, if_pos (by omega)]
        simp
      have ht' : ¬ t = 0 := by omega
      simp [wSeq, wAsg, wSetI, ht, ht', hj, ei, ex]
      refine ⟨cmul_r (by omega) (by omega), ?_⟩
      have e := ih (k0 + 1) (cs.set j (cs[j] + x * (k0 + 2))) (.dat (.int k0)) (.dat (.int x)) (.dat (.int j)) (by omega) (by simp [hc])
      rw [List.map_set] at e
      exact e
  simp [W__law_cells, wSeq, startG, cut_lo]
  obtain ⟨xs, ex, ez⟩ := cut_hi (ns := ns) (lo := some (t : Int)) (hi := some 63)
  have hx : xs.length ≤ 63 := by
    have : (DL.cutD (ns.map PyData.int) (some (t : Int)) (some 63)).length = xs.length := by rw [ex, List.length_map]
    unfold DL.cutD at this
    rw [List.length_take, List.length_drop, List.length_map] at this
    omega
  rw [ex]
  by_cases hlen : t ≤ ns.length
  · have ht : (ns.take t).length = t := by rw [List.length_take]; omega
    have hne : ¬ (ns.take t) = [] := fun z => by rw [z] at ht; simp at ht; omega
    have hne' : ¬ (t = 0 ∨ ns = []) := by
      rintro (z | z)
      · omega
      · subst z; simp at hlen; omega
    simp [hne']
    have := loop xs 0 (ns.take t) .un .un .un (by omega) ht
    rw [List.map_take] at this
    exact this
  · have z : xs = [] := ez (by rw [HT.sIx_nat]; omega)
    subst z
    simp [enumFrom, forW, wRetO]
    have s1 : 1 ≤ sizeLine := by decide
    by_cases hn : ns = []
    · subst hn
      simp
      exact ⟨s1, k [0] (by simp) (by simpa using h1)⟩
    · have h0 : ¬ (t = 0 ∨ ns = []) := by
        rintro (z | z)
        · omega
        · exact hn z
      rw [if_neg h0, ← List.map_take]
      have : 0 < ns.length := List.length_pos_iff.mpr hn
      exact k (ns.take t) (by rw [List.length_take]; omega) (by rw [List.length_take]; omega)
/-! one of the goods -/
def S_of : PSp := fun as R => ∃ (n : Nat) (ds goods : List PyData), as = [.par ds, .dat (.list goods)] ∧ Box (n + 1) ds ∧ goods ≠ [] ∧ goods.length < 1073741824 ∧
  ∀ g ds', g ∈ goods → Box n ds' → R (.dat g) [.par ds', .dat (.list goods)]
theorem atI_of {ds : List PyData} {r : Int} (h0 : 0 ≤ r) (h1 : r < ds.length) : ∃ d, d ∈ ds ∧ atI ds r = some d := by
  obtain ⟨j, rfl⟩ : ∃ j : Nat, r = (j : Int) := ⟨r.toNat, by omega⟩
  have hj : j < ds.length := by omega
  exact ⟨ds[j], List.getElem_mem hj, atI_nat (List.getElem?_eq_getElem hj)⟩
theorem w_of {as : List Sl} {R : Rs → List Sl → Prop} (h : S_of as R) : W__law_of S_take (endsF as R) (startG N__law_of as) := by
  obtain ⟨n, ds, goods, rfl, hB, hne, hl, k⟩ := h
  have hp : 0 < goods.length := List.length_pos_iff.mpr hne
  simp [W__law_of, startG]
  refine ⟨n, ds, _, rfl, hB, by omega, by omega, fun r ds' hB' h0 h1 => ?_⟩
  obtain ⟨d, hd, e⟩ := atI_of h0 h1
  simp [e]
  exact k d ds' hd hB'
/-! two alike are the same -/
def okD : Nat → PyData → Bool
  | _, .none => true
  | _, .bool _ => true
  | _, .int _ => true
  | _, .str s => PyData.strOk s
  | n + 1, .list xs => decide (xs.length ≤ 100000) && xs.all (okD n)
  | n + 1, .tuple xs => decide (xs.length ≤ 100000) && xs.all (okD n)
  | _, _ => false
def S_same (n : Nat) : PSp := fun as R => ∃ d, okD n d = true ∧ as = [.dat d, .dat d] ∧ R (.dat (.bool true)) as
theorem zipD_self_cons (x : PyData) (xs : List PyData) : zipD (x :: xs) (x :: xs) = .tuple [x, x] :: zipD xs xs := rfl
theorem same_loop {n : Nat} {Q : List PyData → Gam → Prop} {d : PyData} : ∀ (zs : List PyData) (m : Nat), zs.all (okD n) = true → m + zs.length ≤ 100000 → Q (List.replicate (m + zs.length) (.bool true)) [.dat d, .dat d, .un, .un] →
    lcD (wgTup 2 (wgCons (wgName 2) (wgCons (wgName 3) wgNil))) wYes (wCall (S_same n) (wPCons (wD (wVar 2)) (wPCons (wD (wVar 3)) wPNil))) [2, 3] Q (zipD zs zs) (List.replicate m (.bool true)) [.dat d, .dat d, .un, .un]
  | [], m, _, _, q => q
  | z :: zs, m, h, hl, q => by
    rw [List.all_cons, Bool.and_eq_true] at h
    simp only [List.length_cons] at hl q
    rw [zipD_self_cons]
    have hs : m < sizeLine := by rw [sizeLine_eq]; omega
    have ih := same_loop zs (m + 1) h.2 (by omega) (by rw [show m + 1 + zs.length = m + (zs.length + 1) by omega]; exact q)
    simp [lcD, wYes, wCall, wPCons, wD, wPNil]
    refine ⟨z, h.1, rfl, ?_⟩
    rw [List.replicate_succ'] at ih
    exact ⟨hs, ih⟩
theorem bools_rep : ∀ m : Nat, boolsD (List.replicate m (.bool true)) = some (List.replicate m true)
  | 0 => rfl
  | m + 1 => by
    rw [List.replicate_succ, List.replicate_succ]
    unfold boolsD
    rw [bools_rep m]
theorem allB_of {ds : List PyData} {bs : List Bool} {k : PyData → Prop} (h : boolsD ds = some bs) (q : k (.bool (bs.all id))) : DL.allB [.list ds] k := by
  show (match boolsD ds with
    | some bs => k (.bool (bs.all id))
    | none => False)
  rw [h]
  exact q
theorem w_same {n : Nat} {as : List Sl} {R : Rs → List Sl → Prop} (h : S_same (n + 1) as R) : W__law_same (S_same n) (endsF as R) (startG N__law_same as) := by
  obtain ⟨d, hd, rfl, k⟩ := h
  cases d with
  | list xs =>
    simp [okD] at hd
    simp [W__law_same, wSeq, wIfS, startG, wIsi2, wIsi, wZip, wNext, wRet, wLc]
    refine same_loop xs 0 (by simpa using hd.2) (by omega) ?_
    refine allB_of (bools_rep _) ?_
    simpa using k
  | tuple xs =>
    simp [okD] at hd
    simp [W__law_same, wSeq, wIfS, startG, wIsi2, wIsi, wZip, wNext, wRet, wLc]
    refine same_loop xs 0 (by simpa using hd.2) (by omega) ?_
    refine allB_of (bools_rep _) ?_
    simpa using k
  | none => simpa [W__law_same, wSeq, wIfS, startG, wIsi2, wIsi, wNext, wRet, eqD, SeqAt.shaped, PyData.canLay0, PyData.depth, PyData.eqv] using k
  | bool b => simpa [W__law_same, wSeq, wIfS, startG, wIsi2, wIsi, wNext, wRet] using k
  | int i => simpa [W__law_same, wSeq, wIfS, startG, wIsi2, wIsi, wNext, wRet] using k
  | str s =>
    simp [okD] at hd
    simpa [W__law_same, wSeq, wIfS, startG, wIsi2, wIsi, wNext, wRet, hd] using k
  | dict _ => simp [okD] at hd
end K00

namespace K00
open PySem PySem.Spec PyProof.Rows L2 DL
/-! ## which class an error is of -/
structure Kinds (K : PySem.W.Frag) (Cs : List Addr) (CM : Addr) : Prop where
  kit : ∀ (i j : Nat) (a b : Addr), Cs[i]? = some a → Cs[j]? = some b → PySem.W.kitOne K (.ref a) (.ref b) = some (decide (i = j))
  exc : ∀ (i : Nat) (a : Addr), Cs[i]? = some a → ExcV K a
  mod : ∀ (i : Nat) (a : Addr), Cs[i]? = some a → PySem.W.kitOne K (.ref a) (.ref CM) = some true
  val : ∀ (i : Nat) (a : Addr), Cs[i]? = some a → PySem.W.kitOne K (.ref a) (.type "ValueError") = some true
def sortsD (i : Nat) : List PyData := (List.range 13).map fun j => .bool (decide (i = j))
theorem rng_nat (n : Nat) : rng 0 n = (List.range n).map fun i : Nat => PyData.int (i : Int) := by
  unfold rng
  refine List.map_congr_left fun i _ => ?_
  rw [Int.zero_add]
theorem nd0 {os : List Opd} (h : varsOf os = []) : (varsOf (Opd.var 0 :: os)).Nodup := by
  show (0 :: varsOf os).Nodup
  rw [h]
  exact List.nodup_cons.mpr ⟨fun z => (by cases z), List.nodup_nil⟩
theorem lc_mapT {α : Type} {Wg : WG} {We : WE} {vs : List Nat} {Q : List PyData → Gam → Prop} {Γ : Gam} {enc g : α → PyData} : ∀ (xs : List α) (acc : List PyData), (∀ x ∈ xs, ∀ QQ : PyData → Gam → Prop, (∀ Γ3, restG Γ Γ3 vs = Γ → QQ (g x) Γ3) → Wg (enc x) (wipeG Γ vs) fun Γ1 => We Γ1 QQ) →
    acc.length + xs.length ≤ 1000000 → Q (acc ++ xs.map g) Γ → lcD Wg wYes We vs Q (xs.map enc) acc Γ
  | [], acc, _, _, q => by
    rw [List.map_nil, List.append_nil] at q
    exact q
  | x :: xs, acc, h, hl, q => by
    simp only [List.length_cons] at hl
    refine h x (by simp) (fun y Γ3 => acc.length < sizeLine ∧ lcD Wg wYes We vs Q (xs.map enc) (acc ++ [y]) (restG Γ Γ3 vs)) fun Γ3 e => ?_
    refine And.intro (by rw [sizeLine_eq]; omega) ?_
    rw [e]
    refine lc_mapT xs (acc ++ [g x]) (fun z hz => h z (by simp [hz])) (by simp; omega) ?_
    rw [List.append_assoc]
    exact q
theorem same_i {d : PyData} {n : Nat} {R : Rs → List Sl → Prop} (h : okD n d = true) (k : R (.dat (.bool true)) [.dat d, .dat d]) : S_same n [.dat d, .dat d] R := ⟨d, h, rfl, k⟩
theorem ok_sorts (i : Nat) : okD 6 (.list (sortsD i)) = true := by
  show (decide ((sortsD i).length ≤ 100000) && (sortsD i).all (okD 5)) = true
  have e : (sortsD i).all (okD 5) = true := by
    unfold sortsD
    rw [List.all_map, List.all_eq_true]
    intro j _
    rfl
  rw [e, Bool.and_true, decide_eq_true_iff]
  unfold sortsD
  rw [List.length_map, List.length_range]
  omega
theorem due_eq (i : Nat) : [] ++ (List.range 13).map (fun j : Nat => PyData.bool ((j : Int) == (i : Int))) = sortsD i := by
  rw [List.nil_append]
  refine List.map_congr_left fun j _ => ?_
  congr 1
  by_cases h : i = j
  · subst h
    simp
  · have h' : ¬ (j : Int) = (i : Int) := by omega
    rw [decide_eq_false h, beq_eq_false_iff_ne]
    exact h'
section
variable {K : PySem.W.Frag} {CM A0 A1 A2 A3 A4 A5 A6 A7 A8 A9 A10 A11 A12 : Addr}
def S_sorts (K : PySem.W.Frag) (Cs : List Addr) (CM : Addr) : PSp := fun as R => ∃ (d : PyData) (i : Nat) (a : Addr), as = [.dat d] ∧ Cs[i]? = some a ∧ clsD d = some a ∧ Kinds K Cs CM ∧ R (.new (sortsD i)) as
/-- one look more -/
theorem s_app {CE a : Addr} {b : Bool} {d : PyData} {l : List PyData} {W : WS} {D : EndsD} (hl : l.length < sizeLine) (hc : clsD d = some a) (e : ExcV K a) (kt : PySem.W.kitOne K (.ref a) (.ref CE) = some b) (q : W D [.dat d, .own (l ++ [.bool b])]) :
    wSeq (wApp 1 (wIsW K (.ref CE) (wVar 0))) W D [.dat d, .own l] := And.intro rfl ⟨a, b, hc, e, kt, And.intro hl q⟩
theorem w_sorts {as : List Sl} {R : Rs → List Sl → Prop} (h : S_sorts K [A0, A1, A2, A3, A4, A5, A6, A7, A8, A9, A10, A11, A12] CM as R) : W__law_sorts K A0 A1 A2 A3 A4 A5 A6 A9 A11 A12 A7 A8 A10 (endsF as R) (startG N__law_sorts as) := by
  obtain ⟨d, i, a, rfl, hi, hc, T, k⟩ := h
  have e := T.exc i a hi
  unfold W__law_sorts
  show wSeq _ _ (endsF [.dat d] R) [.dat d, .un]
  refine And.intro (Nat.zero_le _) ?_
  refine s_app (l := []) (show 0 < sizeLine by decide) hc e (T.kit i 0 a A0 hi rfl) ?_
  refine s_app (l := [.bool (decide (i = 0))]) (show 1 < sizeLine by decide) hc e (T.kit i 1 a A1 hi rfl) ?_
  refine s_app (l := [.bool (decide (i = 0)), .bool (decide (i = 1))]) (show 2 < sizeLine by decide) hc e (T.kit i 2 a A2 hi rfl) ?_
  refine s_app (l := [.bool (decide (i = 0)), .bool (decide (i = 1)), .bool (decide (i = 2))]) (show 3 < sizeLine by decide) hc e (T.kit i 3 a A3 hi rfl) ?_
  refine s_app (l := [.bool (decide (i = 0)), .bool (decide (i = 1)), .bool (decide (i = 2)), .bool (decide (i = 3))]) (show 4 < sizeLine by decide) hc e (T.kit i 4 a A4 hi rfl) ?_
  refine s_app (l := [.bool (decide (i = 0)), .bool (decide (i = 1)), .bool (decide (i = 2)), .bool (decide (i = 3)), .bool (decide (i = 4))]) (show 5 < sizeLine by decide) hc e (T.kit i 5 a A5 hi rfl) ?_
  refine s_app (l := [.bool (decide (i = 0)), .bool (decide (i = 1)), .bool (decide (i = 2)), .bool (decide (i = 3)), .bool (decide (i = 4)), .bool (decide (i = 5))]) (show 6 < sizeLine by decide) hc e (T.kit i 6 a A6 hi rfl) ?_
  refine s_app (l := [.bool (decide (i = 0)), .bool (decide (i = 1)), .bool (decide (i = 2)), .bool (decide (i = 3)), .bool (decide (i = 4)), .bool (decide (i = 5)), .bool (decide (i = 6))]) (show 7 < sizeLine by decide) hc e (T.kit i 7 a A7 hi rfl) ?_
  refine s_app (l := [.bool (decide (i = 0)), .bool (decide (i = 1)), .bool (decide (i = 2)), .bool (decide (i = 3)), .bool (decide (i = 4)), .bool (decide (i = 5)), .bool (decide (i = 6)), .bool (decide (i = 7))]) (show 8 < sizeLine by decide) hc e (T.kit i 8 a A8 hi rfl) ?_
  refine s_app (l := [.bool (decide (i = 0)), .bool (decide (i = 1)), .bool (decide (i = 2)), .bool (decide (i = 3)), .bool (decide (i = 4)), .bool (decide (i = 5)), .bool (decide (i = 6)), .bool (decide (i = 7)), .bool (decide (i = 8))]) (show 9 < sizeLine by decide) hc e (T.kit i 9 a A9 hi rfl) ?_
  refine s_app (l := [.bool (decide (i = 0)), .bool (decide (i = 1)), .bool (decide (i = 2)), .bool (decide (i = 3)), .bool (decide (i = 4)), .bool (decide (i = 5)), .bool (decide (i = 6)), .bool (decide (i = 7)), .bool (decide (i = 8)), .bool (decide (i = 9))]) (show 10 < sizeLine by decide) hc e (T.kit i 10 a A10 hi rfl) ?_
  refine s_app (l := [.bool (decide (i = 0)), .bool (decide (i = 1)), .bool (decide (i = 2)), .bool (decide (i = 3)), .bool (decide (i = 4)), .bool (decide (i = 5)), .bool (decide (i = 6)), .bool (decide (i = 7)), .bool (decide (i = 8)), .bool (decide (i = 9)), .bool (decide (i = 10))]) (show 11 < sizeLine by decide) hc e (T.kit i 11 a A11 hi rfl) ?_
  refine s_app (l := [.bool (decide (i = 0)), .bool (decide (i = 1)), .bool (decide (i = 2)), .bool (decide (i = 3)), .bool (decide (i = 4)), .bool (decide (i = 5)), .bool (decide (i = 6)), .bool (decide (i = 7)), .bool (decide (i = 8)), .bool (decide (i = 9)), .bool (decide (i = 10)), .bool (decide (i = 11))]) (show 12 < sizeLine by decide) hc e (T.kit i 12 a A12 hi rfl) ?_
  exact k
def bodyS (K : PySem.W.Frag) (Cs : List Addr) (CM : Addr) : WS := (wSeq (wIfS (wNot (wB (wCall (S_same 6) (wPCons (wD (wCall (S_sorts K Cs CM) (wPCons (wD (wVar 5)) wPNil))) (wPCons (wD (wL (wLc (wRng1 (wC (.int 13))) (wgName 8) wYes (wOp eqD (wVar 8) (wVar 4)) [8]))) wPNil))))) (wRet (wC (.bool false))) wNext)
    (wIfS (wOr (wNot (wB (wIsW K (.ref CM) (wVar 5)))) (wNot (wB (wIsW K (.type "ValueError") (wVar 5))))) (wRet (wC (.bool false))) wNext))
theorem sorts_loop {Cs : List Addr} {ds : List PyData} {x0 x1 x2 x3 x6 x7 : Sl} {D : EndsD} (T : Kinds K Cs CM) (hd : ∀ (i : Nat) d, ds[i]? = some d → ∃ a, Cs[i]? = some a ∧ clsD d = some a) (q : ∀ s4 s5, D.nx [x0, x1, x2, x3, s4, s5, x6, x7, .un]) : ∀ (m i : Nat) (s4 s5 : Sl), ds.length = i + m →
    forW (wgTup 2 (wgCons (wgName 4) (wgCons (wgName 5) wgNil))) (bodyS K Cs CM) D (enumFrom i (ds.drop i)) [x0, x1, x2, x3, s4, s5, x6, x7, .un]
  | 0, i, s4, s5, h => by
    have : ds.drop i = [] := List.drop_eq_nil_of_le (by omega)
    rw [this]
    exact q s4 s5
  | m + 1, i, s4, s5, h => by
    have hi : i < ds.length := by omega
    obtain ⟨a, ha, hc⟩ := hd i _ (List.getElem?_eq_getElem hi)
    have e := T.exc i a ha
    rw [List.drop_eq_getElem_cons hi]
    generalize ds[i] = d at hc
    refine And.intro rfl (And.intro List.nodup_nil ⟨d, i, a, rfl, ha, hc, T, ?_⟩)
    refine And.intro (by decide) (And.intro (by decide) (And.intro rfl ?_))
    rw [rng_nat]
    refine lc_mapT (enc := fun j : Nat => PyData.int (j : Int)) (g := fun j : Nat => PyData.bool ((j : Int) == (i : Int))) (List.range 13) [] (fun j _ QQ hQ => ?_) (by decide) ?_
    · show eqD (.int (j : Int)) (.int (i : Int)) _
      rw [eqD_int]
      exact hQ _ rfl
    rw [due_eq]
    refine And.intro List.nodup_nil (same_i (d := .list (sortsD i)) (ok_sorts i) ?_)
    refine (if_neg (c := (!true) = true) (by decide)).mpr ?_
    refine ⟨a, true, hc, e, T.mod i a ha, (if_neg (c := (!true) = true) (by decide)).mpr ⟨a, true, hc, e, T.val i a ha, (if_neg (c := (!true) = true) (by decide)).mpr ?_⟩⟩
    exact sorts_loop T hd q m (i + 1) _ _ (by omega)
theorem r_app {C : Addr} {f : Str} {x0 x4 x5 x6 x7 x8 : Sl} {far g : PyData} {l : List PyData} {W : WS} {D : EndsD} (hl : l.length < sizeLine) (q : W D [x0, .dat far, .dat g, .own (l ++ [excA C f g]), x4, x5, x6, x7, x8]) :
    wSeq (wApp 3 (wVal C f (wVar 2))) W D [x0, .dat far, .dat g, .own l, x4, x5, x6, x7, x8] := And.intro rfl (And.intro hl q)
theorem r_app1 {C : Addr} {f : Str} {x0 x4 x5 x6 x7 x8 : Sl} {far g : PyData} {l : List PyData} {W : WS} {D : EndsD} (hl : l.length < sizeLine) (q : W D [x0, .dat far, .dat g, .own (l ++ [excA C f far]), x4, x5, x6, x7, x8]) :
    wSeq (wApp 3 (wVal C f (wVar 1))) W D [x0, .dat far, .dat g, .own l, x4, x5, x6, x7, x8] := And.intro rfl (And.intro hl q)
theorem r_app0 {C : Addr} {x0 x4 x5 x6 x7 x8 : Sl} {far g : PyData} {l : List PyData} {W : WS} {D : EndsD} (hl : l.length < sizeLine) (q : W D [x0, .dat far, .dat g, .own (l ++ [excB C]), x4, x5, x6, x7, x8]) :
    wSeq (wApp 3 (wC (excB C))) W D [x0, .dat far, .dat g, .own l, x4, x5, x6, x7, x8] := And.intro rfl (And.intro hl q)
theorem r_frz {x0 x1 x2 x4 x5 x6 x7 x8 : Sl} {l : List PyData} {W : WS} {D : EndsD} (q : W D [x0, x1, x2, .dat (.list l), x4, x5, x6, x7, x8]) : wFrz 3 W D [x0, x1, x2, .own l, x4, x5, x6, x7, x8] := q
/-- a field of one made above, and of one made by name -/
theorem r_got {C : Addr} {f : Str} {i : Int} {x0 x4 x5 x7 x8 : Sl} {far g v w : PyData} {es l : List PyData} {W : WS} {D : EndsD} (hi : atI es i = some (excA C f v)) (hl : l.length ≤ 1000) (q : W D [x0, .dat far, .dat g, .dat (.list es), x4, x5, .dat (.list (l ++ [v, w])), x7, x8]) :
    wSeq (wAsg 6 (wOp addD (wVar 6) (wL (wLst (wCons (wGet C f (wOp ixD (wVar 3) (wC (.int i)))) (wCons (wGet C f (wVal C f (wC w))) wNil)))))) W D [x0, .dat far, .dat g, .dat (.list es), x4, x5, .dat (.list l), x7, x8] :=
  ⟨_, hi, ⟨v, rfl, ⟨w, rfl, And.intro (show 2 ≤ sizeLine by decide) (And.intro (by show l.length + 2 ≤ sizeLine; rw [sizeLine_eq]; omega) q)⟩⟩⟩
theorem r_due {x0 x3 x4 x5 x6 x8 : Sl} {far g w : PyData} {l : List PyData} {W : WS} {D : EndsD} (hl : l.length ≤ 1000) (q : W D [x0, .dat far, .dat g, x3, x4, x5, x6, .dat (.list (l ++ [g, w])), x8]) :
    wSeq (wAsg 7 (wOp addD (wVar 7) (wL (wLst (wCons (wVar 2) (wCons (wC w) wNil)))))) W D [x0, .dat far, .dat g, x3, x4, x5, x6, .dat (.list l), x8] :=
  And.intro (show 2 ≤ sizeLine by decide) (And.intro (by show l.length + 2 ≤ sizeLine; rw [sizeLine_eq]; omega) q)
theorem r_due1 {x0 x3 x4 x5 x6 x8 : Sl} {far g w : PyData} {l : List PyData} {W : WS} {D : EndsD} (hl : l.length ≤ 1000) (q : W D [x0, .dat far, .dat g, x3, x4, x5, x6, .dat (.list (l ++ [far, w])), x8]) :
    wSeq (wAsg 7 (wOp addD (wVar 7) (wL (wLst (wCons (wVar 1) (wCons (wC w) wNil)))))) W D [x0, .dat far, .dat g, x3, x4, x5, x6, .dat (.list l), x8] :=
  And.intro (show 2 ≤ sizeLine by decide) (And.intro (by show l.length + 2 ≤ sizeLine; rw [sizeLine_eq]; omega) q)
def S_right : PSp := fun as R => ∃ ds, as = [.par ds] ∧ Box 10000 ds ∧ ∀ ds', R (.dat (.bool true)) [.par ds']
theorem cp6 : L2.CPow 10 6 := ⟨by omega, by omega, by decide⟩
theorem excs_cls {far g : PyData} : ([excA A0 "name" g, excA A1 "name" g, excA A2 "name" g, excA A3 "name" g, excA A4 "name" g, excA A5 "name" g, excA A6 "number" far, excB A7, excB A8, excA A9 "name" g, excB A10, excA A11 "piece" far, excA A12 "number" far] : List PyData).map clsD = ([A0, A1, A2, A3, A4, A5, A6, A7, A8, A9, A10, A11, A12] : List Addr).map some := rfl
theorem excs_at {far g : PyData} (i : Nat) (d : PyData) (hd : ([excA A0 "name" g, excA A1 "name" g, excA A2 "name" g, excA A3 "name" g, excA A4 "name" g, excA A5 "name" g, excA A6 "number" far, excB A7, excB A8, excA A9 "name" g, excB A10, excA A11 "piece" far, excA A12 "number" far] : List PyData)[i]? = some d) : ∃ a, ([A0, A1, A2, A3, A4, A5, A6, A7, A8, A9, A10, A11, A12] : List Addr)[i]? = some a ∧ clsD d = some a := by
  have e2 := congrArg (fun l : List (Option Addr) => l[i]?) (excs_cls (far := far) (g := g) (A0 := A0) (A1 := A1) (A2 := A2) (A3 := A3) (A4 := A4) (A5 := A5) (A6 := A6) (A7 := A7) (A8 := A8) (A9 := A9) (A10 := A10) (A11 := A11) (A12 := A12))
  simp only [List.getElem?_map] at e2
  rw [hd] at e2
  cases q : ([A0, A1, A2, A3, A4, A5, A6, A7, A8, A9, A10, A11, A12] : List Addr)[i]? with
  | none => rw [q] at e2; cases e2
  | some a =>
    rw [q] at e2
    exact ⟨a, rfl, Option.some.inj e2⟩
theorem w_right {as : List Sl} {R : Rs → List Sl → Prop} (T : Kinds K [A0, A1, A2, A3, A4, A5, A6, A7, A8, A9, A10, A11, A12] CM) (h : S_right as R) : W__law_right K A0 A1 A2 A3 A4 A5 A6 A9 A11 A12 A7 A8 A10 CM S_take S_of (S_same 6) (S_sorts K [A0, A1, A2, A3, A4, A5, A6, A7, A8, A9, A10, A11, A12] CM) (endsF as R) (startG N__law_right as) := by
  obtain ⟨ds, rfl, hB, k⟩ := h
  unfold W__law_right
  show wSeq _ _ (endsF [.par ds] R) [.par ds, .un, .un, .un, .un, .un, .un, .un, .un]
  have s0 : 0 ≤ sizeLine := Nat.zero_le _
  refine And.intro rfl (And.intro cp6 (And.intro (nd0 rfl) ⟨9000, ds, (10 : Int) ^ (6 : Int).toNat, rfl, hB.less (by omega), by decide, by decide, fun r ds1 hB1 r0 r1 => ?_⟩))
  refine And.intro rfl (And.intro (show 4 ≤ sizeLine by decide) (And.intro (nd0 rfl) ⟨8000, ds1, [.str "a", .str "ants", .str "abcdefgh", .str "zz"], rfl, hB1.less (by omega), by simp, by decide, fun g ds2 hg hB2 => ?_⟩))
  have og : okD 5 g = true := by
    simp only [List.mem_cons, List.not_mem_nil, or_false] at hg
    rcases hg with rfl | rfl | rfl | rfl <;> decide +kernel
  generalize hfar : PyData.int ((1 : Int) + r) = far
  have of' : okD 5 far = true := by rw [← hfar]; rfl
  refine And.intro s0 ?_
  show wSeq _ _ (endsF [.par ds] R) [.par ds2, .dat far, .dat g, .own [], .un, .un, .un, .un, .un]
  refine r_app (l := []) (show 0 < sizeLine by decide) ?_
  refine r_app (l := [excA A0 "name" g]) (show 1 < sizeLine by decide) ?_
  refine r_app (l := [excA A0 "name" g, excA A1 "name" g]) (show 2 < sizeLine by decide) ?_
  refine r_app (l := [excA A0 "name" g, excA A1 "name" g, excA A2 "name" g]) (show 3 < sizeLine by decide) ?_
  refine r_app (l := [excA A0 "name" g, excA A1 "name" g, excA A2 "name" g, excA A3 "name" g]) (show 4 < sizeLine by decide) ?_
  refine r_app (l := [excA A0 "name" g, excA A1 "name" g, excA A2 "name" g, excA A3 "name" g, excA A4 "name" g]) (show 5 < sizeLine by decide) ?_
  refine r_app1 (l := [excA A0 "name" g, excA A1 "name" g, excA A2 "name" g, excA A3 "name" g, excA A4 "name" g, excA A5 "name" g]) (show 6 < sizeLine by decide) ?_
  refine r_app0 (l := [excA A0 "name" g, excA A1 "name" g, excA A2 "name" g, excA A3 "name" g, excA A4 "name" g, excA A5 "name" g, excA A6 "number" far]) (show 7 < sizeLine by decide) ?_
  refine r_app0 (l := [excA A0 "name" g, excA A1 "name" g, excA A2 "name" g, excA A3 "name" g, excA A4 "name" g, excA A5 "name" g, excA A6 "number" far, excB A7]) (show 8 < sizeLine by decide) ?_
  refine r_app (l := [excA A0 "name" g, excA A1 "name" g, excA A2 "name" g, excA A3 "name" g, excA A4 "name" g, excA A5 "name" g, excA A6 "number" far, excB A7, excB A8]) (show 9 < sizeLine by decide) ?_
  refine r_app0 (l := [excA A0 "name" g, excA A1 "name" g, excA A2 "name" g, excA A3 "name" g, excA A4 "name" g, excA A5 "name" g, excA A6 "number" far, excB A7, excB A8, excA A9 "name" g]) (show 10 < sizeLine by decide) ?_
  refine r_app1 (l := [excA A0 "name" g, excA A1 "name" g, excA A2 "name" g, excA A3 "name" g, excA A4 "name" g, excA A5 "name" g, excA A6 "number" far, excB A7, excB A8, excA A9 "name" g, excB A10]) (show 11 < sizeLine by decide) ?_
  refine r_app1 (l := [excA A0 "name" g, excA A1 "name" g, excA A2 "name" g, excA A3 "name" g, excA A4 "name" g, excA A5 "name" g, excA A6 "number" far, excB A7, excB A8, excA A9 "name" g, excB A10, excA A11 "piece" far]) (show 12 < sizeLine by decide) ?_
  refine r_frz (l := [excA A0 "name" g, excA A1 "name" g, excA A2 "name" g, excA A3 "name" g, excA A4 "name" g, excA A5 "name" g, excA A6 "number" far, excB A7, excB A8, excA A9 "name" g, excB A10, excA A11 "piece" far, excA A12 "number" far]) ?_
  refine sorts_loop (x0 := .par ds2) (ds := [excA A0 "name" g, excA A1 "name" g, excA A2 "name" g, excA A3 "name" g, excA A4 "name" g, excA A5 "name" g, excA A6 "number" far, excB A7, excB A8, excA A9 "name" g, excB A10, excA A11 "piece" far, excA A12 "number" far]) T (fun i d hd => excs_at i d hd) (fun s4 s5 => ?_) 13 0 .un .un rfl
  refine And.intro s0 (And.intro s0 ?_)
  show wSeq _ _ (endsF [.par ds] R) [.par ds2, .dat far, .dat g, .dat (.list [excA A0 "name" g, excA A1 "name" g, excA A2 "name" g, excA A3 "name" g, excA A4 "name" g, excA A5 "name" g, excA A6 "number" far, excB A7, excB A8, excA A9 "name" g, excB A10, excA A11 "piece" far, excA A12 "number" far]), s4, s5, .dat (.list []), .dat (.list []), .un]
  refine r_got (l := []) (v := g) rfl (show 0 ≤ 1000 by decide) ?_
  refine r_due (l := []) (show 0 ≤ 1000 by decide) ?_
  refine r_got (l := [g, .str "b"]) (v := g) rfl (show 2 ≤ 1000 by decide) ?_
  refine r_due (l := [g, .str "b"]) (show 2 ≤ 1000 by decide) ?_
  refine r_got (l := [g, .str "b", g, .str "b"]) (v := g) rfl (show 4 ≤ 1000 by decide) ?_
  refine r_due (l := [g, .str "b", g, .str "b"]) (show 4 ≤ 1000 by decide) ?_
  refine r_got (l := [g, .str "b", g, .str "b", g, .str "b"]) (v := g) rfl (show 6 ≤ 1000 by decide) ?_
  refine r_due (l := [g, .str "b", g, .str "b", g, .str "b"]) (show 6 ≤ 1000 by decide) ?_
  refine r_got (l := [g, .str "b", g, .str "b", g, .str "b", g, .str "b"]) (v := g) rfl (show 8 ≤ 1000 by decide) ?_
  refine r_due (l := [g, .str "b", g, .str "b", g, .str "b", g, .str "b"]) (show 8 ≤ 1000 by decide) ?_
  refine r_got (l := [g, .str "b", g, .str "b", g, .str "b", g, .str "b", g, .str "b"]) (v := g) rfl (show 10 ≤ 1000 by decide) ?_
  refine r_due (l := [g, .str "b", g, .str "b", g, .str "b", g, .str "b", g, .str "b"]) (show 10 ≤ 1000 by decide) ?_
  refine r_got (l := [g, .str "b", g, .str "b", g, .str "b", g, .str "b", g, .str "b", g, .str "b"]) (v := far) rfl (show 12 ≤ 1000 by decide) ?_
  refine r_due1 (l := [g, .str "b", g, .str "b", g, .str "b", g, .str "b", g, .str "b", g, .str "b"]) (show 12 ≤ 1000 by decide) ?_
  refine r_got (l := [g, .str "b", g, .str "b", g, .str "b", g, .str "b", g, .str "b", g, .str "b", far, .int 6]) (v := g) rfl (show 14 ≤ 1000 by decide) ?_
  refine r_due (l := [g, .str "b", g, .str "b", g, .str "b", g, .str "b", g, .str "b", g, .str "b", far, .int 6]) (show 14 ≤ 1000 by decide) ?_
  refine r_got (l := [g, .str "b", g, .str "b", g, .str "b", g, .str "b", g, .str "b", g, .str "b", far, .int 6, g, .str "b"]) (v := far) rfl (show 16 ≤ 1000 by decide) ?_
  refine r_due1 (l := [g, .str "b", g, .str "b", g, .str "b", g, .str "b", g, .str "b", g, .str "b", far, .int 6, g, .str "b"]) (show 16 ≤ 1000 by decide) ?_
  refine r_got (l := [g, .str "b", g, .str "b", g, .str "b", g, .str "b", g, .str "b", g, .str "b", far, .int 6, g, .str "b", far, .int 11]) (v := far) rfl (show 18 ≤ 1000 by decide) ?_
  refine r_due1 (l := [g, .str "b", g, .str "b", g, .str "b", g, .str "b", g, .str "b", g, .str "b", far, .int 6, g, .str "b", far, .int 11]) (show 18 ≤ 1000 by decide) ?_
  refine And.intro List.nodup_nil (same_i (d := .list [g, .str "b", g, .str "b", g, .str "b", g, .str "b", g, .str "b", g, .str "b", far, .int 6, g, .str "b", far, .int 11, far, .int 12]) ?_ (k ds2))
  simp [okD, og, of', show PyData.strOk ("b" : Str) = true by decide +kernel]
end
end K00

namespace DL
open PySem PySem.Spec PyProof.Rows L2
/-- the promise that is never asked -/
def noS : PSp := fun _ _ => False
theorem fn_no {P : Program} {w : World} {K : PySem.W.Frag} {mg : Str → Option Value} {base : Heap} {k : Nat} {f : Addr} {fd : FuncData} {ps : List Str} : FnOk P w K mg base CX0 k f fd ps (spS K noS) :=
  ⟨fun vs H Q E h => by obtain ⟨G, as, R, _, _, h, _⟩ := h; exact h.elim, fun A outer s H args us vs Q E hr he hb hv h => by obtain ⟨G, as, R, _, _, h, _⟩ := h; exact h.elim⟩
end DL
namespace K00
open PySem PySem.Spec PyProof.Rows L2 DL
theorem w_same0 {as : List Sl} {R : Rs → List Sl → Prop} {S : PSp} (h : S_same 0 as R) : W__law_same S (endsF as R) (startG N__law_same as) := by
  obtain ⟨d, hd, rfl, k⟩ := h
  cases d with
  | list xs => simp [okD] at hd
  | tuple xs => simp [okD] at hd
  | none => simpa [W__law_same, wSeq, wIfS, startG, wIsi2, wIsi, wNext, wRet, eqD, SeqAt.shaped, PyData.canLay0, PyData.depth, PyData.eqv] using k
  | bool b => simpa [W__law_same, wSeq, wIfS, startG, wIsi2, wIsi, wNext, wRet] using k
  | int i => simpa [W__law_same, wSeq, wIfS, startG, wIsi2, wIsi, wNext, wRet] using k
  | str s =>
    simp [okD] at hd
    simpa [W__law_same, wSeq, wIfS, startG, wIsi2, wIsi, wNext, wRet, hd] using k
  | dict _ => simp [okD] at hd
theorem mem_rng {m : Nat} {x : PyData} (h : x ∈ rng 0 m) : ∃ k : Nat, k < m ∧ x = .int (k : Int) := by
  rw [rng_nat] at h
  obtain ⟨k, hk, e⟩ := List.mem_map.mp h
  exact ⟨k, List.mem_range.mp hk, e.symm⟩
theorem law_loop {Q : List PyData → Gam → Prop} {ns cs : List Int} (hc : cs.length ≤ 1000) : ∀ (zs : List PyData) (m : Nat), (∀ z ∈ zs, ∃ k : Nat, z = .int (k : Int) ∧ k ≤ 1000) → m + zs.length ≤ 100000 → Q (List.replicate (m + zs.length) (.bool true)) [.scr (ns.map PyData.int), .dat (.list (cs.map PyData.int)), .un] →
    lcD (wgName 2) wYes (wCallN S_right (wCallL S_box (wPCons (wD (wVar 1)) (wPCons (wD (wVar 2)) wPNil)))) [2] Q zs (List.replicate m (.bool true)) [.scr (ns.map PyData.int), .dat (.list (cs.map PyData.int)), .un]
  | [], m, _, _, q => q
  | z :: zs, m, h, hl, q => by
    simp only [List.length_cons] at hl q
    obtain ⟨k, rfl, hk⟩ := h z (by simp)
    refine And.intro List.nodup_nil ⟨cs, k, rfl, hk, hc, fun ds hB => ?_⟩
    refine ⟨ds, rfl, hB.less (by decide), fun ds' => ?_⟩
    refine And.intro (by rw [sizeLine_eq, List.length_replicate]; omega) ?_
    have ih := law_loop (Q := Q) (ns := ns) hc zs (m + 1) (fun x hx => h x (by simp [hx])) (by omega) (by rw [show m + 1 + zs.length = m + (zs.length + 1) by omega]; exact q)
    rw [List.replicate_succ'] at ih
    exact ih
theorem w_law {as : List Sl} {R : Rs → List Sl → Prop} (h : sLaw as R) : W_law S_cells S_right S_box (endsF as R) (startG N_law as) := by
  obtain ⟨ns, hl, rfl, k⟩ := h
  show W_law S_cells S_right S_box (endsF [.scr (ns.map PyData.int)] R) [.scr (ns.map PyData.int), .un, .un]
  unfold W_law
  refine And.intro (by show (varsOf [Opd.var 0, Opd.dat (.int 3)]).Nodup; decide) ⟨ns, 3, rfl, hl, by decide, by decide, fun cs h1 h2 => ?_⟩
  have hz : (rng 0 (((cs.map PyData.int).length : Int)).toNat).length = cs.length := by
    unfold rng
    simp
  have hlen : (cs.map PyData.int).length = cs.length := List.length_map ..
  refine And.intro ?_ (And.intro ?_ (And.intro rfl ?_))
  · rw [hlen]; omega
  · rw [hlen]; omega
  refine law_loop (by omega) _ 0 (fun z hz => ?_) (by rw [hz]; omega) ?_
  · obtain ⟨k, hk, e⟩ := mem_rng hz
    rw [hlen] at hk
    exact ⟨k, e, by omega⟩
  have e : (List.replicate (0 + (rng 0 (((cs.map PyData.int).length : Int)).toNat).length) true).all id = true := by simp
  refine allB_of (k := fun d => (endsF [.scr (ns.map PyData.int)] R).rt (.dat d) [.scr (ns.map PyData.int), .dat (.list (cs.map PyData.int)), .un]) (bools_rep _) ?_
  rw [e]
  exact k _
end K00

namespace K00
open PySem PySem.Spec PyProof.Rows L2 DL
theorem all_mk {l : PySem.W.OpenLaw} {w : World} {K : PySem.W.Frag} {h : Heap} {mg : Str → Option Value} {fa f0 f1 f2 f3 f4 f5 f6 f7 : Addr} (X : K.In h) (G : h.Ns mainGlobals mg) (hfa : mg "law" = some (.ref fa))
    {od0 an0 : Option Addr} {sl0 : Array (Option Value)} {oc0 kV0 dc0 pm0 cd0 ct0 : Value}
    {od1 an1 : Option Addr} {sl1 : Array (Option Value)} {oc1 kV1 dc1 pm1 cd1 ct1 : Value}
    {od2 an2 : Option Addr} {sl2 : Array (Option Value)} {oc2 kV2 dc2 pm2 cd2 ct2 : Value}
    {od3 an3 : Option Addr} {sl3 : Array (Option Value)} {oc3 kV3 dc3 pm3 cd3 ct3 : Value}
    {od4 an4 : Option Addr} {sl4 : Array (Option Value)} {oc4 kV4 dc4 pm4 cd4 ct4 : Value}
    {od5 an5 : Option Addr} {sl5 : Array (Option Value)} {oc5 kV5 dc5 pm5 cd5 ct5 : Value}
    {od6 an6 : Option Addr} {sl6 : Array (Option Value)} {oc6 kV6 dc6 pm6 cd6 ct6 : Value}
    {od7 an7 : Option Addr} {sl7 : Array (Option Value)} {oc7 kV7 dc7 pm7 cd7 ct7 : Value}
    (a0 : PySem.W.nsIn K mainGlobals "_law_take" = some (some (.ref f0))) (l0 : K.lookup f0 = some ⟨oc0, od0, .func (PySem.W.fnOf "_law_take" "_law_take" (defArgs s__law_take) (defBody s__law_take) (defScope s__law_take) .none kV0 dc0 pm0 an0 cd0 ct0), sl0⟩) (c0 : PySem.W.codeIn K cd0 "_law_take" = true) (k0 : PySem.W.keepIn K (.ref f0) = true)
    (a1 : PySem.W.nsIn K mainGlobals "_law_box" = some (some (.ref f1))) (l1 : K.lookup f1 = some ⟨oc1, od1, .func (PySem.W.fnOf "_law_box" "_law_box" (defArgs s__law_box) (defBody s__law_box) (defScope s__law_box) .none kV1 dc1 pm1 an1 cd1 ct1), sl1⟩) (c1 : PySem.W.codeIn K cd1 "_law_box" = true) (k1 : PySem.W.keepIn K (.ref f1) = true)
    (a2 : PySem.W.nsIn K mainGlobals "_law_cells" = some (some (.ref f2))) (l2 : K.lookup f2 = some ⟨oc2, od2, .func (PySem.W.fnOf "_law_cells" "_law_cells" (defArgs s__law_cells) (defBody s__law_cells) (defScope s__law_cells) .none kV2 dc2 pm2 an2 cd2 ct2), sl2⟩) (c2 : PySem.W.codeIn K cd2 "_law_cells" = true) (k2 : PySem.W.keepIn K (.ref f2) = true)
    (a3 : PySem.W.nsIn K mainGlobals "_law_of" = some (some (.ref f3))) (l3 : K.lookup f3 = some ⟨oc3, od3, .func (PySem.W.fnOf "_law_of" "_law_of" (defArgs s__law_of) (defBody s__law_of) (defScope s__law_of) .none kV3 dc3 pm3 an3 cd3 ct3), sl3⟩) (c3 : PySem.W.codeIn K cd3 "_law_of" = true) (k3 : PySem.W.keepIn K (.ref f3) = true)
    (a4 : PySem.W.nsIn K mainGlobals "_law_same" = some (some (.ref f4))) (l4 : K.lookup f4 = some ⟨oc4, od4, .func (PySem.W.fnOf "_law_same" "_law_same" (defArgs s__law_same) (defBody s__law_same) (defScope s__law_same) .none kV4 dc4 pm4 an4 cd4 ct4), sl4⟩) (c4 : PySem.W.codeIn K cd4 "_law_same" = true) (k4 : PySem.W.keepIn K (.ref f4) = true)
    (a5 : PySem.W.nsIn K mainGlobals "_law_sorts" = some (some (.ref f5))) (l5 : K.lookup f5 = some ⟨oc5, od5, .func (PySem.W.fnOf "_law_sorts" "_law_sorts" (defArgs s__law_sorts) (defBody s__law_sorts) (defScope s__law_sorts) .none kV5 dc5 pm5 an5 cd5 ct5), sl5⟩) (c5 : PySem.W.codeIn K cd5 "_law_sorts" = true) (k5 : PySem.W.keepIn K (.ref f5) = true)
    (a6 : PySem.W.nsIn K mainGlobals "_law_right" = some (some (.ref f6))) (l6 : K.lookup f6 = some ⟨oc6, od6, .func (PySem.W.fnOf "_law_right" "_law_right" (defArgs s__law_right) (defBody s__law_right) (defScope s__law_right) .none kV6 dc6 pm6 an6 cd6 ct6), sl6⟩) (c6 : PySem.W.codeIn K cd6 "_law_right" = true) (k6 : PySem.W.keepIn K (.ref f6) = true)
    (a7 : PySem.W.nsIn K mainGlobals "law" = some (some (.ref f7))) (l7 : K.lookup f7 = some ⟨oc7, od7, .func (PySem.W.fnOf "law" "law" (defArgs s_law) (defBody s_law) (defScope s_law) .none kV7 dc7 pm7 an7 cd7 ct7), sl7⟩) (c7 : PySem.W.codeIn K cd7 "law" = true) (k7 : PySem.W.keepIn K (.ref f7) = true)
    (z0 : PySem.W.nsIn K mainGlobals "ValueError" = some none)
    (z1 : PySem.W.nsIn K mainGlobals "abs" = some none)
    (z2 : PySem.W.nsIn K mainGlobals "all" = some none)
    (z3 : PySem.W.nsIn K mainGlobals "bool" = some none)
    (z4 : PySem.W.nsIn K mainGlobals "enumerate" = some none)
    (z5 : PySem.W.nsIn K mainGlobals "int" = some none)
    (z6 : PySem.W.nsIn K mainGlobals "isinstance" = some none)
    (z7 : PySem.W.nsIn K mainGlobals "len" = some none)
    (z8 : PySem.W.nsIn K mainGlobals "list" = some none)
    (z9 : PySem.W.nsIn K mainGlobals "range" = some none)
    (z10 : PySem.W.nsIn K mainGlobals "str" = some none)
    (z11 : PySem.W.nsIn K mainGlobals "tuple" = some none)
    (z12 : PySem.W.nsIn K mainGlobals "zip" = some none)
    {CE_ModelError : Addr} (mAC : PySem.W.nsIn K mainGlobals "ModelError" = some (some (.ref CE_ModelError))) (mIS : PySem.W.isClsIn K CE_ModelError = true) (mTY : PySem.W.typeIn K (.ref CE_ModelError) = some (.type "type"))
    (oHN : PySem.W.specialIn K (.builtin "object.__class__") "__get__" = some (some (.builtin "getset_descriptor.__get__"))) (oHT : PySem.W.takesIn K (.builtin "object.__class__") = some true)
    {CE_NoPart fI_NoPart : Addr} {e0nm e0q : Str} {e0N : Addr} {e0bs : List Value} {e0sn : List Str} {e0sub : List Value} {e0ab : Bool} {e0col : Option Bool} {e0dd e0od e0an : Option Addr} {e0m0 e0m1 e0m2 e0m3 e0m5 : Option Value} {e0oc e0dc e0pm e0cd e0ct : Value} {e0sl : Array (Option Value)} {e0p1 e0p2 e0q1 e0q2 e0q3 e0q4 : Pos}
    (e0aC : PySem.W.nsIn K mainGlobals "NoPart" = some (some (.ref CE_NoPart))) (e0ga : PySem.W.findIn K (.ref CE_NoPart) "__getattribute__" = some (some (.builtin "BaseException.__getattribute__"))) (e0gg : PySem.W.findIn K (.ref CE_NoPart) "__getattr__" = some none)
    (e0kC : PySem.W.keepIn K (.ref CE_NoPart) = true) (e0eC : PySem.W.subIn K (.ref CE_NoPart) (.type "BaseException") = some true) (e0tC : PySem.W.typeIn K (.ref CE_NoPart) = some (.type "type")) (e0hC : PySem.W.hasDictIn K CE_NoPart = true) (e0iC : PySem.W.isClsIn K CE_NoPart = true) (e0sC : PySem.W.subIn K (.ref CE_NoPart) (.ref CE_NoPart) = some true)
    (e0ha : PySem.W.findIn K (.ref CE_NoPart) "__class__" = some (some (.builtin "object.__class__"))) (e0hm : PySem.W.mroIn K CE_NoPart (.type "object") = some true) (e0su : PySem.W.subIn K (.ref CE_NoPart) (.ref CE_ModelError) = some true) (e0va : PySem.W.subIn K (.ref CE_NoPart) (.type "ValueError") = some true)
    (e0xL : K.lookup CE_NoPart = some (excClassObj e0nm e0q CE_NoPart e0N e0bs [.ref CE_ModelError, .type "ValueError", .type "Exception", .type "BaseException", .type "object"] true e0sn e0sub e0ab e0col e0dd e0m0 e0m1 e0m2 e0m3 e0m5 "ValueError.__new__"))
    (e0sa : PySem.W.findIn K (.ref CE_NoPart) "__setattr__" = some (some (.builtin "object.__setattr__"))) (e0nb : PySem.W.findIn K (.ref CE_NoPart) "name" = some none)
    (e0a1 : PySem.W.findIn K (.ref CE_NoPart) "__init__" = some (some (.ref fI_NoPart))) (e0t1 : PySem.W.typeIn K (.ref fI_NoPart) = some (.type "function"))
    (e0l1 : K.lookup fI_NoPart = some ⟨e0oc, e0od, .func (PySem.W.fnOf "__init__" "NoPart.__init__" (PySem.NoPartX.iA e0p1 e0p2) (PySem.NoPartX.iB e0q1 e0q2 e0q3 e0q4) PySem.NoPartX.iS .none .none e0dc e0pm e0an e0cd e0ct), e0sl⟩) (e0c1 : PySem.W.codeIn K e0cd "NoPart.__init__" = true)
    {CE_NoCell fI_NoCell : Addr} {e1nm e1q : Str} {e1N : Addr} {e1bs : List Value} {e1sn : List Str} {e1sub : List Value} {e1ab : Bool} {e1col : Option Bool} {e1dd e1od e1an : Option Addr} {e1m0 e1m1 e1m2 e1m3 e1m5 : Option Value} {e1oc e1dc e1pm e1cd e1ct : Value} {e1sl : Array (Option Value)} {e1p1 e1p2 e1q1 e1q2 e1q3 e1q4 : Pos}
    (e1aC : PySem.W.nsIn K mainGlobals "NoCell" = some (some (.ref CE_NoCell))) (e1ga : PySem.W.findIn K (.ref CE_NoCell) "__getattribute__" = some (some (.builtin "BaseException.__getattribute__"))) (e1gg : PySem.W.findIn K (.ref CE_NoCell) "__getattr__" = some none)
    (e1kC : PySem.W.keepIn K (.ref CE_NoCell) = true) (e1eC : PySem.W.subIn K (.ref CE_NoCell) (.type "BaseException") = some true) (e1tC : PySem.W.typeIn K (.ref CE_NoCell) = some (.type "type")) (e1hC : PySem.W.hasDictIn K CE_NoCell = true) (e1iC : PySem.W.isClsIn K CE_NoCell = true) (e1sC : PySem.W.subIn K (.ref CE_NoCell) (.ref CE_NoCell) = some true)
    (e1ha : PySem.W.findIn K (.ref CE_NoCell) "__class__" = some (some (.builtin "object.__class__"))) (e1hm : PySem.W.mroIn K CE_NoCell (.type "object") = some true) (e1su : PySem.W.subIn K (.ref CE_NoCell) (.ref CE_ModelError) = some true) (e1va : PySem.W.subIn K (.ref CE_NoCell) (.type "ValueError") = some true)
    (e1xL : K.lookup CE_NoCell = some (excClassObj e1nm e1q CE_NoCell e1N e1bs [.ref CE_ModelError, .type "ValueError", .type "Exception", .type "BaseException", .type "object"] true e1sn e1sub e1ab e1col e1dd e1m0 e1m1 e1m2 e1m3 e1m5 "ValueError.__new__"))
    (e1sa : PySem.W.findIn K (.ref CE_NoCell) "__setattr__" = some (some (.builtin "object.__setattr__"))) (e1nb : PySem.W.findIn K (.ref CE_NoCell) "name" = some none)
    (e1a1 : PySem.W.findIn K (.ref CE_NoCell) "__init__" = some (some (.ref fI_NoCell))) (e1t1 : PySem.W.typeIn K (.ref fI_NoCell) = some (.type "function"))
    (e1l1 : K.lookup fI_NoCell = some ⟨e1oc, e1od, .func (PySem.W.fnOf "__init__" "NoCell.__init__" (PySem.NoCellX.iA e1p1 e1p2) (PySem.NoCellX.iB e1q1 e1q2 e1q3 e1q4) PySem.NoCellX.iS .none .none e1dc e1pm e1an e1cd e1ct), e1sl⟩) (e1c1 : PySem.W.codeIn K e1cd "NoCell.__init__" = true)
    {CE_NoQueue fI_NoQueue : Addr} {e2nm e2q : Str} {e2N : Addr} {e2bs : List Value} {e2sn : List Str} {e2sub : List Value} {e2ab : Bool} {e2col : Option Bool} {e2dd e2od e2an : Option Addr} {e2m0 e2m1 e2m2 e2m3 e2m5 : Option Value} {e2oc e2dc e2pm e2cd e2ct : Value} {e2sl : Array (Option Value)} {e2p1 e2p2 e2q1 e2q2 e2q3 e2q4 : Pos}
    (e2aC : PySem.W.nsIn K mainGlobals "NoQueue" = some (some (.ref CE_NoQueue))) (e2ga : PySem.W.findIn K (.ref CE_NoQueue) "__getattribute__" = some (some (.builtin "BaseException.__getattribute__"))) (e2gg : PySem.W.findIn K (.ref CE_NoQueue) "__getattr__" = some none)
    (e2kC : PySem.W.keepIn K (.ref CE_NoQueue) = true) (e2eC : PySem.W.subIn K (.ref CE_NoQueue) (.type "BaseException") = some true) (e2tC : PySem.W.typeIn K (.ref CE_NoQueue) = some (.type "type")) (e2hC : PySem.W.hasDictIn K CE_NoQueue = true) (e2iC : PySem.W.isClsIn K CE_NoQueue = true) (e2sC : PySem.W.subIn K (.ref CE_NoQueue) (.ref CE_NoQueue) = some true)
    (e2ha : PySem.W.findIn K (.ref CE_NoQueue) "__class__" = some (some (.builtin "object.__class__"))) (e2hm : PySem.W.mroIn K CE_NoQueue (.type "object") = some true) (e2su : PySem.W.subIn K (.ref CE_NoQueue) (.ref CE_ModelError) = some true) (e2va : PySem.W.subIn K (.ref CE_NoQueue) (.type "ValueError") = some true)
    (e2xL : K.lookup CE_NoQueue = some (excClassObj e2nm e2q CE_NoQueue e2N e2bs [.ref CE_ModelError, .type "ValueError", .type "Exception", .type "BaseException", .type "object"] true e2sn e2sub e2ab e2col e2dd e2m0 e2m1 e2m2 e2m3 e2m5 "ValueError.__new__"))
    (e2sa : PySem.W.findIn K (.ref CE_NoQueue) "__setattr__" = some (some (.builtin "object.__setattr__"))) (e2nb : PySem.W.findIn K (.ref CE_NoQueue) "name" = some none)
    (e2a1 : PySem.W.findIn K (.ref CE_NoQueue) "__init__" = some (some (.ref fI_NoQueue))) (e2t1 : PySem.W.typeIn K (.ref fI_NoQueue) = some (.type "function"))
    (e2l1 : K.lookup fI_NoQueue = some ⟨e2oc, e2od, .func (PySem.W.fnOf "__init__" "NoQueue.__init__" (PySem.NoQueueX.iA e2p1 e2p2) (PySem.NoQueueX.iB e2q1 e2q2 e2q3 e2q4) PySem.NoQueueX.iS .none .none e2dc e2pm e2an e2cd e2ct), e2sl⟩) (e2c1 : PySem.W.codeIn K e2cd "NoQueue.__init__" = true)
    {CE_NoLabel fI_NoLabel : Addr} {e3nm e3q : Str} {e3N : Addr} {e3bs : List Value} {e3sn : List Str} {e3sub : List Value} {e3ab : Bool} {e3col : Option Bool} {e3dd e3od e3an : Option Addr} {e3m0 e3m1 e3m2 e3m3 e3m5 : Option Value} {e3oc e3dc e3pm e3cd e3ct : Value} {e3sl : Array (Option Value)} {e3p1 e3p2 e3q1 e3q2 e3q3 e3q4 : Pos}
    (e3aC : PySem.W.nsIn K mainGlobals "NoLabel" = some (some (.ref CE_NoLabel))) (e3ga : PySem.W.findIn K (.ref CE_NoLabel) "__getattribute__" = some (some (.builtin "BaseException.__getattribute__"))) (e3gg : PySem.W.findIn K (.ref CE_NoLabel) "__getattr__" = some none)
    (e3kC : PySem.W.keepIn K (.ref CE_NoLabel) = true) (e3eC : PySem.W.subIn K (.ref CE_NoLabel) (.type "BaseException") = some true) (e3tC : PySem.W.typeIn K (.ref CE_NoLabel) = some (.type "type")) (e3hC : PySem.W.hasDictIn K CE_NoLabel = true) (e3iC : PySem.W.isClsIn K CE_NoLabel = true) (e3sC : PySem.W.subIn K (.ref CE_NoLabel) (.ref CE_NoLabel) = some true)
    (e3ha : PySem.W.findIn K (.ref CE_NoLabel) "__class__" = some (some (.builtin "object.__class__"))) (e3hm : PySem.W.mroIn K CE_NoLabel (.type "object") = some true) (e3su : PySem.W.subIn K (.ref CE_NoLabel) (.ref CE_ModelError) = some true) (e3va : PySem.W.subIn K (.ref CE_NoLabel) (.type "ValueError") = some true)
    (e3xL : K.lookup CE_NoLabel = some (excClassObj e3nm e3q CE_NoLabel e3N e3bs [.ref CE_ModelError, .type "ValueError", .type "Exception", .type "BaseException", .type "object"] true e3sn e3sub e3ab e3col e3dd e3m0 e3m1 e3m2 e3m3 e3m5 "ValueError.__new__"))
    (e3sa : PySem.W.findIn K (.ref CE_NoLabel) "__setattr__" = some (some (.builtin "object.__setattr__"))) (e3nb : PySem.W.findIn K (.ref CE_NoLabel) "name" = some none)
    (e3a1 : PySem.W.findIn K (.ref CE_NoLabel) "__init__" = some (some (.ref fI_NoLabel))) (e3t1 : PySem.W.typeIn K (.ref fI_NoLabel) = some (.type "function"))
    (e3l1 : K.lookup fI_NoLabel = some ⟨e3oc, e3od, .func (PySem.W.fnOf "__init__" "NoLabel.__init__" (PySem.NoLabelX.iA e3p1 e3p2) (PySem.NoLabelX.iB e3q1 e3q2 e3q3 e3q4) PySem.NoLabelX.iS .none .none e3dc e3pm e3an e3cd e3ct), e3sl⟩) (e3c1 : PySem.W.codeIn K e3cd "NoLabel.__init__" = true)
    {CE_NoWord fI_NoWord : Addr} {e4nm e4q : Str} {e4N : Addr} {e4bs : List Value} {e4sn : List Str} {e4sub : List Value} {e4ab : Bool} {e4col : Option Bool} {e4dd e4od e4an : Option Addr} {e4m0 e4m1 e4m2 e4m3 e4m5 : Option Value} {e4oc e4dc e4pm e4cd e4ct : Value} {e4sl : Array (Option Value)} {e4p1 e4p2 e4q1 e4q2 e4q3 e4q4 : Pos}
    (e4aC : PySem.W.nsIn K mainGlobals "NoWord" = some (some (.ref CE_NoWord))) (e4ga : PySem.W.findIn K (.ref CE_NoWord) "__getattribute__" = some (some (.builtin "BaseException.__getattribute__"))) (e4gg : PySem.W.findIn K (.ref CE_NoWord) "__getattr__" = some none)
    (e4kC : PySem.W.keepIn K (.ref CE_NoWord) = true) (e4eC : PySem.W.subIn K (.ref CE_NoWord) (.type "BaseException") = some true) (e4tC : PySem.W.typeIn K (.ref CE_NoWord) = some (.type "type")) (e4hC : PySem.W.hasDictIn K CE_NoWord = true) (e4iC : PySem.W.isClsIn K CE_NoWord = true) (e4sC : PySem.W.subIn K (.ref CE_NoWord) (.ref CE_NoWord) = some true)
    (e4ha : PySem.W.findIn K (.ref CE_NoWord) "__class__" = some (some (.builtin "object.__class__"))) (e4hm : PySem.W.mroIn K CE_NoWord (.type "object") = some true) (e4su : PySem.W.subIn K (.ref CE_NoWord) (.ref CE_ModelError) = some true) (e4va : PySem.W.subIn K (.ref CE_NoWord) (.type "ValueError") = some true)
    (e4xL : K.lookup CE_NoWord = some (excClassObj e4nm e4q CE_NoWord e4N e4bs [.ref CE_ModelError, .type "ValueError", .type "Exception", .type "BaseException", .type "object"] true e4sn e4sub e4ab e4col e4dd e4m0 e4m1 e4m2 e4m3 e4m5 "ValueError.__new__"))
    (e4sa : PySem.W.findIn K (.ref CE_NoWord) "__setattr__" = some (some (.builtin "object.__setattr__"))) (e4nb : PySem.W.findIn K (.ref CE_NoWord) "name" = some none)
    (e4a1 : PySem.W.findIn K (.ref CE_NoWord) "__init__" = some (some (.ref fI_NoWord))) (e4t1 : PySem.W.typeIn K (.ref fI_NoWord) = some (.type "function"))
    (e4l1 : K.lookup fI_NoWord = some ⟨e4oc, e4od, .func (PySem.W.fnOf "__init__" "NoWord.__init__" (PySem.NoWordX.iA e4p1 e4p2) (PySem.NoWordX.iB e4q1 e4q2 e4q3 e4q4) PySem.NoWordX.iS .none .none e4dc e4pm e4an e4cd e4ct), e4sl⟩) (e4c1 : PySem.W.codeIn K e4cd "NoWord.__init__" = true)
    {CE_NoSystem fI_NoSystem : Addr} {e5nm e5q : Str} {e5N : Addr} {e5bs : List Value} {e5sn : List Str} {e5sub : List Value} {e5ab : Bool} {e5col : Option Bool} {e5dd e5od e5an : Option Addr} {e5m0 e5m1 e5m2 e5m3 e5m5 : Option Value} {e5oc e5dc e5pm e5cd e5ct : Value} {e5sl : Array (Option Value)} {e5p1 e5p2 e5q1 e5q2 e5q3 e5q4 : Pos}
    (e5aC : PySem.W.nsIn K mainGlobals "NoSystem" = some (some (.ref CE_NoSystem))) (e5ga : PySem.W.findIn K (.ref CE_NoSystem) "__getattribute__" = some (some (.builtin "BaseException.__getattribute__"))) (e5gg : PySem.W.findIn K (.ref CE_NoSystem) "__getattr__" = some none)
    (e5kC : PySem.W.keepIn K (.ref CE_NoSystem) = true) (e5eC : PySem.W.subIn K (.ref CE_NoSystem) (.type "BaseException") = some true) (e5tC : PySem.W.typeIn K (.ref CE_NoSystem) = some (.type "type")) (e5hC : PySem.W.hasDictIn K CE_NoSystem = true) (e5iC : PySem.W.isClsIn K CE_NoSystem = true) (e5sC : PySem.W.subIn K (.ref CE_NoSystem) (.ref CE_NoSystem) = some true)
    (e5ha : PySem.W.findIn K (.ref CE_NoSystem) "__class__" = some (some (.builtin "object.__class__"))) (e5hm : PySem.W.mroIn K CE_NoSystem (.type "object") = some true) (e5su : PySem.W.subIn K (.ref CE_NoSystem) (.ref CE_ModelError) = some true) (e5va : PySem.W.subIn K (.ref CE_NoSystem) (.type "ValueError") = some true)
    (e5xL : K.lookup CE_NoSystem = some (excClassObj e5nm e5q CE_NoSystem e5N e5bs [.ref CE_ModelError, .type "ValueError", .type "Exception", .type "BaseException", .type "object"] true e5sn e5sub e5ab e5col e5dd e5m0 e5m1 e5m2 e5m3 e5m5 "ValueError.__new__"))
    (e5sa : PySem.W.findIn K (.ref CE_NoSystem) "__setattr__" = some (some (.builtin "object.__setattr__"))) (e5nb : PySem.W.findIn K (.ref CE_NoSystem) "name" = some none)
    (e5a1 : PySem.W.findIn K (.ref CE_NoSystem) "__init__" = some (some (.ref fI_NoSystem))) (e5t1 : PySem.W.typeIn K (.ref fI_NoSystem) = some (.type "function"))
    (e5l1 : K.lookup fI_NoSystem = some ⟨e5oc, e5od, .func (PySem.W.fnOf "__init__" "NoSystem.__init__" (PySem.NoSystemX.iA e5p1 e5p2) (PySem.NoSystemX.iB e5q1 e5q2 e5q3 e5q4) PySem.NoSystemX.iS .none .none e5dc e5pm e5an e5cd e5ct), e5sl⟩) (e5c1 : PySem.W.codeIn K e5cd "NoSystem.__init__" = true)
    {CE_NoNumber fI_NoNumber : Addr} {e6nm e6q : Str} {e6N : Addr} {e6bs : List Value} {e6sn : List Str} {e6sub : List Value} {e6ab : Bool} {e6col : Option Bool} {e6dd e6od e6an : Option Addr} {e6m0 e6m1 e6m2 e6m3 e6m5 : Option Value} {e6oc e6dc e6pm e6cd e6ct : Value} {e6sl : Array (Option Value)} {e6p1 e6p2 e6q1 e6q2 e6q3 e6q4 : Pos}
    (e6aC : PySem.W.nsIn K mainGlobals "NoNumber" = some (some (.ref CE_NoNumber))) (e6ga : PySem.W.findIn K (.ref CE_NoNumber) "__getattribute__" = some (some (.builtin "BaseException.__getattribute__"))) (e6gg : PySem.W.findIn K (.ref CE_NoNumber) "__getattr__" = some none)
    (e6kC : PySem.W.keepIn K (.ref CE_NoNumber) = true) (e6eC : PySem.W.subIn K (.ref CE_NoNumber) (.type "BaseException") = some true) (e6tC : PySem.W.typeIn K (.ref CE_NoNumber) = some (.type "type")) (e6hC : PySem.W.hasDictIn K CE_NoNumber = true) (e6iC : PySem.W.isClsIn K CE_NoNumber = true) (e6sC : PySem.W.subIn K (.ref CE_NoNumber) (.ref CE_NoNumber) = some true)
    (e6ha : PySem.W.findIn K (.ref CE_NoNumber) "__class__" = some (some (.builtin "object.__class__"))) (e6hm : PySem.W.mroIn K CE_NoNumber (.type "object") = some true) (e6su : PySem.W.subIn K (.ref CE_NoNumber) (.ref CE_ModelError) = some true) (e6va : PySem.W.subIn K (.ref CE_NoNumber) (.type "ValueError") = some true)
    (e6xL : K.lookup CE_NoNumber = some (excClassObj e6nm e6q CE_NoNumber e6N e6bs [.ref CE_ModelError, .type "ValueError", .type "Exception", .type "BaseException", .type "object"] true e6sn e6sub e6ab e6col e6dd e6m0 e6m1 e6m2 e6m3 e6m5 "ValueError.__new__"))
    (e6sa : PySem.W.findIn K (.ref CE_NoNumber) "__setattr__" = some (some (.builtin "object.__setattr__"))) (e6nb : PySem.W.findIn K (.ref CE_NoNumber) "number" = some none)
    (e6a1 : PySem.W.findIn K (.ref CE_NoNumber) "__init__" = some (some (.ref fI_NoNumber))) (e6t1 : PySem.W.typeIn K (.ref fI_NoNumber) = some (.type "function"))
    (e6l1 : K.lookup fI_NoNumber = some ⟨e6oc, e6od, .func (PySem.W.fnOf "__init__" "NoNumber.__init__" (PySem.NoNumberX.iA e6p1 e6p2) (PySem.NoNumberX.iB e6q1 e6q2 e6q3 e6q4) PySem.NoNumberX.iS .none .none e6dc e6pm e6an e6cd e6ct), e6sl⟩) (e6c1 : PySem.W.codeIn K e6cd "NoNumber.__init__" = true)
    {CE_NotReady : Addr} (e7aC : PySem.W.nsIn K mainGlobals "NotReady" = some (some (.ref CE_NotReady))) (e7ga : PySem.W.findIn K (.ref CE_NotReady) "__getattribute__" = some (some (.builtin "BaseException.__getattribute__"))) (e7gg : PySem.W.findIn K (.ref CE_NotReady) "__getattr__" = some none)
    (e7kC : PySem.W.keepIn K (.ref CE_NotReady) = true) (e7eC : PySem.W.subIn K (.ref CE_NotReady) (.type "BaseException") = some true) (e7tC : PySem.W.typeIn K (.ref CE_NotReady) = some (.type "type")) (e7hC : PySem.W.hasDictIn K CE_NotReady = true) (e7iC : PySem.W.isClsIn K CE_NotReady = true) (e7sC : PySem.W.subIn K (.ref CE_NotReady) (.ref CE_NotReady) = some true)
    (e7ha : PySem.W.findIn K (.ref CE_NotReady) "__class__" = some (some (.builtin "object.__class__"))) (e7hm : PySem.W.mroIn K CE_NotReady (.type "object") = some true) (e7su : PySem.W.subIn K (.ref CE_NotReady) (.ref CE_ModelError) = some true) (e7va : PySem.W.subIn K (.ref CE_NotReady) (.type "ValueError") = some true)
    (e7qx : PySem.W.excIn K CE_NotReady [.type "ValueError", .type "Exception", .type "BaseException", .type "object"] "ValueError.__new__" = true)
    {CE_Unfit : Addr} (e8aC : PySem.W.nsIn K mainGlobals "Unfit" = some (some (.ref CE_Unfit))) (e8ga : PySem.W.findIn K (.ref CE_Unfit) "__getattribute__" = some (some (.builtin "BaseException.__getattribute__"))) (e8gg : PySem.W.findIn K (.ref CE_Unfit) "__getattr__" = some none)
    (e8kC : PySem.W.keepIn K (.ref CE_Unfit) = true) (e8eC : PySem.W.subIn K (.ref CE_Unfit) (.type "BaseException") = some true) (e8tC : PySem.W.typeIn K (.ref CE_Unfit) = some (.type "type")) (e8hC : PySem.W.hasDictIn K CE_Unfit = true) (e8iC : PySem.W.isClsIn K CE_Unfit = true) (e8sC : PySem.W.subIn K (.ref CE_Unfit) (.ref CE_Unfit) = some true)
    (e8ha : PySem.W.findIn K (.ref CE_Unfit) "__class__" = some (some (.builtin "object.__class__"))) (e8hm : PySem.W.mroIn K CE_Unfit (.type "object") = some true) (e8su : PySem.W.subIn K (.ref CE_Unfit) (.ref CE_ModelError) = some true) (e8va : PySem.W.subIn K (.ref CE_Unfit) (.type "ValueError") = some true)
    (e8qx : PySem.W.excIn K CE_Unfit [.type "ValueError", .type "Exception", .type "BaseException", .type "object"] "ValueError.__new__" = true)
    {CE_Known fI_Known : Addr} {e9nm e9q : Str} {e9N : Addr} {e9bs : List Value} {e9sn : List Str} {e9sub : List Value} {e9ab : Bool} {e9col : Option Bool} {e9dd e9od e9an : Option Addr} {e9m0 e9m1 e9m2 e9m3 e9m5 : Option Value} {e9oc e9dc e9pm e9cd e9ct : Value} {e9sl : Array (Option Value)} {e9p1 e9p2 e9q1 e9q2 e9q3 e9q4 : Pos}
    (e9aC : PySem.W.nsIn K mainGlobals "Known" = some (some (.ref CE_Known))) (e9ga : PySem.W.findIn K (.ref CE_Known) "__getattribute__" = some (some (.builtin "BaseException.__getattribute__"))) (e9gg : PySem.W.findIn K (.ref CE_Known) "__getattr__" = some none)
    (e9kC : PySem.W.keepIn K (.ref CE_Known) = true) (e9eC : PySem.W.subIn K (.ref CE_Known) (.type "BaseException") = some true) (e9tC : PySem.W.typeIn K (.ref CE_Known) = some (.type "type")) (e9hC : PySem.W.hasDictIn K CE_Known = true) (e9iC : PySem.W.isClsIn K CE_Known = true) (e9sC : PySem.W.subIn K (.ref CE_Known) (.ref CE_Known) = some true)
    (e9ha : PySem.W.findIn K (.ref CE_Known) "__class__" = some (some (.builtin "object.__class__"))) (e9hm : PySem.W.mroIn K CE_Known (.type "object") = some true) (e9su : PySem.W.subIn K (.ref CE_Known) (.ref CE_ModelError) = some true) (e9va : PySem.W.subIn K (.ref CE_Known) (.type "ValueError") = some true)
    (e9xL : K.lookup CE_Known = some (excClassObj e9nm e9q CE_Known e9N e9bs [.ref CE_ModelError, .type "ValueError", .type "Exception", .type "BaseException", .type "object"] true e9sn e9sub e9ab e9col e9dd e9m0 e9m1 e9m2 e9m3 e9m5 "ValueError.__new__"))
    (e9sa : PySem.W.findIn K (.ref CE_Known) "__setattr__" = some (some (.builtin "object.__setattr__"))) (e9nb : PySem.W.findIn K (.ref CE_Known) "name" = some none)
    (e9a1 : PySem.W.findIn K (.ref CE_Known) "__init__" = some (some (.ref fI_Known))) (e9t1 : PySem.W.typeIn K (.ref fI_Known) = some (.type "function"))
    (e9l1 : K.lookup fI_Known = some ⟨e9oc, e9od, .func (PySem.W.fnOf "__init__" "Known.__init__" (PySem.KnownX.iA e9p1 e9p2) (PySem.KnownX.iB e9q1 e9q2 e9q3 e9q4) PySem.KnownX.iS .none .none e9dc e9pm e9an e9cd e9ct), e9sl⟩) (e9c1 : PySem.W.codeIn K e9cd "Known.__init__" = true)
    {CE_NothingDone : Addr} (e10aC : PySem.W.nsIn K mainGlobals "NothingDone" = some (some (.ref CE_NothingDone))) (e10ga : PySem.W.findIn K (.ref CE_NothingDone) "__getattribute__" = some (some (.builtin "BaseException.__getattribute__"))) (e10gg : PySem.W.findIn K (.ref CE_NothingDone) "__getattr__" = some none)
    (e10kC : PySem.W.keepIn K (.ref CE_NothingDone) = true) (e10eC : PySem.W.subIn K (.ref CE_NothingDone) (.type "BaseException") = some true) (e10tC : PySem.W.typeIn K (.ref CE_NothingDone) = some (.type "type")) (e10hC : PySem.W.hasDictIn K CE_NothingDone = true) (e10iC : PySem.W.isClsIn K CE_NothingDone = true) (e10sC : PySem.W.subIn K (.ref CE_NothingDone) (.ref CE_NothingDone) = some true)
    (e10ha : PySem.W.findIn K (.ref CE_NothingDone) "__class__" = some (some (.builtin "object.__class__"))) (e10hm : PySem.W.mroIn K CE_NothingDone (.type "object") = some true) (e10su : PySem.W.subIn K (.ref CE_NothingDone) (.ref CE_ModelError) = some true) (e10va : PySem.W.subIn K (.ref CE_NothingDone) (.type "ValueError") = some true)
    (e10qx : PySem.W.excIn K CE_NothingDone [.type "ValueError", .type "Exception", .type "BaseException", .type "object"] "ValueError.__new__" = true)
    {CE_BadText fI_BadText : Addr} {e11nm e11q : Str} {e11N : Addr} {e11bs : List Value} {e11sn : List Str} {e11sub : List Value} {e11ab : Bool} {e11col : Option Bool} {e11dd e11od e11an : Option Addr} {e11m0 e11m1 e11m2 e11m3 e11m5 : Option Value} {e11oc e11dc e11pm e11cd e11ct : Value} {e11sl : Array (Option Value)} {e11p1 e11p2 e11q1 e11q2 e11q3 e11q4 : Pos}
    (e11aC : PySem.W.nsIn K mainGlobals "BadText" = some (some (.ref CE_BadText))) (e11ga : PySem.W.findIn K (.ref CE_BadText) "__getattribute__" = some (some (.builtin "BaseException.__getattribute__"))) (e11gg : PySem.W.findIn K (.ref CE_BadText) "__getattr__" = some none)
    (e11kC : PySem.W.keepIn K (.ref CE_BadText) = true) (e11eC : PySem.W.subIn K (.ref CE_BadText) (.type "BaseException") = some true) (e11tC : PySem.W.typeIn K (.ref CE_BadText) = some (.type "type")) (e11hC : PySem.W.hasDictIn K CE_BadText = true) (e11iC : PySem.W.isClsIn K CE_BadText = true) (e11sC : PySem.W.subIn K (.ref CE_BadText) (.ref CE_BadText) = some true)
    (e11ha : PySem.W.findIn K (.ref CE_BadText) "__class__" = some (some (.builtin "object.__class__"))) (e11hm : PySem.W.mroIn K CE_BadText (.type "object") = some true) (e11su : PySem.W.subIn K (.ref CE_BadText) (.ref CE_ModelError) = some true) (e11va : PySem.W.subIn K (.ref CE_BadText) (.type "ValueError") = some true)
    (e11xL : K.lookup CE_BadText = some (excClassObj e11nm e11q CE_BadText e11N e11bs [.ref CE_ModelError, .type "ValueError", .type "Exception", .type "BaseException", .type "object"] true e11sn e11sub e11ab e11col e11dd e11m0 e11m1 e11m2 e11m3 e11m5 "ValueError.__new__"))
    (e11sa : PySem.W.findIn K (.ref CE_BadText) "__setattr__" = some (some (.builtin "object.__setattr__"))) (e11nb : PySem.W.findIn K (.ref CE_BadText) "piece" = some none)
    (e11a1 : PySem.W.findIn K (.ref CE_BadText) "__init__" = some (some (.ref fI_BadText))) (e11t1 : PySem.W.typeIn K (.ref fI_BadText) = some (.type "function"))
    (e11l1 : K.lookup fI_BadText = some ⟨e11oc, e11od, .func (PySem.W.fnOf "__init__" "BadText.__init__" (PySem.BadTextX.iA e11p1 e11p2) (PySem.BadTextX.iB e11q1 e11q2 e11q3 e11q4) PySem.BadTextX.iS .none .none e11dc e11pm e11an e11cd e11ct), e11sl⟩) (e11c1 : PySem.W.codeIn K e11cd "BadText.__init__" = true)
    {CE_BadLine fI_BadLine : Addr} {e12nm e12q : Str} {e12N : Addr} {e12bs : List Value} {e12sn : List Str} {e12sub : List Value} {e12ab : Bool} {e12col : Option Bool} {e12dd e12od e12an : Option Addr} {e12m0 e12m1 e12m2 e12m3 e12m5 : Option Value} {e12oc e12dc e12pm e12cd e12ct : Value} {e12sl : Array (Option Value)} {e12p1 e12p2 e12q1 e12q2 e12q3 e12q4 : Pos}
    (e12aC : PySem.W.nsIn K mainGlobals "BadLine" = some (some (.ref CE_BadLine))) (e12ga : PySem.W.findIn K (.ref CE_BadLine) "__getattribute__" = some (some (.builtin "BaseException.__getattribute__"))) (e12gg : PySem.W.findIn K (.ref CE_BadLine) "__getattr__" = some none)
    (e12kC : PySem.W.keepIn K (.ref CE_BadLine) = true) (e12eC : PySem.W.subIn K (.ref CE_BadLine) (.type "BaseException") = some true) (e12tC : PySem.W.typeIn K (.ref CE_BadLine) = some (.type "type")) (e12hC : PySem.W.hasDictIn K CE_BadLine = true) (e12iC : PySem.W.isClsIn K CE_BadLine = true) (e12sC : PySem.W.subIn K (.ref CE_BadLine) (.ref CE_BadLine) = some true)
    (e12ha : PySem.W.findIn K (.ref CE_BadLine) "__class__" = some (some (.builtin "object.__class__"))) (e12hm : PySem.W.mroIn K CE_BadLine (.type "object") = some true) (e12su : PySem.W.subIn K (.ref CE_BadLine) (.ref CE_ModelError) = some true) (e12va : PySem.W.subIn K (.ref CE_BadLine) (.type "ValueError") = some true)
    (e12xL : K.lookup CE_BadLine = some (excClassObj e12nm e12q CE_BadLine e12N e12bs [.ref CE_ModelError, .type "ValueError", .type "Exception", .type "BaseException", .type "object"] true e12sn e12sub e12ab e12col e12dd e12m0 e12m1 e12m2 e12m3 e12m5 "ValueError.__new__"))
    (e12sa : PySem.W.findIn K (.ref CE_BadLine) "__setattr__" = some (some (.builtin "object.__setattr__"))) (e12nb : PySem.W.findIn K (.ref CE_BadLine) "number" = some none)
    (e12a1 : PySem.W.findIn K (.ref CE_BadLine) "__init__" = some (some (.ref fI_BadLine))) (e12t1 : PySem.W.typeIn K (.ref fI_BadLine) = some (.type "function"))
    (e12l1 : K.lookup fI_BadLine = some ⟨e12oc, e12od, .func (PySem.W.fnOf "__init__" "BadLine.__init__" (PySem.BadLineX.iA e12p1 e12p2) (PySem.BadLineX.iB e12q1 e12q2 e12q3 e12q4) PySem.BadLineX.iS .none .none e12dc e12pm e12an e12cd e12ct), e12sl⟩) (e12c1 : PySem.W.codeIn K e12cd "BadLine.__init__" = true)
    (n0_1 : PySem.W.subIn K (.ref CE_NoPart) (.ref CE_NoCell) = some false) (n0_2 : PySem.W.subIn K (.ref CE_NoPart) (.ref CE_NoQueue) = some false) (n0_3 : PySem.W.subIn K (.ref CE_NoPart) (.ref CE_NoLabel) = some false) (n0_4 : PySem.W.subIn K (.ref CE_NoPart) (.ref CE_NoWord) = some false) (n0_5 : PySem.W.subIn K (.ref CE_NoPart) (.ref CE_NoSystem) = some false) (n0_6 : PySem.W.subIn K (.ref CE_NoPart) (.ref CE_NoNumber) = some false) (n0_7 : PySem.W.subIn K (.ref CE_NoPart) (.ref CE_NotReady) = some false) (n0_8 : PySem.W.subIn K (.ref CE_NoPart) (.ref CE_Unfit) = some false) (n0_9 : PySem.W.subIn K (.ref CE_NoPart) (.ref CE_Known) = some false) (n0_10 : PySem.W.subIn K (.ref CE_NoPart) (.ref CE_NothingDone) = some false) (n0_11 : PySem.W.subIn K (.ref CE_NoPart) (.ref CE_BadText) = some false) (n0_12 : PySem.W.subIn K (.ref CE_NoPart) (.ref CE_BadLine) = some false)
    (n1_0 : PySem.W.subIn K (.ref CE_NoCell) (.ref CE_NoPart) = some false) (n1_2 : PySem.W.subIn K (.ref CE_NoCell) (.ref CE_NoQueue) = some false) (n1_3 : PySem.W.subIn K (.ref CE_NoCell) (.ref CE_NoLabel) = some false) (n1_4 : PySem.W.subIn K (.ref CE_NoCell) (.ref CE_NoWord) = some false) (n1_5 : PySem.W.subIn K (.ref CE_NoCell) (.ref CE_NoSystem) = some false) (n1_6 : PySem.W.subIn K (.ref CE_NoCell) (.ref CE_NoNumber) = some false) (n1_7 : PySem.W.subIn K (.ref CE_NoCell) (.ref CE_NotReady) = some false) (n1_8 : PySem.W.subIn K (.ref CE_NoCell) (.ref CE_Unfit) = some false) (n1_9 : PySem.W.subIn K (.ref CE_NoCell) (.ref CE_Known) = some false) (n1_10 : PySem.W.subIn K (.ref CE_NoCell) (.ref CE_NothingDone) = some false) (n1_11 : PySem.W.subIn K (.ref CE_NoCell) (.ref CE_BadText) = some false) (n1_12 : PySem.W.subIn K (.ref CE_NoCell) (.ref CE_BadLine) = some false)
    (n2_0 : PySem.W.subIn K (.ref CE_NoQueue) (.ref CE_NoPart) = some false) (n2_1 : PySem.W.subIn K (.ref CE_NoQueue) (.ref CE_NoCell) = some false) (n2_3 : PySem.W.subIn K (.ref CE_NoQueue) (.ref CE_NoLabel) = some false) (n2_4 : PySem.W.subIn K (.ref CE_NoQueue) (.ref CE_NoWord) = some false) (n2_5 : PySem.W.subIn K (.ref CE_NoQueue) (.ref CE_NoSystem) = some false) (n2_6 : PySem.W.subIn K (.ref CE_NoQueue) (.ref CE_NoNumber) = some false) (n2_7 : PySem.W.subIn K (.ref CE_NoQueue) (.ref CE_NotReady) = some false) (n2_8 : PySem.W.subIn K (.ref CE_NoQueue) (.ref CE_Unfit) = some false) (n2_9 : PySem.W.subIn K (.ref CE_NoQueue) (.ref CE_Known) = some false) (n2_10 : PySem.W.subIn K (.ref CE_NoQueue) (.ref CE_NothingDone) = some false) (n2_11 : PySem.W.subIn K (.ref CE_NoQueue) (.ref CE_BadText) = some false) (n2_12 : PySem.W.subIn K (.ref CE_NoQueue) (.ref CE_BadLine) = some false)
    (n3_0 : PySem.W.subIn K (.ref CE_NoLabel) (.ref CE_NoPart) = some false) (n3_1 : PySem.W.subIn K (.ref CE_NoLabel) (.ref CE_NoCell) = some false) (n3_2 : PySem.W.subIn K (.ref CE_NoLabel) (.ref CE_NoQueue) = some false) (n3_4 : PySem.W.subIn K (.ref CE_NoLabel) (.ref CE_NoWord) = some false) (n3_5 : PySem.W.subIn K (.ref CE_NoLabel) (.ref CE_NoSystem) = some false) (n3_6 : PySem.W.subIn K (.ref CE_NoLabel) (.ref CE_NoNumber) = some false) (n3_7 : PySem.W.subIn K (.ref CE_NoLabel) (.ref CE_NotReady) = some false) (n3_8 : PySem.W.subIn K (.ref CE_NoLabel) (.ref CE_Unfit) = some false) (n3_9 : PySem.W.subIn K (.ref CE_NoLabel) (.ref CE_Known) = some false) (n3_10 : PySem.W.subIn K (.ref CE_NoLabel) (.ref CE_NothingDone) = some false) (n3_11 : PySem.W.subIn K (.ref CE_NoLabel) (.ref CE_BadText) = some false) (n3_12 : PySem.W.subIn K (.ref CE_NoLabel) (.ref CE_BadLine) = some false)
    (n4_0 : PySem.W.subIn K (.ref CE_NoWord) (.ref CE_NoPart) = some false) (n4_1 : PySem.W.subIn K (.ref CE_NoWord) (.ref CE_NoCell) = some false) (n4_2 : PySem.W.subIn K (.ref CE_NoWord) (.ref CE_NoQueue) = some false) (n4_3 : PySem.W.subIn K (.ref CE_NoWord) (.ref CE_NoLabel) = some false) (n4_5 : PySem.W.subIn K (.ref CE_NoWord) (.ref CE_NoSystem) = some false) (n4_6 : PySem.W.subIn K (.ref CE_NoWord) (.ref CE_NoNumber) = some false) (n4_7 : PySem.W.subIn K (.ref CE_NoWord) (.ref CE_NotReady) = some false) (n4_8 : PySem.W.subIn K (.ref CE_NoWord) (.ref CE_Unfit) = some false) (n4_9 : PySem.W.subIn K (.ref CE_NoWord) (.ref CE_Known) = some false) (n4_10 : PySem.W.subIn K (.ref CE_NoWord) (.ref CE_NothingDone) = some false) (n4_11 : PySem.W.subIn K (.ref CE_NoWord) (.ref CE_BadText) = some false) (n4_12 : PySem.W.subIn K (.ref CE_NoWord) (.ref CE_BadLine) = some false)
    (n5_0 : PySem.W.subIn K (.ref CE_NoSystem) (.ref CE_NoPart) = some false) (n5_1 : PySem.W.subIn K (.ref CE_NoSystem) (.ref CE_NoCell) = some false) (n5_2 : PySem.W.subIn K (.ref CE_NoSystem) (.ref CE_NoQueue) = some false) (n5_3 : PySem.W.subIn K (.ref CE_NoSystem) (.ref CE_NoLabel) = some false) (n5_4 : PySem.W.subIn K (.ref CE_NoSystem) (.ref CE_NoWord) = some false) (n5_6 : PySem.W.subIn K (.ref CE_NoSystem) (.ref CE_NoNumber) = some false) (n5_7 : PySem.W.subIn K (.ref CE_NoSystem) (.ref CE_NotReady) = some false) (n5_8 : PySem.W.subIn K (.ref CE_NoSystem) (.ref CE_Unfit) = some false) (n5_9 : PySem.W.subIn K (.ref CE_NoSystem) (.ref CE_Known) = some false) (n5_10 : PySem.W.subIn K (.ref CE_NoSystem) (.ref CE_NothingDone) = some false) (n5_11 : PySem.W.subIn K (.ref CE_NoSystem) (.ref CE_BadText) = some false) (n5_12 : PySem.W.subIn K (.ref CE_NoSystem) (.ref CE_BadLine) = some false)
    (n6_0 : PySem.W.subIn K (.ref CE_NoNumber) (.ref CE_NoPart) = some false) (n6_1 : PySem.W.subIn K (.ref CE_NoNumber) (.ref CE_NoCell) = some false) (n6_2 : PySem.W.subIn K (.ref CE_NoNumber) (.ref CE_NoQueue) = some false) (n6_3 : PySem.W.subIn K (.ref CE_NoNumber) (.ref CE_NoLabel) = some false) (n6_4 : PySem.W.subIn K (.ref CE_NoNumber) (.ref CE_NoWord) = some false) (n6_5 : PySem.W.subIn K (.ref CE_NoNumber) (.ref CE_NoSystem) = some false) (n6_7 : PySem.W.subIn K (.ref CE_NoNumber) (.ref CE_NotReady) = some false) (n6_8 : PySem.W.subIn K (.ref CE_NoNumber) (.ref CE_Unfit) = some false) (n6_9 : PySem.W.subIn K (.ref CE_NoNumber) (.ref CE_Known) = some false) (n6_10 : PySem.W.subIn K (.ref CE_NoNumber) (.ref CE_NothingDone) = some false) (n6_11 : PySem.W.subIn K (.ref CE_NoNumber) (.ref CE_BadText) = some false) (n6_12 : PySem.W.subIn K (.ref CE_NoNumber) (.ref CE_BadLine) = some false)
    (n7_0 : PySem.W.subIn K (.ref CE_NotReady) (.ref CE_NoPart) = some false) (n7_1 : PySem.W.subIn K (.ref CE_NotReady) (.ref CE_NoCell) = some false) (n7_2 : PySem.W.subIn K (.ref CE_NotReady) (.ref CE_NoQueue) = some false) (n7_3 : PySem.W.subIn K (.ref CE_NotReady) (.ref CE_NoLabel) = some false) (n7_4 : PySem.W.subIn K (.ref CE_NotReady) (.ref CE_NoWord) = some false) (n7_5 : PySem.W.subIn K (.ref CE_NotReady) (.ref CE_NoSystem) = some false) (n7_6 : PySem.W.subIn K (.ref CE_NotReady) (.ref CE_NoNumber) = some false) (n7_8 : PySem.W.subIn K (.ref CE_NotReady) (.ref CE_Unfit) = some false) (n7_9 : PySem.W.subIn K (.ref CE_NotReady) (.ref CE_Known) = some false) (n7_10 : PySem.W.subIn K (.ref CE_NotReady) (.ref CE_NothingDone) = some false) (n7_11 : PySem.W.subIn K (.ref CE_NotReady) (.ref CE_BadText) = some false) (n7_12 : PySem.W.subIn K (.ref CE_NotReady) (.ref CE_BadLine) = some false)
    (n8_0 : PySem.W.subIn K (.ref CE_Unfit) (.ref CE_NoPart) = some false) (n8_1 : PySem.W.subIn K (.ref CE_Unfit) (.ref CE_NoCell) = some false) (n8_2 : PySem.W.subIn K (.ref CE_Unfit) (.ref CE_NoQueue) = some false) (n8_3 : PySem.W.subIn K (.ref CE_Unfit) (.ref CE_NoLabel) = some false) (n8_4 : PySem.W.subIn K (.ref CE_Unfit) (.ref CE_NoWord) = some false) (n8_5 : PySem.W.subIn K (.ref CE_Unfit) (.ref CE_NoSystem) = some false) (n8_6 : PySem.W.subIn K (.ref CE_Unfit) (.ref CE_NoNumber) = some false) (n8_7 : PySem.W.subIn K (.ref CE_Unfit) (.ref CE_NotReady) = some false) (n8_9 : PySem.W.subIn K (.ref CE_Unfit) (.ref CE_Known) = some false) (n8_10 : PySem.W.subIn K (.ref CE_Unfit) (.ref CE_NothingDone) = some false) (n8_11 : PySem.W.subIn K (.ref CE_Unfit) (.ref CE_BadText) = some false) (n8_12 : PySem.W.subIn K (.ref CE_Unfit) (.ref CE_BadLine) = some false)
    (n9_0 : PySem.W.subIn K (.ref CE_Known) (.ref CE_NoPart) = some false) (n9_1 : PySem.W.subIn K (.ref CE_Known) (.ref CE_NoCell) = some false) (n9_2 : PySem.W.subIn K (.ref CE_Known) (.ref CE_NoQueue) = some false) (n9_3 : PySem.W.subIn K (.ref CE_Known) (.ref CE_NoLabel) = some false) (n9_4 : PySem.W.subIn K (.ref CE_Known) (.ref CE_NoWord) = some false) (n9_5 : PySem.W.subIn K (.ref CE_Known) (.ref CE_NoSystem) = some false) (n9_6 : PySem.W.subIn K (.ref CE_Known) (.ref CE_NoNumber) = some false) (n9_7 : PySem.W.subIn K (.ref CE_Known) (.ref CE_NotReady) = some false) (n9_8 : PySem.W.subIn K (.ref CE_Known) (.ref CE_Unfit) = some false) (n9_10 : PySem.W.subIn K (.ref CE_Known) (.ref CE_NothingDone) = some false) (n9_11 : PySem.W.subIn K (.ref CE_Known) (.ref CE_BadText) = some false) (n9_12 : PySem.W.subIn K (.ref CE_Known) (.ref CE_BadLine) = some false)
    (n10_0 : PySem.W.subIn K (.ref CE_NothingDone) (.ref CE_NoPart) = some false) (n10_1 : PySem.W.subIn K (.ref CE_NothingDone) (.ref CE_NoCell) = some false) (n10_2 : PySem.W.subIn K (.ref CE_NothingDone) (.ref CE_NoQueue) = some false) (n10_3 : PySem.W.subIn K (.ref CE_NothingDone) (.ref CE_NoLabel) = some false) (n10_4 : PySem.W.subIn K (.ref CE_NothingDone) (.ref CE_NoWord) = some false) (n10_5 : PySem.W.subIn K (.ref CE_NothingDone) (.ref CE_NoSystem) = some false) (n10_6 : PySem.W.subIn K (.ref CE_NothingDone) (.ref CE_NoNumber) = some false) (n10_7 : PySem.W.subIn K (.ref CE_NothingDone) (.ref CE_NotReady) = some false) (n10_8 : PySem.W.subIn K (.ref CE_NothingDone) (.ref CE_Unfit) = some false) (n10_9 : PySem.W.subIn K (.ref CE_NothingDone) (.ref CE_Known) = some false) (n10_11 : PySem.W.subIn K (.ref CE_NothingDone) (.ref CE_BadText) = some false) (n10_12 : PySem.W.subIn K (.ref CE_NothingDone) (.ref CE_BadLine) = some false)
    (n11_0 : PySem.W.subIn K (.ref CE_BadText) (.ref CE_NoPart) = some false) (n11_1 : PySem.W.subIn K (.ref CE_BadText) (.ref CE_NoCell) = some false) (n11_2 : PySem.W.subIn K (.ref CE_BadText) (.ref CE_NoQueue) = some false) (n11_3 : PySem.W.subIn K (.ref CE_BadText) (.ref CE_NoLabel) = some false) (n11_4 : PySem.W.subIn K (.ref CE_BadText) (.ref CE_NoWord) = some false) (n11_5 : PySem.W.subIn K (.ref CE_BadText) (.ref CE_NoSystem) = some false) (n11_6 : PySem.W.subIn K (.ref CE_BadText) (.ref CE_NoNumber) = some false) (n11_7 : PySem.W.subIn K (.ref CE_BadText) (.ref CE_NotReady) = some false) (n11_8 : PySem.W.subIn K (.ref CE_BadText) (.ref CE_Unfit) = some false) (n11_9 : PySem.W.subIn K (.ref CE_BadText) (.ref CE_Known) = some false) (n11_10 : PySem.W.subIn K (.ref CE_BadText) (.ref CE_NothingDone) = some false) (n11_12 : PySem.W.subIn K (.ref CE_BadText) (.ref CE_BadLine) = some false)
    (n12_0 : PySem.W.subIn K (.ref CE_BadLine) (.ref CE_NoPart) = some false) (n12_1 : PySem.W.subIn K (.ref CE_BadLine) (.ref CE_NoCell) = some false) (n12_2 : PySem.W.subIn K (.ref CE_BadLine) (.ref CE_NoQueue) = some false) (n12_3 : PySem.W.subIn K (.ref CE_BadLine) (.ref CE_NoLabel) = some false) (n12_4 : PySem.W.subIn K (.ref CE_BadLine) (.ref CE_NoWord) = some false) (n12_5 : PySem.W.subIn K (.ref CE_BadLine) (.ref CE_NoSystem) = some false) (n12_6 : PySem.W.subIn K (.ref CE_BadLine) (.ref CE_NoNumber) = some false) (n12_7 : PySem.W.subIn K (.ref CE_BadLine) (.ref CE_NotReady) = some false) (n12_8 : PySem.W.subIn K (.ref CE_BadLine) (.ref CE_Unfit) = some false) (n12_9 : PySem.W.subIn K (.ref CE_BadLine) (.ref CE_Known) = some false) (n12_10 : PySem.W.subIn K (.ref CE_BadLine) (.ref CE_NothingDone) = some false) (n12_11 : PySem.W.subIn K (.ref CE_BadLine) (.ref CE_BadText) = some false) :
    ∃ fd : FuncData, (∀ (s : Shared) (v : Value), BindsTo s fd ⟨[v], []⟩ [("script", v)]) ∧ ∀ base : Heap, K.In base → base.Ns mainGlobals mg → FnOk l.prog w K mg base CX0 9 fa fd ["script"] (spLaw K) := by
  have e := hfa.symm.trans (PySem.W.mg_of X G a7)
  cases e
  have T : Txt K mg := ⟨PySem.W.mg_none_of X G z0, PySem.W.mg_none_of X G z1, PySem.W.mg_none_of X G z2, PySem.W.mg_none_of X G z3, PySem.W.mg_none_of X G z4, PySem.W.mg_none_of X G z5, PySem.W.mg_none_of X G z6, PySem.W.mg_none_of X G z7, PySem.W.mg_none_of X G z8, PySem.W.mg_none_of X G z9, PySem.W.mg_none_of X G z10, PySem.W.mg_none_of X G z11, PySem.W.mg_none_of X G z12⟩
  have TX_NoPart : PySem.NoPartX.NoPartTxt K mg CE_NoPart fI_NoPart :=
    { gC := PySem.W.mg_of X G e0aC, cls := ⟨_, _, _, _, _, _, _, _, _, _, _, _, _, _, _, e0xL, (by decide +kernel : PySem.HandSPX.refsVE [.type "ValueError", .type "Exception", .type "BaseException", .type "object"] = true)⟩, sa := e0sa, ga := e0ga, gg := e0gg, noN := e0nb, iC := e0a1, tC := e0t1, kC := e0kC, exC := e0eC, tyC := e0tC, hdC := e0hC, te := DL.exm_self e0eC e0iC e0tC e0sC,
      fn := ⟨_, _, _, _, _, _, _, _, _, _, _, _, _, _, e0l1, e0c1⟩ }
  have V0 : ExcV K CE_NoPart := ⟨e0hC, e0ga, e0gg, e0eC, e0ha, oHN, oHT, e0hm⟩
  have TX_NoCell : PySem.NoCellX.NoCellTxt K mg CE_NoCell fI_NoCell :=
    { gC := PySem.W.mg_of X G e1aC, cls := ⟨_, _, _, _, _, _, _, _, _, _, _, _, _, _, _, e1xL, (by decide +kernel : PySem.HandSPX.refsVE [.type "ValueError", .type "Exception", .type "BaseException", .type "object"] = true)⟩, sa := e1sa, ga := e1ga, gg := e1gg, noN := e1nb, iC := e1a1, tC := e1t1, kC := e1kC, exC := e1eC, tyC := e1tC, hdC := e1hC, te := DL.exm_self e1eC e1iC e1tC e1sC,
      fn := ⟨_, _, _, _, _, _, _, _, _, _, _, _, _, _, e1l1, e1c1⟩ }
  have V1 : ExcV K CE_NoCell := ⟨e1hC, e1ga, e1gg, e1eC, e1ha, oHN, oHT, e1hm⟩
  have TX_NoQueue : PySem.NoQueueX.NoQueueTxt K mg CE_NoQueue fI_NoQueue :=
    { gC := PySem.W.mg_of X G e2aC, cls := ⟨_, _, _, _, _, _, _, _, _, _, _, _, _, _, _, e2xL, (by decide +kernel : PySem.HandSPX.refsVE [.type "ValueError", .type "Exception", .type "BaseException", .type "object"] = true)⟩, sa := e2sa, ga := e2ga, gg := e2gg, noN := e2nb, iC := e2a1, tC := e2t1, kC := e2kC, exC := e2eC, tyC := e2tC, hdC := e2hC, te := DL.exm_self e2eC e2iC e2tC e2sC,
      fn := ⟨_, _, _, _, _, _, _, _, _, _, _, _, _, _, e2l1, e2c1⟩ }
  have V2 : ExcV K CE_NoQueue := ⟨e2hC, e2ga, e2gg, e2eC, e2ha, oHN, oHT, e2hm⟩
  have TX_NoLabel : PySem.NoLabelX.NoLabelTxt K mg CE_NoLabel fI_NoLabel :=
    { gC := PySem.W.mg_of X G e3aC, cls := ⟨_, _, _, _, _, _, _, _, _, _, _, _, _, _, _, e3xL, (by decide +kernel : PySem.HandSPX.refsVE [.type "ValueError", .type "Exception", .type "BaseException", .type "object"] = true)⟩, sa := e3sa, ga := e3ga, gg := e3gg, noN := e3nb, iC := e3a1, tC := e3t1, kC := e3kC, exC := e3eC, tyC := e3tC, hdC := e3hC, te := DL.exm_self e3eC e3iC e3tC e3sC,
      fn := ⟨_, _, _, _, _, _, _, _, _, _, _, _, _, _, e3l1, e3c1⟩ }
  have V3 : ExcV K CE_NoLabel := ⟨e3hC, e3ga, e3gg, e3eC, e3ha, oHN, oHT, e3hm⟩
  have TX_NoWord : PySem.NoWordX.NoWordTxt K mg CE_NoWord fI_NoWord :=
    { gC := PySem.W.mg_of X G e4aC, cls := ⟨_, _, _, _, _, _, _, _, _, _, _, _, _, _, _, e4xL, (by decide +kernel : PySem.HandSPX.refsVE [.type "ValueError", .type "Exception", .type "BaseException", .type "object"] = true)⟩, sa := e4sa, ga := e4ga, gg := e4gg, noN := e4nb, iC := e4a1, tC := e4t1, kC := e4kC, exC := e4eC, tyC := e4tC, hdC := e4hC, te := DL.exm_self e4eC e4iC e4tC e4sC,
      fn := ⟨_, _, _, _, _, _, _, _, _, _, _, _, _, _, e4l1, e4c1⟩ }
  have V4 : ExcV K CE_NoWord := ⟨e4hC, e4ga, e4gg, e4eC, e4ha, oHN, oHT, e4hm⟩
  have TX_NoSystem : PySem.NoSystemX.NoSystemTxt K mg CE_NoSystem fI_NoSystem :=
    { gC := PySem.W.mg_of X G e5aC, cls := ⟨_, _, _, _, _, _, _, _, _, _, _, _, _, _, _, e5xL, (by decide +kernel : PySem.HandSPX.refsVE [.type "ValueError", .type "Exception", .type "BaseException", .type "object"] = true)⟩, sa := e5sa, ga := e5ga, gg := e5gg, noN := e5nb, iC := e5a1, tC := e5t1, kC := e5kC, exC := e5eC, tyC := e5tC, hdC := e5hC, te := DL.exm_self e5eC e5iC e5tC e5sC,
      fn := ⟨_, _, _, _, _, _, _, _, _, _, _, _, _, _, e5l1, e5c1⟩ }
  have V5 : ExcV K CE_NoSystem := ⟨e5hC, e5ga, e5gg, e5eC, e5ha, oHN, oHT, e5hm⟩
  have TX_NoNumber : PySem.NoNumberX.NoNumberTxt K mg CE_NoNumber fI_NoNumber :=
    { gC := PySem.W.mg_of X G e6aC, cls := ⟨_, _, _, _, _, _, _, _, _, _, _, _, _, _, _, e6xL, (by decide +kernel : PySem.HandSPX.refsVE [.type "ValueError", .type "Exception", .type "BaseException", .type "object"] = true)⟩, sa := e6sa, ga := e6ga, gg := e6gg, noN := e6nb, iC := e6a1, tC := e6t1, kC := e6kC, exC := e6eC, tyC := e6tC, hdC := e6hC, te := DL.exm_self e6eC e6iC e6tC e6sC,
      fn := ⟨_, _, _, _, _, _, _, _, _, _, _, _, _, _, e6l1, e6c1⟩ }
  have V6 : ExcV K CE_NoNumber := ⟨e6hC, e6ga, e6gg, e6eC, e6ha, oHN, oHT, e6hm⟩
  have gx_NotReady := PySem.W.mg_of X G e7aC
  have V7 : ExcV K CE_NotReady := ⟨e7hC, e7ga, e7gg, e7eC, e7ha, oHN, oHT, e7hm⟩
  have gx_Unfit := PySem.W.mg_of X G e8aC
  have V8 : ExcV K CE_Unfit := ⟨e8hC, e8ga, e8gg, e8eC, e8ha, oHN, oHT, e8hm⟩
  have TX_Known : PySem.KnownX.KnownTxt K mg CE_Known fI_Known :=
    { gC := PySem.W.mg_of X G e9aC, cls := ⟨_, _, _, _, _, _, _, _, _, _, _, _, _, _, _, e9xL, (by decide +kernel : PySem.HandSPX.refsVE [.type "ValueError", .type "Exception", .type "BaseException", .type "object"] = true)⟩, sa := e9sa, ga := e9ga, gg := e9gg, noN := e9nb, iC := e9a1, tC := e9t1, kC := e9kC, exC := e9eC, tyC := e9tC, hdC := e9hC, te := DL.exm_self e9eC e9iC e9tC e9sC,
      fn := ⟨_, _, _, _, _, _, _, _, _, _, _, _, _, _, e9l1, e9c1⟩ }
  have V9 : ExcV K CE_Known := ⟨e9hC, e9ga, e9gg, e9eC, e9ha, oHN, oHT, e9hm⟩
  have gx_NothingDone := PySem.W.mg_of X G e10aC
  have V10 : ExcV K CE_NothingDone := ⟨e10hC, e10ga, e10gg, e10eC, e10ha, oHN, oHT, e10hm⟩
  have TX_BadText : PySem.BadTextX.BadTextTxt K mg CE_BadText fI_BadText :=
    { gC := PySem.W.mg_of X G e11aC, cls := ⟨_, _, _, _, _, _, _, _, _, _, _, _, _, _, _, e11xL, (by decide +kernel : PySem.HandSPX.refsVE [.type "ValueError", .type "Exception", .type "BaseException", .type "object"] = true)⟩, sa := e11sa, ga := e11ga, gg := e11gg, noN := e11nb, iC := e11a1, tC := e11t1, kC := e11kC, exC := e11eC, tyC := e11tC, hdC := e11hC, te := DL.exm_self e11eC e11iC e11tC e11sC,
      fn := ⟨_, _, _, _, _, _, _, _, _, _, _, _, _, _, e11l1, e11c1⟩ }
  have V11 : ExcV K CE_BadText := ⟨e11hC, e11ga, e11gg, e11eC, e11ha, oHN, oHT, e11hm⟩
  have TX_BadLine : PySem.BadLineX.BadLineTxt K mg CE_BadLine fI_BadLine :=
    { gC := PySem.W.mg_of X G e12aC, cls := ⟨_, _, _, _, _, _, _, _, _, _, _, _, _, _, _, e12xL, (by decide +kernel : PySem.HandSPX.refsVE [.type "ValueError", .type "Exception", .type "BaseException", .type "object"] = true)⟩, sa := e12sa, ga := e12ga, gg := e12gg, noN := e12nb, iC := e12a1, tC := e12t1, kC := e12kC, exC := e12eC, tyC := e12tC, hdC := e12hC, te := DL.exm_self e12eC e12iC e12tC e12sC,
      fn := ⟨_, _, _, _, _, _, _, _, _, _, _, _, _, _, e12l1, e12c1⟩ }
  have V12 : ExcV K CE_BadLine := ⟨e12hC, e12ga, e12gg, e12eC, e12ha, oHN, oHT, e12hm⟩
  have mB_ModelError := PySem.W.mg_of X G mAC
  have R0 := look13 (P := fun j b => PySem.W.kitOne K (.ref CE_NoPart) (.ref b) = some (decide (0 = j))) (DL.kit_self) (DL.kit_not e1iC e1tC n0_1 e1sC) (DL.kit_not e2iC e2tC n0_2 e2sC) (DL.kit_not e3iC e3tC n0_3 e3sC) (DL.kit_not e4iC e4tC n0_4 e4sC) (DL.kit_not e5iC e5tC n0_5 e5sC) (DL.kit_not e6iC e6tC n0_6 e6sC) (DL.kit_not e7iC e7tC n0_7 e7sC) (DL.kit_not e8iC e8tC n0_8 e8sC) (DL.kit_not e9iC e9tC n0_9 e9sC) (DL.kit_not e10iC e10tC n0_10 e10sC) (DL.kit_not e11iC e11tC n0_11 e11sC) (DL.kit_not e12iC e12tC n0_12 e12sC)
  have R1 := look13 (P := fun j b => PySem.W.kitOne K (.ref CE_NoCell) (.ref b) = some (decide (1 = j))) (DL.kit_not e0iC e0tC n1_0 e0sC) (DL.kit_self) (DL.kit_not e2iC e2tC n1_2 e2sC) (DL.kit_not e3iC e3tC n1_3 e3sC) (DL.kit_not e4iC e4tC n1_4 e4sC) (DL.kit_not e5iC e5tC n1_5 e5sC) (DL.kit_not e6iC e6tC n1_6 e6sC) (DL.kit_not e7iC e7tC n1_7 e7sC) (DL.kit_not e8iC e8tC n1_8 e8sC) (DL.kit_not e9iC e9tC n1_9 e9sC) (DL.kit_not e10iC e10tC n1_10 e10sC) (DL.kit_not e11iC e11tC n1_11 e11sC) (DL.kit_not e12iC e12tC n1_12 e12sC)
  have R2 := look13 (P := fun j b => PySem.W.kitOne K (.ref CE_NoQueue) (.ref b) = some (decide (2 = j))) (DL.kit_not e0iC e0tC n2_0 e0sC) (DL.kit_not e1iC e1tC n2_1 e1sC) (DL.kit_self) (DL.kit_not e3iC e3tC n2_3 e3sC) (DL.kit_not e4iC e4tC n2_4 e4sC) (DL.kit_not e5iC e5tC n2_5 e5sC) (DL.kit_not e6iC e6tC n2_6 e6sC) (DL.kit_not e7iC e7tC n2_7 e7sC) (DL.kit_not e8iC e8tC n2_8 e8sC) (DL.kit_not e9iC e9tC n2_9 e9sC) (DL.kit_not e10iC e10tC n2_10 e10sC) (DL.kit_not e11iC e11tC n2_11 e11sC) (DL.kit_not e12iC e12tC n2_12 e12sC)
  have R3 := look13 (P := fun j b => PySem.W.kitOne K (.ref CE_NoLabel) (.ref b) = some (decide (3 = j))) (DL.kit_not e0iC e0tC n3_0 e0sC) (DL.kit_not e1iC e1tC n3_1 e1sC) (DL.kit_not e2iC e2tC n3_2 e2sC) (DL.kit_self) (DL.kit_not e4iC e4tC n3_4 e4sC) (DL.kit_not e5iC e5tC n3_5 e5sC) (DL.kit_not e6iC e6tC n3_6 e6sC) (DL.kit_not e7iC e7tC n3_7 e7sC) (DL.kit_not e8iC e8tC n3_8 e8sC) (DL.kit_not e9iC e9tC n3_9 e9sC) (DL.kit_not e10iC e10tC n3_10 e10sC) (DL.kit_not e11iC e11tC n3_11 e11sC) (DL.kit_not e12iC e12tC n3_12 e12sC)
  have R4 := look13 (P := fun j b => PySem.W.kitOne K (.ref CE_NoWord) (.ref b) = some (decide (4 = j))) (DL.kit_not e0iC e0tC n4_0 e0sC) (DL.kit_not e1iC e1tC n4_1 e1sC) (DL.kit_not e2iC e2tC n4_2 e2sC) (DL.kit_not e3iC e3tC n4_3 e3sC) (DL.kit_self) (DL.kit_not e5iC e5tC n4_5 e5sC) (DL.kit_not e6iC e6tC n4_6 e6sC) (DL.kit_not e7iC e7tC n4_7 e7sC) (DL.kit_not e8iC e8tC n4_8 e8sC) (DL.kit_not e9iC e9tC n4_9 e9sC) (DL.kit_not e10iC e10tC n4_10 e10sC) (DL.kit_not e11iC e11tC n4_11 e11sC) (DL.kit_not e12iC e12tC n4_12 e12sC)
  have R5 := look13 (P := fun j b => PySem.W.kitOne K (.ref CE_NoSystem) (.ref b) = some (decide (5 = j))) (DL.kit_not e0iC e0tC n5_0 e0sC) (DL.kit_not e1iC e1tC n5_1 e1sC) (DL.kit_not e2iC e2tC n5_2 e2sC) (DL.kit_not e3iC e3tC n5_3 e3sC) (DL.kit_not e4iC e4tC n5_4 e4sC) (DL.kit_self) (DL.kit_not e6iC e6tC n5_6 e6sC) (DL.kit_not e7iC e7tC n5_7 e7sC) (DL.kit_not e8iC e8tC n5_8 e8sC) (DL.kit_not e9iC e9tC n5_9 e9sC) (DL.kit_not e10iC e10tC n5_10 e10sC) (DL.kit_not e11iC e11tC n5_11 e11sC) (DL.kit_not e12iC e12tC n5_12 e12sC)
  have R6 := look13 (P := fun j b => PySem.W.kitOne K (.ref CE_NoNumber) (.ref b) = some (decide (6 = j))) (DL.kit_not e0iC e0tC n6_0 e0sC) (DL.kit_not e1iC e1tC n6_1 e1sC) (DL.kit_not e2iC e2tC n6_2 e2sC) (DL.kit_not e3iC e3tC n6_3 e3sC) (DL.kit_not e4iC e4tC n6_4 e4sC) (DL.kit_not e5iC e5tC n6_5 e5sC) (DL.kit_self) (DL.kit_not e7iC e7tC n6_7 e7sC) (DL.kit_not e8iC e8tC n6_8 e8sC) (DL.kit_not e9iC e9tC n6_9 e9sC) (DL.kit_not e10iC e10tC n6_10 e10sC) (DL.kit_not e11iC e11tC n6_11 e11sC) (DL.kit_not e12iC e12tC n6_12 e12sC)
  have R7 := look13 (P := fun j b => PySem.W.kitOne K (.ref CE_NotReady) (.ref b) = some (decide (7 = j))) (DL.kit_not e0iC e0tC n7_0 e0sC) (DL.kit_not e1iC e1tC n7_1 e1sC) (DL.kit_not e2iC e2tC n7_2 e2sC) (DL.kit_not e3iC e3tC n7_3 e3sC) (DL.kit_not e4iC e4tC n7_4 e4sC) (DL.kit_not e5iC e5tC n7_5 e5sC) (DL.kit_not e6iC e6tC n7_6 e6sC) (DL.kit_self) (DL.kit_not e8iC e8tC n7_8 e8sC) (DL.kit_not e9iC e9tC n7_9 e9sC) (DL.kit_not e10iC e10tC n7_10 e10sC) (DL.kit_not e11iC e11tC n7_11 e11sC) (DL.kit_not e12iC e12tC n7_12 e12sC)
  have R8 := look13 (P := fun j b => PySem.W.kitOne K (.ref CE_Unfit) (.ref b) = some (decide (8 = j))) (DL.kit_not e0iC e0tC n8_0 e0sC) (DL.kit_not e1iC e1tC n8_1 e1sC) (DL.kit_not e2iC e2tC n8_2 e2sC) (DL.kit_not e3iC e3tC n8_3 e3sC) (DL.kit_not e4iC e4tC n8_4 e4sC) (DL.kit_not e5iC e5tC n8_5 e5sC) (DL.kit_not e6iC e6tC n8_6 e6sC) (DL.kit_not e7iC e7tC n8_7 e7sC) (DL.kit_self) (DL.kit_not e9iC e9tC n8_9 e9sC) (DL.kit_not e10iC e10tC n8_10 e10sC) (DL.kit_not e11iC e11tC n8_11 e11sC) (DL.kit_not e12iC e12tC n8_12 e12sC)
  have R9 := look13 (P := fun j b => PySem.W.kitOne K (.ref CE_Known) (.ref b) = some (decide (9 = j))) (DL.kit_not e0iC e0tC n9_0 e0sC) (DL.kit_not e1iC e1tC n9_1 e1sC) (DL.kit_not e2iC e2tC n9_2 e2sC) (DL.kit_not e3iC e3tC n9_3 e3sC) (DL.kit_not e4iC e4tC n9_4 e4sC) (DL.kit_not e5iC e5tC n9_5 e5sC) (DL.kit_not e6iC e6tC n9_6 e6sC) (DL.kit_not e7iC e7tC n9_7 e7sC) (DL.kit_not e8iC e8tC n9_8 e8sC) (DL.kit_self) (DL.kit_not e10iC e10tC n9_10 e10sC) (DL.kit_not e11iC e11tC n9_11 e11sC) (DL.kit_not e12iC e12tC n9_12 e12sC)
  have R10 := look13 (P := fun j b => PySem.W.kitOne K (.ref CE_NothingDone) (.ref b) = some (decide (10 = j))) (DL.kit_not e0iC e0tC n10_0 e0sC) (DL.kit_not e1iC e1tC n10_1 e1sC) (DL.kit_not e2iC e2tC n10_2 e2sC) (DL.kit_not e3iC e3tC n10_3 e3sC) (DL.kit_not e4iC e4tC n10_4 e4sC) (DL.kit_not e5iC e5tC n10_5 e5sC) (DL.kit_not e6iC e6tC n10_6 e6sC) (DL.kit_not e7iC e7tC n10_7 e7sC) (DL.kit_not e8iC e8tC n10_8 e8sC) (DL.kit_not e9iC e9tC n10_9 e9sC) (DL.kit_self) (DL.kit_not e11iC e11tC n10_11 e11sC) (DL.kit_not e12iC e12tC n10_12 e12sC)
  have R11 := look13 (P := fun j b => PySem.W.kitOne K (.ref CE_BadText) (.ref b) = some (decide (11 = j))) (DL.kit_not e0iC e0tC n11_0 e0sC) (DL.kit_not e1iC e1tC n11_1 e1sC) (DL.kit_not e2iC e2tC n11_2 e2sC) (DL.kit_not e3iC e3tC n11_3 e3sC) (DL.kit_not e4iC e4tC n11_4 e4sC) (DL.kit_not e5iC e5tC n11_5 e5sC) (DL.kit_not e6iC e6tC n11_6 e6sC) (DL.kit_not e7iC e7tC n11_7 e7sC) (DL.kit_not e8iC e8tC n11_8 e8sC) (DL.kit_not e9iC e9tC n11_9 e9sC) (DL.kit_not e10iC e10tC n11_10 e10sC) (DL.kit_self) (DL.kit_not e12iC e12tC n11_12 e12sC)
  have R12 := look13 (P := fun j b => PySem.W.kitOne K (.ref CE_BadLine) (.ref b) = some (decide (12 = j))) (DL.kit_not e0iC e0tC n12_0 e0sC) (DL.kit_not e1iC e1tC n12_1 e1sC) (DL.kit_not e2iC e2tC n12_2 e2sC) (DL.kit_not e3iC e3tC n12_3 e3sC) (DL.kit_not e4iC e4tC n12_4 e4sC) (DL.kit_not e5iC e5tC n12_5 e5sC) (DL.kit_not e6iC e6tC n12_6 e6sC) (DL.kit_not e7iC e7tC n12_7 e7sC) (DL.kit_not e8iC e8tC n12_8 e8sC) (DL.kit_not e9iC e9tC n12_9 e9sC) (DL.kit_not e10iC e10tC n12_10 e10sC) (DL.kit_not e11iC e11tC n12_11 e11sC) (DL.kit_self)
  have KD : Kinds K [CE_NoPart, CE_NoCell, CE_NoQueue, CE_NoLabel, CE_NoWord, CE_NoSystem, CE_NoNumber, CE_NotReady, CE_Unfit, CE_Known, CE_NothingDone, CE_BadText, CE_BadLine] CE_ModelError := ⟨fun i j a b hi hj => look13 (P := fun i a => ∀ j b, ([CE_NoPart, CE_NoCell, CE_NoQueue, CE_NoLabel, CE_NoWord, CE_NoSystem, CE_NoNumber, CE_NotReady, CE_Unfit, CE_Known, CE_NothingDone, CE_BadText, CE_BadLine] : List Addr)[j]? = some b → PySem.W.kitOne K (.ref a) (.ref b) = some (decide (i = j))) R0 R1 R2 R3 R4 R5 R6 R7 R8 R9 R10 R11 R12 i a hi j b hj, look13 (P := fun _ a => ExcV K a) V0 V1 V2 V3 V4 V5 V6 V7 V8 V9 V10 V11 V12, look13 (P := fun _ a => PySem.W.kitOne K (.ref a) (.ref CE_ModelError) = some true) (DL.kit_sub mIS mTY e0su) (DL.kit_sub mIS mTY e1su) (DL.kit_sub mIS mTY e2su) (DL.kit_sub mIS mTY e3su) (DL.kit_sub mIS mTY e4su) (DL.kit_sub mIS mTY e5su) (DL.kit_sub mIS mTY e6su) (DL.kit_sub mIS mTY e7su) (DL.kit_sub mIS mTY e8su) (DL.kit_sub mIS mTY e9su) (DL.kit_sub mIS mTY e10su) (DL.kit_sub mIS mTY e11su) (DL.kit_sub mIS mTY e12su), look13 (P := fun _ a => PySem.W.kitOne K (.ref a) (.type "ValueError") = some true) (DL.kit_val e0va) (DL.kit_val e1va) (DL.kit_val e2va) (DL.kit_val e3va) (DL.kit_val e4va) (DL.kit_val e5va) (DL.kit_val e6va) (DL.kit_val e7va) (DL.kit_val e8va) (DL.kit_val e9va) (DL.kit_val e10va) (DL.kit_val e11va) (DL.kit_val e12va)⟩
  have F0 := fun_mk (st := s__law_take) l0 c0 k0
  have b0 := F0.binds (ps := ["box", "size_so"]) fun _ _ _ _ _ _ us hl => match us, hl with | [_, _], _ => rfl
  have F1 := fun_mk (st := s__law_box) l1 c1 k1
  have b1 := F1.binds (ps := ["script", "k"]) fun _ _ _ _ _ _ us hl => match us, hl with | [_, _], _ => rfl
  have F2 := fun_mk (st := s__law_cells) l2 c2 k2
  have b2 := F2.binds (ps := ["script", "top_so"]) fun _ _ _ _ _ _ us hl => match us, hl with | [_, _], _ => rfl
  have F3 := fun_mk (st := s__law_of) l3 c3 k3
  have b3 := F3.binds (ps := ["box", "goods_so"]) fun _ _ _ _ _ _ us hl => match us, hl with | [_, _], _ => rfl
  have F4 := fun_mk (st := s__law_same) l4 c4 k4
  have b4 := F4.binds (ps := ["got", "due"]) fun _ _ _ _ _ _ us hl => match us, hl with | [_, _], _ => rfl
  have F5 := fun_mk (st := s__law_sorts) l5 c5 k5
  have b5 := F5.binds (ps := ["caught"]) fun _ _ _ _ _ _ us hl => match us, hl with | [_], _ => rfl
  have F6 := fun_mk (st := s__law_right) l6 c6 k6
  have b6 := F6.binds (ps := ["box"]) fun _ _ _ _ _ _ us hl => match us, hl with | [_], _ => rfl
  have F7 := fun_mk (st := s_law) l7 c7 k7
  have b7 := F7.binds (ps := ["script"]) fun _ _ _ _ _ _ us hl => match us, hl with | [_], _ => rfl
  refine ⟨PySem.W.fnOf "law" "law" (defArgs s_law) (defBody s_law) (defScope s_law) .none kV7 dc7 pm7 an7 cd7 ct7, fun s v => .of_eq rfl, fun base _ _ => ?_⟩
  have G0 : FnOk l.prog w K mg base CX0 1 f0 _ ["box", "size_so"] (spS K (S_take)) := fn_ok (k := 0) F0 sc__law_take (fun as R h => by obtain ⟨_, _, _, rfl, _⟩ := h; rfl) (fun cdv A outer s H E hr => d__law_take T  hr) (fun as R h => w_take h)
  have C0 := fn_cal (PySem.W.mg_of X G a0) F0 b0 G0
  have G1 : FnOk l.prog w K mg base CX0 1 f1 _ ["script", "k"] (spS K (S_box)) := fn_ok (k := 0) F1 sc__law_box (fun as R h => by obtain ⟨_, _, rfl, _⟩ := h; rfl) (fun cdv A outer s H E hr => d__law_box T  hr) (fun as R h => w_box h)
  have C1 := fn_cal (PySem.W.mg_of X G a1) F1 b1 G1
  have G2 : FnOk l.prog w K mg base CX0 1 f2 _ ["script", "top_so"] (spS K (S_cells)) := fn_ok (k := 0) F2 sc__law_cells (fun as R h => by obtain ⟨_, _, rfl, _⟩ := h; rfl) (fun cdv A outer s H E hr => d__law_cells T  hr) (fun as R h => w_cells h)
  have C2 := fn_cal (PySem.W.mg_of X G a2) F2 b2 G2
  have G3 : FnOk l.prog w K mg base CX0 2 f3 _ ["box", "goods_so"] (spS K (S_of)) := fn_ok (k := 1) F3 sc__law_of (fun as R h => by obtain ⟨_, _, _, rfl, _⟩ := h; rfl) (fun cdv A outer s H E hr => d__law_of T (C0.mono (by decide)) hr) (fun as R h => w_of h)
  have C3 := fn_cal (PySem.W.mg_of X G a3) F3 b3 G3
  have GI4 : ∀ n : Nat, FnOk l.prog w K mg base CX0 (0 + n + 1) f4 (PySem.W.fnOf "_law_same" "_law_same" (defArgs s__law_same) (defBody s__law_same) (defScope s__law_same) .none kV4 dc4 pm4 an4 cd4 ct4) ["got", "due"] (spS K (S_same n)) := by
    intro n
    induction n with
    | zero => exact fn_ok (k := 0) F4 sc__law_same (fun as R h => by obtain ⟨_, _, rfl, _⟩ := h; rfl) (fun cdv A outer s H E hr => d__law_same T (fn_cal (PySem.W.mg_of X G a4) F4 b4 (fn_no (k := 0))) hr) (fun as R h => w_same0 h)
    | succ n ih => exact fn_ok (k := 0 + n + 1) F4 sc__law_same (fun as R h => by obtain ⟨_, _, rfl, _⟩ := h; rfl) (fun cdv A outer s H E hr => d__law_same T (fn_cal (PySem.W.mg_of X G a4) F4 b4 ih) hr) (fun as R h => w_same h)
  have G4 := GI4 6
  have C4 := fn_cal (PySem.W.mg_of X G a4) F4 b4 G4
  have G5 : FnOk l.prog w K mg base CX0 1 f5 _ ["caught"] (spS K (S_sorts K [CE_NoPart, CE_NoCell, CE_NoQueue, CE_NoLabel, CE_NoWord, CE_NoSystem, CE_NoNumber, CE_NotReady, CE_Unfit, CE_Known, CE_NothingDone, CE_BadText, CE_BadLine] CE_ModelError)) := fn_ok (k := 0) F5 sc__law_sorts (fun as R h => by obtain ⟨_, _, _, rfl, _⟩ := h; rfl) (fun cdv A outer s H E hr => d__law_sorts T TX_NoPart TX_NoCell TX_NoQueue TX_NoLabel TX_NoWord TX_NoSystem TX_NoNumber TX_Known TX_BadText TX_BadLine e7qx gx_NotReady e7kC e8qx gx_Unfit e8kC e10qx gx_NothingDone e10kC hr) (fun as R h => w_sorts h)
  have C5 := fn_cal (PySem.W.mg_of X G a5) F5 b5 G5
  have G6 : FnOk l.prog w K mg base CX0 8 f6 _ ["box"] (spS K (S_right)) := fn_ok (k := 7) F6 sc__law_right (fun as R h => by obtain ⟨_, rfl, _⟩ := h; rfl) (fun cdv A outer s H E hr => d__law_right T TX_NoPart TX_NoCell TX_NoQueue TX_NoLabel TX_NoWord TX_NoSystem TX_NoNumber TX_Known TX_BadText TX_BadLine e7qx gx_NotReady e7kC e8qx gx_Unfit e8kC e10qx gx_NothingDone e10kC mB_ModelError (C0.mono (by decide)) (C3.mono (by decide)) (C4.mono (by decide)) (C5.mono (by decide)) hr) (fun as R h => w_right KD h)
  have C6 := fn_cal (PySem.W.mg_of X G a6) F6 b6 G6
  have G7 : FnOk l.prog w K mg base CX0 9 fa _ ["script"] (spS K (sLaw)) := fn_ok (k := 8) F7 sc_law (fun as R h => by obtain ⟨_, _, rfl, _⟩ := h; rfl) (fun cdv A outer s H E hr => d_law T (C2.mono (by decide)) (C6.mono (by decide)) (C1.mono (by decide)) hr) (fun as R h => w_law h)
  exact fn_law G7
end K00

open PySem PySem.W PyProof.Rows
set_option maxHeartbeats 0 in
theorem PySem.Challenge.cw_runclaims_k00_errors_holds : PySem.Challenge.rw_runclaims_k00_errors.Holds := by
  w_on; o_law; k_head; (case hw => w_witness2)
  k_fill
  refine L2.walk_of (l := PySem.Challenge.rw_runclaims_k00_errors) (n := 63) (k := 9) (x := "script") (CX := fun _ => L2.CX0) (sp := fun w => DL.spLaw _) rfl (by decide) rfl ⟨rfl, by decide, by decide⟩ (fun w h Y => PySem.W.kIn_of Y) ?F (fun _ _ a ns hl _ hS => ⟨a, ns, rfl, hS, hl, fun _ => rfl⟩) (fun _ _ _ _ _ h => h)
  case F =>
    intro w mg fa h KX G hmg
    refine' K00.all_mk KX G hmg ?a0 ?l0 ?c0 ?k0 ?a1 ?l1 ?c1 ?k1 ?a2 ?l2 ?c2 ?k2 ?a3 ?l3 ?c3 ?k3 ?a4 ?l4 ?c4 ?k4 ?a5 ?l5 ?c5 ?k5 ?a6 ?l6 ?c6 ?k6 ?a7 ?l7 ?c7 ?k7 ?z0 ?z1 ?z2 ?z3 ?z4 ?z5 ?z6 ?z7 ?z8 ?z9 ?z10 ?z11 ?z12 ?mAC ?mIS ?mTY ?oHN ?oHT ?e0aC ?e0ga ?e0gg ?e0kC ?e0eC ?e0tC ?e0hC ?e0iC ?e0sC ?e0ha ?e0hm ?e0su ?e0va ?e0xL ?e0sa ?e0nb ?e0a1 ?e0t1 ?e0l1 ?e0c1 ?e1aC ?e1ga ?e1gg ?e1kC ?e1eC ?e1tC ?e1hC ?e1iC ?e1sC ?e1ha ?e1hm ?e1su ?e1va ?e1xL ?e1sa ?e1nb ?e1a1 ?e1t1 ?e1l1 ?e1c1 ?e2aC ?e2ga ?e2gg ?e2kC ?e2eC ?e2tC ?e2hC ?e2iC ?e2sC ?e2ha ?e2hm ?e2su ?e2va ?e2xL ?e2sa ?e2nb ?e2a1 ?e2t1 ?e2l1 ?e2c1 ?e3aC ?e3ga ?e3gg ?e3kC ?e3eC ?e3tC ?e3hC ?e3iC ?e3sC ?e3ha ?e3hm ?e3su ?e3va ?e3xL ?e3sa ?e3nb ?e3a1 ?e3t1 ?e3l1 ?e3c1 ?e4aC ?e4ga ?e4gg ?e4kC ?e4eC ?e4tC ?e4hC ?e4iC ?e4sC ?e4ha ?e4hm ?e4su ?e4va ?e4xL ?e4sa ?e4nb ?e4a1 ?e4t1 ?e4l1 ?e4c1 ?e5aC ?e5ga ?e5gg ?e5kC ?e5eC ?e5tC ?e5hC ?e5iC ?e5sC ?e5ha ?e5hm ?e5su ?e5va ?e5xL ?e5sa ?e5nb ?e5a1 ?e5t1 ?e5l1 ?e5c1 ?e6aC ?e6ga ?e6gg ?e6kC ?e6eC ?e6tC ?e6hC ?e6iC ?e6sC ?e6ha ?e6hm ?e6su ?e6va ?e6xL ?e6sa ?e6nb ?e6a1 ?e6t1 ?e6l1 ?e6c1 ?e7aC ?e7ga ?e7gg ?e7kC ?e7eC ?e7tC ?e7hC ?e7iC ?e7sC ?e7ha ?e7hm ?e7su ?e7va ?e7qx ?e8aC ?e8ga ?e8gg ?e8kC ?e8eC ?e8tC ?e8hC ?e8iC ?e8sC ?e8ha ?e8hm ?e8su ?e8va ?e8qx ?e9aC ?e9ga ?e9gg ?e9kC ?e9eC ?e9tC ?e9hC ?e9iC ?e9sC ?e9ha ?e9hm ?e9su ?e9va ?e9xL ?e9sa ?e9nb ?e9a1 ?e9t1 ?e9l1 ?e9c1 ?e10aC ?e10ga ?e10gg ?e10kC ?e10eC ?e10tC ?e10hC ?e10iC ?e10sC ?e10ha ?e10hm ?e10su ?e10va ?e10qx ?e11aC ?e11ga ?e11gg ?e11kC ?e11eC ?e11tC ?e11hC ?e11iC ?e11sC ?e11ha ?e11hm ?e11su ?e11va ?e11xL ?e11sa ?e11nb ?e11a1 ?e11t1 ?e11l1 ?e11c1 ?e12aC ?e12ga ?e12gg ?e12kC ?e12eC ?e12tC ?e12hC ?e12iC ?e12sC ?e12ha ?e12hm ?e12su ?e12va ?e12xL ?e12sa ?e12nb ?e12a1 ?e12t1 ?e12l1 ?e12c1 ?n0_1 ?n0_2 ?n0_3 ?n0_4 ?n0_5 ?n0_6 ?n0_7 ?n0_8 ?n0_9 ?n0_10 ?n0_11 ?n0_12 ?n1_0 ?n1_2 ?n1_3 ?n1_4 ?n1_5 ?n1_6 ?n1_7 ?n1_8 ?n1_9 ?n1_10 ?n1_11 ?n1_12 ?n2_0 ?n2_1 ?n2_3 ?n2_4 ?n2_5 ?n2_6 ?n2_7 ?n2_8 ?n2_9 ?n2_10 ?n2_11 ?n2_12 ?n3_0 ?n3_1 ?n3_2 ?n3_4 ?n3_5 ?n3_6 ?n3_7 ?n3_8 ?n3_9 ?n3_10 ?n3_11 ?n3_12 ?n4_0 ?n4_1 ?n4_2 ?n4_3 ?n4_5 ?n4_6 ?n4_7 ?n4_8 ?n4_9 ?n4_10 ?n4_11 ?n4_12 ?n5_0 ?n5_1 ?n5_2 ?n5_3 ?n5_4 ?n5_6 ?n5_7 ?n5_8 ?n5_9 ?n5_10 ?n5_11 ?n5_12 ?n6_0 ?n6_1 ?n6_2 ?n6_3 ?n6_4 ?n6_5 ?n6_7 ?n6_8 ?n6_9 ?n6_10 ?n6_11 ?n6_12 ?n7_0 ?n7_1 ?n7_2 ?n7_3 ?n7_4 ?n7_5 ?n7_6 ?n7_8 ?n7_9 ?n7_10 ?n7_11 ?n7_12 ?n8_0 ?n8_1 ?n8_2 ?n8_3 ?n8_4 ?n8_5 ?n8_6 ?n8_7 ?n8_9 ?n8_10 ?n8_11 ?n8_12 ?n9_0 ?n9_1 ?n9_2 ?n9_3 ?n9_4 ?n9_5 ?n9_6 ?n9_7 ?n9_8 ?n9_10 ?n9_11 ?n9_12 ?n10_0 ?n10_1 ?n10_2 ?n10_3 ?n10_4 ?n10_5 ?n10_6 ?n10_7 ?n10_8 ?n10_9 ?n10_11 ?n10_12 ?n11_0 ?n11_1 ?n11_2 ?n11_3 ?n11_4 ?n11_5 ?n11_6 ?n11_7 ?n11_8 ?n11_9 ?n11_10 ?n11_12 ?n12_0 ?n12_1 ?n12_2 ?n12_3 ?n12_4 ?n12_5 ?n12_6 ?n12_7 ?n12_8 ?n12_9 ?n12_10 ?n12_11
    (case a0 => k_is); (case l0 => k_is); (case c0 => k_is); (case k0 => k_is); (case a1 => k_is); (case l1 => k_is); (case c1 => k_is); (case k1 => k_is); (case a2 => k_is); (case l2 => k_is); (case c2 => k_is); (case k2 => k_is); (case a3 => k_is); (case l3 => k_is); (case c3 => k_is); (case k3 => k_is); (case a4 => k_is); (case l4 => k_is); (case c4 => k_is); (case k4 => k_is); (case a5 => k_is); (case l5 => k_is); (case c5 => k_is); (case k5 => k_is); (case a6 => k_is); (case l6 => k_is); (case c6 => k_is); (case k6 => k_is); (case a7 => k_is); (case l7 => k_is); (case c7 => k_is); (case k7 => k_is); (case z0 => k_is); (case z1 => k_is); (case z2 => k_is); (case z3 => k_is); (case z4 => k_is); (case z5 => k_is); (case z6 => k_is); (case z7 => k_is); (case z8 => k_is); (case z9 => k_is); (case z10 => k_is); (case z11 => k_is); (case z12 => k_is); (case mAC => k_is); (case mIS => k_is); (case mTY => k_is); (case oHN => k_is); (case oHT => k_is); (case e0aC => k_is); (case e0ga => k_is); (case e0gg => k_is); (case e0kC => k_is); (case e0eC => k_is); (case e0tC => k_is); (case e0hC => k_is); (case e0iC => k_is); (case e0sC => k_is); (case e0ha => k_is); (case e0hm => k_is); (case e0su => k_is); (case e0va => k_is); (case e0xL => k_is); (case e0sa => k_is); (case e0nb => k_is); (case e0a1 => k_is); (case e0t1 => k_is); (case e0l1 => k_is); (case e0c1 => k_is); (case e1aC => k_is); (case e1ga => k_is); (case e1gg => k_is); (case e1kC => k_is); (case e1eC => k_is); (case e1tC => k_is); (case e1hC => k_is); (case e1iC => k_is); (case e1sC => k_is); (case e1ha => k_is); (case e1hm => k_is); (case e1su => k_is); (case e1va => k_is); (case e1xL => k_is); (case e1sa => k_is); (case e1nb => k_is); (case e1a1 => k_is); (case e1t1 => k_is); (case e1l1 => k_is); (case e1c1 => k_is); (case e2aC => k_is); (case e2ga => k_is); (case e2gg => k_is); (case e2kC => k_is); (case e2eC => k_is); (case e2tC => k_is); (case e2hC => k_is); (case e2iC => k_is); (case e2sC => k_is); (case e2ha => k_is); (case e2hm => k_is); (case e2su => k_is); (case e2va => k_is); (case e2xL => k_is); (case e2sa => k_is); (case e2nb => k_is); (case e2a1 => k_is); (case e2t1 => k_is); (case e2l1 => k_is); (case e2c1 => k_is); (case e3aC => k_is); (case e3ga => k_is); (case e3gg => k_is); (case e3kC => k_is); (case e3eC => k_is); (case e3tC => k_is); (case e3hC => k_is); (case e3iC => k_is); (case e3sC => k_is); (case e3ha => k_is); (case e3hm => k_is); (case e3su => k_is); (case e3va => k_is); (case e3xL => k_is); (case e3sa => k_is); (case e3nb => k_is); (case e3a1 => k_is); (case e3t1 => k_is); (case e3l1 => k_is); (case e3c1 => k_is); (case e4aC => k_is); (case e4ga => k_is); (case e4gg => k_is); (case e4kC => k_is); (case e4eC => k_is); (case e4tC => k_is); (case e4hC => k_is); (case e4iC => k_is); (case e4sC => k_is); (case e4ha => k_is); (case e4hm => k_is); (case e4su => k_is); (case e4va => k_is); (case e4xL => k_is); (case e4sa => k_is); (case e4nb => k_is); (case e4a1 => k_is); (case e4t1 => k_is); (case e4l1 => k_is); (case e4c1 => k_is); (case e5aC => k_is); (case e5ga => k_is); (case e5gg => k_is); (case e5kC => k_is); (case e5eC => k_is); (case e5tC => k_is); (case e5hC => k_is); (case e5iC => k_is); (case e5sC => k_is); (case e5ha => k_is); (case e5hm => k_is); (case e5su => k_is); (case e5va => k_is); (case e5xL => k_is); (case e5sa => k_is); (case e5nb => k_is); (case e5a1 => k_is); (case e5t1 => k_is); (case e5l1 => k_is); (case e5c1 => k_is); (case e6aC => k_is); (case e6ga => k_is); (case e6gg => k_is); (case e6kC => k_is); (case e6eC => k_is); (case e6tC => k_is); (case e6hC => k_is); (case e6iC => k_is); (case e6sC => k_is); (case e6ha => k_is); (case e6hm => k_is); (case e6su => k_is); (case e6va => k_is); (case e6xL => k_is); (case e6sa => k_is); (case e6nb => k_is); (case e6a1 => k_is); (case e6t1 => k_is); (case e6l1 => k_is); (case e6c1 => k_is); (case e7aC => k_is); (case e7ga => k_is); (case e7gg => k_is); (case e7kC => k_is); (case e7eC => k_is); (case e7tC => k_is); (case e7hC => k_is); (case e7iC => k_is); (case e7sC => k_is); (case e7ha => k_is); (case e7hm => k_is); (case e7su => k_is); (case e7va => k_is); (case e7qx => k_exc); (case e8aC => k_is); (case e8ga => k_is); (case e8gg => k_is); (case e8kC => k_is); (case e8eC => k_is); (case e8tC => k_is); (case e8hC => k_is); (case e8iC => k_is); (case e8sC => k_is); (case e8ha => k_is); (case e8hm => k_is); (case e8su => k_is); (case e8va => k_is); (case e8qx => k_exc); (case e9aC => k_is); (case e9ga => k_is); (case e9gg => k_is); (case e9kC => k_is); (case e9eC => k_is); (case e9tC => k_is); (case e9hC => k_is); (case e9iC => k_is); (case e9sC => k_is); (case e9ha => k_is); (case e9hm => k_is); (case e9su => k_is); (case e9va => k_is); (case e9xL => k_is); (case e9sa => k_is); (case e9nb => k_is); (case e9a1 => k_is); (case e9t1 => k_is); (case e9l1 => k_is); (case e9c1 => k_is); (case e10aC => k_is); (case e10ga => k_is); (case e10gg => k_is); (case e10kC => k_is); (case e10eC => k_is); (case e10tC => k_is); (case e10hC => k_is); (case e10iC => k_is); (case e10sC => k_is); (case e10ha => k_is); (case e10hm => k_is); (case e10su => k_is); (case e10va => k_is); (case e10qx => k_exc); (case e11aC => k_is); (case e11ga => k_is); (case e11gg => k_is); (case e11kC => k_is); (case e11eC => k_is); (case e11tC => k_is); (case e11hC => k_is); (case e11iC => k_is); (case e11sC => k_is); (case e11ha => k_is); (case e11hm => k_is); (case e11su => k_is); (case e11va => k_is); (case e11xL => k_is); (case e11sa => k_is); (case e11nb => k_is); (case e11a1 => k_is); (case e11t1 => k_is); (case e11l1 => k_is); (case e11c1 => k_is); (case e12aC => k_is); (case e12ga => k_is); (case e12gg => k_is); (case e12kC => k_is); (case e12eC => k_is); (case e12tC => k_is); (case e12hC => k_is); (case e12iC => k_is); (case e12sC => k_is); (case e12ha => k_is); (case e12hm => k_is); (case e12su => k_is); (case e12va => k_is); (case e12xL => k_is); (case e12sa => k_is); (case e12nb => k_is); (case e12a1 => k_is); (case e12t1 => k_is); (case e12l1 => k_is); (case e12c1 => k_is); (case n0_1 => k_is); (case n0_2 => k_is); (case n0_3 => k_is); (case n0_4 => k_is); (case n0_5 => k_is); (case n0_6 => k_is); (case n0_7 => k_is); (case n0_8 => k_is); (case n0_9 => k_is); (case n0_10 => k_is); (case n0_11 => k_is); (case n0_12 => k_is); (case n1_0 => k_is); (case n1_2 => k_is); (case n1_3 => k_is); (case n1_4 => k_is); (case n1_5 => k_is); (case n1_6 => k_is); (case n1_7 => k_is); (case n1_8 => k_is); (case n1_9 => k_is); (case n1_10 => k_is); (case n1_11 => k_is); (case n1_12 => k_is); (case n2_0 => k_is); (case n2_1 => k_is); (case n2_3 => k_is); (case n2_4 => k_is); (case n2_5 => k_is); (case n2_6 => k_is); (case n2_7 => k_is); (case n2_8 => k_is); (case n2_9 => k_is); (case n2_10 => k_is); (case n2_11 => k_is); (case n2_12 => k_is); (case n3_0 => k_is); (case n3_1 => k_is); (case n3_2 => k_is); (case n3_4 => k_is); (case n3_5 => k_is); (case n3_6 => k_is); (case n3_7 => k_is); (case n3_8 => k_is); (case n3_9 => k_is); (case n3_10 => k_is); (case n3_11 => k_is); (case n3_12 => k_is); (case n4_0 => k_is); (case n4_1 => k_is); (case n4_2 => k_is); (case n4_3 => k_is); (case n4_5 => k_is); (case n4_6 => k_is); (case n4_7 => k_is); (case n4_8 => k_is); (case n4_9 => k_is); (case n4_10 => k_is); (case n4_11 => k_is); (case n4_12 => k_is); (case n5_0 => k_is); (case n5_1 => k_is); (case n5_2 => k_is); (case n5_3 => k_is); (case n5_4 => k_is); (case n5_6 => k_is); (case n5_7 => k_is); (case n5_8 => k_is); (case n5_9 => k_is); (case n5_10 => k_is); (case n5_11 => k_is); (case n5_12 => k_is); (case n6_0 => k_is); (case n6_1 => k_is); (case n6_2 => k_is); (case n6_3 => k_is); (case n6_4 => k_is); (case n6_5 => k_is); (case n6_7 => k_is); (case n6_8 => k_is); (case n6_9 => k_is); (case n6_10 => k_is); (case n6_11 => k_is); (case n6_12 => k_is); (case n7_0 => k_is); (case n7_1 => k_is); (case n7_2 => k_is); (case n7_3 => k_is); (case n7_4 => k_is); (case n7_5 => k_is); (case n7_6 => k_is); (case n7_8 => k_is); (case n7_9 => k_is); (case n7_10 => k_is); (case n7_11 => k_is); (case n7_12 => k_is); (case n8_0 => k_is); (case n8_1 => k_is); (case n8_2 => k_is); (case n8_3 => k_is); (case n8_4 => k_is); (case n8_5 => k_is); (case n8_6 => k_is); (case n8_7 => k_is); (case n8_9 => k_is); (case n8_10 => k_is); (case n8_11 => k_is); (case n8_12 => k_is); (case n9_0 => k_is); (case n9_1 => k_is); (case n9_2 => k_is); (case n9_3 => k_is); (case n9_4 => k_is); (case n9_5 => k_is); (case n9_6 => k_is); (case n9_7 => k_is); (case n9_8 => k_is); (case n9_10 => k_is); (case n9_11 => k_is); (case n9_12 => k_is); (case n10_0 => k_is); (case n10_1 => k_is); (case n10_2 => k_is); (case n10_3 => k_is); (case n10_4 => k_is); (case n10_5 => k_is); (case n10_6 => k_is); (case n10_7 => k_is); (case n10_8 => k_is); (case n10_9 => k_is); (case n10_11 => k_is); (case n10_12 => k_is); (case n11_0 => k_is); (case n11_1 => k_is); (case n11_2 => k_is); (case n11_3 => k_is); (case n11_4 => k_is); (case n11_5 => k_is); (case n11_6 => k_is); (case n11_7 => k_is); (case n11_8 => k_is); (case n11_9 => k_is); (case n11_10 => k_is); (case n11_12 => k_is); (case n12_0 => k_is); (case n12_1 => k_is); (case n12_2 => k_is); (case n12_3 => k_is); (case n12_4 => k_is); (case n12_5 => k_is); (case n12_6 => k_is); (case n12_7 => k_is); (case n12_8 => k_is); (case n12_9 => k_is); (case n12_10 => k_is); (case n12_11 => k_is)
