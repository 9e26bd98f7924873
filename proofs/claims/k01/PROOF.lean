import PyProof.Rows.All
import Wide.All
import OpenK.AllK
import Wide.FinOn
import HandS.ForMost
import HandS.ForExc
import HandS.Flow
import HandS.FStr
import HandS.StrMore
import HandS.Style
import HandS.IsInst
import HandS.Walk
import HandS.Zip
import HandS.Rev
import HandS.Evl
import PyProof.AutoSeq1
import HandS.TupAny
import KE.GoesEnum
import HandS.MapJoin
import PySem.Challenge.RW_weft_k01_write_and_read
set_option Elab.async false
set_option linter.all false
set_option maxRecDepth 100000
set_option maxHeartbeats 4000000
/-! The data layer: what a body does, said over plain data. -/
namespace WD
open PySem PySem.Spec PyProof.Rows L2
open Evl (Ex Ex.refl Ex.trans Ex.new Ex.mut ex_l ex_t fresh_back)

abbrev D := PyData
abbrev Frag := PySem.W.Frag
structure Exn where
  cls : Str
  fs : List (Str × D)
inductive Res (α : Type) where
  | ok (a : α) | err (x : Exn) | stk
namespace Res
def bind {α β : Type} : Res α → (α → Res β) → Res β
  | .ok a, f => f a
  | .err x, _ => .err x
  | .stk, _ => .stk
def sat {α : Type} (P : α → Prop) (R : Exn → Prop) : Res α → Prop
  | .ok a => P a
  | .err x => R x
  | .stk => False
theorem sat_bind {α β : Type} {P : β → Prop} {R : Exn → Prop} {m : Res α} {f : α → Res β} (h : (m.bind f).sat P R) : m.sat (fun a => (f a).sat P R) R := by
  cases m <;> exact h
theorem sat_imp {α : Type} {P P' : α → Prop} {R R' : Exn → Prop} {m : Res α} (h : m.sat P R) (hp : ∀ a, m = .ok a → P a → P' a) (hr : ∀ x, R x → R' x) : m.sat P' R' := by
  cases m with
  | ok a => exact hp a rfl h
  | err x => exact hr x h
  | stk => exact h
end Res
def ofO {α : Type} : Option α → Res α
  | some a => .ok a
  | none => .stk
theorem ofO_sat {α : Type} {P : α → Prop} {R : Exn → Prop} {o : Option α} (h : (ofO o).sat P R) : ∃ a, o = some a ∧ P a := by
  cases o with
  | none => exact h.elim
  | some a => exact ⟨a, rfl, h⟩
abbrev Env := List (Option D)

/-! ### values that stand for data -/
abbrev OkS (x : Str) : Prop := PyData.strOk x = true
def keyD : Key → D
  | .inl i => .int i
  | .inr x => .str x
mutual
inductive Rp (K : Frag) (F : Hp) : V → D → Prop
  | non : Rp K F .non .none
  | bl (b : Bool) : Rp K F (.bl b) (.bool b)
  | int (i : Int) : Rp K F (.int i) (.int i)
  | str (x : Str) (h : OkS x) : Rp K F (.str x) (.str x)
  | lst {a : Addr} {xs : List V} {ds : List D} : SqL K F a xs → RpA K F xs ds → Rp K F (.ref a) (.list ds)
  | tup {a : Addr} {xs : List V} {ds : List D} : SqT K F a xs → RpA K F xs ds → Rp K F (.ref a) (.tuple ds)
  | dct {a : Addr} {kvs : List (Key × V)} {ds : List (D × D)} : F a = some (.dK kvs) → RpK K F kvs ds → Rp K F (.ref a) (.dict ds)
inductive RpA (K : Frag) (F : Hp) : List V → List D → Prop
  | nil : RpA K F [] []
  | cons {v : V} {vs : List V} {d : D} {ds : List D} : Rp K F v d → RpA K F vs ds → RpA K F (v :: vs) (d :: ds)
inductive RpK (K : Frag) (F : Hp) : List (Key × V) → List (D × D) → Prop
  | nil : RpK K F [] []
  | cons {k : Key} {v : V} {kvs : List (Key × V)} {d : D} {ds : List (D × D)} : Rp K F v d → RpK K F kvs ds → RpK K F ((k, v) :: kvs) ((keyD k, d) :: ds)
end
section
variable {K : Frag} {F F' H H' : Hp}
mutual
theorem Rp.mono (e : Ex F F') : ∀ {v : V} {d : D}, Rp K F v d → Rp K F' v d
  | _, _, .non => .non
  | _, _, .bl b => .bl b
  | _, _, .int i => .int i
  | _, _, .str x h => .str x h
  | _, _, .lst h a => .lst (ex_l e h) (RpA.mono e a)
  | _, _, .tup h a => .tup (ex_t e h) (RpA.mono e a)
  | _, _, .dct h a => .dct (e _ _ h) (RpK.mono e a)
theorem RpA.mono (e : Ex F F') : ∀ {v : List V} {d : List D}, RpA K F v d → RpA K F' v d
  | _, _, .nil => .nil
  | _, _, .cons h a => .cons (Rp.mono e h) (RpA.mono e a)
theorem RpK.mono (e : Ex F F') : ∀ {v : List (Key × V)} {d : List (D × D)}, RpK K F v d → RpK K F' v d
  | _, _, .nil => .nil
  | _, _, .cons h a => .cons (Rp.mono e h) (RpK.mono e a)
end
theorem RpA.length : ∀ {vs : List V} {ds : List D}, RpA K F vs ds → vs.length = ds.length
  | _, _, .nil => rfl
  | _, _, .cons _ a => by rw [List.length_cons, List.length_cons, RpA.length a]
theorem RpA.append : ∀ {vs ws : List V} {ds es : List D}, RpA K F vs ds → RpA K F ws es → RpA K F (vs ++ ws) (ds ++ es)
  | _, _, _, _, .nil, b => b
  | _, _, _, _, .cons h a, b => .cons h (RpA.append a b)
theorem RpA.get : ∀ {vs : List V} {ds : List D} {i : Nat} {d : D}, RpA K F vs ds → ds[i]? = some d → ∃ v, vs[i]? = some v ∧ Rp K F v d
  | _, _, _, _, .nil, e => by simp at e
  | _, _, 0, d, .cons (v := v) h _, e => ⟨v, rfl, by simp at e; subst e; exact h⟩
  | _, _, i + 1, _, .cons _ a, e => by
    obtain ⟨v, h1, h2⟩ := RpA.get (i := i) a (by simpa using e)
    exact ⟨v, by simpa using h1, h2⟩
theorem RpA.getV : ∀ {vs : List V} {ds : List D} {i : Nat} {v : V}, RpA K F vs ds → vs[i]? = some v → ∃ d, ds[i]? = some d ∧ Rp K F v d
  | _, _, _, _, .nil, e => by simp at e
  | _, _, 0, _, .cons (d := d) h _, e => ⟨d, rfl, by simp at e; subst e; exact h⟩
  | _, _, i + 1, _, .cons _ a, e => by
    obtain ⟨v, h1, h2⟩ := RpA.getV (i := i) a (by simpa using e)
    exact ⟨v, by simpa using h1, h2⟩
theorem RpA.take : ∀ {vs : List V} {ds : List D} (n : Nat), RpA K F vs ds → RpA K F (vs.take n) (ds.take n)
  | _, _, 0, _ => .nil
  | _, _, _ + 1, .nil => .nil
  | _, _, n + 1, .cons h a => .cons h (RpA.take n a)
theorem RpA.drop : ∀ {vs : List V} {ds : List D} (n : Nat), RpA K F vs ds → RpA K F (vs.drop n) (ds.drop n)
  | _, _, 0, a => a
  | _, _, _ + 1, .nil => .nil
  | _, _, n + 1, .cons _ a => RpA.drop n a
theorem RpA.set {v : V} {d : D} (h : Rp K F v d) : ∀ {vs : List V} {ds : List D} (i : Nat), RpA K F vs ds → RpA K F (vs.set i v) (ds.set i d)
  | _, _, _, .nil => .nil
  | _, _, 0, .cons _ a => .cons h a
  | _, _, i + 1, .cons g a => .cons g (RpA.set h i a)
theorem RpA.dropLast : ∀ {vs : List V} {ds : List D}, RpA K F vs ds → RpA K F vs.dropLast ds.dropLast
  | _, _, .nil => .nil
  | _, _, .cons _ .nil => .nil
  | _, _, .cons h (.cons g a) => .cons h (RpA.dropLast (.cons g a))
theorem RpA.reverse {vs : List V} {ds : List D} (h : RpA K F vs ds) : RpA K F vs.reverse ds.reverse := by
  induction vs generalizing ds with
  | nil => cases h; exact .nil
  | cons v vs ih =>
    cases h with
    | cons h a =>
      rw [List.reverse_cons, List.reverse_cons]
      exact (ih a).append (.cons h .nil)
theorem RpA.rep {vs : List V} {ds : List D} (h : RpA K F vs ds) : ∀ k : Nat, RpA K F (List.replicate k vs).flatten (List.replicate k ds).flatten
  | 0 => .nil
  | k + 1 => by
    rw [List.replicate_succ, List.replicate_succ, List.flatten_cons, List.flatten_cons]
    exact h.append (h.rep k)
end

/-- F: what stands still; H: all that is tracked -/
structure Ext (F H F' H' : Hp) : Prop where
  f : Ex F F'
  h : Ex H H'
  o : ∀ a, F a = none → H a ≠ none → F' a = none
  s : Ex F' H'
theorem Ext.refl {F H : Hp} (s : Ex F H) : Ext F H F H := ⟨Ex.refl F, Ex.refl H, fun _ h _ => h, s⟩
theorem Ext.trans {F H F1 H1 F2 H2 : Hp} (a : Ext F H F1 H1) (b : Ext F1 H1 F2 H2) : Ext F H F2 H2 :=
  ⟨a.f.trans b.f, a.h.trans b.h, fun x h n => b.o x (a.o x h n) (by
    cases e : H x with
    | none => exact absurd e n
    | some u => rw [a.h x u e]; exact fun q => nomatch q), b.s⟩
theorem none_of_ex {F H : Hp} {p : Addr} (s : Ex F H) (h : H p = none) : F p = none := fresh_back s h
/-- a new object that stands still from now on -/
theorem Ext.new {F H : Hp} {p : Addr} {o : HO} (s : Ex F H) (h : H p = none) : Ext F H (upd F p o) (upd H p o) :=
  ⟨Ex.new (none_of_ex s h), Ex.new h, fun a h1 h2 => by
    rw [upd_ne (fun e => h2 (by rw [e]; exact h))]; exact h1, fun a u e => by
    by_cases q : a = p
    · subst q; rw [upd_same] at e ⊢; exact e
    · rw [upd_ne q] at e ⊢; exact s a u e⟩
/-- a new object that may change yet -/
theorem Ext.newO {F H : Hp} {p : Addr} {o : HO} (s : Ex F H) (h : H p = none) : Ext F H F (upd H p o) :=
  ⟨Ex.refl F, Ex.new h, fun a h1 _ => h1, fun a u e => (Ex.new h) a u (s a u e)⟩

def OwnAt (K : Frag) (F H : Hp) (a : Addr) (d : D) : Prop :=
  (∃ vs ds, d = .list ds ∧ H a = some (.lst vs) ∧ RpA K F vs ds) ∨ (∃ kvs ds, d = .dict ds ∧ H a = some (.dK kvs) ∧ RpK K F kvs ds)
def Rb (K : Frag) (F H : Hp) (v : V) (d : D) : Prop := Rp K F v d ∨ ∃ a, v = .ref a ∧ OwnAt K F H a d
theorem OwnAt.mono {K : Frag} {F H F' H' : Hp} {a : Addr} {d : D} (f : Ex F F') (h : Ex H H') (o : OwnAt K F H a d) : OwnAt K F' H' a d := by
  rcases o with ⟨vs, ds, e, g, r⟩ | ⟨vs, ds, e, g, r⟩
  · exact .inl ⟨vs, ds, e, h _ _ g, r.mono f⟩
  · exact .inr ⟨vs, ds, e, h _ _ g, r.mono f⟩
theorem Rb.mono {K : Frag} {F H F' H' : Hp} {v : V} {d : D} (e : Ext F H F' H') (r : Rb K F H v d) : Rb K F' H' v d := by
  rcases r with r | ⟨a, rfl, o⟩
  · exact .inl (r.mono e.f)
  · exact .inr ⟨a, rfl, o.mono e.f e.h⟩
/-- what is borrowed, over the whole heap -/
theorem Rb.whole {K : Frag} {F H : Hp} {v : V} {d : D} (s : Ex F H) (r : Rb K F H v d) : Rp K H v d := by
  rcases r with r | ⟨a, rfl, ⟨vs, ds, rfl, g, r⟩ | ⟨vs, ds, rfl, g, r⟩⟩
  · exact r.mono s
  · exact .lst (Evl.sq_of g) (r.mono s)
  · exact .dct g (r.mono s)
theorem Rb.list {K : Frag} {F H : Hp} {v : V} {ds : List D} (s : Ex F H) (r : Rb K F H v (.list ds)) : ∃ a vs, v = .ref a ∧ SqL K H a vs ∧ RpA K F vs ds := by
  rcases r with r | ⟨a, rfl, ⟨vs, ds', e, g, r⟩ | ⟨vs, ds', e, g, r⟩⟩
  · cases r with
    | lst h a => exact ⟨_, _, rfl, ex_l s h, a⟩
  · cases e; exact ⟨a, vs, rfl, Evl.sq_of g, r⟩
  · cases e
theorem Rb.tuple {K : Frag} {F H : Hp} {v : V} {ds : List D} (s : Ex F H) (r : Rb K F H v (.tuple ds)) : ∃ a vs, v = .ref a ∧ SqT K H a vs ∧ RpA K F vs ds ∧ Rp K F v (.tuple ds) := by
  rcases r with r | ⟨a, rfl, ⟨vs, ds', e, g, r⟩ | ⟨vs, ds', e, g, r⟩⟩
  · have r' := r
    cases r with
    | tup h a => exact ⟨_, _, rfl, ex_t s h, a, r'⟩
  · cases e
  · cases e
theorem Rb.int {K : Frag} {F H : Hp} {v : V} {i : Int} (r : Rb K F H v (.int i)) : v = .int i := by
  rcases r with r | ⟨a, rfl, ⟨vs, ds', e, g, r⟩ | ⟨vs, ds', e, g, r⟩⟩
  · cases r; rfl
  · cases e
  · cases e
theorem Rb.bool {K : Frag} {F H : Hp} {v : V} {i : Bool} (r : Rb K F H v (.bool i)) : v = .bl i := by
  rcases r with r | ⟨a, rfl, ⟨vs, ds', e, g, r⟩ | ⟨vs, ds', e, g, r⟩⟩
  · cases r; rfl
  · cases e
  · cases e
theorem Rb.str {K : Frag} {F H : Hp} {v : V} {i : Str} (r : Rb K F H v (.str i)) : v = .str i ∧ OkS i := by
  rcases r with r | ⟨a, rfl, ⟨vs, ds', e, g, r⟩ | ⟨vs, ds', e, g, r⟩⟩
  · cases r with
    | str x h => exact ⟨rfl, h⟩
  · cases e
  · cases e
theorem Rb.non {K : Frag} {F H : Hp} {v : V} (r : Rb K F H v .none) : v = .non := by
  rcases r with r | ⟨a, rfl, ⟨vs, ds', e, g, r⟩ | ⟨vs, ds', e, g, r⟩⟩
  · cases r; rfl
  · cases e
  · cases e

inductive Kd where
  | im | ow | bw
  deriving DecidableEq
def SlotOk (K : Frag) (k : Kd) (H0 F H : Hp) (v : V) (d : D) : Prop :=
  match k with
  | .im => Rp K F v d
  | .bw => Rp K F v d ∨ ∃ a, v = .ref a ∧ H0 a ≠ none ∧ OwnAt K F H a d
  | .ow => ∃ a, v = .ref a ∧ H0 a = none ∧ F a = none ∧ OwnAt K F H a d
theorem SlotOk.mono {K : Frag} {k : Kd} {H0 F H F' H' : Hp} {v : V} {d : D} (e : Ext F H F' H') (h : SlotOk K k H0 F H v d) : SlotOk K k H0 F' H' v d := by
  cases k with
  | im => exact Rp.mono e.f h
  | bw =>
    rcases h with h | ⟨a, e1, h0, o⟩
    · exact .inl (h.mono e.f)
    · exact .inr ⟨a, e1, h0, o.mono e.f e.h⟩
  | ow =>
    obtain ⟨a, e1, h0, f0, o⟩ := h
    refine ⟨a, e1, h0, e.o a f0 ?_, o.mono e.f e.h⟩
    rcases o with ⟨vs, ds, _, g, _⟩ | ⟨vs, ds, _, g, _⟩ <;> rw [g] <;> exact fun q => nomatch q
theorem SlotOk.rb {K : Frag} {k : Kd} {H0 F H : Hp} {v : V} {d : D} (h : SlotOk K k H0 F H v d) : Rb K F H v d := by
  cases k with
  | im => exact .inl h
  | bw =>
    rcases h with h | ⟨a, e1, h0, o⟩
    · exact .inl h
    · exact .inr ⟨a, e1, o⟩
  | ow =>
    obtain ⟨a, e1, h0, f0, o⟩ := h
    exact .inr ⟨a, e1, o⟩
structure Stt (K : Frag) (κ : Nat → Kd) (F0 H0 F H : Hp) (σ : L2.St) (ρ : Env) : Prop where
  ex0 : Ex F0 F
  h0 : Ex H0 H
  o0 : ∀ a, F0 a = none → H0 a ≠ none → F a = none
  sub : Ex F H
  len : σ.length = ρ.length
  slot : ∀ i d, ρ[i]? = some (some d) → ∃ v, σ[i]? = some (some v) ∧ SlotOk K (κ i) H0 F H v d
  sep : ∀ i j a di dj, i ≠ j → ρ[i]? = some (some di) → ρ[j]? = some (some dj) → κ i = .ow → κ j = .ow → σ[i]? = some (some (.ref a)) → σ[j]? = some (some (.ref a)) → False
section
variable {K : Frag} {κ : Nat → Kd} {F0 H0 F H F' H' : Hp} {σ : L2.St} {ρ : Env}
theorem Stt.ext (S : Stt K κ F0 H0 F H σ ρ) : Ext F0 H0 F H := ⟨S.ex0, S.h0, S.o0, S.sub⟩
theorem Stt.mono (S : Stt K κ F0 H0 F H σ ρ) (e : Ext F H F' H') : Stt K κ F0 H0 F' H' σ ρ :=
  have x := S.ext.trans e
  ⟨x.f, x.h, x.o, x.s, S.len, fun i d h => by
    obtain ⟨v, h1, h2⟩ := S.slot i d h
    exact ⟨v, h1, h2.mono e⟩, S.sep⟩
/-- a slot is stored that stands still -/
theorem Stt.set (S : Stt K κ F0 H0 F H σ ρ) {i : Nat} {v : V} {d : D} (hk : κ i = .im) (r : Rp K F v d) : Stt K κ F0 H0 F H (σ.set i (some v)) (ρ.set i (some d)) := by
  refine ⟨S.ex0, S.h0, S.o0, S.sub, by rw [List.length_set, List.length_set, S.len], fun j e h => ?_, fun j l a dj dl hn hj hl kj kl ej el => ?_⟩
  · rw [List.getElem?_set] at h ⊢
    by_cases q : i = j
    · rw [if_pos q] at h ⊢
      subst q
      by_cases z : i < ρ.length
      · rw [if_pos z] at h
        rw [if_pos (by rw [S.len]; exact z)]
        cases h
        exact ⟨v, rfl, by rw [hk]; exact r⟩
      · rw [if_neg z] at h; cases h
    · rw [if_neg q] at h ⊢
      exact S.slot j e h
  · have nj : i ≠ j := fun z => by rw [z, kj] at hk; cases hk
    have nl : i ≠ l := fun z => by rw [z, kl] at hk; cases hk
    rw [List.getElem?_set_ne nj] at hj ej
    rw [List.getElem?_set_ne nl] at hl el
    exact S.sep j l a dj dl hn hj hl kj kl ej el
/-- a slot is stored that is owned: new at p -/
theorem Stt.setO (S : Stt K κ F0 H0 F H σ ρ) {i : Nat} {p : Addr} {d : D} (hk : κ i = .ow) (hp : H0 p = none) (fp : F p = none) (o : OwnAt K F H p d)
    (hn : ∀ j d, ρ[j]? = some (some d) → j ≠ i → κ j = .ow → σ[j]? ≠ some (some (.ref p))) : Stt K κ F0 H0 F H (σ.set i (some (.ref p))) (ρ.set i (some d)) := by
  refine ⟨S.ex0, S.h0, S.o0, S.sub, by rw [List.length_set, List.length_set, S.len], fun j e h => ?_, fun j l a dj dl hjl hj hl kj kl ej el => ?_⟩
  · rw [List.getElem?_set] at h ⊢
    by_cases q : i = j
    · rw [if_pos q] at h ⊢
      subst q
      by_cases z : i < ρ.length
      · rw [if_pos z] at h
        rw [if_pos (by rw [S.len]; exact z)]
        cases h
        exact ⟨.ref p, rfl, by rw [hk]; exact ⟨p, rfl, hp, fp, o⟩⟩
      · rw [if_neg z] at h; cases h
    · rw [if_neg q] at h ⊢
      exact S.slot j e h
  · by_cases qj : i = j
    · subst qj
      have nl : i ≠ l := hjl
      rw [List.getElem?_set_ne nl] at hl el
      rw [List.getElem?_set] at ej
      rw [if_pos rfl] at ej
      split at ej
      · cases ej
        exact hn l dl hl (Ne.symm nl) kl el
      · cases ej
    · by_cases ql : i = l
      · subst ql
        rw [List.getElem?_set_ne qj] at hj ej
        rw [List.getElem?_set] at el
        rw [if_pos rfl] at el
        split at el
        · cases el
          exact hn j dj hj (Ne.symm qj) kj ej
        · cases el
      · rw [List.getElem?_set_ne qj] at hj ej
        rw [List.getElem?_set_ne ql] at hl el
        exact S.sep j l a dj dl hjl hj hl kj kl ej el
/-- the owned object of slot i is changed -/
theorem Stt.mut (S : Stt K κ F0 H0 F H σ ρ) {i : Nat} {a : Addr} {d d' : D} {o : HO} (hk : κ i = .ow) (hd : ρ[i]? = some (some d)) (hs : σ[i]? = some (some (.ref a))) (o' : OwnAt K F (upd H a o) a d') :
    Stt K κ F0 H0 F (upd H a o) σ (ρ.set i (some d')) := by
  obtain ⟨v, h1, h2⟩ := S.slot i d hd
  rw [hs] at h1
  cases h1
  rw [hk] at h2
  obtain ⟨a', e, ha0, fa, oa⟩ := h2
  cases e
  have hsub : Ex F (upd H a o) := fun b u e => by rw [upd_ne (ne_of_none e fa)]; exact S.sub b u e
  refine ⟨S.ex0, Ex.mut S.h0 ha0, S.o0, hsub, by rw [List.length_set, S.len], fun j e h => ?_, fun j l b dj dl hjl hj hl kj kl ej el => ?_⟩
  · by_cases q : i = j
    · subst q
      rw [List.getElem?_set, if_pos rfl] at h
      split at h
      · cases h
        exact ⟨_, hs, by rw [hk]; exact ⟨a, rfl, ha0, fa, o'⟩⟩
      · cases h
    · rw [List.getElem?_set_ne q] at h
      obtain ⟨w, g1, g2⟩ := S.slot j e h
      refine ⟨w, g1, ?_⟩
      have other : ∀ b, w = .ref b → κ j = .ow → b ≠ a := fun b eb kj z => by
        subst z eb
        exact S.sep i j b d e q hd h hk kj hs g1
      cases kj : κ j with
      | im => rw [kj] at g2; exact g2
      | bw =>
        rw [kj] at g2
        rcases g2 with g2 | ⟨b, eb, nb, ob⟩
        · exact .inl g2
        · have hba : b ≠ a := fun z => nb (by rw [z]; exact ha0)
          refine .inr ⟨b, eb, nb, ?_⟩
          rcases ob with ⟨vs, ds, e1, g, r⟩ | ⟨vs, ds, e1, g, r⟩
          · exact .inl ⟨vs, ds, e1, by rw [upd_ne hba]; exact g, r⟩
          · exact .inr ⟨vs, ds, e1, by rw [upd_ne hba]; exact g, r⟩
      | ow =>
        rw [kj] at g2
        obtain ⟨b, eb, b0, fb, ob⟩ := g2
        have hba := other b eb kj
        refine ⟨b, eb, b0, fb, ?_⟩
        rcases ob with ⟨vs, ds, e1, g, r⟩ | ⟨vs, ds, e1, g, r⟩
        · exact .inl ⟨vs, ds, e1, by rw [upd_ne hba]; exact g, r⟩
        · exact .inr ⟨vs, ds, e1, by rw [upd_ne hba]; exact g, r⟩
  · have back : ∀ m dm, (ρ.set i (some d'))[m]? = some (some dm) → ∃ dm', ρ[m]? = some (some dm') := fun m dm hm => by
      by_cases q : i = m
      · subst q; exact ⟨d, hd⟩
      · rw [List.getElem?_set_ne q] at hm; exact ⟨dm, hm⟩
    obtain ⟨dj', hj'⟩ := back j dj hj
    obtain ⟨dl', hl'⟩ := back l dl hl
    exact S.sep j l b dj' dl' hjl hj' hl' kj kl ej el
end
end WD

namespace WD
open PySem PySem.Spec PyProof.Rows L2
open Evl (Ex Ex.refl Ex.trans Ex.new Ex.mut ex_l ex_t fresh_back)

/-! ### readings by mirrors -/
abbrev Mg := Str → Option Value
def ExRep (mg : Mg) (K : Frag) (F H : Hp) (x : Exn) (cls : Value) (dd : Option Addr) : Prop :=
  ∃ C, mg x.cls = some (.ref C) ∧ cls = .ref C ∧ ((x.fs = [] ∧ dd = none) ∨ ∃ a fs, dd = some a ∧ H a = some (.xd fs) ∧ ∀ f d, x.fs.lookup f = some d → ∃ v, fs.lookup f = some v ∧ Rp K F v d)
def ErrOk (mg : Mg) (K : Frag) (E : XK) (F H : Hp) (x : Exn) : Prop := ∀ F' H' c dd, Ext F H F' H' → ExRep mg K F' H' x c dd → E c dd H'
theorem ErrOk.mono {mg : Mg} {K : Frag} {E : XK} {F H F' H' : Hp} {x : Exn} (e : Ext F H F' H') (h : ErrOk mg K E F H x) : ErrOk mg K E F' H' x :=
  fun F2 H2 c dd e2 r => h F2 H2 c dd (e.trans e2) r

section
variable (mg : Mg) (K : Frag) (κ : Nat → Kd) (E : XK)
def rdE (m : Env → Res D) : TE := fun σ H Q => ∃ F0 H0 F ρ, Stt K κ F0 H0 F H σ ρ ∧ (m ρ).sat (fun d => ∀ v F' H', Ext F H F' H' → Rp K F' v d → Q v H') (ErrOk mg K E F H)
def rdB (m : Env → Res D) : TE := fun σ H Q => ∃ F0 H0 F ρ, Stt K κ F0 H0 F H σ ρ ∧ (m ρ).sat (fun d => ∀ v F' H', Ext F H F' H' → Rb K F' H' v d → Q v H') (ErrOk mg K E F H)
/-- a new list, owned by whoever takes it -/
def rdN (m : Env → Res (List D)) : TE := fun σ H Q => ∃ F0 H0 F ρ, Stt K κ F0 H0 F H σ ρ ∧
  (m ρ).sat (fun ds => ∀ p vs F' H', Ext F H F' H' → H p = none → F' p = none → H' p = some (.lst vs) → RpA K F' vs ds → Q (.ref p) H') (ErrOk mg K E F H)
def rdT (m : Env → Res Bool) : TT := fun σ H Q => ∃ F0 H0 F ρ, Stt K κ F0 H0 F H σ ρ ∧ (m ρ).sat (fun b => ∀ F' H', Ext F H F' H' → Q b H') (ErrOk mg K E F H)
def rdA (m : Env → Res (List D)) : TA := fun σ H Q => ∃ F0 H0 F ρ, Stt K κ F0 H0 F H σ ρ ∧ (m ρ).sat (fun ds => ∀ vs F' H', Ext F H F' H' → RpA K F' vs ds → Q vs H') (ErrOk mg K E F H)
end
def DE (X : Cx) (κ : Nat → Kd) (E : XK) (e : Expr) (m : Env → Res D) : Prop := PE X e (rdE X.mg X.K κ E m)
def DB (X : Cx) (κ : Nat → Kd) (E : XK) (e : Expr) (m : Env → Res D) : Prop := PE X e (rdB X.mg X.K κ E m)
def DN (X : Cx) (κ : Nat → Kd) (E : XK) (e : Expr) (m : Env → Res (List D)) : Prop := PE X e (rdN X.mg X.K κ E m)
def DT (X : Cx) (κ : Nat → Kd) (E : XK) (e : Expr) (m : Env → Res Bool) : Prop := PT X e (rdT X.mg X.K κ E m)
def DW (X : Cx) (κ : Nat → Kd) (E : XK) (e : Expr) (m : Env → Res Bool) : Prop := PW X e (rdT X.mg X.K κ E m)
def DA (X : Cx) (κ : Nat → Kd) (E : XK) (es : List Expr) (m : Env → Res (List D)) : Prop := PA X es (rdA X.mg X.K κ E m)

theorem _root_.L2.PE.imp {X : Cx} {e : Expr} {t t' : TE} (h : PE X e t) (i : ∀ σ H Q, t' σ H Q → t σ H Q) : PE X e t' := ⟨fun pins s σ H Q I hw => h.run pins s σ H Q I (i σ H Q hw)⟩
theorem _root_.L2.PT.imp {X : Cx} {e : Expr} {t t' : TT} (h : PT X e t) (i : ∀ σ H Q, t' σ H Q → t σ H Q) : PT X e t' := ⟨fun pins s σ H Q I hw => h.run pins s σ H Q I (i σ H Q hw)⟩
theorem _root_.L2.PW.imp {X : Cx} {e : Expr} {t t' : TT} (h : PW X e t) (i : ∀ σ H Q, t' σ H Q → t σ H Q) : PW X e t' := ⟨fun wh pins s σ H Q I hw => h.run wh pins s σ H Q I (i σ H Q hw)⟩
theorem _root_.L2.PA.imp {X : Cx} {e : List Expr} {t t' : TA} (h : PA X e t) (i : ∀ σ H Q, t' σ H Q → t σ H Q) : PA X e t' := ⟨fun pos pins s σ H Q I hw => h.run pos pins s σ H Q I (i σ H Q hw)⟩
theorem _root_.L2.PS.imp {X : Cx} {e : Stmt} {t t' : TS} (h : PS X e t) (i : ∀ D σ H, t' D σ H → t D σ H) : PS X e t' := ⟨fun pins s σ H D I hw => h.run pins s σ H D I (i D σ H hw)⟩
theorem _root_.L2.PSs.imp {X : Cx} {e : List Stmt} {t t' : TS} (h : PSs X e t) (i : ∀ D σ H, t' D σ H → t D σ H) : PSs X e t' := ⟨fun pins s σ H D I hw => h.run pins s σ H D I (i D σ H hw)⟩

section
variable {X : Cx} {κ : Nat → Kd} {E : XK} {a b c e : Expr} {es : List Expr} {pos : Pos}

/-! ### from one judgement to another -/
theorem db_of {m : Env → Res D} (h : DE X κ E e m) : DB X κ E e m := h.imp fun σ H Q ⟨F0, H0, F, ρ, S, c⟩ =>
  ⟨F0, H0, F, ρ, S, Res.sat_imp c (fun d _ k v F' H' x r => k v F' H' x (.inl r)) fun _ z => z⟩
def mList (m : Env → Res (List D)) : Env → Res D := fun ρ => (m ρ).bind fun ds => .ok (.list ds)
theorem de_new {m : Env → Res (List D)} (h : DN X κ E e m) : DE X κ E e (mList m) := h.imp fun σ H Q ⟨F0, H0, F, ρ, S, c⟩ =>
  ⟨F0, H0, F, ρ, S, Res.sat_imp (Res.sat_bind c) (fun ds _ k p vs F' H' x hp fp hv r => k (.ref p) (upd F' p (.lst vs)) H'
    ⟨x.f.trans (Ex.new fp), x.h, fun a h1 h2 => by
      rw [upd_ne (fun z => h2 (by rw [z]; exact hp))]; exact x.o a h1 h2, fun a u q => by
      by_cases z : a = p
      · subst z; rw [upd_same] at q; cases q; exact hv
      · rw [upd_ne z] at q; exact x.s a u q⟩ (.lst (Evl.sq_of upd_same) (r.mono (Ex.new fp)))) fun _ z => z⟩

/-! ### names, constants -/
def mVar (i : Nat) : Env → Res D := fun ρ => ofO ((ρ[i]?).join)
def mC (d : D) : Env → Res D := fun _ => .ok d
theorem join_some {α : Type} {o : Option (Option α)} {a : α} (h : o.join = some a) : o = some (some a) := by
  cases o with
  | none => cases h
  | some q => cases q with
    | none => cases h
    | some b => cases h; rfl
theorem de_var {i : Nat} {x : Str} (hk : κ i = .im) (hN : X.N[i]? = some x) (hv : Vis X.env.scope x) (hd : (x == ("__debug__" : Str)) = false := by decide) (hcd : (x == ("__classdict__" : Str)) = false := by decide) : DE X κ E (.Name x pos) (mVar i) :=
  (pe_var hN hv hd hcd).imp fun σ H Q ⟨F0, H0, F, ρ, S, c⟩ => by
    obtain ⟨d, e, k⟩ := ofO_sat c
    obtain ⟨v, h1, h2⟩ := S.slot i d (join_some e)
    rw [hk] at h2
    exact ⟨v, h1, k v F H (Ext.refl S.sub) h2⟩
theorem db_var {i : Nat} {x : Str} (hN : X.N[i]? = some x) (hv : Vis X.env.scope x) (hd : (x == ("__debug__" : Str)) = false := by decide) (hcd : (x == ("__classdict__" : Str)) = false := by decide) : DB X κ E (.Name x pos) (mVar i) :=
  (pe_var hN hv hd hcd).imp fun σ H Q ⟨F0, H0, F, ρ, S, c⟩ => by
    obtain ⟨d, e, k⟩ := ofO_sat c
    obtain ⟨v, h1, h2⟩ := S.slot i d (join_some e)
    exact ⟨v, h1, k v F H (Ext.refl S.sub) h2.rb⟩
theorem rdE_c {mg : Mg} {K : Frag} {v : V} {d : D} (r : ∀ F, Rp K F v d) : ∀ σ H Q, rdE mg K κ E (mC d) σ H Q → tC v σ H Q := fun σ H Q ⟨F0, H0, F, ρ, S, c⟩ => c v F H (Ext.refl S.sub) (r F)
theorem de_int {i j} : DE X κ E (.Constant (.int i) j pos) (mC (.int i)) := pe_int.imp (rdE_c fun _ => .int i)
theorem de_bl {i j} : DE X κ E (.Constant (.bool i) j pos) (mC (.bool i)) := pe_bl.imp (rdE_c fun _ => .bl i)
theorem de_non {j} : DE X κ E (.Constant .none j pos) (mC .none) := pe_non.imp (rdE_c fun _ => .non)
theorem de_str {x : Str} {j} (h : OkS x := by decide +kernel) : DE X κ E (.Constant (.str x) j pos) (mC (.str x)) := pe_str.imp (rdE_c fun _ => .str x h)
/-- a constant of the module: of the written part -/
structure GlobC (K : Frag) (mg : Mg) (x : Str) (d : D) : Prop where
  ex : ∃ v u, mg x = some u ∧ RelV v u ∧ ∀ F, Rp K F v d
theorem de_glob {x : Str} {d : D} (G : GlobC X.K X.mg x d) (hg : Gl X x) (hd : (x == ("__debug__" : Str)) = false := by decide) : DE X κ E (.Name x pos) (mC d) := by
  obtain ⟨v, u, h1, h2, h3⟩ := G.ex
  exact (pe_glob hg h1 h2 hd).imp (rdE_c h3)

/-! ### operators -/
abbrev Post (K : Frag) (F H : Hp) (Q : VK) (r : Res D) : Prop := r.sat (fun d => ∀ v F' H', Ext F H F' H' → Rp K F' v d → Q v H') fun _ => False
def Op2 (K : Frag) (r : R2) (f : D → D → Res D) : Prop := ∀ F H x y dx dy, Ex F H → Rb K F H x dx → Rb K F H y dy → ∀ Q : VK, Post K F H Q (f dx dy) → r x y H Q
def mBin (f : D → D → Res D) (ma mb : Env → Res D) : Env → Res D := fun ρ => (ma ρ).bind fun x => (mb ρ).bind fun y => f x y
theorem sat_post {K : Frag} {F H : Hp} {Q : VK} {m : Res D} {mg : Mg} (noerr : ∀ x, m ≠ .err x) (h : m.sat (fun d => ∀ v F' H', Ext F H F' H' → Rp K F' v d → Q v H') (ErrOk mg K E F H)) : Post K F H Q m := by
  cases m with
  | ok d => exact h
  | err x => exact absurd rfl (noerr x)
  | stk => exact h
/-- two borrowed operands, from the left -/
theorem rd2 {ma mb : Env → Res D} {mg : Mg} {K : Frag} {σ : L2.St} {H : Hp} {R : V → V → Hp → Prop} {F0 H0 F : Hp} {ρ : Env} (S : Stt K κ F0 H0 F H σ ρ) {f : D → D → Res D} {P : D → Prop}
    (c : (mBin f ma mb ρ).sat P (ErrOk mg K E F H))
    (k : ∀ dx dy x y F2 H2, Ext F H F2 H2 → Rb K F2 H2 x dx → Rb K F2 H2 y dy → (f dx dy).sat P (ErrOk mg K E F H) → R x y H2) :
    rdB mg K κ E ma σ H fun x H1 => rdB mg K κ E mb σ H1 fun y H2 => R x y H2 := by
  refine ⟨F0, H0, F, ρ, S, Res.sat_imp (Res.sat_bind c) (fun dx _ c1 x F1 H1 e1 r1 => ?_) fun _ z => z⟩
  refine ⟨F0, H0, F1, ρ, S.mono e1, Res.sat_imp (Res.sat_bind c1) (fun dy _ c2 y F2 H2 e2 r2 => ?_) fun x z => z.mono e1⟩
  exact k dx dy x y F2 H2 (e1.trans e2) (r1.mono e2) r2 c2
theorem op2_read {r : R2} {f : D → D → Res D} {mg : Mg} {K : Frag} (hf : Op2 K r f) (ne : ∀ x y z, f x y ≠ .err z) {ma mb : Env → Res D} : ∀ σ H Q, rdE mg K κ E (mBin f ma mb) σ H Q → tOp r (rdB mg K κ E ma) (rdB mg K κ E mb) σ H Q :=
  fun σ H Q ⟨F0, H0, F, ρ, S, c⟩ => rd2 S c fun dx dy x y F2 H2 e r1 r2 c2 => hf F2 H2 x y dx dy e.s r1 r2 Q (by
    have c3 := sat_post (ne dx dy) c2
    exact Res.sat_imp c3 (fun d _ k v F' H' e' rp => k v F' H' (e.trans e') rp) fun _ z => z)
theorem de_op {op : Operator} {r : R2} {f : D → D → Res D} (ho : OpR X (binaryOp op) r) (hf : Op2 X.K r f) (ne : ∀ x y z, f x y ≠ .err z) {ma mb : Env → Res D} (ha : DB X κ E a ma) (hb : DB X κ E b mb) : DE X κ E (.BinOp a op b pos) (mBin f ma mb) :=
  (pe_op ho ha hb).imp (op2_read hf ne)
theorem de_cmp {op : CmpOp} {r : R2} {f : D → D → Res D} (ho : OpR X (compareOp op) r) (hf : Op2 X.K r f) (ne : ∀ x y z, f x y ≠ .err z) {ma mb : Env → Res D} (ha : DB X κ E a ma) (hb : DB X κ E b mb) (hm : behindInMarks op b = false) : DE X κ E (.Compare a [op] [b] pos) (mBin f ma mb) :=
  (pe_cmpR ho ha hb hm).imp (op2_read hf ne)
/-- a value as a test -/
def truD : D → Res Bool
  | .bool b => .ok b
  | .none => .ok false
  | .int i => .ok (i != 0)
  | .str x => if x.length ≤ sizeLine then .ok ((x.length : Int) != 0) else .stk
  | .list xs => .ok (!xs.isEmpty)
  | .tuple xs => .ok (!xs.isEmpty)
  | .dict xs => .ok (!xs.isEmpty)
def mTru (m : Env → Res D) : Env → Res Bool := fun ρ => (m ρ).bind truD
theorem bool_of {r : Res D} {P : Bool → Prop} {Q : Exn → Prop} (h : ((r.bind truD)).sat P Q) (hb : ∀ d, r = .ok d → ∃ b, d = .bool b) : r.sat (fun d => ∃ b, d = .bool b ∧ P b) Q := by
  cases r with
  | ok d =>
    obtain ⟨b, rfl⟩ := hb d rfl
    exact ⟨b, rfl, h⟩
  | err x => exact h
  | stk => exact h
theorem dt_cmp {op : CmpOp} {r : R2} {f : D → D → Res D} (ho : OpR X (compareOp op) r) (hf : Op2 X.K r f) (ne : ∀ x y z, f x y ≠ .err z) (hb : ∀ x y d, f x y = .ok d → ∃ b, d = .bool b) {ma mb : Env → Res D} (ha : DB X κ E a ma) (hb' : DB X κ E b mb) (hm : behindInMarks op b = false) :
    DT X κ E (.Compare a [op] [b] pos) (mTru (mBin f ma mb)) :=
  (pt_cmpR ho ha hb' hm).imp fun σ H Q ⟨F0, H0, F, ρ, S, c⟩ => by
    refine op2_read (mg := X.mg) hf ne σ H _ ⟨F0, H0, F, ρ, S, Res.sat_imp (bool_of c fun d hd => ?_) (fun d _ k v F' H' e r => ?_) fun _ z => z⟩
    · unfold mBin at hd
      cases q : ma ρ with
      | ok x =>
        rw [q] at hd
        cases q2 : mb ρ with
        | ok y =>
          simp only [Res.bind, q2] at hd
          exact hb x y d hd
        | err y => simp only [Res.bind, q2] at hd; cases hd
        | stk => simp only [Res.bind, q2] at hd; cases hd
      | err x => rw [q] at hd; cases hd
      | stk => rw [q] at hd; cases hd
    · obtain ⟨b, rfl, k⟩ := k
      cases r
      exact ⟨b, rfl, k F' H' e⟩
theorem dt_truth {ma : Env → Res D} (ha : DB X κ E a ma) (he : ∀ whole, isTrue a X.env whole = (do let v ← whole; standAt a.pos; holding [v] (truthy v))) : DT X κ E a (mTru ma) :=
  (pt_truth ha he).imp fun σ H Q ⟨F0, H0, F, ρ, S, c⟩ => by
    refine ⟨F0, H0, F, ρ, S, Res.sat_imp (Res.sat_bind c) (fun d _ k v F' H' e r => ?_) fun _ z => z⟩
    have w := r.whole e.s
    cases w with
    | non => exact ⟨false, rfl, k F' H' e⟩
    | bl b => exact ⟨b, rfl, k F' H' e⟩
    | int i => exact ⟨_, rfl, k F' H' e⟩
    | str x hx =>
      unfold truD at k
      by_cases z : x.length ≤ sizeLine
      · simp only [if_pos z] at k
        exact ⟨_, ⟨z, rfl⟩, k F' H' e⟩
      · simp only [if_neg z] at k
        exact k.elim
    | @lst a xs ds h1 h2 =>
      refine ⟨!ds.isEmpty, .inl ⟨xs, h1, ?_⟩, k F' H' e⟩
      cases h2 <;> rfl
    | @tup a xs ds h1 h2 =>
      refine ⟨!ds.isEmpty, .inr (.inl ⟨xs, h1, ?_⟩), k F' H' e⟩
      cases h2 <;> rfl
    | @dct a kvs ds h1 h2 =>
      refine ⟨!ds.isEmpty, .inr (.inr ⟨kvs, h1, ?_⟩), k F' H' e⟩
      cases h2 <;> rfl
/-! and, or, not as tests -/
def mAnd (t u : Env → Res Bool) : Env → Res Bool := fun ρ => (t ρ).bind fun b => if b = true then u ρ else .ok false
def mOr (t u : Env → Res Bool) : Env → Res Bool := fun ρ => (t ρ).bind fun b => if b = true then .ok true else u ρ
def mNot (t : Env → Res Bool) : Env → Res Bool := fun ρ => (t ρ).bind fun b => .ok (!b)
variable {rest : List Expr}
theorem dw_and1 {t : Env → Res Bool} (h : DT X κ E a t) : DW X κ E (.BoolOp .And [a] pos) t := pw_and1 h
theorem dw_or1 {t : Env → Res Bool} (h : DT X κ E a t) : DW X κ E (.BoolOp .Or [a] pos) t := pw_or1 h
theorem dw_and {t u : Env → Res Bool} (h : DT X κ E a t) (h2 : DW X κ E (.BoolOp .And (b :: rest) pos) u) : DW X κ E (.BoolOp .And (a :: b :: rest) pos) (mAnd t u) :=
  (pw_and h h2).imp fun σ H Q ⟨F0, H0, F, ρ, S, c⟩ => ⟨F0, H0, F, ρ, S, Res.sat_imp (Res.sat_bind c) (fun b _ k F' H' e => by
    cases b with
    | true => exact ⟨F0, H0, F', ρ, S.mono e, Res.sat_imp k (fun b _ k F2 H2 e2 => k F2 H2 (e.trans e2)) fun x z => z.mono e⟩
    | false => exact k F' H' e) fun _ z => z⟩
theorem dw_or {t u : Env → Res Bool} (h : DT X κ E a t) (h2 : DW X κ E (.BoolOp .Or (b :: rest) pos) u) : DW X κ E (.BoolOp .Or (a :: b :: rest) pos) (mOr t u) :=
  (pw_or h h2).imp fun σ H Q ⟨F0, H0, F, ρ, S, c⟩ => ⟨F0, H0, F, ρ, S, Res.sat_imp (Res.sat_bind c) (fun b _ k F' H' e => by
    cases b with
    | false => exact ⟨F0, H0, F', ρ, S.mono e, Res.sat_imp k (fun b _ k F2 H2 e2 => k F2 H2 (e.trans e2)) fun x z => z.mono e⟩
    | true => exact k F' H' e) fun _ z => z⟩
theorem dt_not {t : Env → Res Bool} (h : DT X κ E a t) : DT X κ E (.UnaryOp .Not a pos) (mNot t) :=
  (pt_not h).imp fun σ H Q ⟨F0, H0, F, ρ, S, c⟩ => ⟨F0, H0, F, ρ, S, Res.sat_imp (Res.sat_bind c) (fun b _ k F' H' e => k F' H' e) fun _ z => z⟩
/-! .. as values, of bools -/
def boolD : D → Res Bool
  | .bool b => .ok b
  | _ => .stk
def mAndV (t u : Env → Res D) : Env → Res D := fun ρ => (t ρ).bind fun d => (boolD d).bind fun b => if b = true then u ρ else .ok (.bool false)
def mOrV (t u : Env → Res D) : Env → Res D := fun ρ => (t ρ).bind fun d => (boolD d).bind fun b => if b = true then .ok (.bool true) else u ρ
def mNotV (t : Env → Res D) : Env → Res D := fun ρ => (t ρ).bind fun d => (boolD d).bind fun b => .ok (.bool (!b))
theorem boolD_sat {d : D} {P : Bool → Prop} {R : Exn → Prop} (h : (boolD d).sat P R) : ∃ b, d = .bool b ∧ P b := by
  cases d <;> first | exact ⟨_, rfl, h⟩ | exact h.elim
theorem de_one {op} {m : Env → Res D} (h : DE X κ E a m) : DE X κ E (.BoolOp op [a] pos) m := pe_one h
theorem de_and {ma mb : Env → Res D} (ha : DE X κ E a ma) (hb : DE X κ E (.BoolOp .And (b :: rest) pos) mb) : DE X κ E (.BoolOp .And (a :: b :: rest) pos) (mAndV ma mb) :=
  (pe_and ha hb).imp fun σ H Q ⟨F0, H0, F, ρ, S, c⟩ => ⟨F0, H0, F, ρ, S, Res.sat_imp (Res.sat_bind c) (fun d _ k v F' H' e r => by
    obtain ⟨b, rfl, k⟩ := boolD_sat (Res.sat_bind k)
    cases r
    refine ⟨b, rfl, ?_⟩
    cases b with
    | true => exact ⟨F0, H0, F', ρ, S.mono e, Res.sat_imp k (fun d _ k v F2 H2 e2 r => k v F2 H2 (e.trans e2) r) fun x z => z.mono e⟩
    | false => exact k (.bl false) F' H' e (.bl false)) fun _ z => z⟩
theorem de_or {ma mb : Env → Res D} (ha : DE X κ E a ma) (hb : DE X κ E (.BoolOp .Or (b :: rest) pos) mb) : DE X κ E (.BoolOp .Or (a :: b :: rest) pos) (mOrV ma mb) :=
  (pe_or ha hb).imp fun σ H Q ⟨F0, H0, F, ρ, S, c⟩ => ⟨F0, H0, F, ρ, S, Res.sat_imp (Res.sat_bind c) (fun d _ k v F' H' e r => by
    obtain ⟨b, rfl, k⟩ := boolD_sat (Res.sat_bind k)
    cases r
    refine ⟨b, rfl, ?_⟩
    cases b with
    | false => exact ⟨F0, H0, F', ρ, S.mono e, Res.sat_imp k (fun d _ k v F2 H2 e2 r => k v F2 H2 (e.trans e2) r) fun x z => z.mono e⟩
    | true => exact k (.bl true) F' H' e (.bl true)) fun _ z => z⟩
theorem de_not {ma : Env → Res D} (ha : DE X κ E a ma) : DE X κ E (.UnaryOp .Not a pos) (mNotV ma) :=
  (pe_not ha).imp fun σ H Q ⟨F0, H0, F, ρ, S, c⟩ => ⟨F0, H0, F, ρ, S, Res.sat_imp (Res.sat_bind c) (fun d _ k v F' H' e r => by
    obtain ⟨b, rfl, k⟩ := boolD_sat (Res.sat_bind k)
    cases r
    exact ⟨b, rfl, k _ F' H' e (.bl _)⟩) fun _ z => z⟩
/-! x if t else y -/
def mIf (t : Env → Res Bool) (ma mb : Env → Res D) : Env → Res D := fun ρ => (t ρ).bind fun b => if b = true then ma ρ else mb ρ
theorem de_if {t : Env → Res Bool} {ma mb : Env → Res D} (ht : DT X κ E c t) (ha : DE X κ E a ma) (hb : DE X κ E b mb) : DE X κ E (.IfExp c a b pos) (mIf t ma mb) :=
  (pe_ifExp ht ha hb).imp fun σ H Q ⟨F0, H0, F, ρ, S, c⟩ => ⟨F0, H0, F, ρ, S, Res.sat_imp (Res.sat_bind c) (fun b _ k F' H' e => by
    cases b with
    | true => exact ⟨F0, H0, F', ρ, S.mono e, Res.sat_imp k (fun d _ k v F2 H2 e2 r => k v F2 H2 (e.trans e2) r) fun x z => z.mono e⟩
    | false => exact ⟨F0, H0, F', ρ, S.mono e, Res.sat_imp k (fun d _ k v F2 H2 e2 r => k v F2 H2 (e.trans e2) r) fun x z => z.mono e⟩) fun _ z => z⟩

/-! ### arguments, displays -/
def mNil : Env → Res (List D) := fun _ => .ok []
def mCons (m : Env → Res D) (ms : Env → Res (List D)) : Env → Res (List D) := fun ρ => (m ρ).bind fun d => (ms ρ).bind fun ds => .ok (d :: ds)
theorem da_nil : DA X κ E [] mNil := pa_nil.imp fun σ H Q ⟨F0, H0, F, ρ, S, c⟩ => c [] F H (Ext.refl S.sub) .nil
theorem da_cons {m : Env → Res D} {ms : Env → Res (List D)} (h : DE X κ E e m) (hs : DA X κ E es ms) (hst : starEach (e :: es) X.env = (false, eval e X.env) :: starEach es X.env := by rfl) : DA X κ E (e :: es) (mCons m ms) :=
  (pa_cons h hs hst).imp fun σ H Q ⟨F0, H0, F, ρ, S, c⟩ => ⟨F0, H0, F, ρ, S, Res.sat_imp (Res.sat_bind c) (fun d _ k v F' H' e r =>
    ⟨F0, H0, F', ρ, S.mono e, Res.sat_imp (Res.sat_bind k) (fun ds _ k vs F2 H2 e2 rs => k (v :: vs) F2 H2 (e.trans e2) (.cons (r.mono e2.f) rs)) fun x z => z.mono e⟩) fun _ z => z⟩
def mTup (m : Env → Res (List D)) : Env → Res D := fun ρ => (m ρ).bind fun ds => if ds.length ≤ sizeLine then .ok (.tuple ds) else .stk
theorem de_tup {x1} {m : Env → Res (List D)} (h : DA X κ E es m) : DE X κ E (.Tuple es x1 pos) (mTup m) :=
  (pe_tup h).imp fun σ H Q ⟨F0, H0, F, ρ, S, c⟩ => ⟨F0, H0, F, ρ, S, Res.sat_imp (Res.sat_bind c) (fun ds _ k vs F' H' e r => by
    by_cases z : ds.length ≤ sizeLine
    · simp only [if_pos z] at k
      exact ⟨by rw [r.length]; exact z, fun p hp => k _ (upd F' p (.tup vs)) _ (e.trans (.new e.s hp)) (.tup (Evl.st_of upd_same) (r.mono (Ex.new (none_of_ex e.s hp))))⟩
    · simp only [if_neg z] at k
      exact k.elim) fun _ z => z⟩
def mLst (m : Env → Res (List D)) : Env → Res (List D) := fun ρ => (m ρ).bind fun ds => if ds.length ≤ sizeLine then .ok ds else .stk
theorem dn_lst {m : Env → Res (List D)} (h : DA X κ E es m) : DN X κ E (.List es pos) (mLst m) :=
  (pe_lst h).imp fun σ H Q ⟨F0, H0, F, ρ, S, c⟩ => ⟨F0, H0, F, ρ, S, Res.sat_imp (Res.sat_bind c) (fun ds _ k vs F' H' e r => by
    by_cases z : ds.length ≤ sizeLine
    · simp only [if_pos z] at k
      exact ⟨by rw [r.length]; exact z, fun p hp => k p vs F' _ (e.trans (.newO e.s hp)) (fresh_back e.h hp) (none_of_ex e.s hp) upd_same r⟩
    · simp only [if_neg z] at k
      exact k.elim) fun _ z => z⟩
end
end WD

namespace WD
open PySem PySem.Spec PyProof.Rows L2
open Evl (Ex Ex.refl Ex.trans Ex.new Ex.mut ex_l ex_t fresh_back)

/-! ### statements -/
inductive Out where
  | nx (ρ : Env) | bk (ρ : Env) | ct (ρ : Env) | rt (d : D) | err (x : Exn) | stk
def Out.sat (N B C : Env → Prop) (T : D → Prop) (R : Exn → Prop) : Out → Prop
  | .nx ρ => N ρ
  | .bk ρ => B ρ
  | .ct ρ => C ρ
  | .rt d => T d
  | .err x => R x
  | .stk => False
theorem Out.sat_imp {N B C N' B' C' : Env → Prop} {T T' : D → Prop} {R R' : Exn → Prop} {o : Out} (h : Out.sat N B C T R o) (hn : ∀ ρ, N ρ → N' ρ) (hb : ∀ ρ, B ρ → B' ρ) (hc : ∀ ρ, C ρ → C' ρ) (ht : ∀ d, T d → T' d) (hr : ∀ x, R x → R' x) : Out.sat N' B' C' T' R' o := by
  cases o with
  | nx ρ => exact hn ρ h
  | bk ρ => exact hb ρ h
  | ct ρ => exact hc ρ h
  | rt d => exact ht d h
  | err x => exact hr x h
  | stk => exact h
def Res.out {α : Type} (r : Res α) (f : α → Out) : Out :=
  match r with
  | .ok a => f a
  | .err x => .err x
  | .stk => .stk
theorem out_sat {α : Type} {N B C : Env → Prop} {T : D → Prop} {R : Exn → Prop} {r : Res α} {f : α → Out} (h : Out.sat N B C T R (r.out f)) : Res.sat (fun a => Out.sat N B C T R (f a)) R r := by
  cases r <;> exact h
section
variable (mg : Mg) (K : Frag) (κ : Nat → Kd) (E : XK)
/-- what is asked of where a statement ends; F0 H0: the entry's -/
def OutOk (F0 H0 F H : Hp) (Dn : Ends) (o : Out) : Prop :=
  Out.sat (fun ρ' => ∀ σ' F' H', Ex F F' → Stt K κ F0 H0 F' H' σ' ρ' → Dn.nx σ' H') (fun ρ' => ∀ σ' F' H', Ex F F' → Stt K κ F0 H0 F' H' σ' ρ' → Dn.bk σ' H') (fun ρ' => ∀ σ' F' H', Ex F F' → Stt K κ F0 H0 F' H' σ' ρ' → Dn.ct σ' H')
    (fun d => ∀ v F' H', Ext F0 H0 F' H' → Rp K F' v d → Dn.rt v H') (ErrOk mg K E F0 H0) o
theorem OutOk.mono {mg : Mg} {K : Frag} {κ : Nat → Kd} {E : XK} {F0 H0 F H F' H' : Hp} {Dn : Ends} {o : Out} (x : Ex F F') (h : OutOk mg K κ E F0 H0 F H Dn o) : OutOk mg K κ E F0 H0 F' H' Dn o :=
  Out.sat_imp h (fun ρ k σ' F2 H2 e s => k σ' F2 H2 (x.trans e) s) (fun ρ k σ' F2 H2 e s => k σ' F2 H2 (x.trans e) s) (fun ρ k σ' F2 H2 e s => k σ' F2 H2 (x.trans e) s) (fun _ z => z) fun _ z => z
def rdS (m : Env → Out) : TS := fun Dn σ H => ∃ F0 H0 F ρ, Stt K κ F0 H0 F H σ ρ ∧ OutOk mg K κ E F0 H0 F H Dn (m ρ)
end
def DS (X : Cx) (κ : Nat → Kd) (E : XK) (e : Stmt) (m : Env → Out) : Prop := PS X e (rdS X.mg X.K κ E m)
def DSs (X : Cx) (κ : Nat → Kd) (E : XK) (e : List Stmt) (m : Env → Out) : Prop := PSs X e (rdS X.mg X.K κ E m)

section
variable {X : Cx} {κ : Nat → Kd} {E : XK} {a b c e : Expr} {es : List Expr} {pos : Pos} {st : Stmt} {sts : List Stmt}
def mNext : Env → Out := .nx
def mSeq (m n : Env → Out) : Env → Out := fun ρ =>
  match m ρ with
  | .nx ρ' => n ρ'
  | o => o
theorem ds_nil : DSs X κ E [] mNext := pss_nil.imp fun Dn σ H ⟨F0, H0, F, ρ, S, k⟩ => k σ F H (Ex.refl F) S
theorem ds_cons {m n : Env → Out} (h : DS X κ E st m) (hs : DSs X κ E sts n) : DSs X κ E (st :: sts) (mSeq m n) :=
  (pss_cons h hs).imp fun Dn σ H ⟨F0, H0, F, ρ, S, k⟩ => ⟨F0, H0, F, ρ, S, by
    unfold mSeq at k
    cases q : m ρ with
    | nx ρ' => rw [q] at k; exact fun σ' F' H' x S' => ⟨F0, H0, F', ρ', S', OutOk.mono (H := H) x k⟩
    | bk ρ' => rw [q] at k; exact k
    | ct ρ' => rw [q] at k; exact k
    | rt d => rw [q] at k; exact k
    | err x => rw [q] at k; exact k
    | stk => rw [q] at k; exact k⟩
theorem ds_one {m : Env → Out} (h : DS X κ E st m) : DSs X κ E [st] m := pss_one h
theorem ds_pass : DS X κ E (.Pass pos) mNext := ps_pass.imp fun Dn σ H ⟨F0, H0, F, ρ, S, k⟩ => k σ F H (Ex.refl F) S
theorem ds_break : DS X κ E (.Break pos) .bk := ps_break.imp fun Dn σ H ⟨F0, H0, F, ρ, S, k⟩ => k σ F H (Ex.refl F) S
theorem ds_continue : DS X κ E (.Continue pos) .ct := ps_continue.imp fun Dn σ H ⟨F0, H0, F, ρ, S, k⟩ => k σ F H (Ex.refl F) S
theorem ds_doc {x j pos pos'} : DS X κ E (.Expr (.Constant (.str x) j pos) pos') mNext := ps_doc.imp fun Dn σ H ⟨F0, H0, F, ρ, S, k⟩ => k σ F H (Ex.refl F) S
/-- what is never reached -/
def mStk : Env → Out := fun _ => .stk
theorem ds_stk : DS X κ E st mStk := ps_never.imp fun Dn σ H ⟨F0, H0, F, ρ, S, k⟩ => k
/-- the error's wish, seen from the entry -/
theorem err_back {mg : Mg} {K : Frag} {F0 H0 F H : Hp} {σ : L2.St} {ρ : Env} (S : Stt K κ F0 H0 F H σ ρ) {x : Exn} (h : ErrOk mg K E F0 H0 x) : ErrOk mg K E F H x := h.mono S.ext
def mRet (m : Env → Res D) : Env → Out := fun ρ => (m ρ).out .rt
theorem ds_ret {m : Env → Res D} (h : DE X κ E e m) : DS X κ E (.Return (some e) pos) (mRet m) :=
  (ps_ret h).imp fun Dn σ H ⟨F0, H0, F, ρ, S, k⟩ => ⟨F0, H0, F, ρ, S, Res.sat_imp (out_sat k) (fun d _ k v F' H' x r => k v F' H' (S.ext.trans x) r) fun x z => err_back S z⟩
theorem ds_retN : DS X κ E (.Return none pos) (fun _ => .rt .none) := ps_retN.imp fun Dn σ H ⟨F0, H0, F, ρ, S, k⟩ => k .non F H S.ext .non
def mAsg (i : Nat) (m : Env → Res D) : Env → Out := fun ρ => (m ρ).out fun d => .nx (ρ.set i (some d))
theorem ds_set {i : Nat} {x : Str} {pos' : Pos} {m : Env → Res D} (hk : κ i = .im) (hN : X.N.Nodup) (hi : X.N[i]? = some x) (hx : Loc X.env.scope x) (h : DE X κ E e m) (hs : swapsWith e (some (.Name x pos')) pos.line X.env = pure false := by rfl)
    (hf : X.fn x = true ∨ X.env.scope.names.lookup x = some .local := by first | exact .inl rfl | exact .inr rfl | assumption) : DS X κ E (.Assign [.Name x pos'] e pos) (mAsg i m) :=
  (ps_set (i := i) hN hi hx h hs hf).imp fun Dn σ H ⟨F0, H0, F, ρ, S, k⟩ => ⟨F0, H0, F, ρ, S, Res.sat_imp (out_sat k) (fun d _ k v F' H' x r => k _ F' H' x.f ((S.mono x).set hk r)) fun x z => err_back S z⟩
/-- an owned name gets a new list -/
def mAsgN (i : Nat) (m : Env → Res (List D)) : Env → Out := fun ρ => (m ρ).out fun ds => .nx (ρ.set i (some (.list ds)))
theorem asgN {mg : Mg} {K : Frag} {i : Nat} {m : Env → Res (List D)} (hk : κ i = .ow) {Dn : Ends} {σ : L2.St} {H F0 H0 F : Hp} {ρ : Env} (S : Stt K κ F0 H0 F H σ ρ) (k : OutOk mg K κ E F0 H0 F H Dn (mAsgN i m ρ)) :
    (m ρ).sat (fun ds => ∀ p vs F' H', Ext F H F' H' → H p = none → F' p = none → H' p = some (.lst vs) → RpA K F' vs ds → Dn.nx (σ.set i (some (.ref p))) H') (ErrOk mg K E F H) :=
  Res.sat_imp (out_sat k) (fun ds _ k p vs F' H' x hp fp hv r => k _ F' H' x.f ((S.mono x).setO hk (fresh_back S.h0 hp) fp (.inl ⟨vs, ds, rfl, hv, r⟩) (fun j d hj hji kj ej => by
    obtain ⟨v, h1, h2⟩ := S.slot j d hj
    rw [kj] at h2
    obtain ⟨a, e, _, _, o⟩ := h2
    rw [h1, e] at ej
    have : a = p := by simpa using ej
    subst this
    rcases o with ⟨_, _, _, g, _⟩ | ⟨_, _, _, g, _⟩ <;> rw [hp] at g <;> cases g))) fun x z => err_back S z
theorem ds_setN {i : Nat} {x : Str} {pos' : Pos} {m : Env → Res (List D)} (hk : κ i = .ow) (hN : X.N.Nodup) (hi : X.N[i]? = some x) (hx : Loc X.env.scope x) (h : DN X κ E e m) (hs : swapsWith e (some (.Name x pos')) pos.line X.env = pure false := by rfl)
    (hf : X.fn x = true ∨ X.env.scope.names.lookup x = some .local := by first | exact .inl rfl | exact .inr rfl | assumption) : DS X κ E (.Assign [.Name x pos'] e pos) (mAsgN i m) :=
  (ps_set (i := i) hN hi hx h hs hf).imp fun Dn σ H ⟨F0, H0, F, ρ, S, k⟩ => ⟨F0, H0, F, ρ, S, asgN hk S k⟩
def mIfS (t : Env → Res Bool) (m n : Env → Out) : Env → Out := fun ρ => (t ρ).out fun b => if b = true then m ρ else n ρ
theorem ds_if {t : Env → Res Bool} {m n : Env → Out} {sts2 : List Stmt} (hc : DT X κ E c t) (h1 : DSs X κ E sts m) (h2 : DSs X κ E sts2 n) : DS X κ E (.If c sts sts2 pos) (mIfS t m n) :=
  (ps_if hc h1 h2).imp fun Dn σ H ⟨F0, H0, F, ρ, S, k⟩ => ⟨F0, H0, F, ρ, S, Res.sat_imp (out_sat k) (fun b _ k F' H' x => by
    cases b with
    | true => exact ⟨F0, H0, F', ρ, S.mono x, OutOk.mono (H := H) x.f k⟩
    | false => exact ⟨F0, H0, F', ρ, S.mono x, OutOk.mono (H := H) x.f k⟩) fun x z => err_back S z⟩
def mExpr (m : Env → Res D) : Env → Out := fun ρ => (m ρ).out fun _ => .nx ρ
theorem ds_expr {m : Env → Res D} (h : DE X κ E e m) (hs : swapsWith e none pos.line X.env = pure false := by rfl) : DS X κ E (.Expr e pos) (mExpr m) :=
  (ps_expr h hs).imp fun Dn σ H ⟨F0, H0, F, ρ, S, k⟩ => ⟨F0, H0, F, ρ, S, Res.sat_imp (out_sat k) (fun d _ k v F' H' x r => k σ F' H' x.f (S.mono x)) fun x z => err_back S z⟩

/-! ### freezing an owned slot; forgetting a slot -/
theorem Stt.freeze {K : Frag} {F0 H0 F H : Hp} {σ : L2.St} {ρ : Env} (S : Stt K κ F0 H0 F H σ ρ) (i : Nat) {κ' : Nat → Kd} (hi : κ i = .ow) (hi' : κ' i = .im) (ho : ∀ j, j ≠ i → κ' j = κ j) : ∃ F', Ex F F' ∧ Stt K κ' F0 H0 F' H σ ρ := by
  cases hd : (ρ[i]?).join with
  | none =>
    have hn : ∀ d, ρ[i]? ≠ some (some d) := fun d e => by rw [e] at hd; cases hd
    refine ⟨F, Ex.refl F, S.ex0, S.h0, S.o0, S.sub, S.len, fun j d h => ?_, fun j l a dj dl hn' hj hl kj kl ej el => ?_⟩
    · have : j ≠ i := fun z => hn d (z ▸ h)
      rw [ho j this]
      exact S.slot j d h
    · have nj : j ≠ i := fun z => hn dj (z ▸ hj)
      have nl : l ≠ i := fun z => hn dl (z ▸ hl)
      rw [ho j nj] at kj
      rw [ho l nl] at kl
      exact S.sep j l a dj dl hn' hj hl kj kl ej el
  | some d =>
    have hd' := join_some hd
    obtain ⟨v, h1, h2⟩ := S.slot i d hd'
    rw [hi] at h2
    obtain ⟨a, e, a0, fa, o⟩ := h2
    subst e
    obtain ⟨u, hu⟩ : ∃ u, H a = some u := by rcases o with ⟨_, _, _, g, _⟩ | ⟨_, _, _, g, _⟩ <;> exact ⟨_, g⟩
    have fF : Ex F (upd F a u) := Ex.new fa
    refine ⟨upd F a u, fF, S.ex0.trans fF, S.h0, fun b h3 h4 => ?_, fun b w q => ?_, S.len, fun j dj h => ?_, fun j l b dj dl hn' hj hl kj kl ej el => ?_⟩
    · rw [upd_ne (fun z => h4 (by rw [z]; exact a0))]
      exact S.o0 b h3 h4
    · by_cases z : b = a
      · subst z; rw [upd_same] at q; cases q; exact hu
      · rw [upd_ne z] at q; exact S.sub b w q
    · by_cases z : j = i
      · subst z
        rw [hd'] at h
        cases h
        refine ⟨_, h1, ?_⟩
        rw [hi']
        rcases o with ⟨vs, ds, rfl, g, r⟩ | ⟨vs, ds, rfl, g, r⟩
        · rw [g] at hu; cases hu
          exact Rp.lst (Evl.sq_of upd_same) (r.mono fF)
        · rw [g] at hu; cases hu
          exact Rp.dct upd_same (r.mono fF)
      · obtain ⟨w, g1, g2⟩ := S.slot j dj h
        refine ⟨w, g1, ?_⟩
        rw [ho j z]
        cases kj : κ j with
        | im => rw [kj] at g2; exact Rp.mono fF g2
        | bw =>
          rw [kj] at g2
          rcases g2 with g2 | ⟨b, eb, nb, ob⟩
          · exact .inl (g2.mono fF)
          · exact .inr ⟨b, eb, nb, ob.mono fF (Ex.refl H)⟩
        | ow =>
          rw [kj] at g2
          obtain ⟨b, eb, b0, fb, ob⟩ := g2
          have hba : b ≠ a := fun q => by
            subst q eb
            exact S.sep i j b d dj (Ne.symm z) hd' h hi kj h1 g1
          exact ⟨b, eb, b0, by rw [upd_ne hba]; exact fb, ob.mono fF (Ex.refl H)⟩
    · have nj : j ≠ i := fun z => by rw [z, hi'] at kj; cases kj
      have nl : l ≠ i := fun z => by rw [z, hi'] at kl; cases kl
      rw [ho j nj] at kj
      rw [ho l nl] at kl
      exact S.sep j l b dj dl hn' hj hl kj kl ej el
/-- from here on slot i stands still -/
def kdIm (κ : Nat → Kd) (i : Nat) : Nat → Kd := fun j => if j = i then .im else κ j
/-- the kinds at the end may be others -/
def rdS2 (mg : Mg) (K : Frag) (κ κe : Nat → Kd) (E : XK) (m : Env → Out) : TS := fun Dn σ H => ∃ F0 H0 F ρ, Stt K κ F0 H0 F H σ ρ ∧ OutOk mg K κe E F0 H0 F H Dn (m ρ)
def DSs2 (X : Cx) (κ κe : Nat → Kd) (E : XK) (e : List Stmt) (m : Env → Out) : Prop := PSs X e (rdS2 X.mg X.K κ κe E m)
variable {κe : Nat → Kd}
theorem ds2_of {m : Env → Out} (h : DSs X κ E sts m) : DSs2 X κ κ E sts m := h
/-- a statement that leaves nothing but by its end: no break, no continue -/
def Straight (m : Env → Out) : Prop := ∀ ρ, (∀ ρ', m ρ ≠ .bk ρ') ∧ ∀ ρ', m ρ ≠ .ct ρ'
theorem ds2_cons {m n : Env → Out} (h : DS X κ E st m) (hs : DSs2 X κ κe E sts n) (hm : ∀ ρ, (∀ ρ', m ρ ≠ .bk ρ') ∧ ∀ ρ', m ρ ≠ .ct ρ') : DSs2 X κ κe E (st :: sts) (mSeq m n) :=
  (pss_cons h hs).imp fun Dn σ H ⟨F0, H0, F, ρ, S, k⟩ => ⟨F0, H0, F, ρ, S, by
    unfold mSeq at k
    cases q : m ρ with
    | nx ρ' => rw [q] at k; exact fun σ' F' H' x S' => ⟨F0, H0, F', ρ', S', OutOk.mono (H := H) x k⟩
    | bk ρ' => exact absurd q ((hm ρ).1 ρ')
    | ct ρ' => exact absurd q ((hm ρ).2 ρ')
    | rt d => rw [q] at k; exact k
    | err x => rw [q] at k; exact k
    | stk => rw [q] at k; exact k⟩
theorem ds2_freeze (i : Nat) {m : Env → Out} (h : DSs2 X (kdIm κ i) κe E sts m) (hi : κ i = .ow) : DSs2 X κ κe E sts m :=
  PSs.imp h fun Dn σ H ⟨F0, H0, F, ρ, S, k⟩ => by
    obtain ⟨F', x, S'⟩ := S.freeze i (κ' := kdIm κ i) hi (if_pos rfl) (fun j hj => if_neg hj)
    exact ⟨F0, H0, F', ρ, S', OutOk.mono (H := H) x k⟩
def forget (is : List Nat) (ρ : Env) : Env := is.foldl (fun r i => r.set i none) ρ
theorem forget_get : ∀ (is : List Nat) (ρ : Env) (i : Nat) (d : D), (forget is ρ)[i]? = some (some d) → ρ[i]? = some (some d) ∧ i ∉ is
  | [], ρ, i, d, h => ⟨h, by simp⟩
  | j :: is, ρ, i, d, h => by
    obtain ⟨h1, h2⟩ := forget_get is (ρ.set j none) i d h
    by_cases q : j = i
    · subst q
      rw [List.getElem?_set, if_pos rfl] at h1
      split at h1 <;> cases h1
    · rw [List.getElem?_set_ne q] at h1
      exact ⟨h1, by simp [h2, Ne.symm q]⟩
theorem forget_len : ∀ (is : List Nat) (ρ : Env), (forget is ρ).length = ρ.length
  | [], ρ => rfl
  | j :: is, ρ => by
    show (forget is (ρ.set j none)).length = _
    rw [forget_len is, List.length_set]
theorem Stt.forget {K : Frag} {F0 H0 F H : Hp} {σ : L2.St} {ρ : Env} (S : Stt K κe F0 H0 F H σ ρ) (is : List Nat) (hk : ∀ j, j ∉ is → κe j = κ j) : Stt K κ F0 H0 F H σ (forget is ρ) := by
  refine ⟨S.ex0, S.h0, S.o0, S.sub, by rw [forget_len, S.len], fun j d h => ?_, fun j l a dj dl hn' hj hl kj kl ej el => ?_⟩
  · obtain ⟨h1, h2⟩ := forget_get is ρ j d h
    rw [← hk j h2]
    exact S.slot j d h1
  · obtain ⟨h1, h2⟩ := forget_get is ρ j dj hj
    obtain ⟨h3, h4⟩ := forget_get is ρ l dl hl
    rw [← hk j h2] at kj
    rw [← hk l h4] at kl
    exact S.sep j l a dj dl hn' h1 h3 kj kl ej el
def mForget (is : List Nat) (m : Env → Out) : Env → Out := fun ρ =>
  match m ρ with
  | .nx ρ' => .nx (forget is ρ')
  | .bk ρ' => .bk (forget is ρ')
  | .ct ρ' => .ct (forget is ρ')
  | .rt d => .rt d
  | .err x => .err x
  | .stk => .stk
theorem ds2_forget (is : List Nat) {m : Env → Out} (h : DSs2 X κ κe E sts m) (hk : ∀ j, j ∉ is → κe j = κ j) : DSs X κ E sts (mForget is m) :=
  PSs.imp h fun Dn σ H ⟨F0, H0, F, ρ, S, k⟩ => ⟨F0, H0, F, ρ, S, by
    unfold mForget at k
    cases q : m ρ with
    | nx ρ' => rw [q] at k; exact fun σ' F' H' x S' => k σ' F' H' x (S'.forget is hk)
    | bk ρ' => rw [q] at k; exact fun σ' F' H' x S' => k σ' F' H' x (S'.forget is hk)
    | ct ρ' => rw [q] at k; exact fun σ' F' H' x S' => k σ' F' H' x (S'.forget is hk)
    | rt d => rw [q] at k; exact k
    | err x => rw [q] at k; exact k
    | stk => rw [q] at k; exact k⟩

/-! ### targets -/
def rdG (K : Frag) (κ : Nat → Kd) (is : List Nat) (m : D → Env → Option Env) : TG := fun v σ H Q => ∃ F0 H0 F ρ d ρ', Stt K κ F0 H0 F H σ ρ ∧ Rp K F v d ∧ m d ρ = some ρ' ∧
  ∀ σ' F' H', Ext F H F' H' → Stt K κ F0 H0 F' H' σ' ρ' → σ'.length = σ.length → (∀ i, i ∉ is → σ'[i]? = σ[i]?) → Q σ' H'
def rdGs (K : Frag) (κ : Nat → Kd) (is : List Nat) (m : List D → Env → Option Env) : TGs := fun vs σ H Q => ∃ F0 H0 F ρ ds ρ', Stt K κ F0 H0 F H σ ρ ∧ RpA K F vs ds ∧ m ds ρ = some ρ' ∧
  ∀ σ' F' H', Ext F H F' H' → Stt K κ F0 H0 F' H' σ' ρ' → σ'.length = σ.length → (∀ i, i ∉ is → σ'[i]? = σ[i]?) → Q σ' H'
def DG (X : Cx) (κ : Nat → Kd) (e : Expr) (is : List Nat) (m : D → Env → Option Env) : Prop := PG X e (rdG X.K κ is m)
def DGs (X : Cx) (κ : Nat → Kd) (e : List Expr) (is : List Nat) (m : List D → Env → Option Env) : Prop := PGs X e (rdGs X.K κ is m)
theorem _root_.L2.PG.imp {X : Cx} {e : Expr} {t t' : TG} (h : PG X e t) (i : ∀ v σ H Q, t' v σ H Q → t v σ H Q) : PG X e t' := ⟨fun pins s σ H v u Q I r hw => h.run pins s σ H v u Q I r (i v σ H Q hw)⟩
theorem _root_.L2.PGs.imp {X : Cx} {e : List Expr} {t t' : TGs} (h : PGs X e t) (i : ∀ v σ H Q, t' v σ H Q → t v σ H Q) : PGs X e t' := ⟨fun pins s σ H v u Q I r hw => h.run pins s σ H v u Q I r (i v σ H Q hw)⟩
def gSet (i : Nat) : D → Env → Option Env := fun d ρ => some (ρ.set i (some d))
theorem dg_name {i : Nat} {x : Str} (hk : κ i = .im) (hN : X.N.Nodup) (hi : X.N[i]? = some x) (hx : Loc X.env.scope x) (hf : X.fn x = true ∨ X.env.scope.names.lookup x = some .local := by first | exact .inl rfl | exact .inr rfl | assumption) : DG X κ (.Name x pos) [i] (gSet i) :=
  (pg_name hN hi hx hf).imp fun v σ H Q ⟨F0, H0, F, ρ, d, ρ', S, r, e, k⟩ => by
    cases e
    refine k _ F H (Ext.refl S.sub) (S.set hk r) (by rw [List.length_set]) fun j hj => ?_
    rw [List.getElem?_set_ne (by simpa using (Ne.symm (by simpa using hj)))]
def gNilD : List D → Env → Option Env := fun ds ρ => match ds with
  | [] => some ρ
  | _ => none
def gConsD (g : D → Env → Option Env) (gs : List D → Env → Option Env) : List D → Env → Option Env := fun ds ρ => match ds with
  | [] => none
  | d :: ds => (g d ρ).bind (gs ds)
theorem dgs_nil : DGs X κ [] [] gNilD := pgs_nil.imp fun v σ H Q ⟨F0, H0, F, ρ, d, ρ', S, r, e, k⟩ => by
  cases r with
  | nil =>
    cases e
    exact ⟨rfl, k σ F H (Ext.refl S.sub) S rfl fun _ _ => rfl⟩
  | cons _ _ => cases e
theorem dgs_cons {is js : List Nat} {g : D → Env → Option Env} {gs : List D → Env → Option Env} (h : DG X κ e is g) (hs : DGs X κ es js gs)
    (hst : (assignEach (e :: es) X.env).map (·.2) = assign e X.env :: (assignEach es X.env).map (·.2) := by rfl) : DGs X κ (e :: es) (is ++ js) (gConsD g gs) :=
  (pgs_cons h hs hst).imp fun v σ H Q ⟨F0, H0, F, ρ, d, ρ', S, r, e, k⟩ => by
    cases r with
    | nil => cases e
    | @cons w vs dd ds r1 r2 =>
      have e' : (g dd ρ).bind (gs ds) = some ρ' := e
      cases q : g dd ρ with
      | none => rw [q] at e'; cases e'
      | some ρ1 =>
        rw [q] at e'
        refine ⟨w, vs, rfl, F0, H0, F, ρ, dd, ρ1, S, r1, q, fun σ1 F1 H1 x1 S1 l1 o1 => ?_⟩
        refine ⟨F0, H0, F1, ρ1, ds, ρ', S1, r2.mono x1.f, e', fun σ2 F2 H2 x2 S2 l2 o2 => k σ2 F2 H2 (x1.trans x2) S2 (l2.trans l1) fun i hi => ?_⟩
        have hi' : i ∉ is ∧ i ∉ js := by simpa using hi
        rw [o2 i hi'.2, o1 i hi'.1]
def gTupD (gs : List D → Env → Option Env) : D → Env → Option Env := fun d ρ => match d with
  | .tuple ds => gs ds ρ
  | _ => none
def lenG (n : Nat) (gs : List D → Env → Option Env) : List D → Env → Option Env := fun ds ρ => if ds.length = n then gs ds ρ else none
theorem dg_tup {is : List Nat} {k n : Nat} {gs : List D → Env → Option Env} (hc : X.calm = true) (h : DGs X κ es is gs)
    (hn : (assignEach es X.env).length = n := by rfl) (hst : (assignEach es X.env).findIdx? (·.1) = none := by rfl) : DG X κ (.Tuple es k pos) is (gTupD (lenG n gs)) :=
  (pg_tup hc h hn hst).imp fun v σ H Q ⟨F0, H0, F, ρ, d, ρ', S, r, e, k⟩ => by
    cases r with
    | @tup a xs ds h1 h2 =>
      have e' : (if ds.length = n then gs ds ρ else none) = some ρ' := e
      by_cases z : ds.length = n
      · rw [if_pos z] at e'
        exact ⟨a, xs, rfl, ex_t S.sub h1, by rw [h2.length]; exact z, F0, H0, F, ρ, ds, ρ', S, h2, e', k⟩
      · rw [if_neg z] at e'; cases e'
    | _ => cases e
/-- target = value -/
def mAsgG (g : D → Env → Option Env) (m : Env → Res D) : Env → Out := fun ρ => (m ρ).out fun d => (ofO (g d ρ)).out .nx
theorem ds_asg {tg : Expr} {is : List Nat} {g : D → Env → Option Env} {m : Env → Res D} (h : DE X κ E e m) (hg : DG X κ tg is g) (hs : swapsWithSole [tg] e pos.line X.env = pure false := by rfl) (hw : swappedStores [tg] e X.env = pure none := by rfl)
    (h1 : (assignEach [tg] X.env).map (·.2) = [assign tg X.env] := by rfl) : DS X κ E (.Assign [tg] e pos) (mAsgG g m) :=
  (ps_asg h hg hs hw h1).imp fun Dn σ H ⟨F0, H0, F, ρ, S, k⟩ => ⟨F0, H0, F, ρ, S, Res.sat_imp (out_sat k) (fun d _ k v F' H' x r => by
    obtain ⟨ρ', e, k⟩ := ofO_sat (out_sat k)
    exact ⟨F0, H0, F', ρ, d, ρ', S.mono x, r, e, fun σ' F2 H2 x2 S' _ _ => k σ' F2 H2 (x.f.trans x2.f) S'⟩) fun x z => err_back S z⟩

/-! ### walks -/
def WalkD (K : Frag) (G : Hp → Hp → Prop) (J : It) (ds : List D) : Prop := ∀ i F2 H2, G F2 H2 → Ex F2 H2 → i ≤ ds.length →
  (i < ds.length → J.go i H2 ∧ ∀ x H3, J.yld i H2 x H3 → ∃ d F3, ds[i]? = some d ∧ Ext F2 H2 F3 H3 ∧ Rp K F3 x d) ∧ (i = ds.length → J.stop i H2)
/-- over what stands still | over what is there for the while (for a comprehension) -/
def rdI (mg : Mg) (K : Frag) (κ : Nat → Kd) (E : XK) (m : Env → Res (List D)) : TI := fun σ H R => ∃ F0 H0 F ρ, Stt K κ F0 H0 F H σ ρ ∧
  (m ρ).sat (fun ds => ∀ J F' H', Ext F H F' H' → WalkD K (fun F2 H2 => Ex F' F2) J ds → R J H') (ErrOk mg K E F H)
def rdIp (mg : Mg) (K : Frag) (κ : Nat → Kd) (E : XK) (m : Env → Res (List D)) : TI := fun σ H R => ∃ F0 H0 F ρ, Stt K κ F0 H0 F H σ ρ ∧
  (m ρ).sat (fun ds => ∀ J F' H', Ext F H F' H' → WalkD K (fun F2 H2 => Ext F' H' F2 H2) J ds → R J H') (ErrOk mg K E F H)
def DI (X : Cx) (κ : Nat → Kd) (E : XK) (tg it : Expr) (m : Env → Res (List D)) : Prop := PI X tg it (rdI X.mg X.K κ E m)
def DIp (X : Cx) (κ : Nat → Kd) (E : XK) (tg it : Expr) (m : Env → Res (List D)) : Prop := PI X tg it (rdIp X.mg X.K κ E m)
theorem _root_.L2.PI.imp {X : Cx} {tg e : Expr} {t t' : TI} (h : PI X tg e t) (i : ∀ σ H R, t' σ H R → t σ H R) : PI X tg e t' := ⟨fun pins s σ H R I hw => h.run pins s σ H R I (i σ H R hw)⟩
theorem dip_of {tg : Expr} {m : Env → Res (List D)} (h : DI X κ E tg e m) : DIp X κ E tg e m := h.imp fun σ H R ⟨F0, H0, F, ρ, S, k⟩ =>
  ⟨F0, H0, F, ρ, S, Res.sat_imp k (fun ds _ k J F' H' x w => k J F' H' x fun i F2 H2 g => w i F2 H2 g.f) fun _ z => z⟩

/-! ### for -/
def forL (g : D → Env → Option Env) (b : Env → Out) : List D → Env → Out
  | [], ρ => .nx ρ
  | d :: ds, ρ =>
    match g d ρ with
    | none => .stk
    | some ρ1 =>
      match b ρ1 with
      | .nx ρ2 => forL g b ds ρ2
      | .ct ρ2 => forL g b ds ρ2
      | .bk ρ2 => .nx ρ2
      | .rt d => .rt d
      | .err x => .err x
      | .stk => .stk
def mFor (it : Env → Res (List D)) (g : D → Env → Option Env) (b : Env → Out) : Env → Out := fun ρ => (it ρ).out fun ds => forL g b ds ρ
theorem for_read {mg : Mg} {K : Frag} {it : Env → Res (List D)} {is : List Nat} {g : D → Env → Option Env} {b : Env → Out} : ∀ Dn σ H, rdS mg K κ E (mFor it g b) Dn σ H → tFor (rdI mg K κ E it) (rdG K κ is g) (rdS mg K κ E b) Dn σ H :=
  fun Dn σ H ⟨F0, H0, F, ρ, S, k⟩ => ⟨F0, H0, F, ρ, S, Res.sat_imp (out_sat k) (fun ds _ k J F1 H1 x1 w => by
    refine ⟨fun i m σ' H' => m = ds.length - i ∧ i ≤ ds.length ∧ ∃ F' ρ', Ex F1 F' ∧ Stt K κ F0 H0 F' H' σ' ρ' ∧ OutOk mg K κ E F0 H0 F' H' Dn (forL g b (ds.drop i) ρ'), ⟨ds.length, rfl, Nat.zero_le _, F1, ρ, Ex.refl F1, S.mono x1, OutOk.mono (H := H) x1.f k⟩, ?_⟩
    rintro i m σ' H' ⟨rfl, hi, F', ρ', e1, S', k'⟩
    obtain ⟨w1, w2⟩ := w i F' H' e1 S'.sub hi
    by_cases hlt : i < ds.length
    · obtain ⟨go, yl⟩ := w1 hlt
      have ed : ds.drop i = ds[i] :: ds.drop (i + 1) := List.drop_eq_getElem_cons hlt
      refine .inr ⟨go, fun σ2 H2 => ∃ F2 ρ2, Ex F1 F2 ∧ Stt K κ F0 H0 F2 H2 σ2 ρ2 ∧ OutOk mg K κ E F0 H0 F2 H2 Dn (forL g b (ds.drop (i + 1)) ρ2), fun σ2 H2 ⟨F2, ρ2, e2, S2, k2⟩ => ⟨ds.length - (i + 1), by omega, rfl, hlt, F2, ρ2, e2, S2, k2⟩, fun x H3 y => ?_⟩
      obtain ⟨d, F3, ed2, x3, r3⟩ := yl x H3 y
      have hd : ds[i] = d := by
        have := List.getElem?_eq_getElem hlt
        rw [this] at ed2
        exact Option.some.inj ed2
      rw [ed, hd] at k'
      unfold forL at k'
      cases q : g d ρ' with
      | none => rw [q] at k'; exact k'.elim
      | some ρ1 =>
        rw [q] at k'
        refine ⟨F0, H0, F3, ρ', d, ρ1, S'.mono x3, r3, q, fun σ4 F4 H4 x4 S4 _ _ => ⟨F0, H0, F4, ρ1, S4, ?_⟩⟩
        have e4 : Ex F1 F4 := (e1.trans x3.f).trans x4.f
        have e5 : Ex F' F4 := x3.f.trans x4.f
        cases q2 : b ρ1 with
        | nx ρ2 =>
          simp only [q2] at k'
          exact fun σ5 F5 H5 x5 S5 => ⟨F5, ρ2, e4.trans x5, S5, OutOk.mono (H := H') (e5.trans x5) k'⟩
        | ct ρ2 =>
          simp only [q2] at k'
          exact fun σ5 F5 H5 x5 S5 => ⟨F5, ρ2, e4.trans x5, S5, OutOk.mono (H := H') (e5.trans x5) k'⟩
        | bk ρ2 => simp only [q2] at k'; exact fun σ5 F5 H5 x5 S5 => k' σ5 F5 H5 (e5.trans x5) S5
        | rt d => simp only [q2] at k'; exact k'
        | err x => simp only [q2] at k'; exact k'
        | stk => simp only [q2] at k'; exact k'
    · have e : i = ds.length := by omega
      have ed : ds.drop i = [] := by rw [e, List.drop_length]
      rw [ed] at k'
      exact .inl ⟨w2 e, k' σ' F' H' (Ex.refl F') S'⟩) fun x z => err_back S z⟩
theorem ds_for {tg it : Expr} {is : List Nat} {mi : Env → Res (List D)} {g : D → Env → Option Env} {b : Env → Out} (hp : PassesOwn (model X.prog X.w) X.A X.env X.xe) (hc : X.calm = true) (hi : DI X κ E tg it mi) (hg : DG X κ tg is g) (hb : DSs X κ E sts b)
    (hs : ∀ x, foldedSetIterable it X.env x = pure x := by intro _; rfl) : DS X κ E (.For tg it sts [] pos) (mFor mi g b) :=
  (ps_for hp hc hi hg hb hs).imp for_read

/-! ### while -/
def whileL (c : Env → Res Bool) (b : Env → Out) : Nat → Env → Out
  | 0, _ => .stk
  | n + 1, ρ =>
    match c ρ with
    | .err x => .err x
    | .stk => .stk
    | .ok false => .nx ρ
    | .ok true =>
      match b ρ with
      | .nx ρ2 => whileL c b n ρ2
      | .ct ρ2 => whileL c b n ρ2
      | .bk ρ2 => .nx ρ2
      | .rt d => .rt d
      | .err x => .err x
      | .stk => .stk
def mWhile (fuel : Env → Nat) (c : Env → Res Bool) (b : Env → Out) : Env → Out := fun ρ => whileL c b (fuel ρ) ρ
theorem ds_while {fuel : Env → Nat} {t : Env → Res Bool} {b : Env → Out} (hp : PassesOwn (model X.prog X.w) X.A X.env X.xe) (ht : DT X κ E c t) (hb : DSs X κ E sts b) : DS X κ E (.While c sts [] pos) (mWhile fuel t b) :=
  (ps_while hp ht hb).imp fun Dn σ H ⟨F0, H0, F, ρ, S, k⟩ => by
    refine ⟨fun m σ' H' => ∃ F' ρ', Stt X.K κ F0 H0 F' H' σ' ρ' ∧ OutOk X.mg X.K κ E F0 H0 F' H' Dn (whileL t b m ρ'), ⟨fuel ρ, F, ρ, S, k⟩, ?_⟩
    rintro m σ' H' ⟨F', ρ', S', k'⟩
    cases m with
    | zero => exact k'.elim
    | succ n =>
      unfold whileL at k'
      refine ⟨F0, H0, F', ρ', S', ?_⟩
      cases q : t ρ' with
      | err x => rw [q] at k'; exact err_back S' k'
      | stk => rw [q] at k'; exact k'
      | ok v =>
        rw [q] at k'
        cases v with
        | false => exact fun F2 H2 x2 => k' σ' F2 H2 x2.f (S'.mono x2)
        | true =>
          intro F2 H2 x2
          refine ⟨fun σ3 H3 => ∃ F3 ρ3, Stt X.K κ F0 H0 F3 H3 σ3 ρ3 ∧ OutOk X.mg X.K κ E F0 H0 F3 H3 Dn (whileL t b n ρ3), fun σ3 H3 w => ⟨n, Nat.lt_succ_self n, w⟩, F0, H0, F2, ρ', S'.mono x2, ?_⟩
          cases q2 : b ρ' with
          | nx ρ2 => simp only [q2] at k'; exact fun σ3 F3 H3 x3 S3 => ⟨F3, ρ2, S3, OutOk.mono (H := H') (x2.f.trans x3) k'⟩
          | ct ρ2 => simp only [q2] at k'; exact fun σ3 F3 H3 x3 S3 => ⟨F3, ρ2, S3, OutOk.mono (H := H') (x2.f.trans x3) k'⟩
          | bk ρ2 => simp only [q2] at k'; exact fun σ3 F3 H3 x3 S3 => k' σ3 F3 H3 (x2.f.trans x3) S3
          | rt d => simp only [q2] at k'; exact k'
          | err x => simp only [q2] at k'; exact k'
          | stk => simp only [q2] at k'; exact k'
end
end WD

namespace PySem.AutoSeq1
theorem wd_extend_tuple (l : Addr) (items : Array Value) (n : Nat) (b : Addr) (items2 : Array Value) (n2 : Nat) (dd : Option Addr) (sl : Array (Option Value)) (hs0 : ¬(!items.isEmpty && Builtin.List.listTooLong (items.size + items2.size)) = true) (hs1 : items.size ≤ sizeLine) (hs2 : items.size + items2.size ≤ sizeLine + 1) :
    Meets (Builtin.«list.extend» ⟨[.ref l, .ref b], []⟩) (fun _ R s => s.heap.get? l = some { cls := .type "list", dict := none, data := .seq items n, slots := #[] } ∧ s.heap.get? b = some { cls := .type "tuple", dict := dd, data := .seq items2 n2, slots := sl } ∧ R (.ok (.ret Value.none)) { s with heap := s.heap.update l (Obj.mapSeq fun x => x ++ items2), toks := s.toks }) :=
  .of_wp fun prog w A R s h => by
    obtain ⟨hp, g, d, tk, os⟩ := s; obtain ⟨hl, hb, h⟩ := h; have f1 := idx_int; have f2 := sub_tuple_tuple; have f3 := sub_list_list; have f4 := sub_tuple_list; have f5 := sub_list_tuple;
    have hz' : (items ++ items2).size ≤ sizeLine + 1 := by rw [Array.size_append]; exact hs2
    wp_walk using (wpAny_updateSeq hl rfl (hz := hs1) (_hz' := hz')), wpAny_loadPart' hl, wpAny_loadPart' hb; exact ⟨_, rfl, h⟩
theorem wd_extend_list (l : Addr) (items : Array Value) (n : Nat) (b : Addr) (items2 : Array Value) (n2 : Nat) (sl : Array (Option Value)) (hs0 : ¬(!items.isEmpty && Builtin.List.listTooLong (items.size + items2.size)) = true) (hs1 : items.size ≤ sizeLine) (hs2 : items.size + items2.size ≤ sizeLine + 1) :
    Meets (Builtin.«list.extend» ⟨[.ref l, .ref b], []⟩) (fun _ R s => s.heap.get? l = some { cls := .type "list", dict := none, data := .seq items n, slots := #[] } ∧ s.heap.get? b = some { cls := .type "list", dict := none, data := .seq items2 n2, slots := sl } ∧ R (.ok (.ret Value.none)) { s with heap := s.heap.update l (Obj.mapSeq fun x => x ++ items2), toks := s.toks }) :=
  .of_wp fun prog w A R s h => by
    obtain ⟨hp, g, d, tk, os⟩ := s; obtain ⟨hl, hb, h⟩ := h; have f1 := idx_int; have f2 := sub_tuple_tuple; have f3 := sub_list_list; have f4 := sub_tuple_list; have f5 := sub_list_tuple;
    have hz' : (items ++ items2).size ≤ sizeLine + 1 := by rw [Array.size_append]; exact hs2
    wp_walk using (wpAny_updateSeq hl rfl (hz := hs1) (_hz' := hz')), wpAny_loadPart' hl, wpAny_loadPart' hb; exact ⟨_, rfl, h⟩
theorem wd_add_list (l : Addr) (items : Array Value) (n : Nat) (b : Addr) (items2 : Array Value) (n2 : Nat) (s1 s2 : Array (Option Value)) (hc0 : items.size + items2.size ≤ sizeLine) :
    Meets (Builtin.«list.__add__» ⟨[.ref l, .ref b], []⟩) (fun _ R s => s.heap.get? l = some { cls := .type "list", dict := none, data := .seq items n, slots := s1 } ∧ s.heap.get? b = some { cls := .type "list", dict := none, data := .seq items2 n2, slots := s2 } ∧ R (.ok (.ret (Value.ref s.heap.objs.size))) { s with heap := s.heap.push { cls := Value.type "list", data := Data.seq (items ++ items2) }, toks := s.toks }) :=
  .of_wp fun prog w A R s h => by obtain ⟨hp, g, d, tk, os⟩ := s; obtain ⟨hl, hb, h⟩ := h; have f1 := idx_int; have f2 := sub_tuple_tuple; have f3 := sub_list_list; have f4 := sub_tuple_list; have f5 := sub_list_tuple; wp_walk using wpAny_loadPart' hl, wpAny_loadPart' hb; exact ⟨_, rfl, h⟩
end PySem.AutoSeq1
namespace WD
open PySem PySem.Spec PyProof.Rows L2
open Evl (Ex Ex.refl Ex.trans Ex.new Ex.mut ex_l ex_t fresh_back)

/-! ### rules over any list, any tuple -/
section
variable {X : Cx}
def rExtA (K : Frag) : V → List V → Hp → VK → Prop := fun x vs H Q => ∃ l b xs zs, x = .ref l ∧ vs = [.ref b] ∧ H l = some (.lst xs) ∧ (SqL K H b zs ∨ SqT K H b zs) ∧ xs.length + zs.length ≤ sizeLine ∧ Q .non (upd H l (.lst (xs ++ zs)))
theorem mt_extendA : MtM X "list.extend" (rExtA X.K) := by
  intro pins s σ H x vs v us Q I rx rv h
  obtain ⟨l, b, xs, zs, rfl, rfl, hH, hB, hz, q⟩ := h
  cases rx
  obtain ⟨u, rfl, ru⟩ := rv.one
  cases ru
  obtain ⟨z, its, n, r, hl, e⟩ := I.lstM hH
  have fin : ∀ its2 : List Value, Vals zs its2 → EP X pins σ Q Value.none { s with heap := s.heap.update l (Obj.mapSeq fun x => x ++ its2.toArray), toks := s.toks } := fun its2 r2 =>
    ⟨.non, _, I.lset (its' := its ++ its2) hH e (by simp) (r.append r2) (by rw [List.length_append]; omega), rfl, q⟩
  have hlong : ∀ its2 : List Value, Vals zs its2 → ¬ (!its.toArray.isEmpty && Builtin.List.listTooLong (its.toArray.size + its2.toArray.size)) = true := fun its2 r2 => by
    have hl2 := r2.length
    rw [notLongL (by rw [List.size_toArray, List.size_toArray]; omega), Bool.and_false]
    exact Bool.false_ne_true
  rcases hB with hB | hB
  · obtain ⟨its2, r2, ⟨o, n2, ho, hc, hd, hdat⟩, z2⟩ := I.list hB
    have hl2 := r2.length
    obtain ⟨oc, od, odat, osl⟩ := o
    cases hc; cases hd; cases hdat
    exact call_meets F.slot_list_extend ⟨_, e, rfl⟩ F.entry_list_extend (F.args_list_extend_2 _ _)
      (AutoSeq1.wd_extend_list l its.toArray n b its2.toArray n2 osl (hlong its2 r2) (by rw [List.size_toArray]; omega) (by rw [List.size_toArray, List.size_toArray]; omega)) ⟨e, ho, fin its2 r2⟩
  · obtain ⟨its2, r2, ⟨o, ho, hc, n2, hdat⟩, z2⟩ := I.tuple hB
    have hl2 := r2.length
    obtain ⟨oc, od, odat, osl⟩ := o
    cases hc; cases hdat
    exact call_meets F.slot_list_extend ⟨_, e, rfl⟩ F.entry_list_extend (F.args_list_extend_2 _ _)
      (AutoSeq1.wd_extend_tuple l its.toArray n b its2.toArray n2 od osl (hlong its2 r2) (by rw [List.size_toArray]; omega) (by rw [List.size_toArray, List.size_toArray]; omega)) ⟨e, ho, fin its2 r2⟩
def rCatA (K : Frag) : R2 := fun x y H Q => ∃ l b xs zs, x = .ref l ∧ y = .ref b ∧ SqL K H l xs ∧ SqL K H b zs ∧ xs.length + zs.length ≤ sizeLine ∧ ∀ p, H p = none → Q (.ref p) (upd H p (.lst (xs ++ zs)))
theorem op_catA : OpR X (binaryOp .Add) (rCatA X.K) := by
  intro pins s σ H x y v u Q I rx ry h
  obtain ⟨l, b, xs, zs, rfl, rfl, hH, hB, hz, q⟩ := h
  cases rx
  cases ry
  obtain ⟨its, r, ⟨o, n, ho, hc, hd, hdat⟩, z⟩ := I.list hH
  obtain ⟨its2, r2, ⟨o2, n2, ho2, hc2, hd2, hdat2⟩, z2⟩ := I.list hB
  have hl := r.length
  have hl2 := r2.length
  obtain ⟨oc, od, odat, osl⟩ := o
  cases hc; cases hd; cases hdat
  obtain ⟨oc, od, odat, osl2⟩ := o2
  cases hc2; cases hd2; cases hdat2
  refine PySem.concat_meets ⟨_, ho, rfl⟩ ⟨_, ho2, rfl⟩ noFill_list_add seq_list_add F.slot_list_add F.entry_list_add (F.args_list_add_2 _ _) (AutoSeq1.wd_add_list l its.toArray n b its2.toArray n2 osl osl2 (by rw [List.size_toArray, List.size_toArray]; omega)) ⟨ho, ho2, ?_⟩
  have ea : its.toArray ++ its2.toArray = (its ++ its2).toArray := by simp
  rw [ea]
  exact ⟨.ref _, _, I.lnew (t' := s.toks) (r.append r2) (by rw [List.length_append]; omega), rfl, q _ I.fresh⟩
end

section
variable {X : Cx} {κ κe : Nat → Kd} {E : XK} {a b c e : Expr} {es : List Expr} {pos : Pos} {st : Stmt} {sts : List Stmt}

/-! ### calls of defs -/
def spM (mg : Mg) (K : Frag) (n : Nat) (m : List D → Res D) : Sp := fun vs H Q E => vs.length = n ∧ ∃ F ds, Ex F H ∧ RpA K F vs ds ∧ (m ds).sat (fun d => ∀ v F' H', Ext F H F' H' → Rp K F' v d → Q v H') (ErrOk mg K E F H)
/-- a def of the module, its promise by a mirror -/
structure Fn (P : Program) (w : World) (K : Frag) (mg : Mg) (base : Heap) (k : Nat) (x : Str) (ps : List Str) (m : List D → Res D) : Prop where
  ex : ∃ f fd, mg x = some (.ref f) ∧ PySem.W.keepIn K (.ref f) = true ∧ Binds K fd ps [] ∧ FnOk P w K mg base (L2.CX P w) k f fd ps (spM mg K ps.length m)
def mCall (m : List D → Res D) (ma : Env → Res (List D)) : Env → Res D := fun ρ => (ma ρ).bind m
theorem _root_.L2.PE.implies {X : Cx} {e : Expr} {t t' : TE} (h : PE X e t) (i : ∀ σ H Q, t' σ H Q → t σ H Q) : PE X e t' := h.imp i
theorem de_call {k : Nat} {x : Str} {p : Pos} {ps : List Str} {m : List D → Res D} {ma : Env → Res (List D)} (G : Fn X.prog X.w X.K X.mg X.base k x ps m) (hr : Room k X.A) (hx : Passes (L2.CX X.prog X.w) X E) (hg : Gl X x) (ha : DA X κ E (e :: es) ma) (hlen : (e :: es).length = ps.length)
    (hma : ∀ ρ ds, ma ρ = .ok ds → ds.length = ps.length)
    (hdb : (x == ("__debug__" : Str)) = false := by decide) (he : starEach (e :: es) X.env = (false, eval e X.env) :: starEach es X.env := by rfl) (hpl : (backTo pos (starEach es X.env)).any (·.1) = false := by rfl) :
    DE X κ E (.Call (.Name x p) (e :: es) [] pos) (mCall m ma) := by
  obtain ⟨f, fd, hm, hk, hb, hF⟩ := G.ex
  refine (pe_call (dvs := []) (ds := []) hF hr hg hm hk hb .nil hx ha hdb he hpl).imp fun σ H Q ⟨F0, H0, F, ρ, S, c⟩ => ⟨F0, H0, F, ρ, S, Res.sat_imp (Res.sat_bind c) (fun ds q k vs F' H' x r => ?_) fun _ z => z⟩
  refine ⟨by rw [List.append_nil, r.length, hma ρ ds q], F', ds, x.s, by rw [List.append_nil]; exact r, Res.sat_imp k (fun d _ k v F2 H2 x2 r2 => k v F2 H2 (x.trans x2) r2) fun _ z => z.mono x⟩
theorem mCons_len {m : Env → Res D} {ms : Env → Res (List D)} {n : Nat} (h : ∀ ρ ds, ms ρ = .ok ds → ds.length = n) : ∀ ρ ds, mCons m ms ρ = .ok ds → ds.length = n + 1 := fun ρ ds e => by
  unfold mCons at e
  cases q : m ρ with
  | ok d =>
    rw [q] at e
    cases q2 : ms ρ with
    | ok xs =>
      simp only [Res.bind, q2] at e
      cases e
      rw [List.length_cons, h ρ xs q2]
    | err x => simp only [Res.bind, q2] at e; cases e
    | stk => simp only [Res.bind, q2] at e; cases e
  | err x => rw [q] at e; cases e
  | stk => rw [q] at e; cases e
theorem mNil_len : ∀ ρ ds, mNil ρ = .ok ds → ds.length = 0 := fun ρ ds e => by cases e; rfl

/-! ### a def's body -/
def fnOut (o : Out) : Res D :=
  match o with
  | .nx _ => .ok .none
  | .rt d => .ok d
  | .err x => .err x
  | _ => .stk
def mkFn (n : Nat) (body : Env → Out) : List D → Res D := fun ds => fnOut (body (ds.map some ++ List.replicate (n - ds.length) none))
theorem fn_start {K : Frag} {F H : Hp} {vs : List V} {ds : List D} {N : List Str} {np : Nat} (s : Ex F H) (r : RpA K F vs ds) (hl : vs.length = np) (hk : ∀ i, i < np → κ i = .im) :
    Stt K κ F H F H (L2.start N vs) (ds.map some ++ List.replicate (N.length - ds.length) none) := by
  have el := r.length
  have known : ∀ i d, (ds.map some ++ List.replicate (N.length - ds.length) none)[i]? = some (some d) → ds[i]? = some d ∧ i < np := fun i d h => by
    by_cases hi : i < ds.length
    · rw [List.getElem?_append_left (by simpa using hi), List.getElem?_map, List.getElem?_eq_getElem hi] at h
      have : ds[i] = d := by simpa using h
      rw [List.getElem?_eq_getElem hi, this]
      exact ⟨rfl, by omega⟩
    · rw [List.getElem?_append_right (by simpa using hi), List.getElem?_replicate] at h
      split at h <;> cases h
  refine ⟨Ex.refl F, Ex.refl H, fun _ h _ => h, s, ?_, fun i d h => ?_, fun i j a di dj hn hi hj ki kj _ _ => ?_⟩
  · unfold L2.start
    simp [el]
  · obtain ⟨h1, h2⟩ := known i d h
    obtain ⟨v, g1, g2⟩ := r.get h1
    refine ⟨v, ?_, by rw [hk i h2]; exact g2⟩
    unfold L2.start
    have hi : i < vs.length := by omega
    rw [List.getElem?_append_left (by simpa using hi), List.getElem?_map, g1]
    rfl
  · have := hk i (known i di hi).2
    rw [this] at ki; cases ki
theorem fn_ok {P : Program} {w : World} {K : Frag} {mg : Mg} {base : Heap} {x qual : Str} {st : Stmt} {f : Addr} {fd : FuncData} {N ps : List Str} {k n : Nat} {body : Env → Out} (F : Fun K x qual st f fd) (S : FnScope N ps (defScope st)) (hn : N.length = n)
    (hk : ∀ i, i < ps.length → κ i = .im)
    (hbody : ∀ (cdv : Value) (A : Around) (outer : List PySem.Env) (s : Shared) (H : Hp) (E : XK), Room k (A.deeper (envOfC qual (defScope st) s.heap.objs.size f cdv)) →
      DSs2 (cxOf (L2.CX P w) P w K mg base N qual (defScope st) f cdv A outer s H E) κ κe E (defBody st) body) : FnOk P w K mg base (L2.CX P w) (k + 1) f fd ps (spM mg K ps.length (mkFn n body)) := by
  subst hn
  refine F.okX S (fun vs H Q E h => h.1) fun cdv A outer s H vs Q E hr h => ⟨_, hbody cdv A outer s H E hr, ?_⟩
  obtain ⟨hl, F, ds, e, r, c⟩ := h
  refine ⟨F, H, F, _, fn_start e r hl hk, ?_⟩
  unfold mkFn at c
  generalize ho : body (ds.map some ++ List.replicate (N.length - ds.length) none) = o at c ⊢
  cases o with
  | nx ρ => exact fun σ' F' H' _ S' => c .non F' H' S'.ext .non
  | bk ρ => exact c.elim
  | ct ρ => exact c.elim
  | rt d => exact c
  | err x => exact c
  | stk => exact c

/-! ### what changes an owned list -/
theorem own_at {K : Frag} {F0 H0 F H : Hp} {σ : L2.St} {ρ : Env} (S : Stt K κ F0 H0 F H σ ρ) {i : Nat} {d : D} (hk : κ i = .ow) (h : ρ[i]? = some (some d)) : ∃ a, σ[i]? = some (some (.ref a)) ∧ F a = none ∧ OwnAt K F H a d := by
  obtain ⟨v, h1, h2⟩ := S.slot i d h
  rw [hk] at h2
  obtain ⟨a, e, _, fa, o⟩ := h2
  exact ⟨a, by rw [h1, e], fa, o⟩
def getL (i : Nat) (ρ : Env) : Res (List D) :=
  match (ρ[i]?).join with
  | some (.list ds) => .ok ds
  | _ => .stk
theorem getL_sat {i : Nat} {ρ : Env} {P : List D → Prop} {R : Exn → Prop} (h : (getL i ρ).sat P R) : ∃ ds, ρ[i]? = some (some (.list ds)) ∧ P ds := by
  unfold getL at h
  cases q : (ρ[i]?).join with
  | none => rw [q] at h; exact h.elim
  | some d =>
    rw [q] at h
    cases d <;> first | exact ⟨_, join_some q, h⟩ | exact h.elim
theorem own_list {K : Frag} {F H : Hp} {a : Addr} {ds : List D} (o : OwnAt K F H a (.list ds)) : ∃ vs, H a = some (.lst vs) ∧ RpA K F vs ds := by
  rcases o with ⟨vs, ds', e, g, r⟩ | ⟨vs, ds', e, g, r⟩
  · cases e; exact ⟨vs, g, r⟩
  · cases e
/-- x.append(e) -/
def mApp (i : Nat) (m : Env → Res D) : Env → Out := fun ρ => (getL i ρ).out fun ds => (m ρ).out fun d => if ds.length < sizeLine then .nx (ρ.set i (some (.list (ds ++ [d])))) else .stk
theorem ds_append {i : Nat} {x : Str} {px : Pos} {apos cpos pos : Pos} {m : Env → Res D} (hk : κ i = .ow) (hN : X.N[i]? = some x) (hv : Vis X.env.scope x) (h : DE X κ E e m)
    (hx : PE X (.Call (.Attribute (.Name x px) "append" apos) [e] [] cpos) (tBM X.K "list" rAppend (tVar i) (tCons (rdE X.mg X.K κ E m) tNil)) := by exact pe_bm PySem.F.plainAttrs_list PySem.F.slot_list_append PySem.F.type_list_append mt_append (pe_var (by assumption) (by assumption)) (pa_cons (by assumption) pa_nil))
    (hs : swapsWith (.Call (.Attribute (.Name x px) "append" apos) [e] [] cpos) none pos.line X.env = pure false := by rfl) : DS X κ E (.Expr (.Call (.Attribute (.Name x px) "append" apos) [e] [] cpos) pos) (mApp i m) :=
  (ps_expr hx hs).imp fun Dn σ H ⟨F0, H0, F, ρ, S, k⟩ => by
    obtain ⟨ds, hd, k⟩ := getL_sat (out_sat k)
    obtain ⟨a, hs', fa, o⟩ := own_at S hk hd
    obtain ⟨vs, g, r⟩ := own_list o
    refine ⟨.ref a, hs', .inl ⟨rfl, vs, Evl.sq_of g⟩, F0, H0, F, ρ, S, Res.sat_imp (out_sat k) (fun d _ k v F' H' x rv => ?_) fun x z => err_back S z⟩
    by_cases z : ds.length < sizeLine
    · simp only [if_pos z] at k
      refine ⟨a, vs, v, rfl, rfl, x.h _ _ g, by rw [r.length]; exact z, k _ F' _ x.f ?_⟩
      exact (S.mono x).mut hk hd hs' (.inl ⟨vs ++ [v], ds ++ [d], rfl, upd_same, (r.mono x.f).append (.cons rv .nil)⟩)
    · simp only [if_neg z] at k
      exact k.elim
/-- x.extend(e), e a list or a tuple -/
def seqD : D → Res (List D)
  | .list ds => .ok ds
  | .tuple ds => .ok ds
  | _ => .stk
def mExt (i : Nat) (m : Env → Res D) : Env → Out := fun ρ => (getL i ρ).out fun ds => (m ρ).out fun d => (seqD d).out fun es => if ds.length + es.length ≤ sizeLine then .nx (ρ.set i (some (.list (ds ++ es)))) else .stk
theorem seqD_sat {d : D} {P : List D → Prop} {R : Exn → Prop} (h : (seqD d).sat P R) : ∃ ds, (d = .list ds ∨ d = .tuple ds) ∧ P ds := by
  cases d <;> first | exact ⟨_, .inl rfl, h⟩ | exact ⟨_, .inr rfl, h⟩ | exact h.elim
theorem Rp.seq {K : Frag} {F : Hp} {v : V} {d : D} {ds : List D} (r : Rp K F v d) (h : d = .list ds ∨ d = .tuple ds) : ∃ a vs, v = .ref a ∧ (SqL K F a vs ∨ SqT K F a vs) ∧ RpA K F vs ds := by
  rcases h with rfl | rfl
  · cases r with
    | lst h a => exact ⟨_, _, rfl, .inl h, a⟩
  · cases r with
    | tup h a => exact ⟨_, _, rfl, .inr h, a⟩
theorem ex_lt {K : Frag} {F H : Hp} {a : Addr} {vs : List V} (e : Ex F H) (h : SqL K F a vs ∨ SqT K F a vs) : SqL K H a vs ∨ SqT K H a vs := h.imp (ex_l e) (ex_t e)
theorem ds_extend {i : Nat} {x : Str} {px : Pos} {apos cpos pos : Pos} {m : Env → Res D} (hk : κ i = .ow) (hN : X.N[i]? = some x) (hv : Vis X.env.scope x) (h : DE X κ E e m)
    (hx : PE X (.Call (.Attribute (.Name x px) "extend" apos) [e] [] cpos) (tBM X.K "list" (rExtA X.K) (tVar i) (tCons (rdE X.mg X.K κ E m) tNil)) := by exact pe_bm PySem.F.plainAttrs_list PySem.F.slot_list_extend PySem.F.type_list_extend mt_extendA (pe_var (by assumption) (by assumption)) (pa_cons (by assumption) pa_nil))
    (hs : swapsWith (.Call (.Attribute (.Name x px) "extend" apos) [e] [] cpos) none pos.line X.env = pure false := by rfl) : DS X κ E (.Expr (.Call (.Attribute (.Name x px) "extend" apos) [e] [] cpos) pos) (mExt i m) :=
  (ps_expr hx hs).imp fun Dn σ H ⟨F0, H0, F, ρ, S, k⟩ => by
    obtain ⟨ds, hd, k⟩ := getL_sat (out_sat k)
    obtain ⟨a, hs', fa, o⟩ := own_at S hk hd
    obtain ⟨vs, g, r⟩ := own_list o
    refine ⟨.ref a, hs', .inl ⟨rfl, vs, Evl.sq_of g⟩, F0, H0, F, ρ, S, Res.sat_imp (out_sat k) (fun d _ k v F' H' x rv => ?_) fun x z => err_back S z⟩
    obtain ⟨es, hse, k⟩ := seqD_sat (out_sat k)
    obtain ⟨b, ws, rfl, hb, rs⟩ := rv.seq hse
    by_cases z : ds.length + es.length ≤ sizeLine
    · simp only [if_pos z] at k
      refine ⟨a, b, vs, ws, rfl, rfl, x.h _ _ g, ex_lt x.s hb, by rw [r.length, rs.length]; exact z, k _ F' _ x.f ?_⟩
      exact (S.mono x).mut hk hd hs' (.inl ⟨vs ++ ws, ds ++ es, rfl, upd_same, (r.mono x.f).append rs⟩)
    · simp only [if_neg z] at k
      exact k.elim

/-! ### comprehensions -/
def noErr {α : Type} : Res α → Res α
  | .err _ => .stk
  | r => r
def compL (g : D → Env → Option Env) (t : Env → Res Bool) (m : Env → Res D) (ρ : Env) : List D → Res (List D)
  | [] => .ok []
  | d :: ds =>
    match g d ρ with
    | none => .stk
    | some ρ1 => (noErr (t ρ1)).bind fun b => if b = true then (noErr (m ρ1)).bind fun y => (compL g t m ρ ds).bind fun ys => .ok (y :: ys) else compL g t m ρ ds
def mLc (it : Env → Res (List D)) (g : D → Env → Option Env) (t : Env → Res Bool) (m : Env → Res D) (vs : List Nat) : Env → Res (List D) := fun ρ =>
  (it ρ).bind fun ds => if ds.length ≤ sizeLine then noErr (compL g t m (forget vs ρ) ds) else .stk
theorem wipe_at {σ : L2.St} {i : Nat} : ∀ {vs : List Nat}, i ∈ vs → i < σ.length → (wipe σ vs)[i]? = some none
  | [], h, _ => by simp at h
  | v :: vs, h, hl => by
    show ((wipe σ vs).set v none)[i]? = _
    by_cases q : v = i
    · subst q
      rw [List.getElem?_set_self (by rw [wipe_length]; exact hl)]
    · rw [List.getElem?_set_ne q]
      exact wipe_at (by simpa [Ne.symm q] using h) hl
theorem wipe_eq {σ σ2 : L2.St} {vs is : List Nat} (hl : σ2.length = σ.length) (h : ∀ i, i ∉ is → σ2[i]? = (wipe σ vs)[i]?) (his : ∀ i ∈ is, i ∈ vs) : wipe σ2 vs = wipe σ vs := by
  apply List.ext_getElem?
  intro i
  by_cases hv : i ∈ vs
  · by_cases hi : i < σ.length
    · rw [wipe_at hv (by rw [hl]; exact hi), wipe_at hv hi]
    · rw [List.getElem?_eq_none (by rw [wipe_length, hl]; omega), List.getElem?_eq_none (by rw [wipe_length]; omega)]
  · rw [wipe_out hv]
    exact h i fun z => hv (his i z)
theorem Stt.wipe {K : Frag} {F0 H0 F H : Hp} {σ : L2.St} {ρ : Env} (S : Stt K κ F0 H0 F H σ ρ) (vs : List Nat) : Stt K κ F0 H0 F H (L2.wipe σ vs) (WD.forget vs ρ) := by
  refine ⟨S.ex0, S.h0, S.o0, S.sub, by rw [forget_len, wipe_length, S.len], fun j d h => ?_, fun j l a dj dl hn' hj hl kj kl ej el => ?_⟩
  · obtain ⟨h1, h2⟩ := forget_get vs ρ j d h
    rw [wipe_out h2]
    exact S.slot j d h1
  · obtain ⟨h1, h2⟩ := forget_get vs ρ j dj hj
    obtain ⟨h3, h4⟩ := forget_get vs ρ l dl hl
    rw [wipe_out h2] at ej
    rw [wipe_out h4] at el
    exact S.sep j l a dj dl hn' h1 h3 kj kl ej el
theorem noErr_sat {α : Type} {P : α → Prop} {R R' : Exn → Prop} {r : Res α} (h : (noErr r).sat P R) : r.sat P R' := by
  cases r with
  | ok a => exact h
  | err x => exact h.elim
  | stk => exact h
theorem noErr_ok {α : Type} {r : Res α} {a : α} (h : noErr r = .ok a) : r = .ok a := by
  cases r with
  | ok a => exact h
  | err x => cases h
  | stk => exact h
theorem bind_ok {α β : Type} {r : Res α} {f : α → Res β} {b : β} (h : r.bind f = .ok b) : ∃ a, r = .ok a ∧ f a = .ok b := by
  cases r with
  | ok a => exact ⟨a, rfl, h⟩
  | err x => cases h
  | stk => cases h
def DTs (X : Cx) (κ : Nat → Kd) (E : XK) (ifs : List Expr) (m : Env → Res Bool) : Prop := PTs X ifs (rdT X.mg X.K κ E m)
def mYes : Env → Res Bool := fun _ => .ok true
theorem dts_nil : DTs X κ E [] mYes := ⟨fun pins s σ H Q I ⟨F0, H0, F, ρ, S, k⟩ => pts_nil.run pins s σ H Q I (k F H (Ext.refl S.sub))⟩
theorem dts_one {m : Env → Res Bool} (h : DT X κ E c m) : DTs X κ E [c] m := pts_one h
theorem lc_read {mg : Mg} {K : Frag} {mi : Env → Res (List D)} {is vs : List Nat} {g : D → Env → Option Env} {mt : Env → Res Bool} {me : Env → Res D} (his : ∀ i ∈ is, i ∈ vs) : ∀ σ H Q, rdN mg K κ E (mLc mi g mt me vs) σ H Q →
    tLc (rdIp mg K κ E mi) (rdG K κ is g) (rdT mg K κ E0 mt) (rdE mg K κ E0 me) vs σ H Q :=
  fun σ H Q ⟨F0, H0, F, ρ, S, k⟩ => ⟨F0, H0, F, ρ, S, Res.sat_imp (Res.sat_bind k) (fun ds _ k J F1 H1 x1 w Dl hD => by
    by_cases hz : ds.length ≤ sizeLine
    case neg => simp only [if_neg hz] at k; exact k.elim
    simp only [if_pos hz] at k
    have k := noErr_sat (R' := fun _ => False) k
    cases hc : compL g mt me (forget vs ρ) ds with
    | err x => rw [hc] at k; exact k.elim
    | stk => rw [hc] at k; exact k.elim
    | ok out =>
      rw [hc] at k
      have fD : F1 Dl = none := none_of_ex x1.s hD
      have SW := (S.mono x1).wipe vs
      refine ⟨fun i m H2 => m = ds.length - i ∧ i ≤ ds.length ∧ ∃ F2 acc ads rs, Ext F1 H1 F2 H2 ∧ F2 Dl = none ∧ H2 Dl = some (.lst acc) ∧ RpA K F2 acc ads ∧ acc.length ≤ i ∧ compL g mt me (forget vs ρ) (ds.drop i) = .ok rs ∧ ads ++ rs = out,
        ⟨ds.length, rfl, Nat.zero_le _, F1, [], [], out, .newO x1.s hD, fD, upd_same, .nil, Nat.zero_le _, hc, rfl⟩, ?_⟩
      rintro i m H2 ⟨rfl, hi, F2, acc, ads, rs, x2, f2, h2, r2, l2, c2, e2⟩
      obtain ⟨w1, w2⟩ := w i F2 H2 x2 x2.s hi
      by_cases hlt : i < ds.length
      · obtain ⟨go, yl⟩ := w1 hlt
        have ed : ds.drop i = ds[i] :: ds.drop (i + 1) := List.drop_eq_getElem_cons hlt
        refine .inr ⟨go, fun H3 => ∃ F3 acc ads rs, Ext F1 H1 F3 H3 ∧ F3 Dl = none ∧ H3 Dl = some (.lst acc) ∧ RpA K F3 acc ads ∧ acc.length ≤ i + 1 ∧ compL g mt me (forget vs ρ) (ds.drop (i + 1)) = .ok rs ∧ ads ++ rs = out,
          fun H3 ⟨F3, acc, ads, rs, z⟩ => ⟨ds.length - (i + 1), by omega, rfl, hlt, F3, acc, ads, rs, z⟩, fun x H3 y => ?_⟩
        obtain ⟨d, F3, ed2, x3, r3⟩ := yl x H3 y
        have hd : ds[i] = d := by
          have := List.getElem?_eq_getElem hlt
          rw [this] at ed2
          exact Option.some.inj ed2
        rw [ed, hd] at c2
        unfold compL at c2
        cases q : g d (forget vs ρ) with
        | none => rw [q] at c2; cases c2
        | some ρ1 =>
          simp only [q] at c2
          obtain ⟨b, hb, c2⟩ := bind_ok c2
          have hb := noErr_ok hb
          have x13 := x2.trans x3
          refine ⟨F0, H0, F3, forget vs ρ, d, ρ1, SW.mono x13, r3, q, fun σ4 F4 H4 x4 S4 l4 o4 => ⟨wipe_eq (by rw [l4, wipe_length]) o4 his, F0, H0, F4, ρ1, S4, ?_⟩⟩
          rw [hb]
          intro F5 H5 x5
          have x15 := (x13.trans x4).trans x5
          have nD : H2 Dl ≠ none := by rw [h2]; exact fun z => nomatch z
          have x25 := (x3.trans x4).trans x5
          have f5 : F5 Dl = none := x25.o Dl f2 nD
          cases b with
          | false =>
            exact ⟨F5, acc, ads, rs, x15, f5, x25.h _ _ h2, r2.mono x25.f, by omega, c2, e2⟩
          | true =>
            obtain ⟨y, hy, c2⟩ := bind_ok c2
            have hy := noErr_ok hy
            obtain ⟨ys, hys, c2⟩ := bind_ok c2
            cases c2
            refine ⟨F0, H0, F5, ρ1, S4.mono x5, ?_⟩
            rw [hy]
            intro yv F6 H6 x6 r6
            have x26 := x25.trans x6
            have f6 : F6 Dl = none := x26.o Dl f2 nD
            have sub6 : Ex F6 (upd H6 Dl (.lst (acc ++ [yv]))) := fun b u q => by rw [upd_ne (ne_of_none q f6)]; exact x26.s b u q
            refine ⟨acc, x26.h _ _ h2, by omega, F6, acc ++ [yv], ads ++ [y], ys, ⟨(x15.trans x6).f, Ex.mut (x15.trans x6).h hD, (x15.trans x6).o, sub6⟩, f6, upd_same, (r2.mono x26.f).append (.cons r6 .nil), by rw [List.length_append, List.length_singleton]; omega, hys, by rw [List.append_assoc]; exact e2⟩
      · have e : i = ds.length := by omega
        have ed : ds.drop i = [] := by rw [e, List.drop_length]
        rw [ed] at c2
        cases c2
        rw [List.append_nil] at e2
        subst e2
        exact .inl ⟨w2 e, k Dl acc F2 H2 (x1.trans x2) (fresh_back x1.h hD) f2 h2 r2⟩) fun _ z => z⟩
theorem dn_lc {elt tg iter : Expr} {ifs : List Expr} {scope : Scope} {own : List (Str × Nat)} {mi : Env → Res (List D)} {is : List Nat} {g : D → Env → Option Env} {mt : Env → Res Bool} {me : Env → Res D} (hc : X.calm = true) (hN : X.N.Nodup) (hi : DIp X κ E tg iter mi) (ok : BlkOk X.N X.env.scope scope own) (his : ∀ i ∈ is, i ∈ own.map (·.2))
    (hg : ∀ (s : Shared) (H : Hp) (C : Addr) (cl : List (Str × Addr)) (fp : List Addr), DG (X.blk s H scope (compEnvC scope cl C X.env) fp) κ tg is g) (ht : ∀ (s : Shared) (H : Hp) (C : Addr) (cl : List (Str × Addr)) (fp : List Addr), DTs (X.blk s H scope (compEnvC scope cl C X.env) fp) κ E0 ifs mt)
    (he : ∀ (s : Shared) (H : Hp) (C : Addr) (cl : List (Str × Addr)) (fp : List Addr), DE (X.blk s H scope (compEnvC scope cl C X.env) fp) κ E0 elt me) (hs : ∀ x, foldedSetIterable iter X.env x = pure x := by intro _; rfl) :
    DN X κ E (.ListComp elt [⟨tg, iter, ifs, 0⟩] scope pos) (mLc mi g mt me (own.map (·.2))) :=
  (pe_lc (wi := rdIp X.mg X.K κ E mi) (g := rdG X.K κ is g) (tt := rdT X.mg X.K κ E0 mt) (te := rdE X.mg X.K κ E0 me) hc hN hi ok hg ht he hs).imp (lc_read his)
/-- name = [..] -/
theorem ds_setLc {i : Nat} {y : Str} {py spos : Pos} {elt tg iter : Expr} {ifs : List Expr} {scope : Scope} {own : List (Str × Nat)} {mi : Env → Res (List D)} {is : List Nat} {g : D → Env → Option Env} {mt : Env → Res Bool} {me : Env → Res D} (hk : κ i = .im) (his : ∀ i ∈ is, i ∈ own.map (·.2))
    (h : PS X (.Assign [.Name y py] (.ListComp elt [⟨tg, iter, ifs, 0⟩] scope pos) spos) (tAsg (tLc (rdIp X.mg X.K κ E mi) (rdG X.K κ is g) (rdT X.mg X.K κ E0 mt) (rdE X.mg X.K κ E0 me) (own.map (·.2))) (gName i))) :
    DS X κ E (.Assign [.Name y py] (.ListComp elt [⟨tg, iter, ifs, 0⟩] scope pos) spos) (mAsg i (mList (mLc mi g mt me (own.map (·.2))))) :=
  h.imp fun Dn σ H ⟨F0, H0, F, ρ, S, k⟩ => by
    refine lc_read (mg := X.mg) (K := X.K) (E := E) his σ H _ ⟨F0, H0, F, ρ, S, ?_⟩
    have k1 := Res.sat_imp (out_sat k) (fun d _ k => k) fun x z => err_back S z
    refine Res.sat_imp (Res.sat_bind k1) (fun ds _ k p vs F' H' x hp fp hv r => ?_) fun _ z => z
    have fr : Ext F H (upd F' p (.lst vs)) H' := ⟨x.f.trans (Ex.new fp), x.h, fun a h1 h2 => by
      rw [upd_ne (fun z => h2 (by rw [z]; exact hp))]; exact x.o a h1 h2, fun a u q => by
      by_cases z : a = p
      · subst z; rw [upd_same] at q; cases q; exact hv
      · rw [upd_ne z] at q; exact x.s a u q⟩
    exact k _ _ H' fr.f ((S.mono fr).set hk (.lst (Evl.sq_of upd_same) (r.mono (Ex.new fp))))
theorem ds_setLcN {i : Nat} {y : Str} {py spos : Pos} {elt tg iter : Expr} {ifs : List Expr} {scope : Scope} {own : List (Str × Nat)} {mi : Env → Res (List D)} {is : List Nat} {g : D → Env → Option Env} {mt : Env → Res Bool} {me : Env → Res D} (hk : κ i = .ow) (his : ∀ i ∈ is, i ∈ own.map (·.2))
    (h : PS X (.Assign [.Name y py] (.ListComp elt [⟨tg, iter, ifs, 0⟩] scope pos) spos) (tAsg (tLc (rdIp X.mg X.K κ E mi) (rdG X.K κ is g) (rdT X.mg X.K κ E0 mt) (rdE X.mg X.K κ E0 me) (own.map (·.2))) (gName i))) :
    DS X κ E (.Assign [.Name y py] (.ListComp elt [⟨tg, iter, ifs, 0⟩] scope pos) spos) (mAsgN i (mLc mi g mt me (own.map (·.2)))) :=
  h.imp fun Dn σ H ⟨F0, H0, F, ρ, S, k⟩ => lc_read (mg := X.mg) (K := X.K) (E := E) his σ H _ ⟨F0, H0, F, ρ, S, asgN hk S k⟩
end
end WD

namespace WD
open PySem PySem.Spec PyProof.Rows L2
open Evl (Ex Ex.refl Ex.trans Ex.new Ex.mut ex_l ex_t fresh_back)

/-! ### texts that are well made -/
theorem oks_iff {x : Str} : OkS x ↔ ∀ c ∈ x.cps.toList, c < 1114112 := by
  unfold OkS PyData.strOk
  rw [← Array.all_toList, List.all_eq_true]
  constructor
  · intro h c hc
    have := h c hc
    simpa using this
  · intro h c hc
    have := h c hc
    simpa using this
theorem oks_append {x y : Str} (hx : OkS x) (hy : OkS y) : OkS (x ++ y) := by
  rw [oks_iff] at *
  intro c hc
  have e : (x ++ y).cps.toList = x.cps.toList ++ y.cps.toList := TL.tl_append x y
  rw [e] at hc
  rcases List.mem_append.mp hc with h | h
  · exact hx c h
  · exact hy c h
theorem oks_sub {x y : Str} (hx : OkS x) (h : ∀ c ∈ y.cps.toList, c ∈ x.cps.toList) : OkS y := by
  rw [oks_iff] at *
  exact fun c hc => hx c (h c hc)
theorem oks_cut {x : Str} {lo hi : Option Int} (hx : OkS x) : OkS (cutS x lo hi) := oks_sub hx fun c hc => by
  have hc' : c ∈ ((x.cps.toList.drop (HT.sIx x.length 0 lo)).take (HT.sIx x.length x.length hi - HT.sIx x.length 0 lo)) := by simpa [cutS] using hc
  exact List.mem_of_mem_drop (List.mem_of_mem_take hc')
theorem oks_sign {x : Str} {c : Nat} (hx : OkS x) (h : c ∈ x.cps.toList) : OkS ⟨#[c]⟩ := oks_sub hx fun d hd => by
  have : d = c := by simpa using hd
  rw [this]; exact h

section
variable {X : Cx} {κ κe : Nat → Kd} {E : XK} {a b c e : Expr} {es : List Expr} {pos : Pos} {st : Stmt} {sts : List Stmt}

/-! ### arithmetic -/
def addD : D → D → Res D
  | .int i, .int j => .ok (.int (i + j))
  | .str x, .str y => if x.length + y.length ≤ sizeLine then .ok (.str (x ++ y)) else .stk
  | .list xs, .list ys => if xs.length + ys.length ≤ sizeLine then .ok (.list (xs ++ ys)) else .stk
  | .tuple xs, .tuple ys => if xs.length + ys.length ≤ sizeLine then .ok (.tuple (xs ++ ys)) else .stk
  | _, _ => .stk
theorem post_new {K : Frag} {F H : Hp} {Q : VK} {xs : List V} {ds : List D} (s : Ex F H) (r : RpA K F xs ds) (k : ∀ v F' H', Ext F H F' H' → Rp K F' v (.list ds) → Q v H') : ∀ p, H p = none → Q (.ref p) (upd H p (.lst xs)) :=
  fun p hp => k _ _ _ (.new s hp) (.lst (Evl.sq_of upd_same) (r.mono (Ex.new (none_of_ex s hp))))
theorem post_newT {K : Frag} {F H : Hp} {Q : VK} {xs : List V} {ds : List D} (s : Ex F H) (r : RpA K F xs ds) (k : ∀ v F' H', Ext F H F' H' → Rp K F' v (.tuple ds) → Q v H') : ∀ p, H p = none → Q (.ref p) (upd H p (.tup xs)) :=
  fun p hp => k _ _ _ (.new s hp) (.tup (Evl.st_of upd_same) (r.mono (Ex.new (none_of_ex s hp))))
theorem RpA.nil_iff {K : Frag} {F : Hp} {vs : List V} {ds : List D} (h : RpA K F vs ds) : vs = [] ↔ ds = [] := by
  cases h <;> simp
abbrev rAddA (K : Frag) : R2 := fun x y H Q => rI0 (fun i j => .int (i + j)) x y H Q ∨ (∃ i j, x = .str i ∧ y = .str j ∧ i.length + j.length ≤ sizeLine ∧ Q (.str (i ++ j)) H) ∨ WD.rCatA K x y H Q ∨ L2.rCatA K x y H Q
theorem op_addA : OpR X (binaryOp .Add) (rAddA X.K) := op_add.or (op_add_str.or (WD.op_catA.or L2.op_catA))
theorem op2_add {K : Frag} : Op2 K (rAddA K) addD := fun F H x y dx dy s rx ry Q k => by
  cases dx <;> cases dy <;> try exact k.elim
  · rename_i i j
    rw [rx.int, ry.int]
    exact .inl ⟨i, j, rfl, rfl, k _ F H (Ext.refl s) (.int _)⟩
  · rename_i i j
    obtain ⟨rfl, h1⟩ := rx.str
    obtain ⟨rfl, h2⟩ := ry.str
    by_cases z : i.length + j.length ≤ sizeLine
    · simp only [addD, if_pos z] at k
      exact .inr (.inl ⟨i, j, rfl, rfl, z, k _ F H (Ext.refl s) (.str _ (oks_append h1 h2))⟩)
    · simp only [addD, if_neg z] at k
      exact k.elim
  · rename_i xs ys
    obtain ⟨p, vs, rfl, h1, r1⟩ := rx.list s
    obtain ⟨q, ws, rfl, h2, r2⟩ := ry.list s
    by_cases z : xs.length + ys.length ≤ sizeLine
    · simp only [addD, if_pos z] at k
      exact .inr (.inr (.inl ⟨p, q, vs, ws, rfl, rfl, h1, h2, by rw [r1.length, r2.length]; exact z, post_new s (r1.append r2) k⟩))
    · simp only [addD, if_neg z] at k
      exact k.elim
  · rename_i xs ys
    obtain ⟨p, vs, rfl, h1, r1, w1⟩ := rx.tuple s
    obtain ⟨q, ws, rfl, h2, r2, w2⟩ := ry.tuple s
    by_cases z : xs.length + ys.length ≤ sizeLine
    · simp only [addD, if_pos z] at k
      refine .inr (.inr (.inr ⟨p, q, vs, ws, rfl, rfl, h1, h2, by rw [r1.length, r2.length]; exact z, fun e => ?_, fun e e2 => ?_, fun e e2 => post_newT s (r1.append r2) k⟩))
      · have e' := r1.nil_iff.mp e
        subst e'
        exact k _ F H (Ext.refl s) (by simpa using w2)
      · have e' := r2.nil_iff.mp e2
        subst e'
        exact k _ F H (Ext.refl s) (by simpa using w1)
    · simp only [addD, if_neg z] at k
      exact k.elim
theorem addD_ne : ∀ x y z, addD x y ≠ .err z := fun x y z h => by
  cases x <;> cases y <;> simp only [addD] at h <;> first | cases h | (split at h <;> cases h)
theorem de_add {ma mb : Env → Res D} (ha : DB X κ E a ma) (hb : DB X κ E b mb) : DE X κ E (.BinOp a .Add b pos) (mBin addD ma mb) := de_op op_addA op2_add addD_ne ha hb
def subD : D → D → Res D
  | .int i, .int j => .ok (.int (i - j))
  | _, _ => .stk
theorem de_sub {ma mb : Env → Res D} (ha : DB X κ E a ma) (hb : DB X κ E b mb) : DE X κ E (.BinOp a .Sub b pos) (mBin subD ma mb) :=
  de_op op_sub (fun F H x y dx dy s rx ry Q k => by
    cases dx <;> cases dy <;> try exact k.elim
    rename_i i j
    rw [rx.int, ry.int]
    exact ⟨i, j, rfl, rfl, k _ F H (Ext.refl s) (.int _)⟩) (fun x y z h => by cases x <;> cases y <;> cases h) ha hb
instance (i j : Int) : Decidable (CMul i j) := by unfold CMul; infer_instance
instance (i j : Int) : Decidable (CPow i j) := by unfold CPow; infer_instance
instance (i j : Int) : Decidable (CDiv i j) := by unfold CDiv; infer_instance
theorem op_mul_str : OpR X (binaryOp .Mult) (fun x y H Q => ∃ z k, x = .str z ∧ y = .int k ∧ -(2 ^ 63) ≤ k ∧ k < 2 ^ 63 ∧ z.length * k.toNat ≤ 16777216 ∧ Q (.str ⟨(List.replicate k.toNat z.cps.toList).flatten.toArray⟩) H) := by
  intro pins s σ H x y v u Q I rx ry h
  obtain ⟨z, k, rfl, rfl, h1, h2, hz, q⟩ := h
  obtain ⟨t, rfl⟩ := rx
  obtain ⟨t', rfl⟩ := ry
  have f0 : ∀ m : Nat, (List.replicate m z.cps).foldl (· ++ ·) #[] = (List.replicate m z.cps.toList).flatten.toArray := fun m => by
    have g : ∀ (m : Nat) (acc : Array Nat), (List.replicate m z.cps).foldl (· ++ ·) acc = acc ++ (List.replicate m z.cps.toList).flatten.toArray := fun m => by
      induction m with
      | zero => intro acc; simp
      | succ m ih =>
        intro acc
        rw [List.replicate_succ, List.foldl_cons, ih, List.replicate_succ, List.flatten_cons]
        apply Array.toList_inj.mp
        simp
    rw [g m #[]]
    simp
  refine PySem.P.mul_str ?_ (fun a1 a2 => ?_) (fun a1 a2 => ?_) ?_
  · rw [decide_eq_false (by omega), decide_eq_false (by omega)]; rfl
  · intro hgt
    have hk : 0 < k := by omega
    have h5 : ((z.length : Int)) ≤ 16777216 := by
      have : z.length * 1 ≤ z.length * k.toNat := Nat.mul_le_mul_left _ (by omega)
      omega
    have h6 : (z.length : Int) * k ≤ 16777216 := by
      have e : ((z.length * k.toNat : Nat) : Int) = (z.length : Int) * k := by
        rw [Int.natCast_mul, Int.toNat_of_nonneg (by omega)]
      rw [← e]; omega
    have h7 := Int.lt_iff_add_one_le.mp hgt
    have h8 : (2 ^ 63 - 1) < ((2 ^ 63 - 1) / k + 1) * k := Int.lt_ediv_add_one_mul_self _ hk
    have h9 : ((2 ^ 63 - 1) / k + 1) * k ≤ (z.length : Int) * k := Int.mul_le_mul_of_nonneg_right h7 (by omega)
    omega
  · unfold Builtin.Str.tooLong
    exact decide_eq_false (by rw [sizeLine_eq]; omega)
  · by_cases c1 : k < 1
    · rw [if_pos c1]
      refine ⟨by decide, .str Str.empty, H, I.tok _, ⟨_, rfl⟩, ?_⟩
      have : k.toNat = 0 := by omega
      rw [this] at q
      exact q
    · rw [if_neg c1]
      by_cases c2 : (k == 1 || z.length == 0) = true
      · rw [if_pos c2]
        refine ⟨.str z, H, I, ⟨_, rfl⟩, ?_⟩
        have e : (⟨(List.replicate k.toNat z.cps.toList).flatten.toArray⟩ : Str) = z := by
          apply TL.ext_tl
          show (List.replicate k.toNat z.cps.toList).flatten = z.cps.toList
          rcases Bool.or_eq_true_iff.mp c2 with e | e
          · have : k = 1 := by simpa using e
            subst this
            simp
          · have h0 : z.length = 0 := by simpa using e
            have : z.cps.toList = [] := by
              have : z.cps.toList.length = 0 := by rw [Array.length_toList]; exact h0
              exact List.eq_nil_of_length_eq_zero this
            rw [this]
            simp
        rw [e] at q
        exact q
      · rw [if_neg c2]
        rw [f0]
        refine ⟨?_, .str _, H, I.tok _, ⟨_, rfl⟩, q⟩
        rw [sizeLine_eq]
        show ((List.replicate k.toNat z.cps.toList).flatten.toArray).size ≤ _
        rw [List.size_toArray, List.length_flatten, List.map_replicate, List.sum_replicate_nat, Array.length_toList, Nat.mul_comm]
        exact hz
def repS (x : Str) (k : Nat) : Str := ⟨(List.replicate k x.cps.toList).flatten.toArray⟩
theorem oks_rep {x : Str} {k : Nat} (h : OkS x) : OkS (repS x k) := oks_sub h fun c hc => by
  have hc' : c ∈ (List.replicate k x.cps.toList).flatten := by simpa [repS] using hc
  obtain ⟨l, h1, h2⟩ := List.mem_flatten.mp hc'
  rw [(List.mem_replicate.mp h1).2] at h2
  exact h2
def mulD : D → D → Res D
  | .int i, .int j => if CMul i j then .ok (.int (i * j)) else .stk
  | .str x, .int k => if -(2 ^ 63) ≤ k ∧ k < 2 ^ 63 ∧ x.length * k.toNat ≤ 16777216 then .ok (.str (repS x k.toNat)) else .stk
  | _, _ => .stk
theorem mulD_ne : ∀ x y z, mulD x y ≠ .err z := fun x y z h => by
  cases x <;> cases y <;> simp only [mulD] at h <;> first | cases h | (split at h <;> cases h)
theorem de_mul {ma mb : Env → Res D} (ha : DB X κ E a ma) (hb : DB X κ E b mb) : DE X κ E (.BinOp a .Mult b pos) (mBin mulD ma mb) :=
  de_op (op_mul.or op_mul_str) (fun F H x y dx dy s rx ry Q k => by
    cases dx <;> cases dy <;> try exact k.elim
    · rename_i i j
      rw [rx.int, ry.int]
      by_cases z : CMul i j
      · simp only [mulD, if_pos z] at k
        exact .inl ⟨i, j, rfl, rfl, z, k _ F H (Ext.refl s) (.int _)⟩
      · simp only [mulD, if_neg z] at k
        exact k.elim
    · rename_i i j
      rw [ry.int]
      obtain ⟨rfl, h1⟩ := rx.str
      by_cases z : -(2 ^ 63) ≤ j ∧ j < 2 ^ 63 ∧ i.length * j.toNat ≤ 16777216
      · simp only [mulD, if_pos z] at k
        exact .inr ⟨i, j, rfl, rfl, z.1, z.2.1, z.2.2, k _ F H (Ext.refl s) (.str _ (oks_rep h1))⟩
      · simp only [mulD, if_neg z] at k
        exact k.elim) mulD_ne ha hb
/-- a written list times a number: a new list -/
def mRep (m : Env → Res (List D)) (mb : Env → Res D) : Env → Res (List D) := fun ρ => (m ρ).bind fun ds => (mb ρ).bind fun d => match d with
  | .int k => if -(2 ^ 63) ≤ k ∧ k < 2 ^ 63 ∧ ds.length * k.toNat ≤ sizeLine then .ok (List.replicate k.toNat ds).flatten else .stk
  | _ => .stk
theorem dn_rep {m : Env → Res (List D)} {mb : Env → Res D} (ha : DN X κ E a m) (hb : DE X κ E b mb) : DN X κ E (.BinOp a .Mult b pos) (mRep m mb) :=
  (pe_op op_rep ha hb).imp fun σ H Q ⟨F0, H0, F, ρ, S, c⟩ => ⟨F0, H0, F, ρ, S, Res.sat_imp (Res.sat_bind c) (fun ds _ k p vs F1 H1 x1 hp fp hv r => by
    refine ⟨F0, H0, F1, ρ, S.mono x1, Res.sat_imp (Res.sat_bind k) (fun d _ k v F2 H2 x2 r2 => ?_) fun _ z => z.mono x1⟩
    cases r2 with
    | int j =>
      by_cases z : -(2 ^ 63) ≤ j ∧ j < 2 ^ 63 ∧ ds.length * j.toNat ≤ sizeLine
      · simp only [if_pos z] at k
        have x := x1.trans x2
        exact ⟨p, j, vs, rfl, rfl, x2.h _ _ hv, z.1, z.2.1, by rw [r.length]; exact z.2.2, fun q hq => k q _ F2 _ (x.trans (.newO x.s hq)) (fresh_back x.h hq) (none_of_ex x.s hq) upd_same ((r.mono x2.f).rep _)⟩
      · simp only [if_neg z] at k
        exact k.elim
    | _ => exact k.elim) fun _ z => z⟩
/-- one list behind another: a new list -/
def catD : D → D → Res (List D)
  | .list xs, .list ys => if xs.length + ys.length ≤ sizeLine then .ok (xs ++ ys) else .stk
  | _, _ => .stk
def mCat (ma mb : Env → Res D) : Env → Res (List D) := fun ρ => (ma ρ).bind fun x => (mb ρ).bind fun y => catD x y
theorem cat_step {K : Frag} {mg : Mg} {F H F2 H2 : Hp} {Q : VK} {dx dy : D} {v w : V} (x : Ext F H F2 H2) (r1 : Rb K F2 H2 v dx) (r2 : Rb K F2 H2 w dy)
    (k : Res.sat (fun ds => ∀ p vs F' H', Ext F H F' H' → H p = none → F' p = none → H' p = some (.lst vs) → RpA K F' vs ds → Q (.ref p) H') (ErrOk mg K E F H) (catD dx dy)) : WD.rCatA K v w H2 Q := by
  cases dx <;> cases dy <;> try exact k.elim
  rename_i xs ys
  obtain ⟨p, vs, rfl, h1, q1⟩ := r1.list x.s
  obtain ⟨q, ws, rfl, h2, q2⟩ := r2.list x.s
  by_cases z : xs.length + ys.length ≤ sizeLine
  · simp only [catD, if_pos z] at k
    exact ⟨p, q, vs, ws, rfl, rfl, h1, h2, by rw [q1.length, q2.length]; exact z, fun l hl => k l _ F2 _ (x.trans (.newO x.s hl)) (fresh_back x.h hl) (none_of_ex x.s hl) upd_same (q1.append q2)⟩
  · simp only [catD, if_neg z] at k
    exact k.elim
theorem dn_cat {ma mb : Env → Res D} (ha : DB X κ E a ma) (hb : DB X κ E b mb) : DN X κ E (.BinOp a .Add b pos) (mCat ma mb) :=
  (pe_op WD.op_catA ha hb).imp fun σ H Q ⟨F0, H0, F, ρ, S, c⟩ => ⟨F0, H0, F, ρ, S, Res.sat_imp (Res.sat_bind c) (fun dx _ k v F1 H1 x1 r1 =>
    ⟨F0, H0, F1, ρ, S.mono x1, Res.sat_imp (Res.sat_bind k) (fun dy _ k w F2 H2 x2 r2 => cat_step (x1.trans x2) (r1.mono x2) r2 k) fun _ z => z.mono x1⟩) fun _ z => z⟩
def modD : D → D → Res D
  | .int i, .int j => if 0 < j then .ok (.int (i % j)) else .stk
  | _, _ => .stk
theorem de_mod {ma mb : Env → Res D} (ha : DB X κ E a ma) (hb : DB X κ E b mb) : DE X κ E (.BinOp a .Mod b pos) (mBin modD ma mb) :=
  de_op op_mod (fun F H x y dx dy s rx ry Q k => by
    cases dx <;> cases dy <;> try exact k.elim
    rename_i i j
    rw [rx.int, ry.int]
    by_cases z : 0 < j
    · simp only [modD, if_pos z] at k
      exact ⟨i, j, rfl, rfl, z, k _ F H (Ext.refl s) (.int _)⟩
    · simp only [modD, if_neg z] at k
      exact k.elim) (fun x y z h => by cases x <;> cases y <;> simp only [modD] at h <;> first | cases h | (split at h <;> cases h)) ha hb
def fdivD : D → D → Res D
  | .int i, .int j => if CDiv i j then .ok (.int (i / j)) else .stk
  | _, _ => .stk
theorem de_fdiv {ma mb : Env → Res D} (ha : DB X κ E a ma) (hb : DB X κ E b mb) : DE X κ E (.BinOp a .FloorDiv b pos) (mBin fdivD ma mb) :=
  de_op op_fdiv (fun F H x y dx dy s rx ry Q k => by
    cases dx <;> cases dy <;> try exact k.elim
    rename_i i j
    rw [rx.int, ry.int]
    by_cases z : CDiv i j
    · simp only [fdivD, if_pos z] at k
      exact ⟨i, j, rfl, rfl, z, k _ F H (Ext.refl s) (.int _)⟩
    · simp only [fdivD, if_neg z] at k
      exact k.elim) (fun x y z h => by cases x <;> cases y <;> simp only [fdivD] at h <;> first | cases h | (split at h <;> cases h)) ha hb
def powD : D → D → Res D
  | .int i, .int j => if CPow i j then .ok (.int (i ^ j.toNat)) else .stk
  | _, _ => .stk
theorem de_pow {ma mb : Env → Res D} (ha : DB X κ E a ma) (hb : DB X κ E b mb) : DE X κ E (.BinOp a .Pow b pos) (mBin powD ma mb) :=
  de_op op_pow (fun F H x y dx dy s rx ry Q k => by
    cases dx <;> cases dy <;> try exact k.elim
    rename_i i j
    rw [rx.int, ry.int]
    by_cases z : CPow i j
    · simp only [powD, if_pos z] at k
      exact ⟨i, j, rfl, rfl, z, k _ F H (Ext.refl s) (.int _)⟩
    · simp only [powD, if_neg z] at k
      exact k.elim) (fun x y z h => by cases x <;> cases y <;> simp only [powD] at h <;> first | cases h | (split at h <;> cases h)) ha hb
def negD : D → Res D
  | .int i => .ok (.int (-i))
  | _ => .stk
def mUn (f : D → Res D) (m : Env → Res D) : Env → Res D := fun ρ => (m ρ).bind f
theorem de_neg {m : Env → Res D} (ha : DE X κ E a m) : DE X κ E (.UnaryOp .USub a pos) (mUn negD m) :=
  (pe_un un_neg ha).imp fun σ H Q ⟨F0, H0, F, ρ, S, c⟩ => ⟨F0, H0, F, ρ, S, Res.sat_imp (Res.sat_bind c) (fun d _ k v F' H' x r => by
    cases r with
    | int i => exact ⟨i, rfl, k _ F' H' x (.int _)⟩
    | _ => exact k.elim) fun _ z => z⟩

/-! ### comparisons -/
def cmpD (p : Int → Int → Bool) : D → D → Res D
  | .int i, .int j => .ok (.bool (p i j))
  | _, _ => .stk
theorem cmpD_ne {p : Int → Int → Bool} : ∀ x y z, cmpD p x y ≠ .err z := fun x y z h => by cases x <;> cases y <;> cases h
theorem cmpD_b {p : Int → Int → Bool} : ∀ x y d, cmpD p x y = .ok d → ∃ b, d = .bool b := fun x y z h => by cases x <;> cases y <;> cases h; exact ⟨_, rfl⟩
theorem op2_cmp {K : Frag} {p : Int → Int → Bool} : Op2 K (rI0 fun i j => .bl (p i j)) (cmpD p) := fun F H x y dx dy s rx ry Q k => by
  cases dx <;> cases dy <;> try exact k.elim
  rename_i i j
  rw [rx.int, ry.int]
  exact ⟨i, j, rfl, rfl, k _ F H (Ext.refl s) (.bl _)⟩
abbrev ltI : Int → Int → Bool := fun i j => decide (i < j)
abbrev leI : Int → Int → Bool := fun i j => decide (i ≤ j)
abbrev gtI : Int → Int → Bool := fun i j => decide (j < i)
abbrev geI : Int → Int → Bool := fun i j => decide (j ≤ i)
section
variable {ma mb : Env → Res D}
theorem de_lt (ha : DB X κ E a ma) (hb : DB X κ E b mb) : DE X κ E (.Compare a [.Lt] [b] pos) (mBin (cmpD ltI) ma mb) := de_cmp op_lt op2_cmp cmpD_ne ha hb (nomark _)
theorem de_le (ha : DB X κ E a ma) (hb : DB X κ E b mb) : DE X κ E (.Compare a [.LtE] [b] pos) (mBin (cmpD leI) ma mb) := de_cmp op_le op2_cmp cmpD_ne ha hb (nomark _)
theorem de_gt (ha : DB X κ E a ma) (hb : DB X κ E b mb) : DE X κ E (.Compare a [.Gt] [b] pos) (mBin (cmpD gtI) ma mb) := de_cmp op_gt op2_cmp cmpD_ne ha hb (nomark _)
theorem de_ge (ha : DB X κ E a ma) (hb : DB X κ E b mb) : DE X κ E (.Compare a [.GtE] [b] pos) (mBin (cmpD geI) ma mb) := de_cmp op_ge op2_cmp cmpD_ne ha hb (nomark _)
theorem dt_lt (ha : DB X κ E a ma) (hb : DB X κ E b mb) : DT X κ E (.Compare a [.Lt] [b] pos) (mTru (mBin (cmpD ltI) ma mb)) := dt_cmp op_lt op2_cmp cmpD_ne cmpD_b ha hb (nomark _)
theorem dt_le (ha : DB X κ E a ma) (hb : DB X κ E b mb) : DT X κ E (.Compare a [.LtE] [b] pos) (mTru (mBin (cmpD leI) ma mb)) := dt_cmp op_le op2_cmp cmpD_ne cmpD_b ha hb (nomark _)
theorem dt_gt (ha : DB X κ E a ma) (hb : DB X κ E b mb) : DT X κ E (.Compare a [.Gt] [b] pos) (mTru (mBin (cmpD gtI) ma mb)) := dt_cmp op_gt op2_cmp cmpD_ne cmpD_b ha hb (nomark _)
theorem dt_ge (ha : DB X κ E a ma) (hb : DB X κ E b mb) : DT X κ E (.Compare a [.GtE] [b] pos) (mTru (mBin (cmpD geI) ma mb)) := dt_cmp op_ge op2_cmp cmpD_ne cmpD_b ha hb (nomark _)
end
/-! == of data -/
mutual
/-- plain data (no dicts), nested at most n deep -/
def plainD : Nat → D → Bool
  | _, .none => true
  | _, .bool _ => true
  | _, .int _ => true
  | _, .str _ => true
  | 0, .list _ => false
  | 0, .tuple _ => false
  | n + 1, .list xs => plainL n xs
  | n + 1, .tuple xs => plainL n xs
  | _, .dict _ => false
def plainL : Nat → List D → Bool
  | _, [] => true
  | n, x :: xs => plainD n x && plainL n xs
end
end
mutual
theorem plain_depth : ∀ (n : Nat) (d : D), plainD n d = true → d.depth ≤ n
  | n, .none, _ => by simp [PyData.depth]
  | n, .bool _, _ => by simp [PyData.depth]
  | n, .int _, _ => by simp [PyData.depth]
  | n, .str _, _ => by simp [PyData.depth]
  | 0, .list _, h => by simp [plainD] at h
  | 0, .tuple _, h => by simp [plainD] at h
  | n + 1, .list xs, h => by
    have := plain_depthL n xs (by simpa [plainD] using h)
    simp [PyData.depth] at *
    omega
  | n + 1, .tuple xs, h => by
    have := plain_depthL n xs (by simpa [plainD] using h)
    simp [PyData.depth] at *
    omega
  | n, .dict _, h => by cases n <;> simp [plainD] at h
theorem plain_depthL : ∀ (n : Nat) (ds : List D), plainL n ds = true → PyData.depthAll ds ≤ n
  | n, [], _ => by simp [PyData.depthAll]
  | n, x :: xs, h => by
    have h' : plainD n x = true ∧ plainL n xs = true := by simpa [plainL] using h
    have h1 := plain_depth n x h'.1
    have h2 := plain_depthL n xs h'.2
    simp [PyData.depthAll]
    omega
end
end WD

namespace WD
open PySem PySem.Spec PyProof.Rows L2
open Evl (Ex Ex.refl Ex.trans Ex.new Ex.mut ex_l ex_t fresh_back)

/-! ### == and in -/
mutual
theorem Rp.dp {K : Frag} {F : Hp} : ∀ (n : Nat) (d : D) (v : V), Rp K F v d → plainD n d = true → Dp K F v d ∧ PyData.canLay0 d = true
  | n, .none, _, h, _ => by cases h; exact ⟨.non, by simp [PyData.canLay0]⟩
  | n, .bool _, _, h, _ => by cases h; exact ⟨.bl _, by simp [PyData.canLay0]⟩
  | n, .int _, _, h, _ => by cases h; exact ⟨.int _, by simp [PyData.canLay0]⟩
  | n, .str _, _, h, _ => by
    cases h with
    | str x hx => exact ⟨.str _, by simpa [PyData.canLay0] using hx⟩
  | 0, .list _, _, _, p => by simp [plainD] at p
  | 0, .tuple _, _, _, p => by simp [plainD] at p
  | n + 1, .list xs, _, h, p => by
    cases h with
    | lst h a =>
      have := Rp.dpA n xs _ a (by simpa [plainD] using p)
      exact ⟨.lst h this.1, by simpa [PyData.canLay0] using this.2⟩
  | n + 1, .tuple xs, _, h, p => by
    cases h with
    | tup h a =>
      have := Rp.dpA n xs _ a (by simpa [plainD] using p)
      exact ⟨.tup h this.1, by simpa [PyData.canLay0] using this.2⟩
  | n, .dict _, _, _, p => by cases n <;> simp [plainD] at p
theorem Rp.dpA {K : Frag} {F : Hp} : ∀ (n : Nat) (ds : List D) (vs : List V), RpA K F vs ds → plainL n ds = true → DpAll K F vs ds ∧ PyData.canLayAll0 ds = true
  | n, [], _, h, _ => by cases h; exact ⟨.nil, by simp [PyData.canLayAll0]⟩
  | n, d :: ds, _, h, p => by
    cases h with
    | cons h1 h2 =>
      have p' : plainD n d = true ∧ plainL n ds = true := by simpa [plainL] using p
      have a := Rp.dp n d _ h1 p'.1
      have b := Rp.dpA n ds _ h2 p'.2
      exact ⟨.cons a.1 b.1, by simp [PyData.canLayAll0, a.2, b.2]⟩
end
theorem Rb.dp {K : Frag} {F H : Hp} {v : V} {d : D} {n : Nat} (s : Ex F H) (r : Rb K F H v d) (hn : n ≤ 64) (p : plainD n d = true) : Dp K H v d ∧ SeqAt.shaped d = true := by
  have a := Rp.dp n d v (r.whole s) p
  refine ⟨a.1, ?_⟩
  unfold SeqAt.shaped
  rw [a.2]
  have := plain_depth n d p
  rw [Bool.true_and]
  exact decide_eq_true (by omega)
/-- deep enough for every datum here -/
abbrev deep : Nat := 40
def eqD (x y : D) : Res D := if plainD deep x = true ∧ plainD deep y = true then .ok (.bool (PyData.eqv x y)) else .stk
def neD (x y : D) : Res D := if plainD deep x = true ∧ plainD deep y = true then .ok (.bool (!PyData.eqv x y)) else .stk
theorem eqD_ne : ∀ x y z, eqD x y ≠ .err z := fun x y z h => by unfold eqD at h; split at h <;> cases h
theorem neD_ne : ∀ x y z, neD x y ≠ .err z := fun x y z h => by unfold neD at h; split at h <;> cases h
theorem eqD_b : ∀ x y d, eqD x y = .ok d → ∃ b, d = .bool b := fun x y d h => by unfold eqD at h; split at h <;> cases h; exact ⟨_, rfl⟩
theorem neD_b : ∀ x y d, neD x y = .ok d → ∃ b, d = .bool b := fun x y d h => by unfold neD at h; split at h <;> cases h; exact ⟨_, rfl⟩
theorem op2_eq {K : Frag} : Op2 K (rEqD K) eqD := fun F H x y dx dy s rx ry Q k => by
  unfold eqD at k
  split at k
  · rename_i h
    have a := rx.dp s (by decide) h.1
    have b := ry.dp s (by decide) h.2
    exact ⟨dx, dy, a.1, b.1, a.2, b.2, k _ F H (Ext.refl s) (.bl _)⟩
  · exact k.elim
theorem op2_ne {K : Frag} : Op2 K (rNeD K) neD := fun F H x y dx dy s rx ry Q k => by
  unfold neD at k
  split at k
  · rename_i h
    have a := rx.dp s (by decide) h.1
    have b := ry.dp s (by decide) h.2
    exact ⟨dx, dy, a.1, b.1, a.2, b.2, k _ F H (Ext.refl s) (.bl _)⟩
  · exact k.elim
section
variable {X : Cx} {κ κe : Nat → Kd} {E : XK} {a b c e : Expr} {es : List Expr} {pos : Pos} {st : Stmt} {sts : List Stmt} {ma mb mc : Env → Res D}
theorem de_eq {k : Nat} (hr : Room k X.A) (ha : DB X κ E a ma) (hb : DB X κ E b mb) : DE X κ E (.Compare a [.Eq] [b] pos) (mBin eqD ma mb) := de_cmp (op_eqD hr.units) op2_eq eqD_ne ha hb (nomark _)
theorem de_ne {k : Nat} (hr : Room k X.A) (ha : DB X κ E a ma) (hb : DB X κ E b mb) : DE X κ E (.Compare a [.NotEq] [b] pos) (mBin neD ma mb) := de_cmp (op_neD hr.units) op2_ne neD_ne ha hb (nomark _)
theorem dt_eq {k : Nat} (hr : Room k X.A) (ha : DB X κ E a ma) (hb : DB X κ E b mb) : DT X κ E (.Compare a [.Eq] [b] pos) (mTru (mBin eqD ma mb)) := dt_cmp (op_eqD hr.units) op2_eq eqD_ne eqD_b ha hb (nomark _)
theorem dt_ne {k : Nat} (hr : Room k X.A) (ha : DB X κ E a ma) (hb : DB X κ E b mb) : DT X κ E (.Compare a [.NotEq] [b] pos) (mTru (mBin neD ma mb)) := dt_cmp (op_neD hr.units) op2_ne neD_ne neD_b ha hb (nomark _)

/-! is None -/
def isNoneD : D → Bool
  | .none => true
  | _ => false
def mIsN (m : Env → Res D) : Env → Res D := fun ρ => (m ρ).bind fun d => .ok (.bool (isNoneD d))
def mNotN (m : Env → Res D) : Env → Res D := fun ρ => (m ρ).bind fun d => .ok (.bool (!isNoneD d))
theorem Rb.isNone {K : Frag} {F H : Hp} {v : V} {d : D} (s : Ex F H) (r : Rb K F H v d) : decide (v = .non) = isNoneD d := by
  have w := r.whole s
  cases w <;> first | rfl | (exact decide_eq_false fun z => nomatch z)
theorem de_isN {j pos'} (ha : DB X κ E a ma) : DE X κ E (.Compare a [.Is] [.Constant .none j pos'] pos) (mIsN ma) :=
  (pe_cmp (pc_isN ha) rfl).imp fun σ H Q ⟨F0, H0, F, ρ, S, c⟩ => ⟨F0, H0, F, ρ, S, Res.sat_imp (Res.sat_bind c) (fun d _ k v F' H' x r => by
    show Q (V.bl (decide (v = V.non))) H'
    rw [r.isNone x.s]
    exact k _ F' H' x (.bl _)) fun _ z => z⟩
theorem de_notN {j pos'} (ha : DB X κ E a ma) : DE X κ E (.Compare a [.IsNot] [.Constant .none j pos'] pos) (mNotN ma) :=
  (pe_cmp (pc_notN ha) rfl).imp fun σ H Q ⟨F0, H0, F, ρ, S, c⟩ => ⟨F0, H0, F, ρ, S, Res.sat_imp (Res.sat_bind c) (fun d _ k v F' H' x r => by
    show Q (V.bl (!decide (v = V.non))) H'
    rw [r.isNone x.s]
    exact k _ F' H' x (.bl _)) fun _ z => z⟩
/-- a value that is a bool, as a test: by its value's truth -/
theorem dt_val (h : DE X κ E e ma) (hb : ∀ ρ d, ma ρ = .ok d → ∃ b, d = .bool b) (he : ∀ whole, isTrue e X.env whole = (do let v ← whole; standAt e.pos; holding [v] (truthy v)) := by intro _; rfl) : DT X κ E e (mTru ma) :=
  (pt_val h he).imp fun σ H Q ⟨F0, H0, F, ρ, S, c⟩ => ⟨F0, H0, F, ρ, S, Res.sat_imp (bool_of c fun d hd => hb ρ d hd) (fun d _ k v F' H' x r => by
    obtain ⟨b, rfl, k⟩ := k
    cases r
    exact ⟨b, rfl, k F' H' x⟩) fun _ z => z⟩
theorem isN_b : ∀ (ρ : Env) (d : D), mIsN ma ρ = .ok d → ∃ b, d = .bool b := fun ρ d h => by
  obtain ⟨x, _, h⟩ := bind_ok h
  cases h; exact ⟨_, rfl⟩
theorem notN_b : ∀ (ρ : Env) (d : D), mNotN ma ρ = .ok d → ∃ b, d = .bool b := fun ρ d h => by
  obtain ⟨x, _, h⟩ := bind_ok h
  cases h; exact ⟨_, rfl⟩
/-- (as a test) -/
theorem dt_isN {j pos'} (ha : DB X κ E a ma) : DT X κ E (.Compare a [.Is] [.Constant .none j pos'] pos) (mTru (mIsN ma)) :=
  (pt_cmp (pc_isN ha) rfl).imp fun σ H Q ⟨F0, H0, F, ρ, S, c⟩ => ⟨F0, H0, F, ρ, S, Res.sat_imp (Res.sat_bind (m := ma ρ) (f := fun d => (Res.ok (PyData.bool (isNoneD d)))|>.bind truD) (by
    have c' : Res.sat _ _ ((mIsN ma ρ).bind truD) := c
    unfold mIsN at c'
    cases q : ma ρ <;> rw [q] at c' <;> exact c')) (fun d _ k v F' H' x r => ⟨_, rfl, by
      show Q (decide (v = V.non)) H'
      rw [r.isNone x.s]; exact k F' H' x⟩) fun _ z => z⟩
theorem dt_notN {j pos'} (ha : DB X κ E a ma) : DT X κ E (.Compare a [.IsNot] [.Constant .none j pos'] pos) (mTru (mNotN ma)) :=
  (pt_cmp (pc_notN ha) rfl).imp fun σ H Q ⟨F0, H0, F, ρ, S, c⟩ => ⟨F0, H0, F, ρ, S, Res.sat_imp (Res.sat_bind (m := ma ρ) (f := fun d => (Res.ok (PyData.bool (!isNoneD d)))|>.bind truD) (by
    have c' : Res.sat _ _ ((mNotN ma ρ).bind truD) := c
    unfold mNotN at c'
    cases q : ma ρ <;> rw [q] at c' <;> exact c')) (fun d _ k v F' H' x r => ⟨_, rfl, by
      show Q (!decide (v = V.non)) H'
      rw [r.isNone x.s]; exact k F' H' x⟩) fun _ z => z⟩

/-! in -/
def flatD : D → Bool
  | .none => true
  | .bool _ => true
  | .int _ => true
  | .str _ => true
  | _ => false
def vOf : D → V
  | .none => .non
  | .bool b => .bl b
  | .int i => .int i
  | .str x => .str x
  | _ => .non
theorem flat_v {K : Frag} {F : Hp} {v : V} {d : D} (r : Rp K F v d) (h : flatD d = true) : v = vOf d ∧ flatV v = true := by
  cases r <;> first | exact ⟨rfl, rfl⟩ | cases h
theorem flat_vs {K : Frag} {F : Hp} : ∀ {vs : List V} {ds : List D}, RpA K F vs ds → ds.all flatD = true → vs = ds.map vOf ∧ vs.all flatV = true
  | _, _, .nil, _ => ⟨rfl, rfl⟩
  | _, _, .cons r a, h => by
    rw [List.all_cons, Bool.and_eq_true] at h
    have h1 := flat_v r h.1
    have h2 := flat_vs a h.2
    exact ⟨by rw [List.map_cons, ← h1.1, ← h2.1], by rw [List.all_cons, h1.2, h2.2]; rfl⟩
/-- one text in another -/
def inS (x y : Str) : Bool := !(Builtin.Str.occurrences y x 0 y.length 1).isEmpty
def inD (x y : D) : Res D :=
  match x, y with
  | .str x, .str y => .ok (.bool (inS x y))
  | x, .list ys => if flatD x = true ∧ ys.all flatD = true then .ok (.bool (inV (vOf x) (ys.map vOf))) else .stk
  | x, .tuple ys => if flatD x = true ∧ ys.all flatD = true then .ok (.bool (inV (vOf x) (ys.map vOf))) else .stk
  | _, _ => .stk
def notInD (x y : D) : Res D := (inD x y).bind fun d => match d with
  | .bool b => .ok (.bool (!b))
  | _ => .stk
theorem inD_ne : ∀ x y z, inD x y ≠ .err z := fun x y z h => by
  unfold inD at h
  split at h <;> first | cases h | (split at h <;> cases h)
theorem inD_b : ∀ x y d, inD x y = .ok d → ∃ b, d = .bool b := fun x y z h => by
  unfold inD at h
  split at h <;> first | (cases h; exact ⟨_, rfl⟩) | (split at h <;> cases h; exact ⟨_, rfl⟩) | cases h
theorem notInD_ne : ∀ x y z, notInD x y ≠ .err z := fun x y z h => by
  unfold notInD at h
  cases q : inD x y with
  | ok d =>
    rw [q] at h
    obtain ⟨b, rfl⟩ := inD_b x y d q
    cases h
  | err w => exact inD_ne x y w q
  | stk => rw [q] at h; cases h
theorem notInD_b : ∀ x y d, notInD x y = .ok d → ∃ b, d = .bool b := fun x y d h => by
  unfold notInD at h
  obtain ⟨e, q, h⟩ := bind_ok h
  obtain ⟨b, rfl⟩ := inD_b x y e q
  cases h; exact ⟨_, rfl⟩
abbrev rInA (K : Frag) : R2 := fun x y H Q => (∃ i j, x = .str i ∧ y = .str j ∧ Q (.bl (!(Builtin.Str.occurrences j i 0 j.length 1).isEmpty)) H) ∨ rIn K false x y H Q
abbrev rNotInA (K : Frag) : R2 := fun x y H Q => (∃ i j, x = .str i ∧ y = .str j ∧ Q (.bl (!(!(Builtin.Str.occurrences j i 0 j.length 1).isEmpty))) H) ∨ rIn K true x y H Q
theorem in_seq {K : Frag} {F H : Hp} {x y : V} {dx dy : D} {ys : List D} (s : Ex F H) (rx : Rb K F H x dx) (ry : Rb K F H y dy) (hy : dy = .list ys ∨ dy = .tuple ys) (hf : flatD dx = true ∧ ys.all flatD = true) :
    ∃ p xs, y = .ref p ∧ (SqL K H p xs ∨ SqT K H p xs) ∧ flatV x = true ∧ xs.all flatV = true ∧ inV x xs = inV (vOf dx) (ys.map vOf) := by
  have hx := flat_v (rx.whole s) hf.1
  rcases hy with rfl | rfl
  · obtain ⟨p, vs, rfl, h1, r1⟩ := ry.list s
    have hv := flat_vs r1 hf.2
    exact ⟨p, vs, rfl, .inl h1, hx.2, hv.2, by rw [hx.1, hv.1]⟩
  · obtain ⟨p, vs, rfl, h1, r1, _⟩ := ry.tuple s
    have hv := flat_vs r1 hf.2
    exact ⟨p, vs, rfl, .inr h1, hx.2, hv.2, by rw [hx.1, hv.1]⟩
theorem op2_in {K : Frag} : Op2 K (rInA K) inD := fun F H x y dx dy s rx ry Q k => by
  unfold inD at k
  split at k
  · obtain ⟨rfl, _⟩ := rx.str
    obtain ⟨rfl, _⟩ := ry.str
    exact .inl ⟨_, _, rfl, rfl, k _ F H (Ext.refl s) (.bl _)⟩
  · split at k
    · rename_i hf
      obtain ⟨p, xs, rfl, h1, h2, h3, h4⟩ := in_seq s rx ry (.inl rfl) hf
      refine .inr ⟨p, xs, rfl, h1, h2, h3, ?_⟩
      rw [if_neg Bool.false_ne_true, h4]
      exact k _ F H (Ext.refl s) (.bl _)
    · exact k.elim
  · split at k
    · rename_i hf
      obtain ⟨p, xs, rfl, h1, h2, h3, h4⟩ := in_seq s rx ry (.inr rfl) hf
      refine .inr ⟨p, xs, rfl, h1, h2, h3, ?_⟩
      rw [if_neg Bool.false_ne_true, h4]
      exact k _ F H (Ext.refl s) (.bl _)
    · exact k.elim
  · exact k.elim
theorem op2_notIn {K : Frag} : Op2 K (rNotInA K) notInD := fun F H x y dx dy s rx ry Q k => by
  unfold notInD inD at k
  split at k
  · obtain ⟨rfl, _⟩ := rx.str
    obtain ⟨rfl, _⟩ := ry.str
    exact .inl ⟨_, _, rfl, rfl, k _ F H (Ext.refl s) (.bl _)⟩
  · split at k
    · rename_i hf
      obtain ⟨p, xs, rfl, h1, h2, h3, h4⟩ := in_seq s rx ry (.inl rfl) hf
      refine .inr ⟨p, xs, rfl, h1, h2, h3, ?_⟩
      rw [if_pos rfl, h4]
      exact k _ F H (Ext.refl s) (.bl _)
    · exact k.elim
  · split at k
    · rename_i hf
      obtain ⟨p, xs, rfl, h1, h2, h3, h4⟩ := in_seq s rx ry (.inr rfl) hf
      refine .inr ⟨p, xs, rfl, h1, h2, h3, ?_⟩
      rw [if_pos rfl, h4]
      exact k _ F H (Ext.refl s) (.bl _)
    · exact k.elim
  · exact k.elim
theorem op_inA : OpR X (compareOp .In) (rInA X.K) := op_in_str.or op_in_seq
theorem op_notInA : OpR X (compareOp .NotIn) (rNotInA X.K) := L2.op_notIn_str.or op_notIn_seq
theorem de_in (ha : DB X κ E a ma) (hb : DB X κ E b mb) (hm : behindInMarks .In b = false := by rfl) : DE X κ E (.Compare a [.In] [b] pos) (mBin inD ma mb) := de_cmp op_inA op2_in inD_ne ha hb hm
theorem de_notIn (ha : DB X κ E a ma) (hb : DB X κ E b mb) (hm : behindInMarks .NotIn b = false := by rfl) : DE X κ E (.Compare a [.NotIn] [b] pos) (mBin notInD ma mb) := de_cmp op_notInA op2_notIn notInD_ne ha hb hm
theorem dt_in (ha : DB X κ E a ma) (hb : DB X κ E b mb) (hm : behindInMarks .In b = false := by rfl) : DT X κ E (.Compare a [.In] [b] pos) (mTru (mBin inD ma mb)) := dt_cmp op_inA op2_in inD_ne inD_b ha hb hm
theorem dt_notIn (ha : DB X κ E a ma) (hb : DB X κ E b mb) (hm : behindInMarks .NotIn b = false := by rfl) : DT X κ E (.Compare a [.NotIn] [b] pos) (mTru (mBin notInD ma mb)) := dt_cmp op_notInA op2_notIn notInD_ne notInD_b ha hb hm

/-! a < b <= c .. : two comparisons of whole numbers -/
def mChain (p q : Int → Int → Bool) (ma mb mc : Env → Res D) : Env → Res D := fun ρ => (ma ρ).bind fun x => (mb ρ).bind fun y => (cmpD p x y).bind fun d => (boolD d).bind fun b =>
  if b = true then (mc ρ).bind fun z => cmpD q y z else .ok (.bool false)
theorem cmpD_sat {p : Int → Int → Bool} {x y : D} {P : D → Prop} {R : Exn → Prop} (h : (cmpD p x y).sat P R) : ∃ i j, x = .int i ∧ y = .int j ∧ P (.bool (p i j)) := by
  cases x <;> cases y <;> first | exact ⟨_, _, rfl, rfl, h⟩ | exact h.elim
theorem de_chain {op op' : CmpOp} {p q : Int → Int → Bool} (h1 : OpR X (compareOp op) (rI0 fun i j => .bl (p i j))) (h2 : OpR X (compareOp op') (rI0 fun i j => .bl (q i j))) (ha : DE X κ E a ma) (hb : DE X κ E b mb) (hc : DE X κ E c mc)
    (hp : PE X (.Compare a [op, op'] [b, c] pos) (tChain (rI0 fun i j => .bl (p i j)) (rI0 fun i j => .bl (q i j)) (rdE X.mg X.K κ E ma) (rdE X.mg X.K κ E mb) (rdE X.mg X.K κ E mc))) : DE X κ E (.Compare a [op, op'] [b, c] pos) (mChain p q ma mb mc) :=
  hp.imp fun σ H Q ⟨F0, H0, F, ρ, S, c⟩ => ⟨F0, H0, F, ρ, S, Res.sat_imp (Res.sat_bind c) (fun x _ k v1 F1 H1 x1 r1 =>
    ⟨F0, H0, F1, ρ, S.mono x1, Res.sat_imp (Res.sat_bind k) (fun y _ k v2 F2 H2 x2 r2 => by
      obtain ⟨i, j, rfl, rfl, k⟩ := cmpD_sat (Res.sat_bind k)
      cases r1
      cases r2
      refine ⟨i, j, rfl, rfl, p i j, rfl, ?_⟩
      cases hp : p i j with
      | false =>
        rw [hp] at k
        first | exact k _ F2 H2 (x1.trans x2) (.bl _) | (rw [if_neg Bool.false_ne_true]; exact k _ F2 H2 (x1.trans x2) (.bl _))
      | true =>
        rw [hp] at k
        try rw [if_pos rfl]
        refine ⟨F0, H0, F2, ρ, (S.mono x1).mono x2, Res.sat_imp (Res.sat_bind k) (fun z _ k v3 F3 H3 x3 r3 => ?_) fun _ z => z.mono (x1.trans x2)⟩
        obtain ⟨j', l, e, rfl, k⟩ := cmpD_sat k
        cases e
        cases r3
        exact ⟨j, l, rfl, rfl, k _ F3 H3 ((x1.trans x2).trans x3) (.bl _)⟩) fun _ z => z.mono x1⟩) fun _ z => z⟩
end
end WD

namespace WD
open PySem PySem.Spec PyProof.Rows L2
open Evl (Ex Ex.refl Ex.trans Ex.new Ex.mut ex_l ex_t fresh_back)
section
variable {X : Cx} {κ κe : Nat → Kd} {E : XK} {a b c e : Expr} {es : List Expr} {pos : Pos} {st : Stmt} {sts : List Stmt} {ma mb mc : Env → Res D}

/-! ### built-in calls of one borrowed value -/
def Op1 (K : Frag) (r : List V → Hp → VK → Prop) (f : D → Res D) : Prop := ∀ F H x dx, Ex F H → Rb K F H x dx → ∀ Q : VK, Post K F H Q (f dx) → r [x] H Q
theorem op1_read {r : List V → Hp → VK → Prop} {f : D → Res D} {mg : Mg} {K : Frag} (hf : Op1 K r f) (ne : ∀ x z, f x ≠ .err z) : ∀ σ H Q, rdE mg K κ E (mUn f ma) σ H Q → tCB r (tCons (rdB mg K κ E ma) tNil) σ H Q :=
  fun σ H Q ⟨F0, H0, F, ρ, S, c⟩ => ⟨F0, H0, F, ρ, S, Res.sat_imp (Res.sat_bind c) (fun d _ k v F' H' x r => hf F' H' v d x.s r Q (by
    have c3 := sat_post (E := E) (mg := mg) (H := H) (F := F) (K := K) (Q := Q) (ne d) k
    exact Res.sat_imp c3 (fun d _ k v F2 H2 e' rp => k v F2 H2 (x.trans e') rp) fun _ z => z)) fun _ z => z⟩
theorem de_callB {x : Str} {p : Pos} {id : String} {r : List V → Hp → VK → Prop} {f : D → Res D} (hc : CallR X (.builtin id) r) (hf : Op1 X.K r f) (ne : ∀ x z, f x ≠ .err z) (hv : bootBuiltins x = some (.builtin id)) (hg : Gl X x) (hm : X.mg x = none) (ha : DB X κ E e ma) (hn : x ≠ "__name__" := by decide) (hdb : (x == ("__debug__" : Str)) = false := by decide)
    (he : starEach [e] X.env = (false, eval e X.env) :: starEach [] X.env := by rfl) (hpl : (backTo pos (starEach [] X.env)).any (·.1) = false := by rfl) : DE X κ E (.Call (.Name x p) [e] [] pos) (mUn f ma) :=
  (pe_callB hc hg hm hv (pa_cons ha pa_nil he) hn hdb he hpl).imp (op1_read hf ne)
theorem de_callTy {x : Str} {p : Pos} {T : String} {r : List V → Hp → VK → Prop} {f : D → Res D} (hc : CallR X (.type T) r) (hf : Op1 X.K r f) (ne : ∀ x z, f x ≠ .err z) (hv : bootBuiltins x = some (.type T)) (hg : Gl X x) (hm : X.mg x = none) (ha : DB X κ E e ma) (hn : x ≠ "__name__" := by decide) (hdb : (x == ("__debug__" : Str)) = false := by decide)
    (he : starEach [e] X.env = (false, eval e X.env) :: starEach [] X.env := by rfl) (hpl : (backTo pos (starEach [] X.env)).any (·.1) = false := by rfl) : DE X κ E (.Call (.Name x p) [e] [] pos) (mUn f ma) :=
  (pe_callTy hc hg hm hv (pa_cons ha pa_nil he) hn hdb he hpl).imp (op1_read hf ne)

def lenD : D → Res D
  | .list xs => .ok (.int xs.length)
  | .tuple xs => .ok (.int xs.length)
  | .dict xs => .ok (.int xs.length)
  | .str x => if x.length ≤ sizeLine then .ok (.int x.length) else .stk
  | _ => .stk
theorem lenD_ne : ∀ x z, lenD x ≠ .err z := fun x z h => by cases x <;> simp only [lenD] at h <;> first | cases h | (split at h <;> cases h)
theorem RpK.length {K : Frag} {F : Hp} : ∀ {vs : List (Key × V)} {ds : List (D × D)}, RpK K F vs ds → vs.length = ds.length
  | _, _, .nil => rfl
  | _, _, .cons _ a => by rw [List.length_cons, List.length_cons, RpK.length a]
abbrev rLenA (K : Frag) : List V → Hp → VK → Prop := fun xs H Q => (∃ x n, xs = [x] ∧ LenV K x H n ∧ Q (.int n) H) ∨ (∃ a kvs, xs = [V.ref a] ∧ H a = some (.dK kvs) ∧ Q (.int kvs.length) H)
theorem call_lenA : CallR X (.builtin "len") (rLenA X.K) := call_len.or call_lenD
theorem op1_len {K : Frag} : Op1 K (rLenA K) lenD := fun F H x dx s rx Q k => by
  have w := rx.whole s
  cases w with
  | str y hy =>
    simp only [lenD] at k
    split at k
    · rename_i z
      exact .inl ⟨_, _, rfl, ⟨z, rfl⟩, k _ F H (Ext.refl s) (.int _)⟩
    · exact k.elim
  | @lst a xs ds h r => exact .inl ⟨_, ds.length, rfl, .inl ⟨xs, h, r.length.symm⟩, k _ F H (Ext.refl s) (.int _)⟩
  | @tup a xs ds h r => exact .inl ⟨_, ds.length, rfl, .inr ⟨xs, h, r.length.symm⟩, k _ F H (Ext.refl s) (.int _)⟩
  | @dct a kvs ds h r => exact .inr ⟨a, kvs, rfl, h, by rw [r.length]; exact k _ F H (Ext.refl s) (.int _)⟩
  | _ => exact k.elim
theorem de_len {p : Pos} (hg : Gl X "len") (hm : X.mg "len" = none) (ha : DB X κ E e ma) (he : starEach [e] X.env = (false, eval e X.env) :: starEach [] X.env := by rfl) (hpl : (backTo pos (starEach [] X.env)).any (·.1) = false := by rfl) : DE X κ E (.Call (.Name "len" p) [e] [] pos) (mUn lenD ma) :=
  de_callB call_lenA op1_len lenD_ne PySem.boot_len hg hm ha (by decide) (by decide) he hpl
/-- list(x), a new list -/
def mSeq1 (m : Env → Res D) : Env → Res (List D) := fun ρ => (m ρ).bind seqD
theorem dn_list {p : Pos} (hg : Gl X "list") (hm : X.mg "list" = none) (ha : DB X κ E e ma) (hv : bootBuiltins "list" = some (.type "list") := by decide +kernel) (he : starEach [e] X.env = (false, eval e X.env) :: starEach [] X.env := by rfl) (hpl : (backTo pos (starEach [] X.env)).any (·.1) = false := by rfl) : DN X κ E (.Call (.Name "list" p) [e] [] pos) (mSeq1 ma) :=
  (pe_callTy call_list_of hg hm hv (pa_cons ha pa_nil he) (by decide) (by decide) he hpl).imp fun σ H Q ⟨F0, H0, F, ρ, S, c⟩ => ⟨F0, H0, F, ρ, S, Res.sat_imp (Res.sat_bind c) (fun d _ k v F' H' x r => by
    obtain ⟨ds, hd, k⟩ := seqD_sat k
    rcases hd with rfl | rfl
    · obtain ⟨p, vs, rfl, h1, r1⟩ := r.list x.s
      exact ⟨p, vs, rfl, .inl h1, fun l hl => k l vs F' _ (x.trans (.newO x.s hl)) (fresh_back x.h hl) (none_of_ex x.s hl) upd_same r1⟩
    · obtain ⟨p, vs, rfl, h1, r1, _⟩ := r.tuple x.s
      exact ⟨p, vs, rfl, .inr h1, fun l hl => k l vs F' _ (x.trans (.newO x.s hl)) (fresh_back x.h hl) (none_of_ex x.s hl) upd_same r1⟩) fun _ z => z⟩
def tupleD : D → Res D
  | .list xs => .ok (.tuple xs)
  | .tuple xs => .ok (.tuple xs)
  | _ => .stk
theorem de_tuple {p : Pos} (hg : Gl X "tuple") (hm : X.mg "tuple" = none) (ha : DB X κ E e ma) (hv : bootBuiltins "tuple" = some (.type "tuple") := by decide +kernel) (he : starEach [e] X.env = (false, eval e X.env) :: starEach [] X.env := by rfl) (hpl : (backTo pos (starEach [] X.env)).any (·.1) = false := by rfl) : DE X κ E (.Call (.Name "tuple" p) [e] [] pos) (mUn tupleD ma) :=
  de_callTy call_tuple_of (fun F H x dx s rx Q k => by
    cases dx with
    | list ds =>
      obtain ⟨p, vs, rfl, h1, r1⟩ := rx.list s
      exact ⟨p, vs, rfl, .inl ⟨h1, post_newT s r1 k⟩⟩
    | tuple ds =>
      obtain ⟨p, vs, rfl, h1, r1, w⟩ := rx.tuple s
      exact ⟨p, vs, rfl, .inr ⟨h1, k _ F H (Ext.refl s) w⟩⟩
    | _ => exact k.elim) (fun x z h => by cases x <;> cases h) hv hg hm ha (by decide) (by decide) he hpl
theorem oks_ofNat : ∀ (n : Nat), OkS (Str.ofString (toString ((n : Nat) : Int))) := fun n => by
  rw [oks_iff]
  intro c hc
  have e : TL.tl (Str.ofString (toString ((n : Nat) : Int))) = TL.numL n := TL.tl_num n
  have hc' : c ∈ TL.numL n := by rw [← e]; exact hc
  have := TL.numL_free (n := n) (s := c)
  by_cases h : c < 48 ∨ 57 < c
  · exact absurd hc' (this h)
  · omega
theorem oks_toString (i : Int) : OkS (toString i : Str) := by
  have e : TL.tl (Str.ofString (toString i)) = (toString i).toList.map Char.toNat := TL.tl_ofString _
  show OkS (Str.ofString (toString i))
  rw [oks_iff]
  intro c hc
  have hc' : c ∈ (toString i).toList.map Char.toNat := by rw [← e]; exact hc
  obtain ⟨ch, _, rfl⟩ := List.mem_map.mp hc'
  have := ch.valid
  have : ch.toNat < 0x110000 := by
    have h1 := ch.valid
    unfold Char.toNat
    rcases h1 with h1 | h1 <;> omega
  exact this
def strD : D → Res D
  | .int i => if i.natAbs.log2 < 1920 then .ok (.str (toString i)) else .stk
  | _ => .stk
theorem de_str1 {p : Pos} (hg : Gl X "str") (hm : X.mg "str" = none) (ha : DB X κ E e ma) (hv : bootBuiltins "str" = some (.type "str") := by decide +kernel) (he : starEach [e] X.env = (false, eval e X.env) :: starEach [] X.env := by rfl) (hpl : (backTo pos (starEach [] X.env)).any (·.1) = false := by rfl) : DE X κ E (.Call (.Name "str" p) [e] [] pos) (mUn strD ma) :=
  de_callTy call_str_int (fun F H x dx s rx Q k => by
    cases dx with
    | int i =>
      rw [rx.int]
      simp only [strD] at k
      split at k
      · rename_i h
        exact ⟨i, rfl, h, k _ F H (Ext.refl s) (.str _ (oks_toString i))⟩
      · exact k.elim
    | _ => exact k.elim) (fun x z h => by cases x <;> simp only [strD] at h <;> first | cases h | (split at h <;> cases h)) hv hg hm ha (by decide) (by decide) he hpl
def intD : D → Res D
  | .int i => .ok (.int i)
  | .bool k => .ok (.int (if k then 1 else 0))
  | .str x => match PySem.intText? x with
    | some n => if x.length ≤ 640 then .ok (.int n) else .stk
    | none => .stk
  | _ => .stk
theorem de_int1 {p : Pos} (hg : Gl X "int") (hm : X.mg "int" = none) (ha : DB X κ E e ma) (hv : bootBuiltins "int" = some (.type "int") := by decide +kernel) (he : starEach [e] X.env = (false, eval e X.env) :: starEach [] X.env := by rfl) (hpl : (backTo pos (starEach [] X.env)).any (·.1) = false := by rfl) : DE X κ E (.Call (.Name "int" p) [e] [] pos) (mUn intD ma) :=
  de_callTy (call_int1.or call_int_str) (fun F H x dx s rx Q k => by
    cases dx with
    | int i => rw [rx.int]; exact .inl (.inl ⟨i, rfl, k _ F H (Ext.refl s) (.int _)⟩)
    | bool i => rw [rx.bool]; exact .inl (.inr ⟨i, rfl, k _ F H (Ext.refl s) (.int _)⟩)
    | str y =>
      obtain ⟨rfl, _⟩ := rx.str
      simp only [intD] at k
      split at k
      · rename_i n hn
        split at k
        · rename_i hl
          exact .inr ⟨y, n, rfl, hn, hl, k _ F H (Ext.refl s) (.int _)⟩
        · exact k.elim
      · exact k.elim
    | _ => exact k.elim) (fun x z h => by
      cases x <;> simp only [intD] at h <;> first | cases h | (split at h <;> first | cases h | (split at h <;> cases h))) hv hg hm ha (by decide) (by decide) he hpl
def blsOf : List D → Option (List Bool)
  | [] => some []
  | .bool b :: ds => (blsOf ds).map (b :: ·)
  | _ :: _ => none
theorem bls_vs {K : Frag} {F : Hp} : ∀ {vs : List V} {ds : List D} {bs : List Bool}, RpA K F vs ds → blsOf ds = some bs → vs = bs.map V.bl
  | _, _, _, .nil, h => by cases h; rfl
  | _, _, bs, .cons (d := d) (ds := ds) r a, h => by
    cases r with
    | bl b =>
      simp only [blsOf] at h
      cases q : blsOf ds with
      | none => rw [q] at h; cases h
      | some cs =>
        rw [q] at h
        cases h
        rw [List.map_cons, bls_vs a q]
    | _ => cases h
def allD : D → Res D
  | .list ds => (ofO (blsOf ds)).bind fun bs => .ok (.bool (bs.all id))
  | _ => .stk
def anyD : D → Res D
  | .list ds => (ofO (blsOf ds)).bind fun bs => .ok (.bool (bs.any id))
  | _ => .stk
theorem ofO_ne {α : Type} {o : Option α} {z : Exn} : ofO o ≠ .err z := by cases o <;> exact fun h => nomatch h
theorem de_all {p : Pos} (hc : X.calm = true) (hg : Gl X "all") (hm : X.mg "all" = none) (ha : DB X κ E e ma) (hv : bootBuiltins "all" = some (.builtin "all") := by decide +kernel) (he : starEach [e] X.env = (false, eval e X.env) :: starEach [] X.env := by rfl) (hpl : (backTo pos (starEach [] X.env)).any (·.1) = false := by rfl) : DE X κ E (.Call (.Name "all" p) [e] [] pos) (mUn allD ma) :=
  de_callB (cr_all hc) (fun F H x dx s rx Q k => by
    cases dx with
    | list ds =>
      obtain ⟨p, vs, rfl, h1, r1⟩ := rx.list s
      obtain ⟨bs, hb, k⟩ := ofO_sat (Res.sat_bind k)
      have e := bls_vs r1 hb
      subst e
      exact ⟨p, bs, rfl, h1, k _ F H (Ext.refl s) (.bl _)⟩
    | _ => exact k.elim) (fun x z h => by
      cases x <;> first | cases h | skip
      rename_i ds
      simp only [allD] at h
      cases q : blsOf ds <;> rw [q] at h <;> cases h) hv hg hm ha (by decide) (by decide) he hpl
theorem de_any {p : Pos} (hc : X.calm = true) (hg : Gl X "any") (hm : X.mg "any" = none) (ha : DB X κ E e ma) (hv : bootBuiltins "any" = some (.builtin "any") := by decide +kernel) (he : starEach [e] X.env = (false, eval e X.env) :: starEach [] X.env := by rfl) (hpl : (backTo pos (starEach [] X.env)).any (·.1) = false := by rfl) : DE X κ E (.Call (.Name "any" p) [e] [] pos) (mUn anyD ma) :=
  de_callB (cr_any hc) (fun F H x dx s rx Q k => by
    cases dx with
    | list ds =>
      obtain ⟨p, vs, rfl, h1, r1⟩ := rx.list s
      obtain ⟨bs, hb, k⟩ := ofO_sat (Res.sat_bind k)
      have e := bls_vs r1 hb
      subst e
      exact ⟨p, bs, rfl, h1, k _ F H (Ext.refl s) (.bl _)⟩
    | _ => exact k.elim) (fun x z h => by
      cases x <;> first | cases h | skip
      rename_i ds
      simp only [anyD] at h
      cases q : blsOf ds <;> rw [q] at h <;> cases h) hv hg hm ha (by decide) (by decide) he hpl
def intsOf : List D → Option (List Int)
  | [] => some []
  | .int b :: ds => (intsOf ds).map (b :: ·)
  | _ :: _ => none
theorem ints_vs {K : Frag} {F : Hp} : ∀ {vs : List V} {ds : List D} {bs : List Int}, RpA K F vs ds → intsOf ds = some bs → vs = bs.map V.int
  | _, _, _, .nil, h => by cases h; rfl
  | _, _, bs, .cons (d := d) (ds := ds) r a, h => by
    cases r with
    | int b =>
      simp only [intsOf] at h
      cases q : intsOf ds with
      | none => rw [q] at h; cases h
      | some cs =>
        rw [q] at h
        cases h
        rw [List.map_cons, ints_vs a q]
    | _ => cases h
def sumD : D → Res D
  | .list ds => (ofO (intsOf ds)).bind fun bs => .ok (.int bs.sum)
  | _ => .stk
theorem de_sum {p : Pos} (hc : X.calm = true) (hg : Gl X "sum") (hm : X.mg "sum" = none) (ha : DB X κ E e ma) (hv : bootBuiltins "sum" = some (.builtin "sum") := by decide +kernel) (he : starEach [e] X.env = (false, eval e X.env) :: starEach [] X.env := by rfl) (hpl : (backTo pos (starEach [] X.env)).any (·.1) = false := by rfl) : DE X κ E (.Call (.Name "sum" p) [e] [] pos) (mUn sumD ma) :=
  de_callB (cr_sum hc) (fun F H x dx s rx Q k => by
    cases dx with
    | list ds =>
      obtain ⟨p, vs, rfl, h1, r1⟩ := rx.list s
      obtain ⟨bs, hb, k⟩ := ofO_sat (Res.sat_bind k)
      have e := ints_vs r1 hb
      subst e
      exact ⟨p, bs, rfl, h1, k _ F H (Ext.refl s) (.int _)⟩
    | _ => exact k.elim) (fun x z h => by
      cases x <;> first | cases h | skip
      rename_i ds
      simp only [sumD] at h
      cases q : intsOf ds <;> rw [q] at h <;> cases h) hv hg hm ha (by decide) (by decide) he hpl
/-! two whole numbers: max, min -/
def maxD (x y : D) : Res D := match x, y with
  | .int i, .int j => .ok (.int (if j > i then j else i))
  | _, _ => .stk
def minD (x y : D) : Res D := match x, y with
  | .int i, .int j => .ok (.int (if j < i then j else i))
  | _, _ => .stk
theorem call2_read {r : List V → Hp → VK → Prop} {f : D → D → Res D} {mg : Mg} {K : Frag} (hf : Op2 K (fun x y H Q => r [x, y] H Q) f) (ne : ∀ x y z, f x y ≠ .err z) : ∀ σ H Q, rdE mg K κ E (mBin f ma mb) σ H Q → tCB r (tCons (rdB mg K κ E ma) (tCons (rdB mg K κ E mb) tNil)) σ H Q :=
  fun σ H Q h => op2_read hf ne σ H Q h
theorem de_max {p : Pos} (hc : X.calm = true) (hg : Gl X "max") (hm : X.mg "max" = none) (ha : DB X κ E a ma) (hb : DB X κ E b mb) (hv : bootBuiltins "max" = some (.builtin "max") := by decide +kernel) (he : starEach [a, b] X.env = (false, eval a X.env) :: starEach [b] X.env := by rfl) (he2 : starEach [b] X.env = (false, eval b X.env) :: starEach [] X.env := by rfl) (hpl : (backTo pos (starEach [b] X.env)).any (·.1) = false := by rfl) : DE X κ E (.Call (.Name "max" p) [a, b] [] pos) (mBin maxD ma mb) :=
  (pe_callB (call_max2 hc) hg hm hv (pa_cons ha (pa_cons hb pa_nil he2) he) (by decide) (by decide) he hpl).imp (call2_read (fun F H x y dx dy s rx ry Q k => by
    cases dx <;> cases dy <;> try exact k.elim
    rw [rx.int, ry.int]
    exact ⟨_, _, rfl, k _ F H (Ext.refl s) (.int _)⟩) (fun x y z h => by cases x <;> cases y <;> cases h))
theorem de_min {p : Pos} (hc : X.calm = true) (hg : Gl X "min") (hm : X.mg "min" = none) (ha : DB X κ E a ma) (hb : DB X κ E b mb) (hv : bootBuiltins "min" = some (.builtin "min") := by decide +kernel) (he : starEach [a, b] X.env = (false, eval a X.env) :: starEach [b] X.env := by rfl) (he2 : starEach [b] X.env = (false, eval b X.env) :: starEach [] X.env := by rfl) (hpl : (backTo pos (starEach [b] X.env)).any (·.1) = false := by rfl) : DE X κ E (.Call (.Name "min" p) [a, b] [] pos) (mBin minD ma mb) :=
  (pe_callB (call_min2 hc) hg hm hv (pa_cons ha (pa_cons hb pa_nil he2) he) (by decide) (by decide) he hpl).imp (call2_read (fun F H x y dx dy s rx ry Q k => by
    cases dx <;> cases dy <;> try exact k.elim
    rw [rx.int, ry.int]
    exact ⟨_, _, rfl, k _ F H (Ext.refl s) (.int _)⟩) (fun x y z h => by cases x <;> cases y <;> cases h))
/-! isinstance(x, T), T a built-in class -/
def tyN : D → String
  | .none => "NoneType" | .bool _ => "bool" | .int _ => "int" | .str _ => "str" | .list _ => "list" | .tuple _ => "tuple" | .dict _ => "dict"
theorem Rp.ty {K : Frag} {H : Hp} {v : V} {d : D} (r : Rp K H v d) : TyX K H v (.type (tyN d)) := by
  cases r with
  | non => exact .base .non
  | bl b => exact .base (.bl b)
  | int i => exact .base (.int i)
  | str x _ => exact .base (.str x)
  | lst h _ =>
    rcases h with (h | ⟨o, h⟩) | ⟨o, its, n, h1, h2, _⟩
    · exact .base (.lst h)
    · exact .base (.frz h)
    · exact .kList h1 h2
  | tup h _ =>
    rcases h with (h | ⟨o, h⟩) | ⟨o, its, n, h1, h2, _⟩
    · exact .base (.tup h)
    · exact .fTuple h
    · exact .kTuple h1 h2
  | dct h _ => exact .base (.dK h)
def isiD (T : String) (d : D) : Res D := (ofO (kitB (tyN d) T)).bind fun b => .ok (.bool b)
theorem isi_ne {T : String} {d : D} {z : Exn} : isiD T d ≠ .err z := by
  unfold isiD
  cases kitB (tyN d) T <;> exact fun h => nomatch h
theorem isi_b {T : String} : ∀ (ρ : Env) (d : D), mUn (isiD T) ma ρ = .ok d → ∃ b, d = .bool b := fun ρ d h => by
  obtain ⟨x, _, h⟩ := bind_ok h
  obtain ⟨b, _, h⟩ := bind_ok h
  cases h; exact ⟨_, rfl⟩
theorem de_isi {p q : Pos} {T : Str} {T' : String} (hg : Gl X "isinstance") (hm : X.mg "isinstance" = none) (hg2 : Gl X T) (hm2 : X.mg T = none) (hv2 : bootBuiltins T = some (.type T')) (ha : DB X κ E e ma) (hv : bootBuiltins "isinstance" = some (.builtin "isinstance") := by decide +kernel) (hn : T ≠ "__name__" := by decide) (hd : (T == ("__debug__" : Str)) = false := by decide)
    (he : starEach [e, .Name T q] X.env = (false, eval e X.env) :: starEach [.Name T q] X.env := by rfl) (he2 : starEach [.Name T q] X.env = (false, eval (.Name T q) X.env) :: starEach [] X.env := by rfl) (hpl : (backTo pos (starEach [.Name T q] X.env)).any (·.1) = false := by rfl) :
    DE X κ E (.Call (.Name "isinstance" p) [e, .Name T q] [] pos) (mUn (isiD T') ma) :=
  (pe_callB call_isi hg hm hv (pa_cons ha (pa_cons (pe_bltn (v := .ty T') hg2 hm2 hv2 rfl hn hd) pa_nil he2) he) (by decide) (by decide) he hpl).imp fun σ H Q ⟨F0, H0, F, ρ, S, c⟩ => ⟨F0, H0, F, ρ, S, Res.sat_imp (Res.sat_bind c) (fun d _ k v F' H' x r => by
    obtain ⟨b, hb, k⟩ := ofO_sat (Res.sat_bind k)
    exact ⟨v, .ty T', _, _, b, rfl, .ty T', (r.whole x.s).ty, kit_ty hb, k _ F' H' x (.bl _)⟩) fun _ z => z⟩

/-! ### subscripts -/
def atD (d i : D) : Res D :=
  match d, i with
  | .list xs, .int i => ofO (atI xs i)
  | .tuple xs, .int i => ofO (atI xs i)
  | .str x, .int i => if x.length ≤ sizeLine then (ofO (atI x.cps.toList i)).bind fun c => .ok (.str ⟨#[c]⟩) else .stk
  | _, _ => .stk
theorem bind_ne {α β : Type} {r : Res α} {f : α → Res β} {z : Exn} (h : r.bind f = .err z) (hr : r ≠ .err z) (hf : ∀ a, f a ≠ .err z) : False := by
  cases r with
  | ok a => exact hf a h
  | err x =>
    have e : x = z := by cases h; rfl
    exact hr (by rw [e])
  | stk => cases h
theorem atD_ne : ∀ x y z, atD x y ≠ .err z := fun x y z h => by
  unfold atD at h
  split at h
  · exact ofO_ne h
  · exact ofO_ne h
  · split at h
    · exact bind_ne h ofO_ne fun _ h => nomatch h
    · cases h
  · cases h
theorem atI_rp {K : Frag} {F : Hp} {vs : List V} {ds : List D} {i : Int} {d : D} (r : RpA K F vs ds) (h : atI ds i = some d) : ∃ v, atI vs i = some v ∧ Rp K F v d := by
  unfold atI at h ⊢
  rw [r.length]
  cases q : ixN ds.length i with
  | none => rw [q] at h; cases h
  | some j =>
    rw [q] at h
    exact r.get h
theorem atI_mem {α : Type} {xs : List α} {i : Int} {x : α} (h : atI xs i = some x) : x ∈ xs := by
  unfold atI at h
  cases q : ixN xs.length i with
  | none => rw [q] at h; cases h
  | some j => rw [q] at h; exact List.mem_of_getElem? h
theorem op2_at {K : Frag} : Op2 K (rIx K) atD := fun F H x y dx dy s rx ry Q k => by
  unfold atD at k
  split at k
  · obtain ⟨p, vs, rfl, h1, r1⟩ := rx.list s
    obtain ⟨d, hd, k⟩ := ofO_sat k
    obtain ⟨v, hv, rv⟩ := atI_rp r1 hd
    rw [ry.int]
    exact .inl ⟨p, vs, _, v, rfl, rfl, h1, hv, k v F H (Ext.refl s) rv⟩
  · obtain ⟨p, vs, rfl, h1, r1, _⟩ := rx.tuple s
    obtain ⟨d, hd, k⟩ := ofO_sat k
    obtain ⟨v, hv, rv⟩ := atI_rp r1 hd
    rw [ry.int]
    exact .inr (.inl ⟨p, vs, _, v, rfl, rfl, h1, hv, k v F H (Ext.refl s) rv⟩)
  · obtain ⟨rfl, hx⟩ := rx.str
    rw [ry.int]
    split at k
    · rename_i z
      obtain ⟨c, hc, k⟩ := ofO_sat (Res.sat_bind k)
      exact .inr (.inr ⟨_, _, c, rfl, rfl, z, hc, k _ F H (Ext.refl s) (.str _ (oks_sign hx (atI_mem hc)))⟩)
    · exact k.elim
  · exact k.elim
theorem de_at (ha : DB X κ E a ma) (hb : DB X κ E b mb) (hs : PlainIx b := by exact fun _ _ => rfl) : DE X κ E (.Subscript a b pos) (mBin atD ma mb) :=
  (pe_ix ix_seq ha hb hs).imp (op2_read op2_at atD_ne)
/-! slices -/
def rdO (mg : Mg) (K : Frag) (κ : Nat → Kd) (E : XK) (m : Env → Res (Option Int)) : TO := fun σ H Q => ∃ F0 H0 F ρ, Stt K κ F0 H0 F H σ ρ ∧ (m ρ).sat (fun o => ∀ F' H', Ext F H F' H' → Q o H') (ErrOk mg K E F H)
def DO (X : Cx) (κ : Nat → Kd) (E : XK) (e : Option Expr) (m : Env → Res (Option Int)) : Prop := PO X e (rdO X.mg X.K κ E m)
theorem _root_.L2.PO.imp {X : Cx} {e : Option Expr} {t t' : TO} (h : PO X e t) (i : ∀ σ H Q, t' σ H Q → t σ H Q) : PO X e t' := by
  constructor
  intro pins s σ H Q I hw
  exact h.run pins s σ H Q I (i σ H Q hw)
def mNone : Env → Res (Option Int) := fun _ => .ok none
def mSome (m : Env → Res D) : Env → Res (Option Int) := fun ρ => (m ρ).bind fun d => match d with
  | .int i => .ok (some i)
  | _ => .stk
theorem do_none : DO X κ E none mNone := po_none.imp fun σ H Q ⟨F0, H0, F, ρ, S, c⟩ => c F H (Ext.refl S.sub)
theorem do_some (h : DE X κ E e ma) : DO X κ E (some e) (mSome ma) := (po_some h).imp fun σ H Q ⟨F0, H0, F, ρ, S, c⟩ => ⟨F0, H0, F, ρ, S, Res.sat_imp (Res.sat_bind c) (fun d _ k v F' H' x r => by
  cases r with
  | int i => exact ⟨i, rfl, k F' H' x⟩
  | _ => exact k.elim) fun _ z => z⟩
def cutL {α : Type} (xs : List α) (lo hi : Option Int) : List α := (xs.drop (HT.sIx xs.length 0 lo)).take (HT.sIx xs.length xs.length hi - HT.sIx xs.length 0 lo)
theorem RpA.cut {K : Frag} {F : Hp} {vs : List V} {ds : List D} (r : RpA K F vs ds) (lo hi : Option Int) : RpA K F (cutV vs lo hi) (cutL ds lo hi) := by
  unfold cutV cutL
  rw [r.length]
  exact (r.drop _).take _
def cutD (d : D) (lo hi : Option Int) : Res D :=
  match d with
  | .list xs => .ok (.list (cutL xs lo hi))
  | .tuple xs => .ok (.tuple (cutL xs lo hi))
  | .str x => if x.length ≤ sizeLine then .ok (.str (cutS x lo hi)) else .stk
  | _ => .stk
def mCut (ma : Env → Res D) (ml mh : Env → Res (Option Int)) : Env → Res D := fun ρ => (ma ρ).bind fun d => (ml ρ).bind fun lo => (mh ρ).bind fun hi => cutD d lo hi
theorem cut_whole {α : Type} {xs : List α} {lo hi : Option Int} (h : HT.sIx xs.length 0 lo = 0 ∧ HT.sIx xs.length xs.length hi = xs.length) : cutL xs lo hi = xs := by
  unfold cutL
  rw [h.1, h.2]
  simp
theorem de_cut {lo hi : Option Expr} {p2 : Pos} {ml mh : Env → Res (Option Int)} (ha : DB X κ E a ma) (hl : DO X κ E lo ml) (hh : DO X κ E hi mh) : DE X κ E (.Subscript a (.Slice lo hi none p2) pos) (mCut ma ml mh) :=
  (pe_slice (sl_list.or (sl_tupA.or sl_str)) ha hl hh).imp fun σ H Q ⟨F0, H0, F, ρ, S, c⟩ => ⟨F0, H0, F, ρ, S, Res.sat_imp (Res.sat_bind c) (fun d _ k v F1 H1 x1 r1 =>
    ⟨F0, H0, F1, ρ, S.mono x1, Res.sat_imp (Res.sat_bind k) (fun lo _ k F2 H2 x2 =>
      ⟨F0, H0, F2, ρ, (S.mono x1).mono x2, Res.sat_imp (Res.sat_bind k) (fun hi _ k F3 H3 x3 => by
        have x := (x1.trans x2).trans x3
        have r3 := (r1.mono x2).mono x3
        unfold cutD at k
        split at k
        · obtain ⟨p, vs, rfl, h1, r⟩ := r3.list x.s
          exact .inl ⟨p, vs, rfl, h1, post_new x.s (r.cut lo hi) fun v F' H' x4 rp => k v F' H' (x.trans x4) rp⟩
        · obtain ⟨p, vs, rfl, h1, r, w⟩ := r3.tuple x.s
          refine .inr (.inl ⟨p, vs, rfl, h1, fun z => ?_, fun z => post_newT x.s (r.cut lo hi) fun v F' H' x4 rp => k v F' H' (x.trans x4) rp⟩)
          rw [r.length] at z
          rw [cut_whole z] at k
          exact k _ F3 H3 x w
        · obtain ⟨rfl, hx⟩ := r3.str
          split at k
          · rename_i z
            exact .inr (.inr ⟨_, rfl, z, k _ F3 H3 x (.str _ (oks_cut hx))⟩)
          · exact k.elim
        · exact k.elim) fun _ z => z.mono (x1.trans x2)⟩) fun _ z => z.mono x1⟩) fun _ z => z⟩

/-! ### methods of texts -/
def strM (f : Str → List D → Res D) : D → List D → Res D := fun d ds => match d with
  | .str x => f x ds
  | _ => .stk
def mMt (f : Str → List D → Res D) (mo : Env → Res D) (ms : Env → Res (List D)) : Env → Res D := fun ρ => (mo ρ).bind fun d => match d with
  | .str x => (ms ρ).bind (f x)
  | _ => .stk
def OpS (K : Frag) (r : V → List V → Hp → VK → Prop) (f : Str → List D → Res D) : Prop := ∀ F H x vs ds, Ex F H → OkS x → RpA K F vs ds → ∀ Q : VK, Post K F H Q (f x ds) → r (.str x) vs H Q
theorem strm_read {r : V → List V → Hp → VK → Prop} {f : Str → List D → Res D} {mo : Env → Res D} {ms : Env → Res (List D)} {mg : Mg} {K : Frag} (hf : OpS K r f) (ne : ∀ x y z, f x y ≠ .err z) : ∀ σ H Q, rdE mg K κ E (mMt f mo ms) σ H Q → tBM K "str" r (rdE mg K κ E mo) (rdA mg K κ E ms) σ H Q :=
  fun σ H Q ⟨F0, H0, F, ρ, S, c⟩ => ⟨F0, H0, F, ρ, S, Res.sat_imp (Res.sat_bind c) (fun d hd k v F1 H1 x1 r1 => by
    cases r1 with
    | str x hx =>
      refine ⟨rfl, F0, H0, F1, ρ, S.mono x1, Res.sat_imp (Res.sat_bind k) (fun ds _ k vs F2 H2 x2 r2 => ?_) fun _ z => z.mono x1⟩
      have c3 := sat_post (E := E) (mg := mg) (H := H) (F := F) (K := K) (Q := Q) (ne x ds) k
      exact hf F2 H2 x vs ds x2.s hx r2 Q (Res.sat_imp c3 (fun d _ k v F3 H3 e' rp => k v F3 H3 ((x1.trans x2).trans e') rp) fun _ z => z)
    | _ => exact k.elim) fun _ z => z⟩
/-- one method: its rule, its function of data -/
theorem de_m {o : Expr} {name : Str} {apos cpos : Pos} {id : String} {r : V → List V → Hp → VK → Prop} {f : Str → List D → Res D} {mo : Env → Res D} {ms : Env → Res (List D)} (slot : Slot "str" name id) (hty : typeOf (.builtin id) = pure (.type "method_descriptor")) (hm : MtR X id r) (hf : OpS X.K r f) (ne : ∀ x y z, f x y ≠ .err z)
    (ho : DE X κ E o mo) (ha : DA X κ E (e :: es) ms) (hbase : attributeBase o name X.env (eval o X.env) = eval o X.env := by rfl)
    (hfew : ((backTo cpos (starEach (e :: es) X.env)).all (fun x => !x.1) && (backToKw cpos (keywordEach [] X.env)).all (fun x => x.1.isSome)
      && decide ((e :: es).length + ([] : List Keyword).length + (if ([] : List Keyword).isEmpty then 0 else 1) < 30)) = true := by rfl)
    (hline : (apos.endLine == cpos.line) = true := by rfl) (hs : starEach (e :: es) X.env = (false, eval e X.env) :: starEach es X.env := by rfl) (hplain : (backTo cpos (starEach es X.env)).any (·.1) = false := by rfl) :
    DE X κ E (.Call (.Attribute o name apos) (e :: es) [] cpos) (mMt f mo ms) :=
  (pe_bm PySem.F.plainAttrs_str slot hty hm ho ha hbase hfew hline hs hplain).imp (strm_read hf ne)
/-- .. of one text -/
def s1D (g : Str → Str → Res D) : Str → List D → Res D := fun x ds => match ds with
  | [.str y] => g x y
  | _ => .stk
theorem s1_ne {g : Str → Str → Res D} (h : ∀ x y z, g x y ≠ .err z) : ∀ x y z, s1D g x y ≠ .err z := fun x y z e => by
  unfold s1D at e
  split at e
  · exact h _ _ _ e
  · cases e
theorem ops_1 {K : Frag} {r : V → List V → Hp → VK → Prop} {g : Str → Str → Res D} (h : ∀ F H x y, Ex F H → OkS x → OkS y → ∀ Q : VK, Post K F H Q (g x y) → r (.str x) [.str y] H Q) : OpS K r (s1D g) := fun F H x vs ds s hx rs Q k => by
  unfold s1D at k
  split at k
  · cases rs with
    | cons r1 rs =>
      cases rs
      cases r1 with
      | str _ hy => exact h F H x _ s hx hy Q k
  · exact k.elim
def startsD (x y : Str) : Res D := .ok (.bool (Txt.startswith x y))
def endsD (x y : Str) : Res D := .ok (.bool (Txt.endswith x y))
def findD (x y : Str) : Res D := .ok (.int (Txt.find x y))
def lstripD (x y : Str) : Res D := if x.length ≤ sizeLine then .ok (.str (Txt.lstripChars x y)) else .stk
theorem stripped_sub {goes : Nat → Bool} {l r : Bool} {x : Str} (hx : OkS x) : OkS (Txt.stripBy goes l r x) := by
  unfold Txt.stripBy
  split
  · exact hx
  · refine oks_sub hx fun c hc => ?_
    have e : ∀ i j, (Builtin.Str.strSub x i j).cps.toList = (x.cps.toList.drop i).take (j - i) := fun i j => TL.tl_strSub x i j
    unfold PySem.stripped at hc
    rw [e] at hc
    exact List.mem_of_mem_drop (List.mem_of_mem_take hc)
end
section
variable {X : Cx} {κ κe : Nat → Kd} {E : XK} {o e : Expr} {es : List Expr} {apos cpos pos : Pos} {mo : Env → Res D} {ms : Env → Res (List D)}
theorem ops_starts {K : Frag} : OpS K (fun x xs H Q => ∃ a b, x = .str a ∧ xs = [.str b] ∧ Q (.bl (Txt.startswith a b)) H) (s1D startsD) := ops_1 fun F H x y s hx hy Q k => ⟨x, y, rfl, rfl, k _ F H (Ext.refl s) (.bl _)⟩
theorem ops_ends {K : Frag} : OpS K (fun x xs H Q => ∃ a b, x = .str a ∧ xs = [.str b] ∧ Q (.bl (Txt.endswith a b)) H) (s1D endsD) := ops_1 fun F H x y s hx hy Q k => ⟨x, y, rfl, rfl, k _ F H (Ext.refl s) (.bl _)⟩
theorem ops_find {K : Frag} : OpS K (fun x xs H Q => ∃ a b, x = .str a ∧ xs = [.str b] ∧ Q (.int (Txt.find a b)) H) (s1D findD) := ops_1 fun F H x y s hx hy Q k => ⟨x, y, rfl, rfl, k _ F H (Ext.refl s) (.int _)⟩
theorem ops_lstrip {K : Frag} : OpS K (fun x xs H Q => ∃ a b, x = .str a ∧ xs = [.str b] ∧ a.length ≤ sizeLine ∧ Q (.str (Txt.lstripChars a b)) H) (s1D lstripD) := ops_1 fun F H x y s hx hy Q k => by
  unfold lstripD at k
  split at k
  · rename_i h
    exact ⟨x, y, rfl, rfl, h, k _ F H (Ext.refl s) (.str _ (stripped_sub hx))⟩
  · exact k.elim
theorem starts_ne : ∀ x y z, s1D startsD x y ≠ .err z := s1_ne fun _ _ _ h => nomatch h
theorem ends_ne : ∀ x y z, s1D endsD x y ≠ .err z := s1_ne fun _ _ _ h => nomatch h
theorem find_ne : ∀ x y z, s1D findD x y ≠ .err z := s1_ne fun _ _ _ h => nomatch h
theorem lstrip_ne : ∀ x y z, s1D lstripD x y ≠ .err z := s1_ne fun _ _ _ h => by unfold lstripD at h; split at h <;> cases h
end
end WD

namespace WD
open PySem PySem.Spec PyProof.Rows L2
open Evl (Ex Ex.refl Ex.trans Ex.new Ex.mut ex_l ex_t fresh_back)
section
variable {X : Cx} {κ κe : Nat → Kd} {E : XK} {a b c e tg : Expr} {es : List Expr} {pos : Pos} {ma mb mc : Env → Res D} {ms : Env → Res (List D)}
/-! ### what is walked -/
def signsD (x : Str) : List D := x.cps.toList.map fun c => .str ⟨#[c]⟩
def itD : D → Res (List D)
  | .list ds => .ok ds
  | .tuple ds => .ok ds
  | .str x => .ok (signsD x)
  | _ => .stk
def mIt (m : Env → Res D) : Env → Res (List D) := fun ρ => (m ρ).bind itD
theorem walkd_of {K : Frag} {J : It} {n : Nat} {G : Hp → Prop} {Y : Nat → Hp → V → Hp → Prop} {P : Hp → Hp → Prop} {ds : List D} (w : Walk J n G Y) (hn : n = ds.length) (hG : ∀ F2 H2, P F2 H2 → Ex F2 H2 → G H2)
    (hY : ∀ i F2 H2 x H3, P F2 H2 → Ex F2 H2 → i < ds.length → Y i H2 x H3 → ∃ d F3, ds[i]? = some d ∧ Ext F2 H2 F3 H3 ∧ Rp K F3 x d) : WalkD K P J ds := fun i F2 H2 p s hi => by
  subst hn
  exact ⟨fun hlt => ⟨w.goes i H2 hlt (hG F2 H2 p s), fun x H3 y => hY i F2 H2 x H3 p s hlt (w.yields i H2 x H3 hlt (hG F2 H2 p s) y)⟩, fun e => by subst e; exact w.stops H2 (hG F2 H2 p s)⟩
theorem walkd_at {K : Frag} {J : It} {G : Hp → Prop} {P : Hp → Hp → Prop} {vs : List V} {ds : List D} {F : Hp} (w : Walk J vs.length G (YAt vs)) (r : RpA K F vs ds) (hG : ∀ F2 H2, P F2 H2 → Ex F2 H2 → G H2) (hF : ∀ F2 H2, P F2 H2 → Ex F F2) : WalkD K P J ds :=
  walkd_of w r.length hG fun i F2 H2 x H3 p s hi y => by
    obtain ⟨rfl, hx⟩ := y
    obtain ⟨d, hd, rd⟩ := r.getV hx
    exact ⟨d, F2, hd, Ext.refl s, rd.mono (hF F2 _ p)⟩
theorem walkd_str {K : Frag} {P : Hp → Hp → Prop} {x : Str} (hx : OkS x) : WalkD K P (Its x) (signsD x) :=
  walkd_of walk_str (by simp [signsD]) (fun _ _ _ _ => trivial) fun i F2 H2 v H3 p s hi y => by
    obtain ⟨rfl, c, hc, rfl⟩ := y
    have hc' : x.cps.toList[i]? = some c := by rw [Array.getElem?_toList]; exact hc
    refine ⟨.str ⟨#[c]⟩, F2, ?_, Ext.refl s, .str _ (oks_sign hx (List.mem_of_getElem? hc'))⟩
    unfold signsD
    rw [List.getElem?_map, hc']
    rfl
theorem di_seq (h : DE X κ E e ma) : DI X κ E tg e (mIt ma) := ⟨fun pins s σ H R I ⟨F0, H0, F, ρ, S, k⟩ => by
  have k := Res.sat_bind k
  cases hd : ma ρ with
  | err x =>
    refine (pi_list h).run pins s σ H R I ⟨F0, H0, F, ρ, S, ?_⟩
    rw [hd] at k ⊢
    exact k
  | stk => rw [hd] at k; exact k.elim
  | ok d =>
    rw [hd] at k
    cases d with
    | list ds =>
      refine (pi_list h).run pins s σ H R I ⟨F0, H0, F, ρ, S, ?_⟩
      rw [hd]
      intro v F' H' x r
      cases r with
      | @lst a vs _ h1 h2 => exact ⟨a, rfl, ⟨vs, ex_l x.s h1⟩, k _ F' H' x (walkd_at walk_list h2 (fun F2 H2 p s => ex_l (p.trans s) h1) fun F2 H2 p => p)⟩
    | tuple ds =>
      refine (pi_tup h).run pins s σ H R I ⟨F0, H0, F, ρ, S, ?_⟩
      rw [hd]
      intro v F' H' x r
      cases r with
      | @tup a vs _ h1 h2 => exact ⟨a, rfl, ⟨vs, ex_t x.s h1⟩, k _ F' H' x (walkd_at walk_tup h2 (fun F2 H2 p s => ex_t (p.trans s) h1) fun F2 H2 p => p)⟩
    | str y =>
      refine (pi_str h).run pins s σ H R I ⟨F0, H0, F, ρ, S, ?_⟩
      rw [hd]
      intro v F' H' x r
      cases r with
      | str _ hy => exact ⟨y, rfl, k _ F' H' x (walkd_str hy)⟩
    | _ => exact k.elim⟩
theorem dip_seq (h : DB X κ E e ma) : DIp X κ E tg e (mIt ma) := ⟨fun pins s σ H R I ⟨F0, H0, F, ρ, S, k⟩ => by
  have k := Res.sat_bind k
  cases hd : ma ρ with
  | err x =>
    refine (pi_list h).run pins s σ H R I ⟨F0, H0, F, ρ, S, ?_⟩
    rw [hd] at k ⊢
    exact k
  | stk => rw [hd] at k; exact k.elim
  | ok d =>
    rw [hd] at k
    cases d with
    | list ds =>
      refine (pi_list h).run pins s σ H R I ⟨F0, H0, F, ρ, S, ?_⟩
      rw [hd]
      intro v F' H' x r
      obtain ⟨a, vs, rfl, h1, h2⟩ := r.list x.s
      exact ⟨a, rfl, ⟨vs, h1⟩, k _ F' H' x (walkd_at walk_list h2 (fun F2 H2 p s => ex_l p.h h1) fun F2 H2 p => p.f)⟩
    | tuple ds =>
      refine (pi_tup h).run pins s σ H R I ⟨F0, H0, F, ρ, S, ?_⟩
      rw [hd]
      intro v F' H' x r
      obtain ⟨a, vs, rfl, h1, h2, _⟩ := r.tuple x.s
      exact ⟨a, rfl, ⟨vs, h1⟩, k _ F' H' x (walkd_at walk_tup h2 (fun F2 H2 p s => ex_t p.h h1) fun F2 H2 p => p.f)⟩
    | str y =>
      refine (pi_str h).run pins s σ H R I ⟨F0, H0, F, ρ, S, ?_⟩
      rw [hd]
      intro v F' H' x r
      obtain ⟨rfl, hy⟩ := r.str
      exact ⟨y, rfl, k _ F' H' x (walkd_str hy)⟩
    | _ => exact k.elim⟩
/-! range -/
def rngD (lo : Int) (n : Nat) : List D := (List.range n).map fun (i : Nat) => .int (lo + (i : Int))
theorem walkd_rng {K : Frag} {P : Hp → Hp → Prop} {lo : Int} {n : Nat} : WalkD K P (Itr lo n) (rngD lo n) :=
  walkd_of walk_range (by simp [rngD]) (fun _ _ _ _ => trivial) fun i F2 H2 v H3 p s hi y => by
    obtain ⟨rfl, rfl⟩ := y
    have hi' : i < n := by simpa [rngD] using hi
    refine ⟨.int (lo + (i : Int)), F2, ?_, Ext.refl s, .int _⟩
    unfold rngD
    rw [List.getElem?_map, List.getElem?_range hi']
    rfl
def rng1D : List D → Res (List D)
  | [.int j] => if -(2 ^ 62) ≤ j ∧ j < 2 ^ 62 then .ok (rngD 0 j.toNat) else .stk
  | _ => .stk
def rng2D : List D → Res (List D)
  | [.int i, .int j] => if -(2 ^ 62) ≤ i ∧ i < 2 ^ 62 ∧ -(2 ^ 62) ≤ j ∧ j < 2 ^ 62 then .ok (rngD i (j - i).toNat) else .stk
  | _ => .stk
def mBindA (f : List D → Res (List D)) (m : Env → Res (List D)) : Env → Res (List D) := fun ρ => (m ρ).bind f
theorem di_range1 {p : Pos} (hg : Gl X "range") (hm : X.mg "range" = none) (ha : DA X κ E [a] ms) (hs : starEach [a] X.env = [(false, eval a X.env)] := by rfl) : DI X κ E tg (.Call (.Name "range" p) [a] [] pos) (mBindA rng1D ms) :=
  (pi_range1 hg hm ha hs).imp fun σ H R ⟨F0, H0, F, ρ, S, c⟩ => ⟨F0, H0, F, ρ, S, Res.sat_imp (Res.sat_bind c) (fun ds _ k vs F' H' x r => by
    unfold rng1D at k
    split at k
    · split at k
      · rename_i h
        cases r with
        | cons r1 r2 =>
          cases r1
          cases r2
          exact ⟨_, rfl, h.1, h.2, k _ F' H' x walkd_rng⟩
      · exact k.elim
    · exact k.elim) fun _ z => z⟩
theorem di_range2 {p : Pos} (hg : Gl X "range") (hm : X.mg "range" = none) (ha : DA X κ E [a, b] ms) (hs : starEach [a, b] X.env = [(false, eval a X.env), (false, eval b X.env)] := by rfl) (hs2 : starEach [b] X.env = [(false, eval b X.env)] := by rfl) : DI X κ E tg (.Call (.Name "range" p) [a, b] [] pos) (mBindA rng2D ms) :=
  (pi_range2 hg hm ha hs hs2).imp fun σ H R ⟨F0, H0, F, ρ, S, c⟩ => ⟨F0, H0, F, ρ, S, Res.sat_imp (Res.sat_bind c) (fun ds _ k vs F' H' x r => by
    unfold rng2D at k
    split at k
    · split at k
      · rename_i h
        cases r with
        | cons r1 r2 =>
          cases r1
          cases r2 with
          | cons r2 r3 =>
            cases r2
            cases r3
            exact ⟨_, _, rfl, h, k _ F' H' x walkd_rng⟩
      · exact k.elim
    · exact k.elim) fun _ z => z⟩
/-! pairs: enumerate of a list, zip of two lists -/
theorem walkd_pair {K : Frag} {J : It} {n : Nat} {G : Hp → Prop} {P : Hp → Hp → Prop} {fx fy : Nat → Option V} {ds : List D} (w : Walk J n G (YPair fx fy)) (hn : n = ds.length) (hG : ∀ F2 H2, P F2 H2 → Ex F2 H2 → G H2)
    (hv : ∀ i F2 H2 x y, P F2 H2 → i < ds.length → fx i = some x → fy i = some y → ∃ dx dy, ds[i]? = some (.tuple [dx, dy]) ∧ Rp K F2 x dx ∧ Rp K F2 y dy) : WalkD K P J ds :=
  walkd_of w hn hG fun i F2 H2 v H3 p s hi yy => by
    obtain ⟨T, x, y, rfl, hT, rfl, h1, h2⟩ := yy
    obtain ⟨dx, dy, hd, r1, r2⟩ := hv i F2 H2 x y p hi h1 h2
    have e := Ex.new (o := .tup [x, y]) (none_of_ex s hT)
    exact ⟨_, upd F2 T (.tup [x, y]), hd, .new s hT, .tup (Evl.st_of upd_same) (.cons (r1.mono e) (.cons (r2.mono e) .nil))⟩
def enumD (ds : List D) : List D := ds.zipIdx.map fun p => .tuple [.int (p.2 : Int), p.1]
def enum1D : List D → Res (List D)
  | [.list ds] => .ok (enumD ds)
  | _ => .stk
theorem di_enum {p tpos : Pos} {elts : List Expr} {kk : Nat} (hg : Gl X "enumerate") (hm : X.mg "enumerate" = none) (ha : DA X κ E [a] ms) (hs : starEach [a] X.env = [(false, eval a X.env)] := by rfl) : DI X κ E (.Tuple elts kk tpos) (.Call (.Name "enumerate" p) [a] [] pos) (mBindA enum1D ms) :=
  (pi_enum hg hm ha hs).imp fun σ H R ⟨F0, H0, F, ρ, S, c⟩ => ⟨F0, H0, F, ρ, S, Res.sat_imp (Res.sat_bind c) (fun ds _ k vs F' H' x r => by
    unfold enum1D at k
    split at k
    · rename_i ds
      cases r with
      | cons r1 r2 =>
        cases r2
        cases r1 with
        | @lst a vs _ h1 h2 =>
          refine ⟨a, vs, rfl, ex_l x.s h1, k _ F' H' x (walkd_pair walk_enum (by simp [enumD, h2.length]) (fun F2 H2 p s => ex_l (p.trans s) h1) fun i F2 H2 x y p hi e1 e2 => ?_)⟩
          cases e1
          obtain ⟨d, hd, rd⟩ := h2.getV e2
          refine ⟨.int (i : Int), d, ?_, .int _, rd.mono p⟩
          unfold enumD
          rw [List.getElem?_map, List.getElem?_zipIdx, hd]
          simp
    · exact k.elim) fun _ z => z⟩
def zipD : List D → List D → List D
  | x :: xs, y :: ys => .tuple [x, y] :: zipD xs ys
  | _, _ => []
theorem zipD_get : ∀ (xs ys : List D) (i : Nat) (x y : D), xs[i]? = some x → ys[i]? = some y → (zipD xs ys)[i]? = some (.tuple [x, y])
  | [], _, _, _, _, h, _ => by simp at h
  | _ :: _, [], _, _, _, _, h => by simp at h
  | a :: xs, b :: ys, 0, x, y, h1, h2 => by
    simp at h1 h2
    subst h1 h2
    rfl
  | a :: xs, b :: ys, i + 1, x, y, h1, h2 => by
    simp at h1 h2
    simpa [zipD] using zipD_get xs ys i x y h1 h2
theorem zipD_len : ∀ (xs ys : List D), (zipD xs ys).length = min xs.length ys.length
  | [], _ => by simp [zipD]
  | _ :: _, [] => by simp [zipD]
  | a :: xs, b :: ys => by
    rw [zipD, List.length_cons, zipD_len xs ys, List.length_cons, List.length_cons]
    omega
def zip1D : List D → Res (List D)
  | [.list xs, .list ys] => .ok (zipD xs ys)
  | _ => .stk
theorem di_zip {p tpos : Pos} {elts : List Expr} {kk : Nat}
    (h : PI X (.Tuple elts kk tpos) (.Call (.Name "zip" p) [a, b] [] pos) (iZip X.K (rdA X.mg X.K κ E ms))) : DI X κ E (.Tuple elts kk tpos) (.Call (.Name "zip" p) [a, b] [] pos) (mBindA zip1D ms) :=
  h.imp fun σ H R ⟨F0, H0, F, ρ, S, c⟩ => ⟨F0, H0, F, ρ, S, Res.sat_imp (Res.sat_bind c) (fun ds _ k vs F' H' x r => by
    unfold zip1D at k
    split at k
    · rename_i xs ys
      cases r with
      | cons r1 r2 =>
        cases r2 with
        | cons r2 r3 =>
          cases r3
          cases r1 with
          | @lst a vs _ h1 h2 =>
            cases r2 with
            | @lst b ws _ h3 h4 =>
              refine ⟨a, b, vs, ws, rfl, ex_l x.s h1, ex_l x.s h3, k _ F' H' x (walkd_pair (walk_zip rfl) (by rw [zipD_len, h2.length, h4.length]) (fun F2 H2 p s => ⟨ex_l (p.trans s) h1, ex_l (p.trans s) h3⟩) fun i F2 H2 x y p hi e1 e2 => ?_)⟩
              obtain ⟨d, hd, rd⟩ := h2.getV e1
              obtain ⟨d', hd', rd'⟩ := h4.getV e2
              exact ⟨d, d', zipD_get _ _ _ _ _ hd hd', rd.mono p, rd'.mono p⟩
    · exact k.elim) fun _ z => z⟩

/-! ### join, split -/
def strsOf : List D → Option (List Str)
  | [] => some []
  | .str b :: ds => (strsOf ds).map (b :: ·)
  | _ :: _ => none
theorem strs_vs {K : Frag} {F : Hp} : ∀ {vs : List V} {ds : List D} {bs : List Str}, RpA K F vs ds → strsOf ds = some bs → vs = bs.map V.str ∧ ∀ x ∈ bs, OkS x
  | _, _, _, .nil, h => by cases h; exact ⟨rfl, by simp⟩
  | _, _, bs, .cons (d := d) (ds := ds) r a, h => by
    cases r with
    | str b hb =>
      simp only [strsOf] at h
      cases q : strsOf ds with
      | none => rw [q] at h; cases h
      | some cs =>
        rw [q] at h
        cases h
        have := strs_vs a q
        refine ⟨by rw [List.map_cons, this.1], fun x hx => ?_⟩
        rcases List.mem_cons.mp hx with rfl | hx
        · exact hb
        · exact this.2 x hx
    | _ => cases h
theorem joinL_mem {S : List Nat} : ∀ {ps : List (List Nat)} {c : Nat}, c ∈ TL.joinL S ps → c ∈ S ∨ ∃ p ∈ ps, c ∈ p
  | [], c, h => by simp [TL.joinL] at h
  | [p], c, h => by
    have : c ∈ p := by simpa [TL.joinL] using h
    exact .inr ⟨p, by simp, this⟩
  | p :: q :: r, c, h => by
    have h' : c ∈ p ∨ c ∈ S ∨ c ∈ TL.joinL S (q :: r) := by simpa [TL.joinL] using h
    rcases h' with h' | h' | h'
    · exact .inr ⟨p, by simp, h'⟩
    · exact .inl h'
    · rcases joinL_mem h' with h2 | ⟨p2, h2, h3⟩
      · exact .inl h2
      · exact .inr ⟨p2, by simp [List.mem_cons.mp h2], h3⟩
theorem oks_join {a : Str} {ys : List Str} (ha : OkS a) (h : ∀ x ∈ ys, OkS x) : OkS (Txt.join a ys) := by
  rw [oks_iff]
  intro c hc
  have e : TL.tl (Txt.join a ys) = TL.joinL (TL.tl a) (ys.map TL.tl) := by rw [TL.join_eq, TL.tl_join]
  have hc' : c ∈ TL.joinL (TL.tl a) (ys.map TL.tl) := by rw [← e]; exact hc
  rcases joinL_mem hc' with h1 | ⟨p, h1, h2⟩
  · exact (oks_iff.mp ha) c h1
  · obtain ⟨y, hy, rfl⟩ := List.mem_map.mp h1
    exact (oks_iff.mp (h y hy)) c h2
def joinD (a : Str) (ds : List D) : Res D := match ds with
  | [d] => (seqD d).bind fun es => (ofO (strsOf es)).bind fun ys => if (ys.map (·.length)).sum + ys.length * a.length ≤ 16777216 then .ok (.str (Txt.join a ys)) else .stk
  | _ => .stk
theorem seqD_ne : ∀ x z, seqD x ≠ .err z := fun x z h => by cases x <;> cases h
theorem join_ne : ∀ x y z, joinD x y ≠ .err z := fun x y z h => by
  unfold joinD at h
  split at h
  · exact bind_ne h (seqD_ne _ _) fun _ h => bind_ne h ofO_ne fun _ h => by split at h <;> cases h
  · cases h
theorem ops_join {K : Frag} : OpS K (fun x xs H Q => ∃ a p, ∃ ys : List Str, x = .str a ∧ xs = [.ref p] ∧ (SqL K H p (ys.map V.str) ∨ SqT K H p (ys.map V.str)) ∧
    (ys.map (·.length)).sum + ys.length * a.length ≤ 16777216 ∧ Q (.str (Txt.join a ys)) H) joinD := fun F H x vs ds s hx rs Q k => by
  unfold joinD at k
  split at k
  · obtain ⟨es, hd, k⟩ := seqD_sat (Res.sat_bind k)
    obtain ⟨ys, hy, k⟩ := ofO_sat (Res.sat_bind k)
    split at k
    · rename_i hz
      cases rs with
      | cons r1 rs =>
        cases rs
        obtain ⟨p, ws, rfl, h1, r2⟩ := r1.seq hd
        obtain ⟨rfl, ho⟩ := strs_vs r2 hy
        exact ⟨x, p, ys, rfl, rfl, ex_lt s h1, hz, k _ F H (Ext.refl s) (.str _ (oks_join hx ho))⟩
    · exact k.elim
  · exact k.elim
/-! f-strings -/
def fmtD : D → Res D
  | .str y => if y.length ≤ sizeLine then .ok (.str y) else .stk
  | .int i => if i.natAbs.log2 < 1920 then .ok (.str (toString i)) else .stk
  | _ => .stk
theorem de_fmt (h : DE X κ E e ma) : DE X κ E (.FormattedValue e (-1) none pos) (mUn fmtD ma) :=
  (pe_fmt h).imp fun σ H Q ⟨F0, H0, F, ρ, S, c⟩ => ⟨F0, H0, F, ρ, S, Res.sat_imp (Res.sat_bind c) (fun d _ k v F' H' x r => by
    cases r with
    | str y hy =>
      simp only [fmtD] at k
      split at k
      · rename_i z
        exact .inl ⟨_, rfl, z, k _ F' H' x (.str _ hy)⟩
      · exact k.elim
    | int i =>
      simp only [fmtD] at k
      split at k
      · rename_i z
        exact .inr ⟨_, rfl, z, k _ F' H' x (.str _ (oks_toString i))⟩
      · exact k.elim
    | _ => exact k.elim) fun _ z => z⟩
inductive DJ (X : Cx) (κ : Nat → Kd) (E : XK) : List Expr → List (Env → Res D) → Prop where
  | nil : DJ X κ E [] []
  | cons {e : Expr} {m : Env → Res D} {es : List Expr} {ms : List (Env → Res D)} (h : DE X κ E e m) (r : DJ X κ E es ms) : DJ X κ E (e :: es) (m :: ms)
def joinsD (ρ : Env) : List (Env → Res D) → Str → Res D
  | [], acc => .ok (.str acc)
  | m :: ms, acc => (m ρ).bind fun d => match d with
    | .str y => if (acc ++ y).length ≤ sizeLine then joinsD ρ ms (acc ++ y) else .stk
    | _ => .stk
def mJs (ms : List (Env → Res D)) : Env → Res D := fun ρ => joinsD ρ ms Str.empty
theorem DJ.pj {es : List Expr} {ms : List (Env → Res D)} (h : DJ X κ E es ms) : PJ X es (ms.map fun m => rdE X.mg X.K κ E m) := by
  induction h with
  | nil => exact .nil
  | cons h _ ih => exact .cons h ih
theorem js_read {mg : Mg} {K : Frag} {σ : L2.St} {Q : VK} : ∀ (ms : List (Env → Res D)) (acc : Str) (H F0 H0 F : Hp) (ρ : Env), OkS acc → Stt K κ F0 H0 F H σ ρ →
    (joinsD ρ ms acc).sat (fun d => ∀ v F' H', Ext F H F' H' → Rp K F' v d → Q v H') (ErrOk mg K E F H) → tJs (ms.map fun m => rdE mg K κ E m) acc σ H (fun out H1 => Q (.str out) H1)
  | [], acc, H, F0, H0, F, ρ, ho, S, c => c _ F H (Ext.refl S.sub) (.str _ ho)
  | m :: ms, acc, H, F0, H0, F, ρ, ho, S, c => ⟨F0, H0, F, ρ, S, Res.sat_imp (Res.sat_bind c) (fun d _ k v F1 H1 x r => by
      cases r with
      | str y hy =>
        simp only at k
        split at k
        · rename_i z
          exact ⟨y, rfl, z, js_read ms (acc ++ y) H1 F0 H0 F1 ρ (oks_append ho hy) (S.mono x) (Res.sat_imp k (fun d _ k v F2 H2 x2 r2 => k v F2 H2 (x.trans x2) r2) fun _ z => z.mono x)⟩
        · exact k.elim
      | _ => exact k.elim) fun _ z => z⟩
theorem de_joined {v1 v2 : Expr} {rest : List Expr} {ms : List (Env → Res D)} (h : DJ X κ E (v1 :: v2 :: rest) ms) : DE X κ E (.JoinedStr (v1 :: v2 :: rest) pos) (mJs ms) :=
  (pe_joined h.pj).imp fun σ H Q ⟨F0, H0, F, ρ, S, c⟩ => js_read ms Str.empty H F0 H0 F ρ (by decide +kernel) S c
theorem de_joined1 (h : DE X κ E e ma) : DE X κ E (.JoinedStr [e] pos) ma := pe_joined1 h
end
end WD

namespace WD
open PySem PySem.Spec PyProof.Rows L2
open Evl (Ex Ex.refl Ex.trans Ex.new Ex.mut ex_l ex_t fresh_back)
/-! ### short words for printed terms -/
def kdL (os : List Nat) : Nat → Kd := fun i => if os.contains i then .ow else .im
section
variable {X : Cx} {κ κe : Nat → Kd} {E : XK} {a b c e tg : Expr} {es : List Expr} {pos : Pos} {ma mb mc : Env → Res D} {ms : Env → Res (List D)}
theorem dv (i : Nat) {x : Str} (hk : κ i = .im := by rfl) (hN : X.N[i]? = some x := by rfl) (hv : Vis X.env.scope x := by first | exact Or.inl rfl | exact Or.inr (Or.inl rfl) | exact Or.inr (Or.inr rfl)) (hd : (x == ("__debug__" : Str)) = false := by decide) (hcd : (x == ("__classdict__" : Str)) = false := by decide) : DE X κ E (.Name x pos) (mVar i) := de_var hk hN hv hd hcd
theorem bv (i : Nat) {x : Str} (hN : X.N[i]? = some x := by rfl) (hv : Vis X.env.scope x := by first | exact Or.inl rfl | exact Or.inr (Or.inl rfl) | exact Or.inr (Or.inr rfl)) (hd : (x == ("__debug__" : Str)) = false := by decide) (hcd : (x == ("__classdict__" : Str)) = false := by decide) : DB X κ E (.Name x pos) (mVar i) := db_var hN hv hd hcd
theorem gn (i : Nat) {x : Str} (hN : X.N.Nodup) (hk : κ i = .im := by rfl) (hi : X.N[i]? = some x := by rfl) (hx : Loc X.env.scope x := by first | exact Or.inl rfl | exact Or.inr rfl) (hf : X.fn x = true ∨ X.env.scope.names.lookup x = some .local := by first | exact .inl rfl | exact .inr rfl | assumption) : DG X κ (.Name x pos) [i] (gSet i) := dg_name hk hN hi hx hf
/-- what a call's exceptions come to, in a def's body -/
theorem pcx {P : Program} {w : World} {K : PySem.W.Frag} {mg : Str → Option Value} {base : Heap} {N : List Str} {qual : Str} {scope : Scope} {f : Addr} {cd : Value} {A : Around} {outer : List PySem.Env} {s : Shared} {H : Hp} {E : XK} :
    Passes (L2.CX P w) (cxOf (L2.CX P w) P w K mg base N qual scope f cd A outer s H E) E := passes_call (takes_of rfl rfl rfl rfl) fun _ _ _ _ h => h
theorem pown {P : Program} {w : World} {K : PySem.W.Frag} {mg : Str → Option Value} {base : Heap} {N : List Str} {qual : Str} {scope : Scope} {f : Addr} {cd : Value} {A : Around} {outer : List PySem.Env} {s : Shared} {H : Hp} {E : XK} :
    PassesOwn (model P w) (A.deeper (envOfC qual scope s.heap.objs.size f cd)) (envOfC qual scope s.heap.objs.size f cd) (cxOf (L2.CX P w) P w K mg base N qual scope f cd A outer s H E).xe := PassesOwn.leaving
theorem sg_out {α : Type} {r : Res α} {f : α → Out} (h : ∀ a, (∀ ρ', f a ≠ .bk ρ') ∧ ∀ ρ', f a ≠ .ct ρ') : (∀ ρ', r.out f ≠ .bk ρ') ∧ ∀ ρ', r.out f ≠ .ct ρ' := by
  cases r with
  | ok a => exact h a
  | err x => exact ⟨fun _ h => (nomatch h), fun _ h => (nomatch h)⟩
  | stk => exact ⟨fun _ h => (nomatch h), fun _ h => (nomatch h)⟩
theorem sg_nx {ρ : WD.Env} : (∀ ρ', Out.nx ρ ≠ .bk ρ') ∧ ∀ ρ', Out.nx ρ ≠ .ct ρ' := ⟨fun _ h => (nomatch h), fun _ h => (nomatch h)⟩
theorem sg_rt {d : D} : (∀ ρ', Out.rt d ≠ .bk ρ') ∧ ∀ ρ', Out.rt d ≠ .ct ρ' := ⟨fun _ h => (nomatch h), fun _ h => (nomatch h)⟩
theorem sg_stk : (∀ ρ', Out.stk ≠ .bk ρ') ∧ ∀ ρ', Out.stk ≠ .ct ρ' := ⟨fun _ h => (nomatch h), fun _ h => (nomatch h)⟩
theorem sg_err {x : Exn} : (∀ ρ', Out.err x ≠ .bk ρ') ∧ ∀ ρ', Out.err x ≠ .ct ρ' := ⟨fun _ h => (nomatch h), fun _ h => (nomatch h)⟩
theorem sg_next : Straight mNext := fun _ => sg_nx
theorem sg_asg {i : Nat} {m : WD.Env → Res D} : Straight (mAsg i m) := fun ρ => sg_out fun _ => sg_nx
theorem sg_asgN {i : Nat} {m : WD.Env → Res (List D)} : Straight (mAsgN i m) := fun ρ => sg_out fun _ => sg_nx
theorem sg_asgG {g : D → WD.Env → Option WD.Env} {m : WD.Env → Res D} : Straight (mAsgG g m) := fun ρ => sg_out fun _ => sg_out fun _ => sg_nx
theorem sg_expr {m : WD.Env → Res D} : Straight (mExpr m) := fun ρ => sg_out fun _ => sg_nx
theorem sg_ret {m : WD.Env → Res D} : Straight (mRet m) := fun ρ => sg_out fun _ => sg_rt
theorem sg_app {i : Nat} {m : WD.Env → Res D} : Straight (mApp i m) := fun ρ => sg_out fun _ => sg_out fun _ => by split; exact sg_nx; exact sg_stk
theorem sg_ext {i : Nat} {m : WD.Env → Res D} : Straight (mExt i m) := fun ρ => sg_out fun _ => sg_out fun _ => sg_out fun _ => by split; exact sg_nx; exact sg_stk
theorem sg_if {t : WD.Env → Res Bool} {m n : WD.Env → Out} (h1 : Straight m) (h2 : Straight n) : Straight (mIfS t m n) := fun ρ => sg_out fun b => by
  by_cases h : b = true
  · simp only [if_pos h]; exact h1 ρ
  · simp only [if_neg h]; exact h2 ρ
theorem sg_seq {m n : WD.Env → Out} (h1 : Straight m) (h2 : Straight n) : Straight (mSeq m n) := fun ρ => by
  unfold mSeq
  have a := h1 ρ
  cases q : m ρ with
  | nx ρ' => exact h2 ρ'
  | bk ρ' => exact absurd q (a.1 ρ')
  | ct ρ' => exact absurd q (a.2 ρ')
  | rt d => exact sg_rt
  | err x => exact sg_err
  | stk => exact sg_stk
theorem sg_forL {g : D → WD.Env → Option WD.Env} {b : WD.Env → Out} : ∀ (ds : List D) (ρ : WD.Env), (∀ ρ', forL g b ds ρ ≠ .bk ρ') ∧ ∀ ρ', forL g b ds ρ ≠ .ct ρ'
  | [], ρ => sg_nx
  | d :: ds, ρ => by
    unfold forL
    cases g d ρ with
    | none => exact sg_stk
    | some ρ1 =>
      simp only
      cases b ρ1 with
      | nx ρ2 => exact sg_forL ds ρ2
      | ct ρ2 => exact sg_forL ds ρ2
      | bk ρ2 => exact sg_nx
      | rt d => exact sg_rt
      | err x => exact sg_err
      | stk => exact sg_stk
theorem sg_for {it : WD.Env → Res (List D)} {g : D → WD.Env → Option WD.Env} {b : WD.Env → Out} : Straight (mFor it g b) := fun ρ => sg_out fun ds => sg_forL ds ρ
theorem sg_whileL {c : WD.Env → Res Bool} {b : WD.Env → Out} : ∀ (n : Nat) (ρ : WD.Env), (∀ ρ', whileL c b n ρ ≠ .bk ρ') ∧ ∀ ρ', whileL c b n ρ ≠ .ct ρ'
  | 0, ρ => sg_stk
  | n + 1, ρ => by
    unfold whileL
    cases c ρ with
    | err x => exact sg_err
    | stk => exact sg_stk
    | ok v =>
      cases v with
      | false => exact sg_nx
      | true =>
        simp only
        cases b ρ with
        | nx ρ2 => exact sg_whileL n ρ2
        | ct ρ2 => exact sg_whileL n ρ2
        | bk ρ2 => exact sg_nx
        | rt d => exact sg_rt
        | err x => exact sg_err
        | stk => exact sg_stk
theorem sg_while {fu : WD.Env → Nat} {c : WD.Env → Res Bool} {b : WD.Env → Out} : Straight (mWhile fu c b) := fun ρ => sg_whileL _ ρ
end
end WD
namespace WD
open PySem L2
theorem no_cx {P : Program} {w : World} {H : Hp} {s : Shared} {e : Value} {s' : Shared} (h : L2.CX P w [] H s (fun _ _ _ => False) e s') : False := by
  obtain ⟨_, _, _, _, _, _, _, _, _, _, _, _, z⟩ := h
  exact z
/-- the law's own promise -/
def spLaw (K : PySem.W.Frag) : Sp := fun vs H Q _ => ∃ (a : Addr) (ns : List Int), vs = [.ref a] ∧ SqL K H a (ns.map V.int) ∧ ns.length ≤ 63 ∧ ∀ H', Q (.bl true) H'
theorem ints_rp {K : PySem.W.Frag} {H : Hp} : ∀ ns : List Int, RpA K H (ns.map V.int) (ns.map PyData.int)
  | [] => .nil
  | n :: ns => .cons (.int n) (ints_rp ns)
theorem law_spM {K : PySem.W.Frag} {mg : Mg} {m : List D → Res D} (hm : ∀ ns : List Int, ns.length ≤ 63 → m [.list (ns.map PyData.int)] = .ok (.bool true)) {vs : List V} {H : Hp} {Q : VK} {E : XK} (h : spLaw K vs H Q E) : spM mg K 1 m vs H Q E := by
  obtain ⟨a, ns, rfl, hS, hl, q⟩ := h
  refine ⟨rfl, H, [.list (ns.map PyData.int)], Evl.Ex.refl H, .cons (.lst hS (ints_rp ns)) .nil, ?_⟩
  rw [hm ns hl]
  intro v F' H' x r
  cases r
  exact q H'
end WD

/-! enumerate over a tuple, over a text -/
namespace WD
open PySem PySem.Spec PyProof.Rows L2
open Evl (Ex Ex.refl Ex.trans Ex.new Ex.mut ex_l ex_t fresh_back)
/-- pairs of a count and what g gives -/
def ItP (n : Nat) (k0 : Int) (g : Nat → Option V) (G : Hp → Prop) : It :=
  ⟨fun i H => G H ∧ i < n, fun i H v H' => ∃ T x, v = .ref T ∧ H T = none ∧ H' = upd H T (.tup [.int (k0 + (i : Nat)), x]) ∧ g i = some x, fun i H => G H ∧ i = n⟩
/-- what an inner iterator has to be -/
structure Inner (P : Program) (w : World) (K : PySem.W.Frag) (e it : Addr) (n : Nat) (k0 : Int) (g : Nat → Option V) (G : Hp → Prop) (inn : Nat → Heap → Prop) : Prop where
  ne : e ≠ it
  obj : ∀ i h, inn i h → ∃ o, h.get? it = some o ∧ ∀ v, o.data ≠ .cell v
  keep : ∀ i (h h' : Heap), inn i h → (∀ o, h.get? it = some o → h'.get? it = some o) → inn i h'
  draw : ∀ (X : Cx), X.prog = P → X.w = w → X.K = K → X.calm = true → ∀ (i : Nat) (pins : List (Addr × Obj)) (s : Shared) (σ : L2.St) (H : Hp) (c : Int) (old : Value), Inv X pins σ H s → G H → inn i s.heap → IsEnum s.heap e it c old →
    ∃ fp Pv S, Draws P w X.A.in1 it fp n Pv S ∧ S i s.heap ∧ e ∉ fp ∧ (∀ j x, Pv j x → ∃ v, g j = some v ∧ RelV v x) ∧ ∀ j h, S j h → inn j h
theorem turn_enumP {P : Program} {w : World} {K : PySem.W.Frag} {elts : List Expr} {kk : Nat} {tpos : Pos} {e it : Addr} {n : Nat} {k0 : Int} {g : Nat → Option V} {G : Hp → Prop} {inn : Nat → Heap → Prop} (N : Inner P w K e it n k0 g G inn) :
    Turn P w K (.Tuple elts kk tpos) (ItP n k0 g G) [e, it] e (fun i h => (∃ old, IsEnum h e it (k0 + (i : Nat)) old) ∧ inn i h) where
  mem := by simp
  obj := fun i h st b hb => by
    obtain ⟨⟨old, he⟩, hi⟩ := st
    have e' : b = e ∨ b = it := by simpa using hb
    rcases e' with z | z
    · rw [z]; exact ⟨_, he, fun v q => nomatch q⟩
    · rw [z]; exact N.obj i h hi
  keep := fun i h h' st k => let ⟨⟨old, he⟩, hi⟩ := st; ⟨⟨old, k e (by simp) _ he⟩, N.keep i h h' hi fun o q => k it (by simp) o q⟩
  item := by
    intro X hP hw hK hc i pins s σ H E I hf st hg
    obtain ⟨⟨old, he⟩, hit⟩ := st
    obtain ⟨hG, hi⟩ := hg
    obtain ⟨fp, Pv, S, D, hS, hef, hpv, hinn⟩ := N.draw X hP hw hK hc i pins s σ H _ old I hG hit he
    subst hP hw hK
    have hel : e < s.heap.objs.size := Heap.lt_size he
    have hil : it < s.heap.objs.size := by obtain ⟨o, q, _⟩ := N.obj i _ hit; exact Heap.lt_size q
    refine wpAny_pyNext_enum_itemC D he hS hi N.ne hef fun x h' tk hP ho hs' hT hsz hk => ?_
    obtain ⟨v, hv, rv⟩ := hpv i x hP
    refine ⟨_, rfl, wpAny_letOwnedTupleGo_enum (s := { s with heap := h', toks := tk + 1 }) ho fun h'' he' sb => ?_⟩
    have hT2 : h''.get? s.heap.objs.size = some { cls := .type "tuple", data := .seq #[.int (k0 + (i : Nat)) tk, x] } := (sb.2 _ (Nat.ne_of_gt hel)).trans hT
    have new : ObjOk X.prog X.w (upd H s.heap.objs.size (.tup [.int (k0 + (i : Nat)), v])) h'' s.heap.objs.size (.tup [.int (k0 + (i : Nat)), v]) :=
      ⟨by show 2 ≤ sizeLine; decide, [.int (k0 + (i : Nat)) tk, x], .cons ⟨_, rfl⟩ (.cons rv .nil), ⟨_, hT2, rfl, _, rfl⟩⟩
    have I1 : Inv X pins σ (upd H s.heap.objs.size (.tup [.int (k0 + (i : Nat)), v])) { s with heap := h'', toks := tk + 1 } :=
      I.turnedNew (ch := [e, it]) (fun b ob hb q => (sb.2 b (fun z => hb (by simp [z]))).trans (hk b ob (fun z => hb (by simp [z])) (fun z => hb (by simp [z])) q)) hf (Nat.le_refl _) new
    have e1 : k0 + ((i + 1 : Nat) : Int) = k0 + (i : Int) + 1 := by omega
    refine ⟨.ref s.heap.objs.size, _, I1, rfl, ⟨_, v, rfl, I.hok.fresh (Nat.le_refl _), rfl, hv⟩, ⟨⟨x, by rw [e1]; exact he'⟩, N.keep _ _ _ (hinn _ _ hs') fun o q => (sb.2 it (Ne.symm N.ne)).trans q⟩, fun b hb => ?_⟩
    have hb' : b < s.heap.objs.size := by
      have e' : b = e ∨ b = it := by simpa using hb
      rcases e' with z | z
      · rw [z]; exact hel
      · rw [z]; exact hil
    rw [upd_ne (Nat.ne_of_lt hb')]
    exact (hf b hb).1
  done := by
    intro X hP hw hK hc i pins s σ H E I hf st hg
    obtain ⟨⟨old, he⟩, hit⟩ := st
    obtain ⟨hG, rfl⟩ := hg
    obtain ⟨fp, Pv, S, D, hS, hef, hpv, hinn⟩ := N.draw X hP hw hK hc i pins s σ H _ old I hG hit he
    subst hP hw hK
    obtain ⟨f0, f1, f2, f3, f4, f5⟩ := hf it (by simp)
    exact wpAny_pyNext_enum_endD D he hS fun h' eb => ⟨rfl, I.turned (t' := s.toks) (fun b o hb q => eb b o hb q) f0 f1 f3 f4 f5⟩
  self := fun A i s Q E st h => let ⟨⟨_, he⟩, _⟩ := st; wpAny_pyIter_enum he h
theorem inner_tuple {P : Program} {w : World} {K : PySem.W.Frag} {e it a : Addr} {xs : List V} {k0 : Int} (ne : e ≠ it) : Inner P w K e it xs.length k0 (fun i => xs[i]?) (fun H => SqT K H a xs) (fun i h => h.IsTupleIter it a i) where
  ne := ne
  obj := fun i h st => by
    obtain ⟨o, ho, hc, hd⟩ := st
    exact ⟨o, ho, fun v q => by rw [hd] at q; cases q⟩
  keep := fun i h h' st k => st.at fun o q => k o q
  draw := by
    intro X hP hw hK hc i pins s σ H c old I hG hit he
    subst hP hw hK
    obtain ⟨its, rv, p, hz⟩ := I.tuple hG
    obtain ⟨o, ho, hcls, n, hd⟩ := id p
    have ne1 : a ≠ it := fun z => by
      obtain ⟨o2, ho2, hc2, hd2⟩ := hit
      rw [z] at ho
      rw [ho] at ho2; cases ho2
      rw [hc2] at hcls; simp at hcls
    have ne2 : e ≠ a := fun z => by
      rw [← z] at ho
      have := he.symm.trans ho
      cases this
      simp at hcls
    have hn : its.toArray.size = xs.length := by simpa using rv.length.symm
    have hA : X.A.in1.handled = none := I.ok.hd hc
    have D := Draws.tuple (prog := X.prog) (w := X.w) hA it a ne1 its.toArray
    rw [hn] at D
    refine ⟨_, _, _, D, ⟨hit, ⟨o, ho, hcls, n, hd⟩⟩, by simp [ne, ne2], fun j x hx => ?_, fun j h st => st.1⟩
    have hx : its[j]? = some x := by simpa using hx
    have hj : j < xs.length := by
      rw [← hn]
      have := (List.getElem?_eq_some_iff.mp hx).1
      simpa using this
    obtain ⟨u, hu, ru⟩ := rv.get (List.getElem?_eq_getElem hj)
    rw [hx] at hu; cases hu
    exact ⟨_, List.getElem?_eq_getElem hj, ru⟩
theorem inner_text {P : Program} {w : World} {K : PySem.W.Frag} {e it : Addr} {x : Str} {t : Tok} {k0 : Int} (ne : e ≠ it) : Inner P w K e it x.cps.size k0 (fun i => (x.cps[i]?).map fun c => V.str ⟨#[c]⟩) (fun _ => True) (fun i h => h.IsStrIter it (strIterType x) x t i) where
  ne := ne
  obj := fun i h st => by
    obtain ⟨o, ho, hc, hd⟩ := st
    exact ⟨o, ho, fun v q => by rw [hd] at q; cases q⟩
  keep := fun i h h' st k => let ⟨o, ho, r⟩ := st; ⟨o, k o ho, r⟩
  draw := by
    intro X hP hw hK hc i pins s σ H c old I hG hit he
    subst hP hw hK
    have hA : X.A.in1.handled = none := I.ok.hd hc
    exact ⟨_, _, _, Draws.text (prog := X.prog) (w := X.w) hA it x t, hit, by simp [ne], fun j y ⟨c, u, hc, hy⟩ => ⟨.str ⟨#[c]⟩, by rw [hc]; rfl, hy ▸ ⟨u, rfl⟩⟩, fun j h st => st⟩
/-- enumerate of what begins, one argument -/
theorem meets_enum1 {v : Value} {o : Obj} {H : Heap → Prop} (B : Begins v o H) :
    Meets (Builtin.«enumerate.__new__» ⟨[.type "enumerate", v], []⟩) (fun _ R s => H s.heap ∧
      R (.ok (.ret (.ref (s.heap.push o).objs.size))) { s with heap := (s.heap.push o).push { cls := .type "enumerate", data := .fields #[.none, .bool false, .ref s.heap.objs.size, rawInt 0, .none, .none] } }) :=
  .of_wp fun prog w A R s h => by
    obtain ⟨hp, g, d, tk, os⟩ := s
    obtain ⟨h1, h⟩ := h
    have hsub := sub_enumerate
    have q1 : ∀ {A' : Around} {E : Value → Shared → Prop} {Q : Value → Shared → Prop}, Q (.ref hp.objs.size) ⟨hp.push o, g, d, tk, os⟩ → wpAny (model prog w) A' (pyIter v) Q E ⟨hp, g, d, tk, os⟩ :=
      fun q => B.iter prog w _ _ ⟨hp, g, d, tk, os⟩ _ h1 q
    wp_walk using q1
    refine wpAny_stack_any fun st => wpAny_pure ?_
    split
    · rename_i c _ _ _ _ _
      cases (c == Value.type "enumerate") <;> (wp_walk using q1; exact ⟨_, rfl, h⟩)
    · wp_walk using q1
      exact ⟨_, rfl, h⟩
theorem call_enum1 {prog : Program} {w : World} {A : Around} {E : Value → Shared → Prop} {s : Shared} {v : Value} {o : Obj} {H : Heap → Prop} {Q : Value → Shared → Prop} (B : Begins v o H) (h1 : H s.heap)
    (h : ∀ h', IsEnum h' (s.heap.objs.size + 1) s.heap.objs.size 0 .none → h'.get? s.heap.objs.size = some o →
      (∀ b o, s.heap.get? b = some o → h'.get? b = some o) → Q (.ref (s.heap.objs.size + 1)) { s with heap := h' }) :
    wpAny (model prog w) A (call (.type "enumerate") [v]) Q E s := by
  refine callType_new F.called_enumerate (by decide) (F.typeCall_enumerate_1 _) (F.newCall_enumerate_1 _) (fun obj => F.args_object_init_2 obj _) F.entry_enumerate_new (meets_enum1 B) ⟨h1, ?_⟩
  have hz : (s.heap.push o).objs.size = s.heap.objs.size + 1 := Heap.size_push ..
  show _ ∧ _
  rw [hz]
  have he : IsEnum ((s.heap.push o).push { cls := .type "enumerate", data := .fields #[.none, .bool false, .ref s.heap.objs.size, rawInt 0, .none, .none] }) (s.heap.objs.size + 1) s.heap.objs.size 0 .none := by
    have := Heap.get?_push_size (s.heap.push o) (o := { cls := .type "enumerate", data := .fields #[.none, .bool false, .ref s.heap.objs.size, rawInt 0, .none, .none] }) rfl
    rw [hz] at this
    exact this
  exact ⟨⟨_, he, rfl⟩, h _ he (Heap.get?_push_of_some _ (Heap.get?_push_size _ B.free)) fun b o x => Heap.get?_push_of_some _ (Heap.get?_push_of_some _ x)⟩
/-- enumerate of one: a list as before, a tuple, a text -/
def iEnumX (K : PySem.W.Frag) (ta : TA) : TI := fun σ H R => ta σ H fun vs H1 => (∃ a xs, vs = [.ref a] ∧ SqL K H1 a xs ∧ R (Ite K a) H1) ∨ (∃ a xs, vs = [.ref a] ∧ SqT K H1 a xs ∧ R (ItP xs.length 0 (fun i => xs[i]?) fun H => SqT K H a xs) H1) ∨
  ∃ x, vs = [.str x] ∧ R (ItP x.cps.size 0 (fun i => (x.cps[i]?).map fun c => V.str ⟨#[c]⟩) fun _ => True) H1
theorem pi_enumX {X : Cx} {e : Expr} {ta : TA} {p pos tpos : Pos} {elts : List Expr} {kk : Nat} (hg : Gl X "enumerate") (hm : X.mg "enumerate" = none) (ha : PA X [e] ta) (hs : starEach [e] X.env = [(false, eval e X.env)] := by rfl) :
    PI X (.Tuple elts kk tpos) (.Call (.Name "enumerate" p) [e] [] pos) (iEnumX X.K ta) := by
  refine ⟨fun pins s σ H R I h => ?_⟩
  refine Call_ (ld_blt I hg hm boot_enumerate (PyProof.Rows.callWith_type1 (thn (ha.run pos pins s σ H _ I h) fun us s1 ⟨vs, H1, I1, r1, q1⟩ => ?_) hs rfl))
  have fp : ∀ {h' : Heap}, Inv X pins σ H1 { s1 with heap := h' } → ∀ b ∈ [s1.heap.objs.size + 1, s1.heap.objs.size], FpOk X pins H1 b := fun I2 b hb => by
    have e' : b = s1.heap.objs.size + 1 ∨ b = s1.heap.objs.size := by simpa using hb
    have hle : s1.heap.objs.size ≤ b := by
      rcases e' with z | z
      · rw [z]; exact Nat.le_add_right _ _
      · rw [z]; exact Nat.le_refl _
    exact I1.fpOk hle (I1.hok.fresh hle)
  rcases q1 with ⟨a, xs, ex, hq, q⟩ | ⟨a, xs, ex, hq, q⟩ | ⟨x, ex, q⟩
  · subst ex
    cases r1 with
    | cons r rr =>
      cases rr
      cases r
      obtain ⟨its, rv, p', hz⟩ := I1.list hq
      refine call_enumerate_list p'.isList fun h' he hit hsz hk => wpAny_pyIter_enum he ?_
      have I2 : Inv X pins σ H1 { s1 with heap := h' } := I1.kept (t' := s1.toks) hk
      exact ⟨s1.heap.objs.size + 1, [s1.heap.objs.size + 1, s1.heap.objs.size], _, _, H1, rfl, I2, turn_enum a (s1.heap.objs.size + 1) s1.heap.objs.size, ⟨⟨.none, he⟩, hit, Nat.succ_ne_self _⟩, fp I2, q⟩
  · subst ex
    cases r1 with
    | cons r rr =>
      cases rr
      cases r
      obtain ⟨its, rv, p', hz⟩ := I1.tuple hq
      refine call_enum1 (begins_tuple a its.toArray) p' fun h' he hit hk => wpAny_pyIter_enum he ?_
      have I2 : Inv X pins σ H1 { s1 with heap := h' } := I1.kept (t' := s1.toks) hk
      exact ⟨s1.heap.objs.size + 1, [s1.heap.objs.size + 1, s1.heap.objs.size], _, _, H1, rfl, I2, turn_enumP (inner_tuple (Nat.succ_ne_self _)), ⟨⟨.none, he⟩, ⟨_, hit, rfl, rfl⟩⟩, fp I2, q⟩
  · subst ex
    cases r1 with
    | cons r rr =>
      cases rr
      obtain ⟨t, rfl⟩ := r
      refine call_enum1 (begins_text x t) trivial fun h' he hit hk => wpAny_pyIter_enum he ?_
      have I2 : Inv X pins σ H1 { s1 with heap := h' } := I1.kept (t' := s1.toks) hk
      exact ⟨s1.heap.objs.size + 1, [s1.heap.objs.size + 1, s1.heap.objs.size], _, _, H1, rfl, I2, turn_enumP (inner_text (Nat.succ_ne_self _)), ⟨⟨.none, he⟩, ⟨_, hit, rfl, rfl⟩⟩, fp I2, q⟩
theorem walk_enumP {n : Nat} {k0 : Int} {g : Nat → Option V} {G : Hp → Prop} : Walk (ItP n k0 g G) n G (YPair (fun i => some (.int (k0 + (i : Nat)))) g) := by
  refine ⟨fun i _ hi q => ⟨q, hi⟩, fun _ q => ⟨q, rfl⟩, fun i H v H' _ q y => ?_⟩
  obtain ⟨T, x, h1, h2, h3, h4⟩ := y
  exact ⟨T, .int (k0 + (i : Nat)), x, h1, h2, h3, rfl, h4⟩
end WD

namespace WD
open PySem PySem.Spec PyProof.Rows L2
open Evl (Ex Ex.refl Ex.trans Ex.new Ex.mut ex_l ex_t fresh_back)
def enumXD : List D → Res (List D)
  | [.list ds] => .ok (enumD ds)
  | [.tuple ds] => .ok (enumD ds)
  | [.str x] => .ok (enumD (signsD x))
  | _ => .stk
theorem enumD_len (ds : List D) : (enumD ds).length = ds.length := by simp [enumD]
theorem enumD_get {ds : List D} {i : Nat} {d : D} (h : ds[i]? = some d) : (enumD ds)[i]? = some (.tuple [.int (i : Int), d]) := by
  unfold enumD
  rw [List.getElem?_map, List.getElem?_zipIdx, h]
  simp
section
variable {X : Cx} {κ κe : Nat → Kd} {E : XK} {a b c e tg o : Expr} {es : List Expr} {pos : Pos} {st : Stmt} {ma mb mc : Env → Res D} {ms : Env → Res (List D)}
theorem di_enumX {p tpos : Pos} {elts : List Expr} {kk : Nat} (hg : Gl X "enumerate") (hm : X.mg "enumerate" = none) (ha : DA X κ E [a] ms) (hs : starEach [a] X.env = [(false, eval a X.env)] := by rfl) : DI X κ E (.Tuple elts kk tpos) (.Call (.Name "enumerate" p) [a] [] pos) (mBindA enumXD ms) :=
  (pi_enumX hg hm ha hs).imp fun σ H R ⟨F0, H0, F, ρ, S, c⟩ => ⟨F0, H0, F, ρ, S, Res.sat_imp (Res.sat_bind c) (fun ds _ k vs F' H' x r => by
    unfold enumXD at k
    split at k
    · rename_i ds
      cases r with
      | cons r1 r2 =>
        cases r2
        cases r1 with
        | @lst a vs _ h1 h2 =>
          refine .inl ⟨a, vs, rfl, ex_l x.s h1, k _ F' H' x (walkd_pair walk_enum (by rw [enumD_len, h2.length]) (fun F2 H2 p s => ex_l (p.trans s) h1) fun i F2 H2 x y p hi e1 e2 => ?_)⟩
          cases e1
          obtain ⟨d, hd, rd⟩ := h2.getV e2
          exact ⟨.int (i : Int), d, enumD_get hd, .int _, rd.mono p⟩
    · rename_i ds
      cases r with
      | cons r1 r2 =>
        cases r2
        cases r1 with
        | @tup a vs _ h1 h2 =>
          refine .inr (.inl ⟨a, vs, rfl, ex_t x.s h1, k _ F' H' x (walkd_pair walk_enumP (by rw [enumD_len, h2.length]) (fun F2 H2 p s => ex_t (p.trans s) h1) fun i F2 H2 x y p hi e1 e2 => ?_)⟩)
          cases e1
          obtain ⟨d, hd, rd⟩ := h2.getV e2
          refine ⟨.int (i : Int), d, enumD_get hd, ?_, rd.mono p⟩
          rw [Int.zero_add]
          exact .int _
    · rename_i x0 _
      cases r with
      | cons r1 r2 =>
        cases r2
        cases r1 with
        | str _ hx =>
          refine .inr (.inr ⟨x0, rfl, k _ F' H' x (walkd_pair walk_enumP (by rw [enumD_len]; simp [signsD]) (fun F2 H2 p s => trivial) fun i F2 H2 x y p hi e1 e2 => ?_)⟩)
          cases e1
          obtain ⟨c, hc, rfl⟩ := Option.map_eq_some_iff.mp e2
          refine ⟨.int (i : Int), .str ⟨#[c]⟩, enumD_get (by simp [signsD, hc]), ?_, .str _ ?_⟩
          · rw [Int.zero_add]
            exact .int _
          · have hx : (x0.cps.all fun c => decide (c < 0x110000)) = true := hx
            rw [Array.all_eq_true] at hx
            obtain ⟨hi, hc⟩ := Array.getElem?_eq_some_iff.mp hc
            have := hx i hi
            rw [hc] at this
            show ((#[c] : Array Nat).all fun c => decide (c < 0x110000)) = true
            simpa using this
    · exact k.elim) fun _ z => z⟩

/-! ### split -/
theorem joinL_has {S : List Nat} : ∀ {ps : List (List Nat)} {p : List Nat} {c : Nat}, p ∈ ps → c ∈ p → c ∈ TL.joinL S ps
  | [], _, _, h, _ => by simp at h
  | [q], p, c, h, hc => by
    rw [List.mem_singleton.mp h] at hc
    simpa [TL.joinL] using hc
  | q :: r :: ps, p, c, h, hc => by
    have e : TL.joinL S (q :: r :: ps) = q ++ (S ++ TL.joinL S (r :: ps)) := by simp [TL.joinL]
    rw [e]
    rcases List.mem_cons.mp h with rfl | h
    · exact List.mem_append_left _ hc
    · exact List.mem_append_right _ (List.mem_append_right _ (joinL_has h hc))
theorem oks_split {x y p : Str} (hx : OkS x) (hp : p ∈ Txt.split x y) : OkS p := by
  have hj : Txt.join y (Txt.split x y) = x := by rw [TL.join_eq]; exact PySem.StrLaws.join_split x y
  have hx' : ∀ c ∈ TL.tl x, c < 0x110000 := fun c hc => by
    have hx : (x.cps.all fun c => decide (c < 0x110000)) = true := hx
    rw [← Array.all_toList, List.all_eq_true] at hx
    simpa using hx c hc
  have hall : ∀ c ∈ TL.tl p, c < 0x110000 := fun c hc => hx' c (by
    rw [← hj, TL.join_eq, TL.tl_join]
    exact joinL_has (List.mem_map.mpr ⟨p, hp, rfl⟩) hc)
  show (p.cps.all fun c => decide (c < 0x110000)) = true
  rw [← Array.all_toList, List.all_eq_true]
  intro c hc
  simpa using hall c hc
theorem strs_rp {K : Frag} {F : Hp} : ∀ {ys : List Str}, (∀ y ∈ ys, OkS y) → RpA K F (ys.map V.str) (ys.map PyData.str)
  | [], _ => .nil
  | y :: ys, h => .cons (.str y (h y (by simp))) (strs_rp fun z hz => h z (by simp [hz]))
def splitD (x y : Str) : Res D := if (y.length == 0) = false ∧ x.length + 2 ≤ sizeLine then .ok (.list ((Txt.split x y).map PyData.str)) else .stk
theorem ops_split {K : Frag} : OpS K (fun x xs H Q => ∃ a b, x = .str a ∧ xs = [.str b] ∧ (b.length == 0) = false ∧ a.length + 2 ≤ sizeLine ∧ rNewStrs (Txt.split a b) H Q) (s1D splitD) := ops_1 fun F H x y s hx hy Q k => by
  unfold splitD at k
  split at k
  · rename_i h
    exact ⟨x, y, rfl, rfl, h.1, h.2, post_new s (strs_rp fun p hp => oks_split hx hp) k⟩
  · exact k.elim
theorem split_ne : ∀ x y z, s1D splitD x y ≠ .err z := s1_ne fun _ _ _ h => by unfold splitD at h; split at h <;> cases h

/-! ### stuck: what must not happen -/
theorem sg_raise : Straight mStk := fun _ => sg_stk

/-! ### arguments that are lent -/
def kdB (os bs : List Nat) : Nat → Kd := fun i => if os.contains i then .ow else if bs.contains i then .bw else .im
inductive ArgR (K : Frag) (F H : Hp) : List Kd → List V → List D → Prop
  | nil : ArgR K F H [] [] []
  | im {v : V} {d : D} {ks : List Kd} {vs : List V} {ds : List D} : Rp K F v d → ArgR K F H ks vs ds → ArgR K F H (.im :: ks) (v :: vs) (d :: ds)
  | bw {v : V} {d : D} {ks : List Kd} {vs : List V} {ds : List D} : Rb K F H v d → ArgR K F H ks vs ds → ArgR K F H (.bw :: ks) (v :: vs) (d :: ds)
theorem ArgR.length {K : Frag} {F H : Hp} {ks : List Kd} {vs : List V} {ds : List D} (r : ArgR K F H ks vs ds) : vs.length = ks.length ∧ ds.length = ks.length := by
  induction r with
  | nil => exact ⟨rfl, rfl⟩
  | im _ _ ih => simp [ih.1, ih.2]
  | bw _ _ ih => simp [ih.1, ih.2]
theorem ArgR.get {K : Frag} {F H : Hp} {ks : List Kd} {vs : List V} {ds : List D} (r : ArgR K F H ks vs ds) : ∀ {i : Nat} {d : D}, ds[i]? = some d → ∃ v k, vs[i]? = some v ∧ ks[i]? = some k ∧ ((k = .im ∧ Rp K F v d) ∨ (k = .bw ∧ Rb K F H v d)) := by
  induction r with
  | nil => intro i d h; simp at h
  | im h _ ih =>
    intro i d hd
    cases i with
    | zero => simp at hd; subst hd; exact ⟨_, _, rfl, rfl, .inl ⟨rfl, h⟩⟩
    | succ i => simpa using ih (by simpa using hd)
  | bw h _ ih =>
    intro i d hd
    cases i with
    | zero => simp at hd; subst hd; exact ⟨_, _, rfl, rfl, .inr ⟨rfl, h⟩⟩
    | succ i => simpa using ih (by simpa using hd)
def spMb (mg : Mg) (K : Frag) (ks : List Kd) (m : List D → Res D) : Sp := fun vs H Q E => vs.length = ks.length ∧ ∃ F ds, Ex F H ∧ ArgR K F H ks vs ds ∧ (m ds).sat (fun d => ∀ v F' H', Ext F H F' H' → Rp K F' v d → Q v H') (ErrOk mg K E F H)
structure FnB (P : Program) (w : World) (K : Frag) (mg : Mg) (base : Heap) (k : Nat) (x : Str) (ps : List Str) (ks : List Kd) (m : List D → Res D) : Prop where
  ex : ∃ f fd, mg x = some (.ref f) ∧ PySem.W.keepIn K (.ref f) = true ∧ Binds K fd ps [] ∧ FnOk P w K mg base (L2.CX P w) k f fd ps (spMb mg K ks m)
def rdAB (mg : Mg) (K : Frag) (κ : Nat → Kd) (E : XK) (ks : List Kd) (m : Env → Res (List D)) : TA := fun σ H Q => ∃ F0 H0 F ρ, Stt K κ F0 H0 F H σ ρ ∧ (m ρ).sat (fun ds => ∀ vs F' H', Ext F H F' H' → ArgR K F' H' ks vs ds → Q vs H') (ErrOk mg K E F H)
def DAB (X : Cx) (κ : Nat → Kd) (E : XK) (es : List Expr) (ks : List Kd) (m : Env → Res (List D)) : Prop := PA X es (rdAB X.mg X.K κ E ks m)
theorem dab_nil : DAB X κ E [] [] mNil := pa_nil.imp fun σ H Q ⟨F0, H0, F, ρ, S, c⟩ => c [] F H (Ext.refl S.sub) .nil
theorem dab_im {ks : List Kd} {m : Env → Res D} {ms : Env → Res (List D)} (h : DE X κ E e m) (hs : DAB X κ E es ks ms) (hst : starEach (e :: es) X.env = (false, eval e X.env) :: starEach es X.env := by rfl) : DAB X κ E (e :: es) (.im :: ks) (mCons m ms) :=
  (pa_cons h hs hst).imp fun σ H Q ⟨F0, H0, F, ρ, S, c⟩ => ⟨F0, H0, F, ρ, S, Res.sat_imp (Res.sat_bind c) (fun d _ k v F' H' e r =>
    ⟨F0, H0, F', ρ, S.mono e, Res.sat_imp (Res.sat_bind k) (fun ds _ k vs F2 H2 e2 rs => k (v :: vs) F2 H2 (e.trans e2) (.im (r.mono e2.f) rs)) fun x z => z.mono e⟩) fun _ z => z⟩
theorem dab_bw {ks : List Kd} {m : Env → Res D} {ms : Env → Res (List D)} (h : DB X κ E e m) (hs : DAB X κ E es ks ms) (hst : starEach (e :: es) X.env = (false, eval e X.env) :: starEach es X.env := by rfl) : DAB X κ E (e :: es) (.bw :: ks) (mCons m ms) :=
  (pa_cons h hs hst).imp fun σ H Q ⟨F0, H0, F, ρ, S, c⟩ => ⟨F0, H0, F, ρ, S, Res.sat_imp (Res.sat_bind c) (fun d _ k v F' H' e r =>
    ⟨F0, H0, F', ρ, S.mono e, Res.sat_imp (Res.sat_bind k) (fun ds _ k vs F2 H2 e2 rs => k (v :: vs) F2 H2 (e.trans e2) (.bw (r.mono e2) rs)) fun x z => z.mono e⟩) fun _ z => z⟩
theorem de_callL {k : Nat} {x : Str} {p : Pos} {ps : List Str} {ks : List Kd} {m : List D → Res D} {ma : Env → Res (List D)} (G : FnB X.prog X.w X.K X.mg X.base k x ps ks m) (hr : Room k X.A) (hx : Passes (L2.CX X.prog X.w) X E) (hg : Gl X x) (ha : DAB X κ E (e :: es) ks ma)
    (hdb : (x == ("__debug__" : Str)) = false := by decide) (he : starEach (e :: es) X.env = (false, eval e X.env) :: starEach es X.env := by rfl) (hpl : (backTo pos (starEach es X.env)).any (·.1) = false := by rfl) :
    DE X κ E (.Call (.Name x p) (e :: es) [] pos) (mCall m ma) := by
  obtain ⟨f, fd, hm, hk, hb, hF⟩ := G.ex
  refine (pe_call (dvs := []) (ds := []) hF hr hg hm hk hb .nil hx ha hdb he hpl).imp fun σ H Q ⟨F0, H0, F, ρ, S, c⟩ => ⟨F0, H0, F, ρ, S, Res.sat_imp (Res.sat_bind c) (fun ds q k vs F' H' x r => ?_) fun _ z => z⟩
  refine ⟨by rw [List.append_nil]; exact r.length.1, F', ds, x.s, by rw [List.append_nil]; exact r, Res.sat_imp k (fun d _ k v F2 H2 x2 r2 => k v F2 H2 (x.trans x2) r2) fun _ z => z.mono x⟩
theorem fn_startB {K : Frag} {F H : Hp} {vs : List V} {ds : List D} {N : List Str} {ks : List Kd} (s : Ex F H) (r : ArgR K F H ks vs ds) (hk : ∀ i, i < ks.length → ks[i]? = some (κ i)) :
    Stt K κ F H F H (L2.start N vs) (ds.map some ++ List.replicate (N.length - ds.length) none) := by
  have el := r.length
  have known : ∀ i d, (ds.map some ++ List.replicate (N.length - ds.length) none)[i]? = some (some d) → ds[i]? = some d ∧ i < ks.length := fun i d h => by
    by_cases hi : i < ds.length
    · rw [List.getElem?_append_left (by simpa using hi), List.getElem?_map, List.getElem?_eq_getElem hi] at h
      have : ds[i] = d := by simpa using h
      rw [List.getElem?_eq_getElem hi, this]
      exact ⟨rfl, by omega⟩
    · rw [List.getElem?_append_right (by simpa using hi), List.getElem?_replicate] at h
      split at h <;> cases h
  refine ⟨Ex.refl F, Ex.refl H, fun _ h _ => h, s, ?_, fun i d h => ?_, fun i j a di dj hn hi hj ki kj _ _ => ?_⟩
  · unfold L2.start
    simp [el.1, el.2]
  · obtain ⟨h1, h2⟩ := known i d h
    obtain ⟨v, k, g1, g2, g3⟩ := r.get h1
    have hki := (hk i h2).symm.trans g2
    have hki : κ i = k := by simpa using hki
    refine ⟨v, ?_, ?_⟩
    · unfold L2.start
      have hi : i < vs.length := by omega
      rw [List.getElem?_append_left (by simpa using hi), List.getElem?_map, g1]
      rfl
    · rw [hki]
      rcases g3 with ⟨rfl, g⟩ | ⟨rfl, g⟩
      · exact g
      · rcases g with g | ⟨a, rfl, g⟩
        · exact .inl g
        · refine .inr ⟨a, rfl, ?_, g⟩
          rcases g with ⟨vs, ds, _, g, _⟩ | ⟨vs, ds, _, g, _⟩ <;> rw [g] <;> exact fun q => nomatch q
  · obtain ⟨h1, h2⟩ := known i di hi
    obtain ⟨v, k, g1, g2, g3⟩ := r.get h1
    have hki := (hk i h2).symm.trans g2
    have hki : κ i = k := by simpa using hki
    rw [hki] at ki
    rcases g3 with ⟨rfl, _⟩ | ⟨rfl, _⟩ <;> cases ki
theorem fn_okB {P : Program} {w : World} {K : Frag} {mg : Mg} {base : Heap} {x qual : Str} {st : Stmt} {f : Addr} {fd : FuncData} {N ps : List Str} {ks : List Kd} {k n : Nat} {body : Env → Out} (F : Fun K x qual st f fd) (S : FnScope N ps (defScope st)) (hn : N.length = n)
    (hps : ks.length = ps.length) (hk : ∀ i, i < ks.length → ks[i]? = some (κ i))
    (hbody : ∀ (cdv : Value) (A : Around) (outer : List PySem.Env) (s : Shared) (H : Hp) (E : XK), Room k (A.deeper (envOfC qual (defScope st) s.heap.objs.size f cdv)) →
      DSs2 (cxOf (L2.CX P w) P w K mg base N qual (defScope st) f cdv A outer s H E) κ κe E (defBody st) body) : FnOk P w K mg base (L2.CX P w) (k + 1) f fd ps (spMb mg K ks (mkFn n body)) := by
  subst hn
  refine F.okX S (fun vs H Q E h => h.1.trans hps) fun cdv A outer s H vs Q E hr h => ⟨_, hbody cdv A outer s H E hr, ?_⟩
  obtain ⟨hl, F, ds, e, r, c⟩ := h
  refine ⟨F, H, F, _, fn_startB e r hk, ?_⟩
  unfold mkFn at c
  generalize ho : body (ds.map some ++ List.replicate (N.length - ds.length) none) = o at c ⊢
  cases o with
  | nx ρ => exact fun σ' F' H' _ S' => c .non F' H' S'.ext .non
  | bk ρ => exact c.elim
  | ct ρ => exact c.elim
  | rt d => exact c
  | err x => exact c
  | stk => exact c
/-- a promise of nothing: where a recursion's mirror has no turns left -/
theorem fn_stuck {P : Program} {w : World} {K : Frag} {mg : Mg} {base : Heap} {f : Addr} {fd : FuncData} {ps : List Str} (k : Nat) : FnOk P w K mg base (L2.CX P w) k f fd ps (spM mg K ps.length (fun _ => .stk)) :=
  ⟨fun vs H Q E h => h.1, fun A outer s H args us vs Q E _ _ _ _ h => by
    obtain ⟨_, F, ds, _, _, c⟩ := h
    exact c.elim⟩
end
end WD

namespace WD
open PySem PySem.Spec PyProof.Rows L2

/-! ### texts as lists of codes -/
abbrev S (l : List Nat) : D := .str ⟨l.toArray⟩
theorem S_inj {a b : List Nat} : (⟨a.toArray⟩ : Str) = ⟨b.toArray⟩ ↔ a = b := by
  constructor
  · intro h
    have : a.toArray = b.toArray := by injection h
    simpa using this
  · rintro rfl; rfl
theorem str_eta (x : Str) : x = ⟨x.cps.toList.toArray⟩ := by cases x; rfl
theorem len_mk (l : List Nat) : (⟨l.toArray⟩ : Str).length = l.length := by simp [Str.length]
theorem mk_append (a b : List Nat) : (⟨a.toArray⟩ : Str) ++ ⟨b.toArray⟩ = ⟨(a ++ b).toArray⟩ := TL.ext_tl (by rw [TL.tl_append])
theorem de_strS {X : Cx} {κ : Nat → Kd} {E : XK} {pos : Pos} {x : Str} {j : Nat} (l : List Nat) (h : x = ⟨l.toArray⟩ := by decide +kernel) (ho : OkS ⟨l.toArray⟩ := by decide +kernel) : DE X κ E (.Constant (.str x) j pos) (mC (S l)) := by
  subst h
  exact de_str ho

theorem rel_strS {x : Str} {t : Tok} (l : List Nat) (h : x = ⟨l.toArray⟩) : RelV (V.str ⟨l.toArray⟩) (Value.str x t) := ⟨t, by rw [h]⟩

/-! ### how the mirrors compute -/
@[simp] theorem bind_okR {α β : Type} (a : α) (f : α → Res β) : (Res.ok a).bind f = f a := rfl
@[simp] theorem bind_errR {α β : Type} (x : Exn) (f : α → Res β) : (Res.err x : Res α).bind f = .err x := rfl
@[simp] theorem bind_stkR {α β : Type} (f : α → Res β) : (Res.stk : Res α).bind f = .stk := rfl
@[simp] theorem out_okR {α : Type} (a : α) (f : α → Out) : (Res.ok a).out f = f a := rfl
@[simp] theorem out_errR {α : Type} (x : Exn) (f : α → Out) : (Res.err x : Res α).out f = .err x := rfl
@[simp] theorem out_stkR {α : Type} (f : α → Out) : (Res.stk : Res α).out f = .stk := rfl
@[simp] theorem noErr_okR {α : Type} (a : α) : noErr (Res.ok a) = .ok a := rfl
@[simp] theorem ofO_some {α : Type} (a : α) : ofO (some a) = .ok a := rfl
@[simp] theorem ofO_none {α : Type} : ofO (none : Option α) = .stk := rfl
@[simp] theorem mVar_at (i : Nat) (ρ : WD.Env) : mVar i ρ = ofO (ρ[i]?).join := rfl
@[simp] theorem mC_at (d : D) (ρ : WD.Env) : mC d ρ = .ok d := rfl
@[simp] theorem mBin_at (f : D → D → Res D) (a b : WD.Env → Res D) (ρ : WD.Env) : mBin f a b ρ = (a ρ).bind fun x => (b ρ).bind fun y => f x y := rfl
@[simp] theorem mUn_at (f : D → Res D) (a : WD.Env → Res D) (ρ : WD.Env) : mUn f a ρ = (a ρ).bind f := rfl
@[simp] theorem mTru_at (a : WD.Env → Res D) (ρ : WD.Env) : mTru a ρ = (a ρ).bind truD := rfl
@[simp] theorem mAnd_at (t u : WD.Env → Res Bool) (ρ : WD.Env) : mAnd t u ρ = (t ρ).bind fun b => if b = true then u ρ else .ok false := rfl
@[simp] theorem mOr_at (t u : WD.Env → Res Bool) (ρ : WD.Env) : mOr t u ρ = (t ρ).bind fun b => if b = true then .ok true else u ρ := rfl
@[simp] theorem mNot_at (t : WD.Env → Res Bool) (ρ : WD.Env) : mNot t ρ = (t ρ).bind fun b => .ok (!b) := rfl
@[simp] theorem mAndV_at (t u : WD.Env → Res D) (ρ : WD.Env) : mAndV t u ρ = (t ρ).bind fun d => (boolD d).bind fun b => if b = true then u ρ else .ok (.bool false) := rfl
@[simp] theorem mOrV_at (t u : WD.Env → Res D) (ρ : WD.Env) : mOrV t u ρ = (t ρ).bind fun d => (boolD d).bind fun b => if b = true then .ok (.bool true) else u ρ := rfl
@[simp] theorem mNotV_at (t : WD.Env → Res D) (ρ : WD.Env) : mNotV t ρ = (t ρ).bind fun d => (boolD d).bind fun b => .ok (.bool (!b)) := rfl
@[simp] theorem boolD_bool (b : Bool) : boolD (.bool b) = .ok b := rfl
@[simp] theorem mIf_at (t : WD.Env → Res Bool) (a b : WD.Env → Res D) (ρ : WD.Env) : mIf t a b ρ = (t ρ).bind fun c => if c = true then a ρ else b ρ := rfl
@[simp] theorem mNil_at (ρ : WD.Env) : mNil ρ = .ok [] := rfl
@[simp] theorem mCons_at (a : WD.Env → Res D) (b : WD.Env → Res (List D)) (ρ : WD.Env) : mCons a b ρ = (a ρ).bind fun d => (b ρ).bind fun ds => .ok (d :: ds) := rfl
@[simp] theorem mList_at (a : WD.Env → Res (List D)) (ρ : WD.Env) : mList a ρ = (a ρ).bind fun ds => .ok (.list ds) := rfl
@[simp] theorem mSeq1_at (a : WD.Env → Res D) (ρ : WD.Env) : mSeq1 a ρ = (a ρ).bind seqD := rfl
@[simp] theorem mIt_at (a : WD.Env → Res D) (ρ : WD.Env) : mIt a ρ = (a ρ).bind itD := rfl
@[simp] theorem mBindA_at (f : List D → Res (List D)) (a : WD.Env → Res (List D)) (ρ : WD.Env) : mBindA f a ρ = (a ρ).bind f := rfl
@[simp] theorem mCall_at (m : List D → Res D) (a : WD.Env → Res (List D)) (ρ : WD.Env) : mCall m a ρ = (a ρ).bind m := rfl
@[simp] theorem mMt_at (f : Str → List D → Res D) (o : WD.Env → Res D) (a : WD.Env → Res (List D)) (ρ : WD.Env) : mMt f o a ρ = (o ρ).bind fun d => match d with
  | .str x => (a ρ).bind (f x)
  | _ => .stk := rfl
@[simp] theorem mNone_at (ρ : WD.Env) : mNone ρ = .ok none := rfl
@[simp] theorem mSome_at (a : WD.Env → Res D) (ρ : WD.Env) : mSome a ρ = (a ρ).bind fun d => match d with
  | .int i => .ok (some i)
  | _ => .stk := rfl
@[simp] theorem mCut_at (a : WD.Env → Res D) (l h : WD.Env → Res (Option Int)) (ρ : WD.Env) : mCut a l h ρ = (a ρ).bind fun d => (l ρ).bind fun lo => (h ρ).bind fun hi => cutD d lo hi := rfl
@[simp] theorem mYes_at (ρ : WD.Env) : mYes ρ = .ok true := rfl
@[simp] theorem mChain_at (p q : Int → Int → Bool) (a b c : WD.Env → Res D) (ρ : WD.Env) : mChain p q a b c ρ = (a ρ).bind fun x => (b ρ).bind fun y => (cmpD p x y).bind fun d => (boolD d).bind fun k => if k = true then (c ρ).bind fun z => cmpD q y z else .ok (.bool false) := rfl
@[simp] theorem mNext_at (ρ : WD.Env) : mNext ρ = .nx ρ := rfl
@[simp] theorem mAsg_at (i : Nat) (m : WD.Env → Res D) (ρ : WD.Env) : mAsg i m ρ = (m ρ).out fun d => .nx (ρ.set i (some d)) := rfl
@[simp] theorem mAsgN_at (i : Nat) (m : WD.Env → Res (List D)) (ρ : WD.Env) : mAsgN i m ρ = (m ρ).out fun ds => .nx (ρ.set i (some (.list ds))) := rfl
@[simp] theorem mAsgG_at (g : D → WD.Env → Option WD.Env) (m : WD.Env → Res D) (ρ : WD.Env) : mAsgG g m ρ = (m ρ).out fun d => (ofO (g d ρ)).out .nx := rfl
@[simp] theorem mRet_at (m : WD.Env → Res D) (ρ : WD.Env) : mRet m ρ = (m ρ).out .rt := rfl
@[simp] theorem mExpr_at (m : WD.Env → Res D) (ρ : WD.Env) : mExpr m ρ = (m ρ).out fun _ => .nx ρ := rfl
@[simp] theorem mIfS_at (t : WD.Env → Res Bool) (m n : WD.Env → Out) (ρ : WD.Env) : mIfS t m n ρ = (t ρ).out fun b => if b = true then m ρ else n ρ := rfl
def Out.then (o : Out) (n : WD.Env → Out) : Out :=
  match o with
  | .nx ρ' => n ρ'
  | o => o
@[simp] theorem mSeq_at (m n : WD.Env → Out) (ρ : WD.Env) : mSeq m n ρ = (m ρ).then n := by
  unfold mSeq Out.then
  rfl
@[simp] theorem then_nx (ρ : WD.Env) (n : WD.Env → Out) : (Out.nx ρ).then n = n ρ := rfl
@[simp] theorem then_rt (d : D) (n : WD.Env → Out) : (Out.rt d).then n = .rt d := rfl
@[simp] theorem then_ct (ρ : WD.Env) (n : WD.Env → Out) : (Out.ct ρ).then n = .ct ρ := rfl
@[simp] theorem then_bk (ρ : WD.Env) (n : WD.Env → Out) : (Out.bk ρ).then n = .bk ρ := rfl
@[simp] theorem then_err (x : Exn) (n : WD.Env → Out) : (Out.err x).then n = .err x := rfl
@[simp] theorem then_stk (n : WD.Env → Out) : (Out.stk).then n = .stk := rfl
@[simp] theorem fnOut_rt (d : D) : fnOut (.rt d) = .ok d := rfl
@[simp] theorem fnOut_nx (ρ : WD.Env) : fnOut (.nx ρ) = .ok .none := rfl
@[simp] theorem fnOut_err (x : Exn) : fnOut (.err x) = .err x := rfl
@[simp] theorem fnOut_stk : fnOut .stk = .stk := rfl
@[simp] theorem gSet_at (i : Nat) (d : D) (ρ : WD.Env) : gSet i d ρ = some (ρ.set i (some d)) := rfl
@[simp] theorem mFor_at (it : WD.Env → Res (List D)) (g : D → WD.Env → Option WD.Env) (b : WD.Env → Out) (ρ : WD.Env) : mFor it g b ρ = (it ρ).out fun ds => forL g b ds ρ := rfl
@[simp] theorem getL_at (i : Nat) (ρ : WD.Env) : getL i ρ = match (ρ[i]?).join with
  | some (.list ds) => .ok ds
  | _ => .stk := rfl
@[simp] theorem mApp_at (i : Nat) (m : WD.Env → Res D) (ρ : WD.Env) : mApp i m ρ = (getL i ρ).out fun ds => (m ρ).out fun d => if ds.length < sizeLine then .nx (ρ.set i (some (.list (ds ++ [d])))) else .stk := rfl
@[simp] theorem mExt_at (i : Nat) (m : WD.Env → Res D) (ρ : WD.Env) : mExt i m ρ = (getL i ρ).out fun ds => (m ρ).out fun d => (seqD d).out fun es => if ds.length + es.length ≤ sizeLine then .nx (ρ.set i (some (.list (ds ++ es)))) else .stk := rfl
@[simp] theorem mTup_at (m : WD.Env → Res (List D)) (ρ : WD.Env) : mTup m ρ = (m ρ).bind fun ds => if ds.length ≤ sizeLine then .ok (.tuple ds) else .stk := rfl
@[simp] theorem mLst_at (m : WD.Env → Res (List D)) (ρ : WD.Env) : mLst m ρ = (m ρ).bind fun ds => if ds.length ≤ sizeLine then .ok ds else .stk := rfl
@[simp] theorem mLc_at (it : WD.Env → Res (List D)) (g : D → WD.Env → Option WD.Env) (t : WD.Env → Res Bool) (m : WD.Env → Res D) (vs : List Nat) (ρ : WD.Env) :
  mLc it g t m vs ρ = (it ρ).bind fun ds => if ds.length ≤ sizeLine then noErr (compL g t m (forget vs ρ) ds) else .stk := rfl
@[simp] theorem forget_nil (ρ : WD.Env) : forget [] ρ = ρ := rfl
@[simp] theorem forget_cons (i : Nat) (is : List Nat) (ρ : WD.Env) : forget (i :: is) ρ = forget is (ρ.set i none) := rfl
@[simp] theorem mRep_at (m : WD.Env → Res (List D)) (b : WD.Env → Res D) (ρ : WD.Env) : mRep m b ρ = (m ρ).bind fun ds => (b ρ).bind fun d => match d with
  | .int k => if -(2 ^ 63) ≤ k ∧ k < 2 ^ 63 ∧ ds.length * k.toNat ≤ sizeLine then .ok (List.replicate k.toNat ds).flatten else .stk
  | _ => .stk := rfl

@[simp] theorem mCat_at (a b : WD.Env → Res D) (ρ : WD.Env) : mCat a b ρ = (a ρ).bind fun x => (b ρ).bind fun y => catD x y := rfl
@[simp] theorem catD_list (xs ys : List D) : catD (.list xs) (.list ys) = if xs.length + ys.length ≤ sizeLine then .ok (xs ++ ys) else .stk := rfl
theorem mForget_at (is : List Nat) (m : WD.Env → Out) (ρ : WD.Env) : mForget is m ρ = match m ρ with
  | .nx ρ' => .nx (forget is ρ')
  | .bk ρ' => .bk (forget is ρ')
  | .ct ρ' => .ct (forget is ρ')
  | .rt d => .rt d
  | .err x => .err x
  | .stk => .stk := rfl
/-! ### operations -/
@[simp] theorem addD_int (i j : Int) : addD (.int i) (.int j) = .ok (.int (i + j)) := rfl
@[simp] theorem subD_int (i j : Int) : subD (.int i) (.int j) = .ok (.int (i - j)) := rfl
@[simp] theorem negD_int (i : Int) : negD (.int i) = .ok (.int (-i)) := rfl
@[simp] theorem cmpD_int (p : Int → Int → Bool) (i j : Int) : cmpD p (.int i) (.int j) = .ok (.bool (p i j)) := rfl
@[simp] theorem truD_bool (b : Bool) : truD (.bool b) = .ok b := rfl
@[simp] theorem truD_none : truD .none = .ok false := rfl
@[simp] theorem truD_int (i : Int) : truD (.int i) = .ok (i != 0) := rfl
@[simp] theorem truD_list (xs : List D) : truD (.list xs) = .ok (!xs.isEmpty) := rfl
@[simp] theorem truD_tuple (xs : List D) : truD (.tuple xs) = .ok (!xs.isEmpty) := rfl
@[simp] theorem intD_int (i : Int) : WD.intD (.int i) = .ok (.int i) := rfl
@[simp] theorem lenD_list (xs : List D) : lenD (.list xs) = .ok (.int xs.length) := rfl
@[simp] theorem lenD_tuple (xs : List D) : lenD (.tuple xs) = .ok (.int xs.length) := rfl
@[simp] theorem tupleD_list (xs : List D) : tupleD (.list xs) = .ok (.tuple xs) := rfl
@[simp] theorem tupleD_tuple (xs : List D) : tupleD (.tuple xs) = .ok (.tuple xs) := rfl
@[simp] theorem seqD_list (xs : List D) : seqD (.list xs) = .ok xs := rfl
@[simp] theorem seqD_tuple (xs : List D) : seqD (.tuple xs) = .ok xs := rfl
@[simp] theorem itD_list (xs : List D) : itD (.list xs) = .ok xs := rfl
@[simp] theorem itD_tuple (xs : List D) : itD (.tuple xs) = .ok xs := rfl
theorem modD_int {i j : Int} (h : 0 < j) : modD (.int i) (.int j) = .ok (.int (i % j)) := by simp only [modD, if_pos h]
theorem fdivD_int {i j : Int} (h : CDiv i j) : fdivD (.int i) (.int j) = .ok (.int (i / j)) := by simp only [fdivD, if_pos h]
theorem mulD_int {i j : Int} (h : CMul i j) : mulD (.int i) (.int j) = .ok (.int (i * j)) := by simp only [mulD, if_pos h]
theorem powD_int {i j : Int} (h : CPow i j) : powD (.int i) (.int j) = .ok (.int (i ^ j.toNat)) := by simp only [powD, if_pos h]
theorem sl_eq : (sizeLine : Nat) = 16777216 := sizeLine_eq
theorem itD_S (l : List Nat) : itD (S l) = .ok (l.map fun c => S [c]) := by
  simp [itD, signsD]
theorem lenD_S {l : List Nat} (h : l.length ≤ 16777216) : lenD (S l) = .ok (.int l.length) := by
  simp [lenD, len_mk, sl_eq, h]
theorem truD_S {l : List Nat} (h : l.length ≤ 16777216) : truD (S l) = .ok (l.length != 0) := by
  simp [truD, len_mk, sl_eq, h]
  cases l <;> simp
  omega
theorem addD_S {a b : List Nat} (h : a.length + b.length ≤ 16777216) : addD (S a) (S b) = .ok (S (a ++ b)) := by
  simp only [addD, len_mk, sl_eq, if_pos h, mk_append]
theorem addD_list {a b : List D} (h : a.length + b.length ≤ 16777216) : addD (.list a) (.list b) = .ok (.list (a ++ b)) := by
  simp only [addD, sl_eq, if_pos h]
theorem addD_tuple {a b : List D} (h : a.length + b.length ≤ 16777216) : addD (.tuple a) (.tuple b) = .ok (.tuple (a ++ b)) := by
  simp only [addD, sl_eq, if_pos h]
/-- at a place -/
theorem atI_some {α : Type} {xs : List α} {k : Nat} {x : α} (h : xs[k]? = some x) : atI xs (k : Int) = some x := atI_nat h
theorem atD_list {xs : List D} {k : Nat} {d : D} (h : xs[k]? = some d) : atD (.list xs) (.int k) = .ok d := by
  simp only [atD, atI_some h, ofO_some]
theorem atD_tuple {xs : List D} {k : Nat} {d : D} (h : xs[k]? = some d) : atD (.tuple xs) (.int k) = .ok d := by
  simp only [atD, atI_some h, ofO_some]
theorem atD_S {l : List Nat} {k : Nat} {c : Nat} (hl : l.length ≤ 16777216) (h : l[k]? = some c) : atD (S l) (.int k) = .ok (S [c]) := by
  have : atI l (k : Int) = some c := atI_some h
  simp only [atD, len_mk, sl_eq, if_pos hl]
  simp [this]
/-- slices -/
theorem cutD_S {l : List Nat} {lo hi : Option Int} (h : l.length ≤ 16777216) : cutD (S l) lo hi = .ok (S (cutL l lo hi)) := by
  simp only [cutD, len_mk, sl_eq, if_pos h]
  simp [cutS, cutL, Str.length]
@[simp] theorem cutD_list (l : List D) (lo hi : Option Int) : cutD (.list l) lo hi = .ok (.list (cutL l lo hi)) := rfl
@[simp] theorem cutD_tuple (l : List D) (lo hi : Option Int) : cutD (.tuple l) lo hi = .ok (.tuple (cutL l lo hi)) := rfl
theorem sIx_nat' (n d k : Nat) : HT.sIx n d (some (k : Int)) = min k n := HT.sIx_nat n d k
theorem cut_to {α : Type} (l : List α) (k : Nat) : cutL l none (some (k : Int)) = l.take k := by
  unfold cutL
  rw [sIx_nat', HT.sIx_none]
  rw [List.drop_zero, Nat.sub_zero]
  rw [List.take_eq_take_iff]
  omega
theorem cut_from {α : Type} (l : List α) (k : Nat) : cutL l (some (k : Int)) none = l.drop k := by
  unfold cutL
  rw [sIx_nat', HT.sIx_none]
  by_cases h : k ≤ l.length
  · rw [Nat.min_eq_left h]
    rw [List.take_of_length_le (by rw [List.length_drop]; omega)]
  · rw [Nat.min_eq_right (by omega), List.drop_length, List.drop_of_length_le (by omega)]
    simp
theorem sIx_neg1 (n d : Nat) : HT.sIx n d (some (-1)) = n - 1 := by
  unfold HT.sIx
  simp
  omega
theorem cut_last {α : Type} (l : List α) : cutL l (some (-1)) none = l.drop (l.length - 1) := by
  unfold cutL
  rw [sIx_neg1, HT.sIx_none]
  rw [List.take_of_length_le (by rw [List.length_drop]; omega)]
theorem cut_mid {α : Type} (l : List α) : cutL l (some 1) (some (-1)) = (l.drop 1).take (l.length - 2) := by
  unfold cutL
  rw [sIx_neg1, show (1 : Int) = ((1 : Nat) : Int) from rfl, sIx_nat']
  by_cases h : 1 ≤ l.length
  · rw [Nat.min_eq_left h]
    have : l.length - 1 - 1 = l.length - 2 := by omega
    rw [this]
  · have : l = [] := List.eq_nil_of_length_eq_zero (by omega)
    subst this
    simp
/-! == -/
theorem eqv_S (a b : List Nat) : PyData.eqv (S a) (S b) = (a == b) := by
  show ((⟨a.toArray⟩ : Str) == ⟨b.toArray⟩) = (a == b)
  by_cases h : a = b
  · subst h
    rw [beq_self_eq_true, beq_self_eq_true]
  · have : ¬ (⟨a.toArray⟩ : Str) = ⟨b.toArray⟩ := fun e => h (S_inj.mp e)
    rw [beq_eq_false_iff_ne.mpr this, beq_eq_false_iff_ne.mpr h]
theorem plain_S (n : Nat) (a : List Nat) : plainD n (S a) = true := by cases n <;> simp [plainD]
theorem plain_int (n : Nat) (a : Int) : plainD n (.int a) = true := by cases n <;> simp [plainD]
theorem plain_bool (n : Nat) (a : Bool) : plainD n (.bool a) = true := by cases n <;> simp [plainD]
theorem plain_none (n : Nat) : plainD n .none = true := by cases n <;> simp [plainD]
theorem plainL_iff {n : Nat} : ∀ {ds : List D}, plainL n ds = true ↔ ∀ d ∈ ds, plainD n d = true
  | [] => by simp [plainL]
  | d :: ds => by simp [plainL, plainL_iff (ds := ds)]
theorem plain_list {n : Nat} {ds : List D} (h : ∀ d ∈ ds, plainD n d = true) : plainD (n + 1) (.list ds) = true := by
  simp only [plainD]; exact plainL_iff.mpr h
theorem plain_tuple {n : Nat} {ds : List D} (h : ∀ d ∈ ds, plainD n d = true) : plainD (n + 1) (.tuple ds) = true := by
  simp only [plainD]; exact plainL_iff.mpr h
@[simp] theorem eqD_int (i j : Int) : eqD (.int i) (.int j) = .ok (.bool (i == j)) := by
  simp only [eqD, plain_int, and_self, if_true, PyData.eqv]
@[simp] theorem eqD_S (a b : List Nat) : eqD (S a) (S b) = .ok (.bool (a == b)) := by
  simp only [eqD, plain_S, and_self, if_true, eqv_S]
@[simp] theorem neD_int (i j : Int) : neD (.int i) (.int j) = .ok (.bool (!(i == j))) := by
  simp only [neD, plain_int, and_self, if_true, PyData.eqv]
@[simp] theorem neD_S (a b : List Nat) : neD (S a) (S b) = .ok (.bool (!(a == b))) := by
  simp only [neD, plain_S, and_self, if_true, eqv_S]
mutual
theorem eqv_self : ∀ (n : Nat) (d : D), plainD n d = true → PyData.eqv d d = true
  | n, .none, _ => by simp [PyData.eqv]
  | n, .bool b, _ => by simp [PyData.eqv]
  | n, .int i, _ => by simp [PyData.eqv]
  | n, .str x, _ => by simp [PyData.eqv]
  | 0, .list _, h => by simp [plainD] at h
  | 0, .tuple _, h => by simp [plainD] at h
  | n + 1, .list xs, h => by
    simp only [PyData.eqv]
    exact eqv_selfL n xs (by simpa [plainD] using h)
  | n + 1, .tuple xs, h => by
    simp only [PyData.eqv]
    exact eqv_selfL n xs (by simpa [plainD] using h)
  | n, .dict _, h => by cases n <;> simp [plainD] at h
theorem eqv_selfL : ∀ (n : Nat) (ds : List D), plainL n ds = true → PyData.eqvAll ds ds = true
  | n, [], _ => by simp [PyData.eqvAll]
  | n, d :: ds, h => by
    have h' : plainD n d = true ∧ plainL n ds = true := by simpa [plainL] using h
    simp [PyData.eqvAll, eqv_self n d h'.1, eqv_selfL n ds h'.2]
end
theorem eqD_self {d : D} (h : plainD deep d = true) : eqD d d = .ok (.bool true) := by
  simp only [eqD, h, and_self, if_true, eqv_self deep d h]
theorem neD_self {d : D} (h : plainD deep d = true) : neD d d = .ok (.bool false) := by
  simp only [neD, h, and_self, if_true, eqv_self deep d h, Bool.not_true]
theorem plain_mono : ∀ {n m : Nat} {d : D}, plainD n d = true → n ≤ m → plainD m d = true
  | n, m, .none, _, _ => plain_none m
  | n, m, .bool b, _, _ => plain_bool m b
  | n, m, .int b, _, _ => plain_int m b
  | n, m, .str b, _, _ => by cases m <;> simp [plainD]
  | 0, m, .list _, h, _ => by simp [plainD] at h
  | 0, m, .tuple _, h, _ => by simp [plainD] at h
  | n + 1, 0, .list xs, h, l => by omega
  | n + 1, 0, .tuple xs, h, l => by omega
  | n + 1, m + 1, .list xs, h, l => plain_list fun d hd => plain_mono (n := n) (plainL_iff.mp (by simpa [plainD] using h) d hd) (by omega)
  | n + 1, m + 1, .tuple xs, h, l => plain_tuple fun d hd => plain_mono (n := n) (plainL_iff.mp (by simpa [plainD] using h) d hd) (by omega)
  | n, m, .dict _, h, _ => by cases n <;> simp [plainD] at h
end WD

namespace WD
open PySem PySem.Spec PyProof.Rows L2

/-! ### texts: what the methods are on lists of codes -/
theorem inS_one (c : Nat) (l : List Nat) : inS ⟨[c].toArray⟩ ⟨l.toArray⟩ = decide (c ∈ l) := by
  have := PySem.StrLaws.found_one ⟨l.toArray⟩ c
  unfold inS
  simpa using this
@[simp] theorem inD_one (c : Nat) (l : List Nat) : inD (S [c]) (S l) = .ok (.bool (decide (c ∈ l))) := by
  simp only [inD, inS_one]
@[simp] theorem notInD_one (c : Nat) (l : List Nat) : notInD (S [c]) (S l) = .ok (.bool (!decide (c ∈ l))) := by
  simp only [notInD, inD_one, bind_okR]
theorem subAt_mk (a b : List Nat) (i : Nat) : Builtin.Str.subAt ⟨a.toArray⟩ ⟨b.toArray⟩ i = decide ((a.drop i).take b.length = b) := by
  unfold Builtin.Str.subAt
  rw [len_mk]
  have e : a.toArray.extract i (i + b.length) = ((a.drop i).take b.length).toArray := by
    apply Array.toList_inj.mp
    simp [List.extract_eq_drop_take, Array.toList_extract]
  show (a.toArray.extract i (i + b.length) == b.toArray) = _
  rw [e]
  by_cases h : (a.drop i).take b.length = b
  · rw [h]; simp
  · rw [decide_eq_false h]
    exact beq_eq_false_iff_ne.mpr fun q => h (by simpa using q)
def startsL (a b : List Nat) : Bool := decide (a.take b.length = b)
def endsL (a b : List Nat) : Bool := decide (b.length ≤ a.length ∧ a.drop (a.length - b.length) = b)
theorem starts_mk (a b : List Nat) : Txt.startswith ⟨a.toArray⟩ ⟨b.toArray⟩ = startsL a b := by
  unfold Txt.startswith startsL
  rw [len_mk, len_mk, subAt_mk, List.drop_zero]
  by_cases h : a.take b.length = b
  · have : b.length ≤ a.length := by
      have := congrArg List.length h
      rw [List.length_take] at this
      omega
    simp [h, this]
  · simp [h]
theorem ends_mk (a b : List Nat) : Txt.endswith ⟨a.toArray⟩ ⟨b.toArray⟩ = endsL a b := by
  unfold Txt.endswith endsL
  rw [len_mk, len_mk, subAt_mk]
  by_cases hl : b.length ≤ a.length
  · have : (a.drop (a.length - b.length)).take b.length = a.drop (a.length - b.length) := List.take_of_length_le (by rw [List.length_drop]; omega)
    rw [this]
    simp [hl]
  · have h0 : ¬ (0 + b.length ≤ a.length) := by omega
    simp [hl, h0]
theorem lstrip_mk (a b : List Nat) : Txt.lstripChars ⟨a.toArray⟩ ⟨b.toArray⟩ = ⟨(a.dropWhile fun c => b.contains c).toArray⟩ := by
  unfold Txt.lstripChars Txt.stripBy
  have hg : ∀ c, (⟨b.toArray⟩ : Str).cps.contains c = b.contains c := fun c => by simp
  have e : ∀ (l : List Nat), (l.takeWhile ((⟨b.toArray⟩ : Str).cps.contains)) = l.takeWhile fun c => b.contains c := fun l => by
    congr 1
    funext c
    exact hg c
  have lo : PySem.stripLo (⟨b.toArray⟩ : Str).cps.contains true ⟨a.toArray⟩ = (a.takeWhile fun c => b.contains c).length := by
    unfold PySem.stripLo
    rw [if_pos rfl]
    show ((a.toArray.toList).takeWhile _).length = _
    rw [e]
  have hi : ∀ k, PySem.stripHi (⟨b.toArray⟩ : Str).cps.contains false ⟨a.toArray⟩ k = a.length := fun k => by
    unfold PySem.stripHi
    rw [if_neg Bool.false_ne_true, len_mk]
  have hd : a.drop (a.takeWhile fun c => b.contains c).length = a.dropWhile fun c => b.contains c := by
    have h : ∀ l m : List Nat, l ++ m = a → a.drop l.length = m := fun l m e => by rw [← e, List.drop_left]
    exact h _ _ List.takeWhile_append_dropWhile
  have st : PySem.stripped (⟨b.toArray⟩ : Str).cps.contains true false ⟨a.toArray⟩ = ⟨(a.dropWhile fun c => b.contains c).toArray⟩ := by
    unfold PySem.stripped
    rw [lo, hi]
    apply TL.ext_tl
    rw [TL.tl_strSub]
    show (a.drop _).take _ = a.dropWhile _
    rw [hd, List.take_of_length_le]
    have := congrArg List.length hd
    rw [List.length_drop] at this
    omega
  split
  · rename_i h
    unfold PySem.stripSame at h
    rw [lo, hi] at h
    have h0 : (a.takeWhile fun c => b.contains c).length = 0 := by
      have := (Bool.and_eq_true_iff.mp h).1
      simpa using this
    rw [h0, List.drop_zero] at hd
    rw [← hd]
  · exact st
@[simp] theorem startsD_S (a b : List Nat) : s1D startsD ⟨a.toArray⟩ [S b] = .ok (.bool (startsL a b)) := by
  simp only [s1D, startsD, starts_mk]
@[simp] theorem endsD_S (a b : List Nat) : s1D endsD ⟨a.toArray⟩ [S b] = .ok (.bool (endsL a b)) := by
  simp only [s1D, endsD, ends_mk]
theorem lstripD_S {a b : List Nat} (h : a.length ≤ 16777216) : s1D lstripD ⟨a.toArray⟩ [S b] = .ok (S (a.dropWhile fun c => b.contains c)) := by
  simp only [s1D, lstripD, len_mk, sl_eq, if_pos h, lstrip_mk]
theorem strsOf_S : ∀ ls : List (List Nat), strsOf (ls.map S) = some (ls.map fun l => (⟨l.toArray⟩ : Str))
  | [] => rfl
  | l :: ls => by
    rw [List.map_cons]
    show (strsOf (ls.map S)).map _ = _
    rw [strsOf_S ls]
    rfl
theorem join_mk (a : List Nat) (ls : List (List Nat)) : Txt.join ⟨a.toArray⟩ (ls.map fun l => (⟨l.toArray⟩ : Str)) = ⟨(TL.joinL a ls).toArray⟩ := by
  apply TL.ext_tl
  rw [TL.join_eq, TL.tl_join]
  show TL.joinL a ((ls.map fun l => (⟨l.toArray⟩ : Str)).map TL.tl) = TL.joinL a ls
  rw [List.map_map]
  congr 1
  induction ls with
  | nil => rfl
  | cons l ls ih => rw [List.map_cons, ih]; rfl
theorem joinD_S {a : List Nat} {ls : List (List Nat)} (h : (ls.map List.length).sum + ls.length * a.length ≤ 16777216) : joinD ⟨a.toArray⟩ [.list (ls.map S)] = .ok (S (TL.joinL a ls)) := by
  simp only [joinD, seqD_list, bind_okR, strsOf_S, ofO_some]
  have e : ((ls.map fun l => (⟨l.toArray⟩ : Str)).map (·.length)) = ls.map List.length := by
    rw [List.map_map]
    congr 1
  rw [e, List.length_map, len_mk, if_pos h, join_mk]
theorem joinL_nil : ∀ ls : List (List Nat), TL.joinL [] ls = ls.flatten
  | [] => rfl
  | [p] => by simp [TL.joinL]
  | p :: q :: r => by
    have := joinL_nil (q :: r)
    simp [TL.joinL] at *
    rw [this]
theorem mulD_S {a : List Nat} {k : Int} (h0 : 0 ≤ k) (h : a.length * k.toNat ≤ 16777216) (hk : k < 2 ^ 63) : mulD (S a) (.int k) = .ok (S (List.replicate k.toNat a).flatten) := by
  have : -(2 ^ 63) ≤ k ∧ k < 2 ^ 63 ∧ (⟨a.toArray⟩ : Str).length * k.toNat ≤ 16777216 := ⟨by omega, hk, by rw [len_mk]; exact h⟩
  simp only [mulD, if_pos this]
  rfl

/-! ### loops -/
theorem forL_inv {g : D → WD.Env → Option WD.Env} {b : WD.Env → Out} (I : Nat → WD.Env → Prop) : ∀ (ds : List D) (ρ : WD.Env) (j : Nat), I j ρ →
    (∀ i d ρ, ds[i]? = some d → I (j + i) ρ → ∃ ρ1 ρ2, g d ρ = some ρ1 ∧ (b ρ1 = .nx ρ2 ∨ b ρ1 = .ct ρ2) ∧ I (j + i + 1) ρ2) → ∃ ρ', forL g b ds ρ = .nx ρ' ∧ I (j + ds.length) ρ'
  | [], ρ, j, h, _ => ⟨ρ, rfl, h⟩
  | d :: ds, ρ, j, h, step => by
    obtain ⟨ρ1, ρ2, e1, e2, i2⟩ := step 0 d ρ rfl h
    have ih := forL_inv I ds ρ2 (j + 1) (by simpa using i2) fun i d' ρ' hd hi => by
      have := step (i + 1) d' ρ' (by simpa using hd) (by rw [show j + (i + 1) = j + 1 + i by omega]; exact hi)
      rw [show j + (i + 1) + 1 = j + 1 + i + 1 by omega] at this
      exact this
    obtain ⟨ρ', e3, i3⟩ := ih
    refine ⟨ρ', ?_, by rw [List.length_cons, show j + (ds.length + 1) = j + 1 + ds.length by omega]; exact i3⟩
    unfold forL
    rw [e1]
    rcases e2 with e2 | e2 <;> simp only [e2] <;> exact e3
/-- a loop that may end by a return: I while it goes on, R of what is returned -/
theorem forL_ret {g : D → WD.Env → Option WD.Env} {b : WD.Env → Out} (I : Nat → WD.Env → Prop) (R : Nat → Out → Prop) : ∀ (ds : List D) (ρ : WD.Env) (j : Nat), I j ρ →
    (∀ i d ρ, ds[i]? = some d → I (j + i) ρ → ∃ ρ1, g d ρ = some ρ1 ∧ ((∃ ρ2, (b ρ1 = .nx ρ2 ∨ b ρ1 = .ct ρ2) ∧ I (j + i + 1) ρ2) ∨ ((∃ r, b ρ1 = .rt r) ∨ ∃ x, b ρ1 = .err x) ∧ R (j + i) (b ρ1))) →
      (∃ ρ', forL g b ds ρ = .nx ρ' ∧ I (j + ds.length) ρ') ∨ ∃ i, i < ds.length ∧ R (j + i) (forL g b ds ρ) ∧ ((∃ r, forL g b ds ρ = .rt r) ∨ ∃ x, forL g b ds ρ = .err x)
  | [], ρ, j, h, _ => .inl ⟨ρ, rfl, h⟩
  | d :: ds, ρ, j, h, step => by
    obtain ⟨ρ1, e1, h1⟩ := step 0 d ρ rfl h
    rcases h1 with ⟨ρ2, e2, i2⟩ | ⟨e2, r2⟩
    · have ih := forL_ret I R ds ρ2 (j + 1) (by simpa using i2) fun i d' ρ' hd hi => by
        have := step (i + 1) d' ρ' (by simpa using hd) (by rw [show j + (i + 1) = j + 1 + i by omega]; exact hi)
        rw [show j + (i + 1) = j + 1 + i by omega] at this
        exact this
      have e : forL g b (d :: ds) ρ = forL g b ds ρ2 := by
        conv => lhs; unfold forL
        rw [e1]
        rcases e2 with e2 | e2 <;> simp only [e2]
      rw [e]
      rcases ih with ⟨ρ', e3, i3⟩ | ⟨i, hi, r, z⟩
      · exact .inl ⟨ρ', e3, by rw [List.length_cons, show j + (ds.length + 1) = j + 1 + ds.length by omega]; exact i3⟩
      · exact .inr ⟨i + 1, by rw [List.length_cons]; omega, by rw [show j + (i + 1) = j + 1 + i by omega]; exact r, z⟩
    · refine .inr ⟨0, by simp, ?_⟩
      have e : forL g b (d :: ds) ρ = b ρ1 := by
        unfold forL
        rw [e1]
        rcases e2 with ⟨r, e2⟩ | ⟨x, e2⟩ <;> simp only [e2]
      rw [e]
      exact ⟨r2, e2⟩
/-! ### comprehensions -/
theorem compL_map {g : D → WD.Env → Option WD.Env} {t : WD.Env → Res Bool} {m : WD.Env → Res D} {ρ : WD.Env} (f : D → D) : ∀ ds : List D, (∀ d ∈ ds, ∃ ρ1, g d ρ = some ρ1 ∧ t ρ1 = .ok true ∧ m ρ1 = .ok (f d)) → compL g t m ρ ds = .ok (ds.map f)
  | [], _ => rfl
  | d :: ds, h => by
    obtain ⟨ρ1, e1, e2, e3⟩ := h d (by simp)
    have ih := compL_map f ds fun d' hd => h d' (by simp [hd])
    unfold compL
    simp only [e1, e2, e3, noErr_okR, bind_okR, if_true, ih, List.map_cons]
theorem compL_filter {g : D → WD.Env → Option WD.Env} {t : WD.Env → Res Bool} {m : WD.Env → Res D} {ρ : WD.Env} (p : D → Bool) (f : D → D) : ∀ ds : List D, (∀ d ∈ ds, ∃ ρ1, g d ρ = some ρ1 ∧ t ρ1 = .ok (p d) ∧ (p d = true → m ρ1 = .ok (f d))) → compL g t m ρ ds = .ok ((ds.filter p).map f)
  | [], _ => rfl
  | d :: ds, h => by
    obtain ⟨ρ1, e1, e2, e3⟩ := h d (by simp)
    have ih := compL_filter p f ds fun d' hd => h d' (by simp [hd])
    unfold compL
    cases hp : p d with
    | true => simp only [e1, e2, hp, e3 hp, noErr_okR, bind_okR, if_true, ih, List.filter_cons_of_pos hp, List.map_cons]
    | false =>
      have hn : ¬ p d = true := by rw [hp]; exact Bool.false_ne_true
      simp only [e1, e2, hp, noErr_okR, bind_okR, ih, List.filter_cons_of_neg hn]
      rfl
/-- over a range, by the number -/
theorem compL_range {g : D → WD.Env → Option WD.Env} {t : WD.Env → Res Bool} {m : WD.Env → Res D} {ρ : WD.Env} {lo : Int} {n : Nat} (f : Nat → D) (h : ∀ i, i < n → ∃ ρ1, g (.int (lo + (i : Nat))) ρ = some ρ1 ∧ t ρ1 = .ok true ∧ m ρ1 = .ok (f i)) : compL g t m ρ (rngD lo n) = .ok ((List.range n).map f) := by
  have main : ∀ (k : Nat) (is : List Nat), (∀ i ∈ is, i < n) → compL g t m ρ (is.map fun (i : Nat) => .int (lo + (i : Int))) = .ok (is.map f) := fun _ is => by
    induction is with
    | nil => intro _; rfl
    | cons i is ih =>
      intro hi
      obtain ⟨ρ1, e1, e2, e3⟩ := h i (hi i (by simp))
      have ih := ih fun j hj => hi j (by simp [hj])
      rw [List.map_cons, List.map_cons]
      unfold compL
      simp only [e1, e2, e3, noErr_okR, bind_okR, if_true, ih]
  exact main 0 (List.range n) fun i hi => List.mem_range.mp hi
theorem rngD_len (lo : Int) (n : Nat) : (rngD lo n).length = n := by simp [rngD]
theorem rngD_get {lo : Int} {n i : Nat} {d : D} (h : (rngD lo n)[i]? = some d) : i < n ∧ d = .int (lo + (i : Nat)) := by
  unfold rngD at h
  rw [List.getElem?_map] at h
  by_cases hi : i < n
  · rw [List.getElem?_range hi] at h
    exact ⟨hi, by simpa using h.symm⟩
  · rw [List.getElem?_eq_none (by simpa using hi)] at h
    cases h
theorem rng1D_int {j : Int} (h0 : 0 ≤ j) (h1 : j < 2 ^ 62) : rng1D [.int j] = .ok (rngD 0 j.toNat) := by
  simp only [rng1D, if_pos (show -(2 ^ 62) ≤ j ∧ j < 2 ^ 62 from ⟨by omega, h1⟩)]
theorem allD_bools (bs : List Bool) : allD (.list (bs.map PyData.bool)) = .ok (.bool (bs.all id)) := by
  have : ∀ bs : List Bool, blsOf (bs.map PyData.bool) = some bs := fun bs => by
    induction bs with
    | nil => rfl
    | cons b bs ih => rw [List.map_cons]; show (blsOf (bs.map PyData.bool)).map _ = _; rw [ih]; rfl
  simp only [allD, this, ofO_some, bind_okR]
theorem sumD_ints (bs : List Int) : sumD (.list (bs.map PyData.int)) = .ok (.int bs.sum) := by
  have : ∀ bs : List Int, intsOf (bs.map PyData.int) = some bs := fun bs => by
    induction bs with
    | nil => rfl
    | cons b bs ih => rw [List.map_cons]; show (intsOf (bs.map PyData.int)).map _ = _; rw [ih]; rfl
  simp only [sumD, this, ofO_some, bind_okR]
/-! the classes of values -/
theorem isi_self {d : D} : isiD (tyN d) d = .ok (.bool true) := by
  have h : kitB (tyN d) (tyN d) = some true := by cases d <;> (simp only [tyN]; decide +kernel)
  simp only [isiD, h, ofO_some, bind_okR]
@[simp] theorem isi_bool (b : Bool) : isiD "bool" (.bool b) = .ok (.bool true) := isi_self (d := .bool b)
@[simp] theorem isi_list (xs : List D) : isiD "list" (.list xs) = .ok (.bool true) := isi_self (d := .list xs)
@[simp] theorem isi_tuple (xs : List D) : isiD "tuple" (.tuple xs) = .ok (.bool true) := isi_self (d := .tuple xs)
@[simp] theorem isi_str (x : Str) : isiD "str" (.str x) = .ok (.bool true) := isi_self (d := .str x)
@[simp] theorem isi_int (i : Int) : isiD "int" (.int i) = .ok (.bool true) := isi_self (d := .int i)
@[simp] theorem isi_int_bool (i : Int) : isiD "bool" (.int i) = .ok (.bool false) := by
  have h : kitB "int" "bool" = some false := by decide +kernel
  simp only [isiD, tyN, h, ofO_some, bind_okR]
@[simp] theorem isi_str_tuple (x : Str) : isiD "tuple" (.str x) = .ok (.bool false) := by
  have h : kitB "str" "tuple" = some false := by decide +kernel
  simp only [isiD, tyN, h, ofO_some, bind_okR]
@[simp] theorem isi_int_tuple (x : Int) : isiD "tuple" (.int x) = .ok (.bool false) := by
  have h : kitB "int" "tuple" = some false := by decide +kernel
  simp only [isiD, tyN, h, ofO_some, bind_okR]
@[simp] theorem isi_int_str (x : Int) : isiD "str" (.int x) = .ok (.bool false) := by
  have h : kitB "int" "str" = some false := by decide +kernel
  simp only [isiD, tyN, h, ofO_some, bind_okR]
@[simp] theorem isi_none_tuple : isiD "tuple" .none = .ok (.bool false) := by
  have h : kitB "NoneType" "tuple" = some false := by decide +kernel
  simp only [isiD, tyN, h, ofO_some, bind_okR]
end WD
namespace WD
open PySem PySem.Spec PyProof.Rows L2
theorem compL_ex {g : D → WD.Env → Option WD.Env} {t : WD.Env → Res Bool} {m : WD.Env → Res D} {ρ : WD.Env} (P : D → Prop) : ∀ ds : List D, (∀ d ∈ ds, ∃ ρ1 y, g d ρ = some ρ1 ∧ t ρ1 = .ok true ∧ m ρ1 = .ok y ∧ P y) → ∃ ys, compL g t m ρ ds = .ok ys ∧ ys.length = ds.length ∧ ∀ y ∈ ys, P y
  | [], _ => ⟨[], rfl, rfl, by simp⟩
  | d :: ds, h => by
    obtain ⟨ρ1, y, e1, e2, e3, p⟩ := h d (by simp)
    obtain ⟨ys, ih, hl, hp⟩ := compL_ex P ds fun d' hd => h d' (by simp [hd])
    refine ⟨y :: ys, ?_, by simp [hl], fun z hz => ?_⟩
    · unfold compL
      simp only [e1, e2, e3, noErr_okR, bind_okR, if_true, ih]
    · rcases List.mem_cons.mp hz with rfl | hz
      · exact p
      · exact hp z hz
theorem choose_map {α β : Type} {P : α → Prop} (f : α → β) : ∀ ys : List β, (∀ y ∈ ys, ∃ a, y = f a ∧ P a) → ∃ as : List α, ys = as.map f ∧ ∀ a ∈ as, P a
  | [], _ => ⟨[], rfl, by simp⟩
  | y :: ys, h => by
    obtain ⟨a, rfl, ha⟩ := h y (by simp)
    obtain ⟨as, rfl, hp⟩ := choose_map f ys fun z hz => h z (by simp [hz])
    refine ⟨a :: as, rfl, fun b hb => ?_⟩
    rcases List.mem_cons.mp hb with rfl | hb
    · exact ha
    · exact hp b hb
theorem rngD_mem {lo : Int} {n : Nat} {d : D} (h : d ∈ rngD lo n) : ∃ i : Nat, i < n ∧ d = .int (lo + (i : Nat)) := by
  obtain ⟨i, hi, rfl⟩ := List.mem_map.mp h
  exact ⟨i, List.mem_range.mp hi, rfl⟩
theorem ints_at {ds : List Int} {k : Nat} {d : Int} (h : ds[k]? = some d) : atD (.list (ds.map PyData.int)) (.int k) = .ok (.int d) := atD_list (by rw [List.getElem?_map, h]; rfl)
theorem get_some {α : Type} {l : List α} {k : Nat} (h : k < l.length) : ∃ x, l[k]? = some x ∧ x ∈ l := ⟨l[k], List.getElem?_eq_getElem h, List.getElem_mem h⟩
theorem flat_ones : ∀ cs : List Nat, (cs.map fun c => [c]).flatten = cs
  | [] => rfl
  | c :: cs => by simp [flat_ones cs]
end WD

namespace WK
open PySem PySem.Spec PyProof.Rows L2 WD
def topS (i : Nat) : Stmt := PySem.Challenge.pw_weft_k01_write_and_read.main.body.getD i (.Pass ⟨0, 0, 0, 0⟩)
def c_LONGEST_NAME : D := (.int 20)
def c_NAME_SIGNS : D := (S [97, 98, 99, 100, 101, 102, 103, 104, 105, 106, 107, 108, 109, 110, 111, 112, 113, 114, 115, 116, 117, 118, 119, 120, 121, 122, 65, 66, 67, 68, 69, 70, 71, 72, 73, 74, 75, 76, 77, 78, 79, 80, 81, 82, 83, 84, 85, 86, 87, 88, 89, 90, 48, 49, 50, 51, 52, 53, 54, 55, 56, 57, 95, 46, 45])
structure Txt (K : PySem.W.Frag) (mg : Mg) : Prop where
  b_all : mg "all" = none
  b_bool : mg "bool" = none
  b_enumerate : mg "enumerate" = none
  b_int : mg "int" = none
  b_isinstance : mg "isinstance" = none
  b_len : mg "len" = none
  b_range : mg "range" = none
  b_str : mg "str" = none
  b_tuple : mg "tuple" = none
  c_LONGEST_NAME : GlobC K mg "LONGEST_NAME" c_LONGEST_NAME
  c_NAME_SIGNS : GlobC K mg "NAME_SIGNS" c_NAME_SIGNS
section
variable {P : Program} {w : World} {K : PySem.W.Frag} {mg : Mg} {base : Heap}
abbrev s_head_fault : Stmt := topS 8
theorem sc_head_fault : FnScope ["written", "name", "at", "sign"] ["written"] (defScope s_head_fault) := ⟨rfl, rfl, rfl, by decide +kernel, rfl, by decide +kernel, by decide +kernel⟩
def lb_head_fault_0 : WD.Env → Out := (mIfS (mTru (mBin notInD (mVar 3) (mC c_NAME_SIGNS))) (mRet (mTup (mCons (mBin addD (mVar 2) (mC (.int 3))) (mCons (mC (S [99, 104, 97, 114, 97, 99, 116, 101, 114, 32, 99, 97, 110, 110, 111, 116, 32, 98, 101, 32, 105, 110, 32, 97, 32, 110, 97, 109, 101])) mNil)))) mNext)
def b_head_fault : WD.Env → Out := (mSeq (mIfS (mTru (mBin neD (mCut (mVar 0) (mSome (mC (.int 1))) (mSome (mC (.int 2)))) (mC (S [32])))) (mRet (mTup (mCons (mC (.int 2)) (mCons (mC (S [115, 112, 97, 99, 101, 32, 105, 115, 32, 101, 120, 112, 101, 99, 116, 101, 100])) mNil)))) mNext) (mSeq (mAsg 1 (mCut (mVar 0) (mSome (mC (.int 2))) mNone)) (mSeq (mIfS (mTru (mBin eqD (mVar 1) (mC (S [])))) (mRet (mTup (mCons (mC (.int 3)) (mCons (mC (S [110, 97, 109, 101, 32, 105, 115, 32, 101, 120, 112, 101, 99, 116, 101, 100])) mNil)))) mNext) (mSeq (mFor (mBindA enumXD (mCons (mCut (mVar 1) mNone (mSome (mBin addD (mC c_LONGEST_NAME) (mC (.int 1))))) mNil)) (gTupD (lenG 2 (gConsD (gSet 2) (gConsD (gSet 3) gNilD)))) lb_head_fault_0) (mSeq (mIfS (mTru (mBin (cmpD gtI) (mUn lenD (mVar 1)) (mC c_LONGEST_NAME))) (mRet (mTup (mCons (mBin addD (mC c_LONGEST_NAME) (mC (.int 3))) (mCons (mC (S [110, 97, 109, 101, 32, 105, 115, 32, 108, 111, 110, 103, 101, 114, 32, 116, 104, 97, 110, 32, 50, 48])) mNil)))) mNext) (mRet (mC .none)))))))
def m_head_fault : List D → Res D := mkFn 4 b_head_fault
theorem ok_head_fault {f : Addr} {fd : FuncData} (F : Fun K "head_fault" "head_fault" s_head_fault f fd) (T : Txt K mg) : FnOk P w K mg base (L2.CX P w) 1 f fd ["written"] (spM mg K 1 m_head_fault) :=
  fn_ok (κ := kdL []) (κe := _) F sc_head_fault rfl (by decide) fun cdv A outer s H E hr => (ds2_of (ds_cons (ds_if (dt_ne hr (db_of (de_cut (db_of (dv 0)) (do_some de_int) (do_some de_int))) (db_of (de_strS [32]))) (ds_one (ds_ret (de_tup (da_cons de_int (da_cons (de_strS [115, 112, 97, 99, 101, 32, 105, 115, 32, 101, 120, 112, 101, 99, 116, 101, 100]) da_nil))))) ds_nil) (ds_cons (ds_set (i := 1) rfl sc_head_fault.nd rfl (by first | exact Or.inl rfl | exact Or.inr rfl) (de_cut (db_of (dv 0)) (do_some de_int) do_none)) (ds_cons (ds_if (dt_eq hr (db_of (dv 1)) (db_of (de_strS []))) (ds_one (ds_ret (de_tup (da_cons de_int (da_cons (de_strS [110, 97, 109, 101, 32, 105, 115, 32, 101, 120, 112, 101, 99, 116, 101, 100]) da_nil))))) ds_nil) (ds_cons (ds_for pown rfl (di_enumX rfl T.b_enumerate (da_cons (de_cut (db_of (dv 1)) do_none (do_some (de_add (db_of (de_glob T.c_LONGEST_NAME rfl)) (db_of de_int)))) da_nil)) (dg_tup rfl (dgs_cons (gn 2 sc_head_fault.nd) (dgs_cons (gn 3 sc_head_fault.nd) dgs_nil))) (show DSs _ _ _ _ lb_head_fault_0 from (ds_one (ds_if (dt_notIn (db_of (dv 3)) (db_of (de_glob T.c_NAME_SIGNS rfl))) (ds_one (ds_ret (de_tup (da_cons (de_add (db_of (dv 2)) (db_of de_int)) (da_cons (de_strS [99, 104, 97, 114, 97, 99, 116, 101, 114, 32, 99, 97, 110, 110, 111, 116, 32, 98, 101, 32, 105, 110, 32, 97, 32, 110, 97, 109, 101]) da_nil))))) ds_nil)))) (ds_cons (ds_if (dt_gt (db_of (de_len rfl T.b_len (db_of (dv 1)))) (db_of (de_glob T.c_LONGEST_NAME rfl))) (ds_one (ds_ret (de_tup (da_cons (de_add (db_of (de_glob T.c_LONGEST_NAME rfl)) (db_of de_int)) (da_cons (de_strS [110, 97, 109, 101, 32, 105, 115, 32, 108, 111, 110, 103, 101, 114, 32, 116, 104, 97, 110, 32, 50, 48]) da_nil))))) ds_nil) (ds_one (ds_ret de_non))))))))
abbrev s_write_line : Stmt := topS 12
theorem sc_write_line : FnScope ["line", "spaces"] ["line"] (defScope s_write_line) := ⟨rfl, rfl, rfl, by decide +kernel, rfl, by decide +kernel, by decide +kernel⟩
def b_write_line : WD.Env → Out := (mSeq (mIfS (mTru (mBin eqD (mBin atD (mVar 0) (mC (.int 0))) (mC (S [104, 101, 97, 100])))) (mRet (mJs [(mC (S [61, 32])), (mUn fmtD (mBin atD (mVar 0) (mC (.int 1))))])) mNext) (mSeq (mIfS (mTru (mBin eqD (mBin atD (mVar 0) (mC (.int 0))) (mC (S [117, 115, 101])))) (mSeq (mAsg 1 (mBin mulD (mC (S [32])) (mBin atD (mVar 0) (mC (.int 1))))) (mRet (mJs [(mC (S [124])), (mUn fmtD (mVar 1)), (mC (S [60])), (mUn fmtD (mBin atD (mVar 0) (mC (.int 2)))), (mC (S [62]))]))) mNext) (mSeq (mIfS (mTru (mBin eqD (mBin atD (mVar 0) (mC (.int 0))) (mC (S [99, 111, 100, 101])))) (mRet (mJs [(mC (S [124])), (mUn fmtD (mBin atD (mVar 0) (mC (.int 1))))])) mNext) (mRet (mBin atD (mVar 0) (mC (.int 1)))))))
def m_write_line : List D → Res D := mkFn 2 b_write_line
theorem ok_write_line {f : Addr} {fd : FuncData} (F : Fun K "write_line" "write_line" s_write_line f fd) (T : Txt K mg) : FnOk P w K mg base (L2.CX P w) 1 f fd ["line"] (spM mg K 1 m_write_line) :=
  fn_ok (κ := kdL []) (κe := _) F sc_write_line rfl (by decide) fun cdv A outer s H E hr => (ds2_of (ds_cons (ds_if (dt_eq hr (db_of (de_at (db_of (dv 0)) (db_of de_int))) (db_of (de_strS [104, 101, 97, 100]))) (ds_one (ds_ret (de_joined (.cons (de_strS [61, 32]) (.cons (de_fmt (de_at (db_of (dv 0)) (db_of de_int))) .nil))))) ds_nil) (ds_cons (ds_if (dt_eq hr (db_of (de_at (db_of (dv 0)) (db_of de_int))) (db_of (de_strS [117, 115, 101]))) (ds_cons (ds_set (i := 1) rfl sc_write_line.nd rfl (by first | exact Or.inl rfl | exact Or.inr rfl) (de_mul (db_of (de_strS [32])) (db_of (de_at (db_of (dv 0)) (db_of de_int))))) (ds_one (ds_ret (de_joined (.cons (de_strS [124]) (.cons (de_fmt (dv 1)) (.cons (de_strS [60]) (.cons (de_fmt (de_at (db_of (dv 0)) (db_of de_int))) (.cons (de_strS [62]) .nil))))))))) ds_nil) (ds_cons (ds_if (dt_eq hr (db_of (de_at (db_of (dv 0)) (db_of de_int))) (db_of (de_strS [99, 111, 100, 101]))) (ds_one (ds_ret (de_joined (.cons (de_strS [124]) (.cons (de_fmt (de_at (db_of (dv 0)) (db_of de_int))) .nil))))) ds_nil) (ds_one (ds_ret (de_at (db_of (dv 0)) (db_of de_int))))))))
abbrev s_is_name : Stmt := topS 13
theorem sc_is_name : FnScope ["text", "sign"] ["text"] (defScope s_is_name) := ⟨rfl, rfl, rfl, by decide +kernel, rfl, by decide +kernel, by decide +kernel⟩
def b_is_name : WD.Env → Out := (mRet (mAndV (mChain leI leI (mC (.int 1)) (mUn lenD (mVar 0)) (mC c_LONGEST_NAME)) (mUn allD (mList (mLc (mIt (mVar 0)) (gSet 1) mYes (mBin inD (mVar 1) (mC c_NAME_SIGNS)) [1])))))
def m_is_name : List D → Res D := mkFn 2 b_is_name
theorem ok_is_name {f : Addr} {fd : FuncData} (F : Fun K "is_name" "is_name" s_is_name f fd) (T : Txt K mg) : FnOk P w K mg base (L2.CX P w) 1 f fd ["text"] (spM mg K 1 m_is_name) :=
  fn_ok (κ := kdL []) (κe := _) F sc_is_name rfl (by decide) fun cdv A outer s H E hr => (ds2_of (ds_one (ds_ret (de_and (de_chain op_le op_le de_int (de_len rfl T.b_len (db_of (dv 0))) (de_glob T.c_LONGEST_NAME rfl) (pe_chain op_le op_le de_int (de_len rfl T.b_len (db_of (dv 0))) (de_glob T.c_LONGEST_NAME rfl))) (de_one (de_all rfl rfl T.b_all (db_of (de_new (dn_lc (own := [("sign", 1)]) rfl sc_is_name.nd (dip_seq (db_of (dv 0))) (blkOk_by (N := ["text", "sign"]) (sc := defScope s_is_name) (own := [("sign", 1)]) (by decide +kernel)) (by decide) (fun _ _ _ _ _ => (gn 1 sc_is_name.nd)) (fun _ _ _ _ _ => dts_nil) (fun _ _ _ _ _ => (de_in (db_of (dv 1)) (db_of (de_glob T.c_NAME_SIGNS rfl)))))))))))))
abbrev s__law_cell : Stmt := topS 15
theorem sc__law_cell : FnScope ["script", "k"] ["script", "k"] (defScope s__law_cell) := ⟨rfl, rfl, rfl, by decide +kernel, rfl, by decide +kernel, by decide +kernel⟩
def b__law_cell : WD.Env → Out := (mSeq (mIfS (mTru (mBin (cmpD ltI) (mVar 1) (mUn lenD (mVar 0)))) (mRet (mBin atD (mVar 0) (mVar 1))) mNext) (mRet (mC (.int 0))))
def m__law_cell : List D → Res D := mkFn 2 b__law_cell
theorem ok__law_cell {f : Addr} {fd : FuncData} (F : Fun K "_law_cell" "_law_cell" s__law_cell f fd) (T : Txt K mg) : FnOk P w K mg base (L2.CX P w) 1 f fd ["script", "k"] (spM mg K 2 m__law_cell) :=
  fn_ok (κ := kdL []) (κe := _) F sc__law_cell rfl (by decide) fun cdv A outer s H E hr => (ds2_of (ds_cons (ds_if (dt_lt (db_of (dv 1)) (db_of (de_len rfl T.b_len (db_of (dv 0))))) (ds_one (ds_ret (de_at (db_of (dv 0)) (db_of (dv 1))))) ds_nil) (ds_one (ds_ret de_int))))
abbrev s__law_draws : Stmt := topS 16
theorem sc__law_draws : FnScope ["cell", "count", "found", "is_wide", "k", "mixed"] ["cell", "count"] (defScope s__law_draws) := ⟨rfl, rfl, rfl, by decide +kernel, rfl, by decide +kernel, by decide +kernel⟩
def lb__law_draws_0 : WD.Env → Out := (mIfS (mTru (mVar 3)) (mSeq (mApp 2 (mBin modD (mUn intD (mVar 0)) (mC (.int 1009)))) (mAsg 0 (mBin fdivD (mVar 0) (mC (.int 1009))))) (mSeq (mAsg 5 (mBin modD (mUn intD (mBin addD (mBin mulD (mVar 0) (mC (.int 48271))) (mBin mulD (mVar 4) (mC (.int 69621))))) (mC (.int 2147483647)))) (mApp 2 (mBin modD (mUn intD (mBin addD (mBin addD (mBin mulD (mVar 5) (mVar 5)) (mBin mulD (mVar 0) (mC (.int 31)))) (mVar 4))) (mC (.int 1000003))))))
def b__law_draws : WD.Env → Out := (mSeq (mAsgN 2 (mLst mNil)) (mSeq (mAsg 3 (mBin (cmpD geI) (mVar 0) (mBin powD (mC (.int 10)) (mC (.int 18))))) (mSeq (mFor (mBindA rng1D (mCons (mVar 1) mNil)) (gSet 4) lb__law_draws_0) (mRet (mVar 2)))))
def m__law_draws : List D → Res D := mkFn 6 b__law_draws
theorem ok__law_draws {f : Addr} {fd : FuncData} (F : Fun K "_law_draws" "_law_draws" s__law_draws f fd) (T : Txt K mg) : FnOk P w K mg base (L2.CX P w) 1 f fd ["cell", "count"] (spM mg K 2 m__law_draws) :=
  fn_ok (κ := kdL [2]) (κe := _) F sc__law_draws rfl (by decide) fun cdv A outer s H E hr => (ds2_cons (ds_setN (i := 2) rfl sc__law_draws.nd rfl (Or.inl rfl) (dn_lst da_nil)) (ds2_cons (ds_set (i := 3) rfl sc__law_draws.nd rfl (by first | exact Or.inl rfl | exact Or.inr rfl) (de_ge (db_of (dv 0)) (db_of (de_pow (db_of de_int) (db_of de_int))))) (ds2_cons (ds_for pown rfl (di_range1 rfl T.b_range (da_cons (dv 1) da_nil)) (gn 4 sc__law_draws.nd) (show DSs _ _ _ _ lb__law_draws_0 from (ds_one (ds_if (dt_truth (db_of (dv 3)) (by intro _; rfl)) (ds_cons (ds_append (i := 2) rfl rfl (Or.inl rfl) (de_mod (db_of (de_int1 rfl T.b_int (db_of (dv 0)))) (db_of de_int)) (pe_bm PySem.F.plainAttrs_list PySem.F.slot_list_append PySem.F.type_list_append mt_append (pe_var rfl (Or.inl rfl)) (pa_cons (de_mod (db_of (de_int1 rfl T.b_int (db_of (dv 0)))) (db_of de_int)) pa_nil))) (ds_one (ds_set (i := 0) rfl sc__law_draws.nd rfl (by first | exact Or.inl rfl | exact Or.inr rfl) (de_fdiv (db_of (dv 0)) (db_of de_int))))) (ds_cons (ds_set (i := 5) rfl sc__law_draws.nd rfl (by first | exact Or.inl rfl | exact Or.inr rfl) (de_mod (db_of (de_int1 rfl T.b_int (db_of (de_add (db_of (de_mul (db_of (dv 0)) (db_of de_int))) (db_of (de_mul (db_of (dv 4)) (db_of de_int))))))) (db_of de_int))) (ds_one (ds_append (i := 2) rfl rfl (Or.inl rfl) (de_mod (db_of (de_int1 rfl T.b_int (db_of (de_add (db_of (de_add (db_of (de_mul (db_of (dv 5)) (db_of (dv 5)))) (db_of (de_mul (db_of (dv 0)) (db_of de_int))))) (db_of (dv 4)))))) (db_of de_int)) (pe_bm PySem.F.plainAttrs_list PySem.F.slot_list_append PySem.F.type_list_append mt_append (pe_var rfl (Or.inl rfl)) (pa_cons (de_mod (db_of (de_int1 rfl T.b_int (db_of (de_add (db_of (de_add (db_of (de_mul (db_of (dv 5)) (db_of (dv 5)))) (db_of (de_mul (db_of (dv 0)) (db_of de_int))))) (db_of (dv 4)))))) (db_of de_int)) pa_nil))))))))) (ds2_freeze 2 (ds2_of (ds_one (ds_ret (dv 2)))) rfl) sg_for) sg_asg) sg_asgN)
abbrev s__law_code : Stmt := topS 18
theorem sc__law_code : FnScope ["draw", "words"] ["draw"] (defScope s__law_code) := ⟨rfl, rfl, rfl, by decide +kernel, rfl, by decide +kernel, by decide +kernel⟩
def b__law_code : WD.Env → Out := (mSeq (mAsg 1 (mList (mLst (mCons (mC (S [120])) (mCons (mC (S [])) (mCons (mC (S [105, 102, 32, 121, 58])) (mCons (mC (S [32, 32, 122])) (mCons (mC (S [32])) (mCons (mC (S [120, 32, 61, 32, 49])) (mCons (mC (S [60, 97])) (mCons (mC (S [97, 62])) (mCons (mC (S [120, 46, 121, 40, 122, 41])) (mCons (mC (S [60, 97, 32, 98, 62])) mNil))))))))))))) (mRet (mBin atD (mVar 1) (mBin modD (mVar 0) (mC (.int 10))))))
def m__law_code : List D → Res D := mkFn 2 b__law_code
theorem ok__law_code {f : Addr} {fd : FuncData} (F : Fun K "_law_code" "_law_code" s__law_code f fd) (T : Txt K mg) : FnOk P w K mg base (L2.CX P w) 1 f fd ["draw"] (spM mg K 1 m__law_code) :=
  fn_ok (κ := kdL []) (κe := _) F sc__law_code rfl (by decide) fun cdv A outer s H E hr => (ds2_of (ds_cons (ds_set (i := 1) rfl sc__law_code.nd rfl (by first | exact Or.inl rfl | exact Or.inr rfl) (de_new (dn_lst (da_cons (de_strS [120]) (da_cons (de_strS []) (da_cons (de_strS [105, 102, 32, 121, 58]) (da_cons (de_strS [32, 32, 122]) (da_cons (de_strS [32]) (da_cons (de_strS [120, 32, 61, 32, 49]) (da_cons (de_strS [60, 97]) (da_cons (de_strS [97, 62]) (da_cons (de_strS [120, 46, 121, 40, 122, 41]) (da_cons (de_strS [60, 97, 32, 98, 62]) da_nil))))))))))))) (ds_one (ds_ret (de_at (db_of (dv 1)) (db_of (de_mod (db_of (dv 0)) (db_of de_int))))))))
abbrev s__law_written : Stmt := topS 20
theorem sc__law_written : FnScope ["line"] ["line"] (defScope s__law_written) := ⟨rfl, rfl, rfl, by decide +kernel, rfl, by decide +kernel, by decide +kernel⟩
def b__law_written : WD.Env → Out := (mSeq (mIfS (mTru (mBin eqD (mBin atD (mVar 0) (mC (.int 0))) (mC (S [104, 101, 97, 100])))) (mRet (mBin addD (mC (S [61, 32])) (mBin atD (mVar 0) (mC (.int 1))))) mNext) (mSeq (mIfS (mTru (mBin eqD (mBin atD (mVar 0) (mC (.int 0))) (mC (S [117, 115, 101])))) (mRet (mBin addD (mBin addD (mBin addD (mBin addD (mC (S [124])) (mBin mulD (mC (S [32])) (mBin atD (mVar 0) (mC (.int 1))))) (mC (S [60]))) (mBin atD (mVar 0) (mC (.int 2)))) (mC (S [62])))) mNext) (mRet (mIf (mTru (mBin eqD (mBin atD (mVar 0) (mC (.int 0))) (mC (S [99, 111, 100, 101])))) (mBin addD (mC (S [124])) (mBin atD (mVar 0) (mC (.int 1)))) (mBin atD (mVar 0) (mC (.int 1)))))))
def m__law_written : List D → Res D := mkFn 1 b__law_written
theorem ok__law_written {f : Addr} {fd : FuncData} (F : Fun K "_law_written" "_law_written" s__law_written f fd) (T : Txt K mg) : FnOk P w K mg base (L2.CX P w) 1 f fd ["line"] (spM mg K 1 m__law_written) :=
  fn_ok (κ := kdL []) (κe := _) F sc__law_written rfl (by decide) fun cdv A outer s H E hr => (ds2_of (ds_cons (ds_if (dt_eq hr (db_of (de_at (db_of (dv 0)) (db_of de_int))) (db_of (de_strS [104, 101, 97, 100]))) (ds_one (ds_ret (de_add (db_of (de_strS [61, 32])) (db_of (de_at (db_of (dv 0)) (db_of de_int)))))) ds_nil) (ds_cons (ds_if (dt_eq hr (db_of (de_at (db_of (dv 0)) (db_of de_int))) (db_of (de_strS [117, 115, 101]))) (ds_one (ds_ret (de_add (db_of (de_add (db_of (de_add (db_of (de_add (db_of (de_strS [124])) (db_of (de_mul (db_of (de_strS [32])) (db_of (de_at (db_of (dv 0)) (db_of de_int))))))) (db_of (de_strS [60])))) (db_of (de_at (db_of (dv 0)) (db_of de_int))))) (db_of (de_strS [62]))))) ds_nil) (ds_one (ds_ret (de_if (dt_eq hr (db_of (de_at (db_of (dv 0)) (db_of de_int))) (db_of (de_strS [99, 111, 100, 101]))) (de_add (db_of (de_strS [124])) (db_of (de_at (db_of (dv 0)) (db_of de_int)))) (de_at (db_of (dv 0)) (db_of de_int))))))))
abbrev s_fault_of : Stmt := topS 7
theorem sc_fault_of : FnScope ["written", "before"] ["written", "before"] (defScope s_fault_of) := ⟨rfl, rfl, rfl, by decide +kernel, rfl, by decide +kernel, by decide +kernel⟩
def b_fault_of : WD.Env → Out := (mSeq (mIfS (mTru (mMt (s1D startsD) (mVar 0) (mCons (mC (S [61])) mNil))) (mRet (mCall m_head_fault (mCons (mVar 0) mNil))) mNext) (mSeq (mIfS (mAnd (mTru (mMt (s1D startsD) (mVar 0) (mCons (mC (S [124])) mNil))) (mOr (mNot (mTru (mVar 1))) (mTru (mBin eqD (mBin atD (mBin atD (mVar 1) (mUn negD (mC (.int 1)))) (mC (.int 0))) (mC (S [112, 114, 111, 115, 101])))))) (mRet (mTup (mCons (mC (.int 1)) (mCons (mC (S [99, 111, 100, 101, 32, 119, 105, 116, 104, 111, 117, 116, 32, 97, 32, 104, 101, 97, 100])) mNil)))) mNext) (mRet (mC .none))))
def m_fault_of : List D → Res D := mkFn 2 b_fault_of
theorem ok_fault_of {f : Addr} {fd : FuncData} (F : Fun K "fault_of" "fault_of" s_fault_of f fd) (T : Txt K mg) (G_head_fault : Fn P w K mg base 1 "head_fault" ["written"] m_head_fault) : FnOk P w K mg base (L2.CX P w) 2 f fd ["written", "before"] (spMb mg K [.im, .bw] m_fault_of) :=
  fn_okB (κ := kdB [] [1]) (κe := _) F sc_fault_of rfl rfl (by decide) fun cdv A outer s H E hr => (ds2_of (ds_cons (ds_if (dt_truth (db_of (de_m PySem.F.slot_str_startswith PySem.F.type_str_startswith mt_startswith ops_starts starts_ne (dv 0) (da_cons (de_strS [61]) da_nil))) (by intro _; rfl)) (ds_one (ds_ret (de_call G_head_fault (hr.mono (by decide)) pcx rfl (da_cons (dv 0) da_nil) rfl (mCons_len mNil_len)))) ds_nil) (ds_cons (ds_if (PW.pt (dw_and (dt_truth (db_of (de_m PySem.F.slot_str_startswith PySem.F.type_str_startswith mt_startswith ops_starts starts_ne (dv 0) (da_cons (de_strS [124]) da_nil))) (by intro _; rfl)) (dw_and1 (PW.pt (dw_or (dt_not (dt_truth (bv 1) (by intro _; rfl))) (dw_or1 (dt_eq hr (db_of (de_at (db_of (de_at (bv 1) (db_of (de_neg de_int)))) (db_of de_int))) (db_of (de_strS [112, 114, 111, 115, 101]))))))))) (ds_one (ds_ret (de_tup (da_cons de_int (da_cons (de_strS [99, 111, 100, 101, 32, 119, 105, 116, 104, 111, 117, 116, 32, 97, 32, 104, 101, 97, 100]) da_nil))))) ds_nil) (ds_one (ds_ret de_non)))))
abbrev s_read_rest : Stmt := topS 10
theorem sc_read_rest : FnScope ["rest", "tag", "name"] ["rest"] (defScope s_read_rest) := ⟨rfl, rfl, rfl, by decide +kernel, rfl, by decide +kernel, by decide +kernel⟩
def b_read_rest : WD.Env → Out := (mSeq (mAsg 1 (mMt (s1D lstripD) (mVar 0) (mCons (mC (S [32])) mNil))) (mSeq (mAsg 2 (mCut (mVar 1) (mSome (mC (.int 1))) (mSome (mUn negD (mC (.int 1)))))) (mSeq (mIfS (mAnd (mTru (mMt (s1D startsD) (mVar 1) (mCons (mC (S [60])) mNil))) (mAnd (mTru (mMt (s1D endsD) (mVar 1) (mCons (mC (S [62])) mNil))) (mTru (mCall m_is_name (mCons (mVar 2) mNil))))) (mRet (mTup (mCons (mC (S [117, 115, 101])) (mCons (mBin subD (mUn lenD (mVar 0)) (mUn lenD (mVar 1))) (mCons (mVar 2) mNil))))) mNext) (mRet (mTup (mCons (mC (S [99, 111, 100, 101])) (mCons (mVar 0) mNil)))))))
def m_read_rest : List D → Res D := mkFn 3 b_read_rest
theorem ok_read_rest {f : Addr} {fd : FuncData} (F : Fun K "read_rest" "read_rest" s_read_rest f fd) (T : Txt K mg) (G_is_name : Fn P w K mg base 1 "is_name" ["text"] m_is_name) : FnOk P w K mg base (L2.CX P w) 2 f fd ["rest"] (spM mg K 1 m_read_rest) :=
  fn_ok (κ := kdL []) (κe := _) F sc_read_rest rfl (by decide) fun cdv A outer s H E hr => (ds2_of (ds_cons (ds_set (i := 1) rfl sc_read_rest.nd rfl (by first | exact Or.inl rfl | exact Or.inr rfl) (de_m PySem.F.slot_str_lstrip PySem.F.type_str_lstrip mt_lstripChars ops_lstrip lstrip_ne (dv 0) (da_cons (de_strS [32]) da_nil))) (ds_cons (ds_set (i := 2) rfl sc_read_rest.nd rfl (by first | exact Or.inl rfl | exact Or.inr rfl) (de_cut (db_of (dv 1)) (do_some de_int) (do_some (de_neg de_int)))) (ds_cons (ds_if (PW.pt (dw_and (dt_truth (db_of (de_m PySem.F.slot_str_startswith PySem.F.type_str_startswith mt_startswith ops_starts starts_ne (dv 1) (da_cons (de_strS [60]) da_nil))) (by intro _; rfl)) (dw_and (dt_truth (db_of (de_m PySem.F.slot_str_endswith PySem.F.type_str_endswith mt_endswith ops_ends ends_ne (dv 1) (da_cons (de_strS [62]) da_nil))) (by intro _; rfl)) (dw_and1 (dt_truth (db_of (de_call G_is_name (hr.mono (by decide)) pcx rfl (da_cons (dv 2) da_nil) rfl (mCons_len mNil_len))) (by intro _; rfl)))))) (ds_one (ds_ret (de_tup (da_cons (de_strS [117, 115, 101]) (da_cons (de_sub (db_of (de_len rfl T.b_len (db_of (dv 0)))) (db_of (de_len rfl T.b_len (db_of (dv 1))))) (da_cons (dv 2) da_nil)))))) ds_nil) (ds_one (ds_ret (de_tup (da_cons (de_strS [99, 111, 100, 101]) (da_cons (dv 0) da_nil)))))))))
abbrev s_write : Stmt := topS 11
theorem sc_write : FnScope ["document", "line"] ["document"] (defScope s_write) := ⟨rfl, rfl, rfl, by decide +kernel, rfl, by decide +kernel, by decide +kernel⟩
def b_write : WD.Env → Out := (mRet (mMt joinD (mC (S [10])) (mCons (mList (mLc (mIt (mVar 0)) (gSet 1) mYes (mCall m_write_line (mCons (mVar 1) mNil)) [1])) mNil)))
def m_write : List D → Res D := mkFn 2 b_write
theorem ok_write {f : Addr} {fd : FuncData} (F : Fun K "write" "write" s_write f fd) (T : Txt K mg) (G_write_line : Fn P w K mg base 1 "write_line" ["line"] m_write_line) : FnOk P w K mg base (L2.CX P w) 2 f fd ["document"] (spM mg K 1 m_write) :=
  fn_ok (κ := kdL []) (κe := _) F sc_write rfl (by decide) fun cdv A outer s H E hr => (ds2_of (ds_one (ds_ret (de_m PySem.F.slot_str_join PySem.F.type_str_join mt_join ops_join join_ne (de_strS [10]) (da_cons (de_new (dn_lc (own := [("line", 1)]) rfl sc_write.nd (dip_seq (db_of (dv 0))) (blkOk_by (N := ["document", "line"]) (sc := defScope s_write) (own := [("line", 1)]) (by decide +kernel)) (by decide) (fun _ _ _ _ _ => (gn 1 sc_write.nd)) (fun _ _ _ _ _ => dts_nil) (fun _ _ _ _ _ => (de_call G_write_line (hr.mono (by decide)) passL rfl (da_cons (dv 1) da_nil) rfl (mCons_len mNil_len))))) da_nil)))))
abbrev s__law_document : Stmt := topS 19
theorem sc__law_document : FnScope ["script", "start", "many", "loose", "made", "own", "k", "draws", "kind", "other", "name"] ["script", "start", "many", "loose"] (defScope s__law_document) := ⟨rfl, rfl, rfl, by decide +kernel, rfl, by decide +kernel, by decide +kernel⟩
def lb__law_document_0 : WD.Env → Out := (mSeq (mAsg 7 (mCall m__law_draws (mCons (mCall m__law_cell (mCons (mVar 0) (mCons (mBin addD (mVar 1) (mVar 6)) mNil))) (mCons (mC (.int 4)) mNil)))) (mSeq (mAsg 8 (mBin modD (mUn intD (mBin atD (mVar 7) (mC (.int 0)))) (mC (.int 10)))) (mIfS (mOr (mAnd (mTru (mBin (cmpD ltI) (mVar 5) (mC (.int 0)))) (mTru (mBin (cmpD ltI) (mVar 8) (mC (.int 7))))) (mOr (mTru (mBin eqD (mVar 8) (mC (.int 7)))) (mTru (mBin eqD (mVar 8) (mC (.int 8)))))) (mSeq (mAsg 5 (mBin modD (mUn intD (mBin atD (mVar 7) (mC (.int 1)))) (mC (.int 5)))) (mApp 4 (mTup (mCons (mC (S [104, 101, 97, 100])) (mCons (mBin atD (mC (S [97, 98, 99, 100, 101])) (mVar 5)) mNil))))) (mIfS (mTru (mBin eqD (mVar 8) (mC (.int 9)))) (mSeq (mApp 4 (mTup (mCons (mC (S [112, 114, 111, 115, 101])) (mCons (mBin atD (mList (mLst (mCons (mC (S [])) (mCons (mC (S [87, 111, 114, 100, 115, 32, 111, 102, 32, 105, 116, 46])) (mCons (mC (S [32, 32, 98])) (mCons (mC (S [60, 99, 62])) (mCons (mC (S [97, 32, 61, 32, 98])) mNil))))))) (mBin modD (mUn intD (mBin atD (mVar 7) (mC (.int 1)))) (mC (.int 5)))) mNil)))) (mAsg 5 (mUn negD (mC (.int 1))))) (mIfS (mAnd (mTru (mBin (cmpD ltI) (mVar 8) (mC (.int 3)))) (mTru (mBin (cmpD ltI) (mVar 5) (mC (.int 4))))) (mSeq (mAsg 9 (mBin addD (mBin addD (mVar 5) (mC (.int 1))) (mBin modD (mUn intD (mBin atD (mVar 7) (mC (.int 2)))) (mBin subD (mC (.int 4)) (mVar 5))))) (mSeq (mAsg 10 (mBin atD (mC (S [97, 98, 99, 100, 101])) (mVar 9))) (mSeq (mIfS (mAnd (mTru (mVar 3)) (mTru (mBin eqD (mBin modD (mUn intD (mBin atD (mVar 7) (mC (.int 3)))) (mC (.int 4))) (mC (.int 0))))) (mAsg 10 (mBin atD (mC (S [97, 98, 99, 100, 101, 122])) (mBin modD (mBin fdivD (mUn intD (mBin atD (mVar 7) (mC (.int 3)))) (mC (.int 4))) (mC (.int 6))))) mNext) (mApp 4 (mTup (mCons (mC (S [117, 115, 101])) (mCons (mBin modD (mUn intD (mBin atD (mVar 7) (mC (.int 1)))) (mC (.int 4))) (mCons (mVar 10) mNil)))))))) (mApp 4 (mTup (mCons (mC (S [99, 111, 100, 101])) (mCons (mCall m__law_code (mCons (mUn intD (mBin atD (mVar 7) (mC (.int 2)))) mNil)) mNil)))))))))
def b__law_document : WD.Env → Out := (mSeq (mAsgN 4 (mLst mNil)) (mSeq (mAsg 5 (mUn negD (mC (.int 1)))) (mSeq (mFor (mBindA rng1D (mCons (mVar 2) mNil)) (gSet 6) lb__law_document_0) (mRet (mUn tupleD (mVar 4))))))
def m__law_document : List D → Res D := mkFn 11 b__law_document
theorem ok__law_document {f : Addr} {fd : FuncData} (F : Fun K "_law_document" "_law_document" s__law_document f fd) (T : Txt K mg) (G__law_draws : Fn P w K mg base 1 "_law_draws" ["cell", "count"] m__law_draws) (G__law_cell : Fn P w K mg base 1 "_law_cell" ["script", "k"] m__law_cell) (G__law_code : Fn P w K mg base 1 "_law_code" ["draw"] m__law_code) : FnOk P w K mg base (L2.CX P w) 2 f fd ["script", "start", "many", "loose"] (spM mg K 4 m__law_document) :=
  fn_ok (κ := kdL [4]) (κe := _) F sc__law_document rfl (by decide) fun cdv A outer s H E hr => (ds2_cons (ds_setN (i := 4) rfl sc__law_document.nd rfl (Or.inl rfl) (dn_lst da_nil)) (ds2_cons (ds_set (i := 5) rfl sc__law_document.nd rfl (by first | exact Or.inl rfl | exact Or.inr rfl) (de_neg de_int)) (ds2_cons (ds_for pown rfl (di_range1 rfl T.b_range (da_cons (dv 2) da_nil)) (gn 6 sc__law_document.nd) (show DSs _ _ _ _ lb__law_document_0 from (ds_cons (ds_set (i := 7) rfl sc__law_document.nd rfl (by first | exact Or.inl rfl | exact Or.inr rfl) (de_call G__law_draws (hr.mono (by decide)) pcx rfl (da_cons (de_call G__law_cell (hr.mono (by decide)) pcx rfl (da_cons (dv 0) (da_cons (de_add (db_of (dv 1)) (db_of (dv 6))) da_nil)) rfl (mCons_len (mCons_len mNil_len))) (da_cons de_int da_nil)) rfl (mCons_len (mCons_len mNil_len)))) (ds_cons (ds_set (i := 8) rfl sc__law_document.nd rfl (by first | exact Or.inl rfl | exact Or.inr rfl) (de_mod (db_of (de_int1 rfl T.b_int (db_of (de_at (db_of (dv 7)) (db_of de_int))))) (db_of de_int))) (ds_one (ds_if (PW.pt (dw_or (PW.pt (dw_and (dt_lt (db_of (dv 5)) (db_of de_int)) (dw_and1 (dt_lt (db_of (dv 8)) (db_of de_int))))) (dw_or (dt_eq hr (db_of (dv 8)) (db_of de_int)) (dw_or1 (dt_eq hr (db_of (dv 8)) (db_of de_int)))))) (ds_cons (ds_set (i := 5) rfl sc__law_document.nd rfl (by first | exact Or.inl rfl | exact Or.inr rfl) (de_mod (db_of (de_int1 rfl T.b_int (db_of (de_at (db_of (dv 7)) (db_of de_int))))) (db_of de_int))) (ds_one (ds_append (i := 4) rfl rfl (Or.inl rfl) (de_tup (da_cons (de_strS [104, 101, 97, 100]) (da_cons (de_at (db_of (de_strS [97, 98, 99, 100, 101])) (db_of (dv 5))) da_nil))) (pe_bm PySem.F.plainAttrs_list PySem.F.slot_list_append PySem.F.type_list_append mt_append (pe_var rfl (Or.inl rfl)) (pa_cons (de_tup (da_cons (de_strS [104, 101, 97, 100]) (da_cons (de_at (db_of (de_strS [97, 98, 99, 100, 101])) (db_of (dv 5))) da_nil))) pa_nil))))) (ds_one (ds_if (dt_eq hr (db_of (dv 8)) (db_of de_int)) (ds_cons (ds_append (i := 4) rfl rfl (Or.inl rfl) (de_tup (da_cons (de_strS [112, 114, 111, 115, 101]) (da_cons (de_at (db_of (de_new (dn_lst (da_cons (de_strS []) (da_cons (de_strS [87, 111, 114, 100, 115, 32, 111, 102, 32, 105, 116, 46]) (da_cons (de_strS [32, 32, 98]) (da_cons (de_strS [60, 99, 62]) (da_cons (de_strS [97, 32, 61, 32, 98]) da_nil)))))))) (db_of (de_mod (db_of (de_int1 rfl T.b_int (db_of (de_at (db_of (dv 7)) (db_of de_int))))) (db_of de_int)))) da_nil))) (pe_bm PySem.F.plainAttrs_list PySem.F.slot_list_append PySem.F.type_list_append mt_append (pe_var rfl (Or.inl rfl)) (pa_cons (de_tup (da_cons (de_strS [112, 114, 111, 115, 101]) (da_cons (de_at (db_of (de_new (dn_lst (da_cons (de_strS []) (da_cons (de_strS [87, 111, 114, 100, 115, 32, 111, 102, 32, 105, 116, 46]) (da_cons (de_strS [32, 32, 98]) (da_cons (de_strS [60, 99, 62]) (da_cons (de_strS [97, 32, 61, 32, 98]) da_nil)))))))) (db_of (de_mod (db_of (de_int1 rfl T.b_int (db_of (de_at (db_of (dv 7)) (db_of de_int))))) (db_of de_int)))) da_nil))) pa_nil))) (ds_one (ds_set (i := 5) rfl sc__law_document.nd rfl (by first | exact Or.inl rfl | exact Or.inr rfl) (de_neg de_int)))) (ds_one (ds_if (PW.pt (dw_and (dt_lt (db_of (dv 8)) (db_of de_int)) (dw_and1 (dt_lt (db_of (dv 5)) (db_of de_int))))) (ds_cons (ds_set (i := 9) rfl sc__law_document.nd rfl (by first | exact Or.inl rfl | exact Or.inr rfl) (de_add (db_of (de_add (db_of (dv 5)) (db_of de_int))) (db_of (de_mod (db_of (de_int1 rfl T.b_int (db_of (de_at (db_of (dv 7)) (db_of de_int))))) (db_of (de_sub (db_of de_int) (db_of (dv 5)))))))) (ds_cons (ds_set (i := 10) rfl sc__law_document.nd rfl (by first | exact Or.inl rfl | exact Or.inr rfl) (de_at (db_of (de_strS [97, 98, 99, 100, 101])) (db_of (dv 9)))) (ds_cons (ds_if (PW.pt (dw_and (dt_truth (db_of (dv 3)) (by intro _; rfl)) (dw_and1 (dt_eq hr (db_of (de_mod (db_of (de_int1 rfl T.b_int (db_of (de_at (db_of (dv 7)) (db_of de_int))))) (db_of de_int))) (db_of de_int))))) (ds_one (ds_set (i := 10) rfl sc__law_document.nd rfl (by first | exact Or.inl rfl | exact Or.inr rfl) (de_at (db_of (de_strS [97, 98, 99, 100, 101, 122])) (db_of (de_mod (db_of (de_fdiv (db_of (de_int1 rfl T.b_int (db_of (de_at (db_of (dv 7)) (db_of de_int))))) (db_of de_int))) (db_of de_int)))))) ds_nil) (ds_one (ds_append (i := 4) rfl rfl (Or.inl rfl) (de_tup (da_cons (de_strS [117, 115, 101]) (da_cons (de_mod (db_of (de_int1 rfl T.b_int (db_of (de_at (db_of (dv 7)) (db_of de_int))))) (db_of de_int)) (da_cons (dv 10) da_nil)))) (pe_bm PySem.F.plainAttrs_list PySem.F.slot_list_append PySem.F.type_list_append mt_append (pe_var rfl (Or.inl rfl)) (pa_cons (de_tup (da_cons (de_strS [117, 115, 101]) (da_cons (de_mod (db_of (de_int1 rfl T.b_int (db_of (de_at (db_of (dv 7)) (db_of de_int))))) (db_of de_int)) (da_cons (dv 10) da_nil)))) pa_nil))))))) (ds_one (ds_append (i := 4) rfl rfl (Or.inl rfl) (de_tup (da_cons (de_strS [99, 111, 100, 101]) (da_cons (de_call G__law_code (hr.mono (by decide)) pcx rfl (da_cons (de_int1 rfl T.b_int (db_of (de_at (db_of (dv 7)) (db_of de_int)))) da_nil) rfl (mCons_len mNil_len)) da_nil))) (pe_bm PySem.F.plainAttrs_list PySem.F.slot_list_append PySem.F.type_list_append mt_append (pe_var rfl (Or.inl rfl)) (pa_cons (de_tup (da_cons (de_strS [99, 111, 100, 101]) (da_cons (de_call G__law_code (hr.mono (by decide)) pcx rfl (da_cons (de_int1 rfl T.b_int (db_of (de_at (db_of (dv 7)) (db_of de_int)))) da_nil) rfl (mCons_len mNil_len)) da_nil))) pa_nil)))))))))))))) (ds2_freeze 4 (ds2_of (ds_one (ds_ret (de_tuple rfl T.b_tuple (db_of (dv 4)))))) rfl) sg_for) sg_asg) sg_asgN)
abbrev s_read_line : Stmt := topS 9
theorem sc_read_line : FnScope ["written"] ["written"] (defScope s_read_line) := ⟨rfl, rfl, rfl, by decide +kernel, rfl, by decide +kernel, by decide +kernel⟩
def b_read_line : WD.Env → Out := (mSeq (mIfS (mTru (mMt (s1D startsD) (mVar 0) (mCons (mC (S [61])) mNil))) (mRet (mTup (mCons (mC (S [104, 101, 97, 100])) (mCons (mCut (mVar 0) (mSome (mC (.int 2))) mNone) mNil)))) mNext) (mSeq (mIfS (mTru (mMt (s1D startsD) (mVar 0) (mCons (mC (S [124])) mNil))) (mRet (mCall m_read_rest (mCons (mCut (mVar 0) (mSome (mC (.int 1))) mNone) mNil))) mNext) (mRet (mTup (mCons (mC (S [112, 114, 111, 115, 101])) (mCons (mVar 0) mNil))))))
def m_read_line : List D → Res D := mkFn 1 b_read_line
theorem ok_read_line {f : Addr} {fd : FuncData} (F : Fun K "read_line" "read_line" s_read_line f fd) (T : Txt K mg) (G_read_rest : Fn P w K mg base 2 "read_rest" ["rest"] m_read_rest) : FnOk P w K mg base (L2.CX P w) 3 f fd ["written"] (spM mg K 1 m_read_line) :=
  fn_ok (κ := kdL []) (κe := _) F sc_read_line rfl (by decide) fun cdv A outer s H E hr => (ds2_of (ds_cons (ds_if (dt_truth (db_of (de_m PySem.F.slot_str_startswith PySem.F.type_str_startswith mt_startswith ops_starts starts_ne (dv 0) (da_cons (de_strS [61]) da_nil))) (by intro _; rfl)) (ds_one (ds_ret (de_tup (da_cons (de_strS [104, 101, 97, 100]) (da_cons (de_cut (db_of (dv 0)) (do_some de_int) do_none) da_nil))))) ds_nil) (ds_cons (ds_if (dt_truth (db_of (de_m PySem.F.slot_str_startswith PySem.F.type_str_startswith mt_startswith ops_starts starts_ne (dv 0) (da_cons (de_strS [124]) da_nil))) (by intro _; rfl)) (ds_one (ds_ret (de_call G_read_rest (hr.mono (by decide)) pcx rfl (da_cons (de_cut (db_of (dv 0)) (do_some de_int) do_none) da_nil) rfl (mCons_len mNil_len)))) ds_nil) (ds_one (ds_ret (de_tup (da_cons (de_strS [112, 114, 111, 115, 101]) (da_cons (dv 0) da_nil))))))))
abbrev s_read : Stmt := topS 6
theorem sc_read : FnScope ["text", "document", "at", "written", "fault", "column", "what"] ["text"] (defScope s_read) := ⟨rfl, rfl, rfl, by decide +kernel, rfl, by decide +kernel, by decide +kernel⟩
def lb_read_0 : WD.Env → Out := (mSeq (mAsg 4 (mCall m_fault_of (mCons (mVar 3) (mCons (mVar 1) mNil)))) (mSeq (mIfS (mTru (mNotN (mVar 4))) (mSeq (mAsgG (gTupD (lenG 2 (gConsD (gSet 5) (gConsD (gSet 6) gNilD)))) (mVar 4)) mStk) mNext) (mApp 1 (mCall m_read_line (mCons (mVar 3) mNil)))))
def b_read : WD.Env → Out := (mSeq (mAsgN 1 (mLst mNil)) (mSeq (mFor (mBindA enumXD (mCons (mMt (s1D splitD) (mVar 0) (mCons (mC (S [10])) mNil)) mNil)) (gTupD (lenG 2 (gConsD (gSet 2) (gConsD (gSet 3) gNilD)))) lb_read_0) (mRet (mUn tupleD (mVar 1)))))
def m_read : List D → Res D := mkFn 7 b_read
theorem ok_read {f : Addr} {fd : FuncData} (F : Fun K "read" "read" s_read f fd) (T : Txt K mg) (G_fault_of : FnB P w K mg base 2 "fault_of" ["written", "before"] [.im, .bw] m_fault_of) (G_read_line : Fn P w K mg base 3 "read_line" ["written"] m_read_line) : FnOk P w K mg base (L2.CX P w) 4 f fd ["text"] (spM mg K 1 m_read) :=
  fn_ok (κ := kdL [1]) (κe := _) F sc_read rfl (by decide) fun cdv A outer s H E hr => (ds2_cons (ds_setN (i := 1) rfl sc_read.nd rfl (Or.inl rfl) (dn_lst da_nil)) (ds2_cons (ds_for pown rfl (di_enumX rfl T.b_enumerate (da_cons (de_m PySem.F.slot_str_split PySem.F.type_str_split mt_split ops_split split_ne (dv 0) (da_cons (de_strS [10]) da_nil)) da_nil)) (dg_tup rfl (dgs_cons (gn 2 sc_read.nd) (dgs_cons (gn 3 sc_read.nd) dgs_nil))) (show DSs _ _ _ _ lb_read_0 from (ds_cons (ds_set (i := 4) rfl sc_read.nd rfl (by first | exact Or.inl rfl | exact Or.inr rfl) (de_callL G_fault_of (hr.mono (by decide)) pcx rfl (dab_im (dv 3) (dab_bw (bv 1) dab_nil)))) (ds_cons (ds_if (dt_notN (db_of (dv 4))) (ds_cons (ds_asg (dv 4) (dg_tup rfl (dgs_cons (gn 5 sc_read.nd) (dgs_cons (gn 6 sc_read.nd) dgs_nil)))) (ds_one ds_stk)) ds_nil) (ds_one (ds_append (i := 1) rfl rfl (Or.inl rfl) (de_call G_read_line (hr.mono (by decide)) pcx rfl (da_cons (dv 3) da_nil) rfl (mCons_len mNil_len)) (pe_bm PySem.F.plainAttrs_list PySem.F.slot_list_append PySem.F.type_list_append mt_append (pe_var rfl (Or.inl rfl)) (pa_cons (de_call G_read_line (hr.mono (by decide)) pcx rfl (da_cons (dv 3) da_nil) rfl (mCons_len mNil_len)) pa_nil)))))))) (ds2_freeze 1 (ds2_of (ds_one (ds_ret (de_tuple rfl T.b_tuple (db_of (dv 1)))))) rfl) sg_for) sg_asgN)
abbrev s__law_same : Stmt := topS 17
theorem sc__law_same : FnScope ["actual", "expected", "k"] ["actual", "expected"] (defScope s__law_same) := ⟨rfl, rfl, rfl, by decide +kernel, rfl, by decide +kernel, by decide +kernel⟩
def lb__law_same_0 (m__law_same : List D → Res D) : WD.Env → Out := (mIfS (mNot (mTru (mCall m__law_same (mCons (mBin atD (mVar 0) (mVar 2)) (mCons (mBin atD (mVar 1) (mVar 2)) mNil))))) (mRet (mC (.bool false))) mNext)
def b__law_same (m__law_same : List D → Res D) : WD.Env → Out := (mSeq (mIfS (mTru (mUn (isiD "tuple") (mVar 1))) (mSeq (mIfS (mOr (mNot (mTru (mUn (isiD "tuple") (mVar 0)))) (mTru (mBin neD (mUn lenD (mVar 0)) (mUn lenD (mVar 1))))) (mRet (mC (.bool false))) mNext) (mSeq (mFor (mBindA rng1D (mCons (mUn lenD (mVar 1)) mNil)) (gSet 2) (lb__law_same_0 m__law_same)) (mRet (mC (.bool true))))) mNext) (mSeq (mIfS (mTru (mIsN (mVar 1))) (mRet (mIsN (mVar 0))) mNext) (mSeq (mIfS (mTru (mUn (isiD "str") (mVar 1))) (mRet (mAndV (mUn (isiD "str") (mVar 0)) (mBin eqD (mVar 0) (mVar 1)))) mNext) (mRet (mAndV (mUn (isiD "int") (mVar 0)) (mAndV (mNotV (mUn (isiD "bool") (mVar 0))) (mBin eqD (mVar 0) (mVar 1))))))))
def m__law_same_0 : List D → Res D := fun _ => .stk
def m__law_same_1 : List D → Res D := mkFn 3 (b__law_same m__law_same_0)
def m__law_same_2 : List D → Res D := mkFn 3 (b__law_same m__law_same_1)
def m__law_same_3 : List D → Res D := mkFn 3 (b__law_same m__law_same_2)
def m__law_same_4 : List D → Res D := mkFn 3 (b__law_same m__law_same_3)
abbrev m__law_same : List D → Res D := m__law_same_4
theorem ok__law_same {f : Addr} {fd : FuncData} {lev : Nat} (hlev : 0 ≤ lev) {m__law_same : List D → Res D} (F : Fun K "_law_same" "_law_same" s__law_same f fd) (T : Txt K mg) (G__law_same : Fn P w K mg base lev "_law_same" ["actual", "expected"] m__law_same) : FnOk P w K mg base (L2.CX P w) (lev + 1) f fd ["actual", "expected"] (spM mg K 2 (mkFn 3 (b__law_same m__law_same))) :=
  fn_ok (κ := kdL []) (κe := _) F sc__law_same rfl (by decide) fun cdv A outer s H E hr => (ds2_of (ds_cons (ds_if (dt_truth (db_of (de_isi rfl T.b_isinstance rfl T.b_tuple (by decide +kernel) (db_of (dv 1)))) (by intro _; rfl)) (ds_cons (ds_if (PW.pt (dw_or (dt_not (dt_truth (db_of (de_isi rfl T.b_isinstance rfl T.b_tuple (by decide +kernel) (db_of (dv 0)))) (by intro _; rfl))) (dw_or1 (dt_ne hr (db_of (de_len rfl T.b_len (db_of (dv 0)))) (db_of (de_len rfl T.b_len (db_of (dv 1)))))))) (ds_one (ds_ret de_bl)) ds_nil) (ds_cons (ds_for pown rfl (di_range1 rfl T.b_range (da_cons (de_len rfl T.b_len (db_of (dv 1))) da_nil)) (gn 2 sc__law_same.nd) (show DSs _ _ _ _ (lb__law_same_0 m__law_same) from (ds_one (ds_if (dt_not (dt_truth (db_of (de_call G__law_same (hr.mono (by omega)) pcx rfl (da_cons (de_at (db_of (dv 0)) (db_of (dv 2))) (da_cons (de_at (db_of (dv 1)) (db_of (dv 2))) da_nil)) rfl (mCons_len (mCons_len mNil_len)))) (by intro _; rfl))) (ds_one (ds_ret de_bl)) ds_nil)))) (ds_one (ds_ret de_bl)))) ds_nil) (ds_cons (ds_if (dt_isN (db_of (dv 1))) (ds_one (ds_ret (de_isN (db_of (dv 0))))) ds_nil) (ds_cons (ds_if (dt_truth (db_of (de_isi rfl T.b_isinstance rfl T.b_str (by decide +kernel) (db_of (dv 1)))) (by intro _; rfl)) (ds_one (ds_ret (de_and (de_isi rfl T.b_isinstance rfl T.b_str (by decide +kernel) (db_of (dv 0))) (de_one (de_eq hr (db_of (dv 0)) (db_of (dv 1))))))) ds_nil) (ds_one (ds_ret (de_and (de_isi rfl T.b_isinstance rfl T.b_int (by decide +kernel) (db_of (dv 0))) (de_and (de_not (de_isi rfl T.b_isinstance rfl T.b_bool (by decide +kernel) (db_of (dv 0)))) (de_one (de_eq hr (db_of (dv 0)) (db_of (dv 1))))))))))))
abbrev s_law : Stmt := topS 21
theorem sc_law : FnScope ["script", "document", "text", "line"] ["script"] (defScope s_law) := ⟨rfl, rfl, rfl, by decide +kernel, rfl, by decide +kernel, by decide +kernel⟩
def b_law : WD.Env → Out := (mSeq (mAsg 1 (mCall m__law_document (mCons (mVar 0) (mCons (mC (.int 1)) (mCons (mBin addD (mC (.int 1)) (mBin modD (mCall m__law_cell (mCons (mVar 0) (mCons (mC (.int 0)) mNil))) (mC (.int 61)))) (mCons (mC (.bool true)) mNil)))))) (mSeq (mAsg 2 (mCall m_write (mCons (mVar 1) mNil))) (mSeq (mIfS (mOr (mNot (mTru (mUn (isiD "str") (mVar 2)))) (mTru (mBin neD (mVar 2) (mMt joinD (mC (S [10])) (mCons (mList (mLc (mIt (mVar 1)) (gSet 3) mYes (mCall m__law_written (mCons (mVar 3) mNil)) [3])) mNil))))) (mRet (mC (.bool false))) mNext) (mRet (mCall m__law_same (mCons (mCall m_read (mCons (mVar 2) mNil)) (mCons (mVar 1) mNil)))))))
def m_law : List D → Res D := mkFn 4 b_law
theorem ok_law {f : Addr} {fd : FuncData} (F : Fun K "law" "law" s_law f fd) (T : Txt K mg) (G__law_document : Fn P w K mg base 2 "_law_document" ["script", "start", "many", "loose"] m__law_document) (G_write : Fn P w K mg base 2 "write" ["document"] m_write) (G__law_same : Fn P w K mg base 4 "_law_same" ["actual", "expected"] m__law_same) (G_read : Fn P w K mg base 4 "read" ["text"] m_read) (G__law_cell : Fn P w K mg base 1 "_law_cell" ["script", "k"] m__law_cell) (G__law_written : Fn P w K mg base 1 "_law_written" ["line"] m__law_written) : FnOk P w K mg base (L2.CX P w) 5 f fd ["script"] (spM mg K 1 m_law) :=
  fn_ok (κ := kdL []) (κe := _) F sc_law rfl (by decide) fun cdv A outer s H E hr => (ds2_of (ds_cons (ds_set (i := 1) rfl sc_law.nd rfl (by first | exact Or.inl rfl | exact Or.inr rfl) (de_call G__law_document (hr.mono (by decide)) pcx rfl (da_cons (dv 0) (da_cons de_int (da_cons (de_add (db_of de_int) (db_of (de_mod (db_of (de_call G__law_cell (hr.mono (by decide)) pcx rfl (da_cons (dv 0) (da_cons de_int da_nil)) rfl (mCons_len (mCons_len mNil_len)))) (db_of de_int)))) (da_cons de_bl da_nil)))) rfl (mCons_len (mCons_len (mCons_len (mCons_len mNil_len)))))) (ds_cons (ds_set (i := 2) rfl sc_law.nd rfl (by first | exact Or.inl rfl | exact Or.inr rfl) (de_call G_write (hr.mono (by decide)) pcx rfl (da_cons (dv 1) da_nil) rfl (mCons_len mNil_len))) (ds_cons (ds_if (PW.pt (dw_or (dt_not (dt_truth (db_of (de_isi rfl T.b_isinstance rfl T.b_str (by decide +kernel) (db_of (dv 2)))) (by intro _; rfl))) (dw_or1 (dt_ne hr (db_of (dv 2)) (db_of (de_m PySem.F.slot_str_join PySem.F.type_str_join mt_join ops_join join_ne (de_strS [10]) (da_cons (de_new (dn_lc (own := [("line", 3)]) rfl sc_law.nd (dip_seq (db_of (dv 1))) (blkOk_by (N := ["script", "document", "text", "line"]) (sc := defScope s_law) (own := [("line", 3)]) (by decide +kernel)) (by decide) (fun _ _ _ _ _ => (gn 3 sc_law.nd)) (fun _ _ _ _ _ => dts_nil) (fun _ _ _ _ _ => (de_call G__law_written (hr.mono (by decide)) passL rfl (da_cons (dv 3) da_nil) rfl (mCons_len mNil_len))))) da_nil))))))) (ds_one (ds_ret de_bl)) ds_nil) (ds_one (ds_ret (de_call G__law_same (hr.mono (by decide)) pcx rfl (da_cons (de_call G_read (hr.mono (by decide)) pcx rfl (da_cons (dv 2) da_nil) rfl (mCons_len mNil_len)) (da_cons (dv 1) da_nil)) rfl (mCons_len (mCons_len mNil_len)))))))))
end
theorem law_cell (ns : List Int) (k : Nat) : m__law_cell [.list (ns.map PyData.int), .int k] = .ok (.int ((ns[k]?).getD 0)) := by
  unfold m__law_cell mkFn b__law_cell
  by_cases h : k < ns.length
  · have : (ns.map PyData.int)[k]? = some (.int ns[k]) := by simp [h]
    simp -implicitDefEqProofs [ltI, h, atD_list this]
  · simp -implicitDefEqProofs [ltI, h]
theorem cdiv1009 (c : Int) : CDiv c 1009 := by unfold CDiv; omega
theorem cmul_r {c k : Int} (h : -(2 ^ 64) < k ∧ k < 2 ^ 64) : CMul c k := .inr h
theorem draw_turn (c : Int) (n : D) (ds : List Int) (w : Bool) (k : Nat) (x5 : Option D) (hs : ds.length < 1000) (hk : k < 1000) : ∃ (c' d : Int) (x5' : Option D),
    lb__law_draws_0 [some (.int c), some n, some (.list (ds.map PyData.int)), some (.bool w), some (.int k), x5] = .nx [some (.int c'), some n, some (.list ((ds ++ [d]).map PyData.int)), some (.bool w), some (.int k), x5'] ∧ 0 ≤ d := by
  have small : ds.length < sizeLine := by rw [sl_eq]; omega
  unfold lb__law_draws_0
  cases w with
  | true =>
    refine ⟨c / 1009, c % 1009, x5, ?_, by omega⟩
    simp -implicitDefEqProofs [modD_int, fdivD_int (cdiv1009 c), small]
  | false =>
    have h0 : 0 ≤ (c * 48271 + (k : Int) * 69621) % 2147483647 := by omega
    have h1 : (c * 48271 + (k : Int) * 69621) % 2147483647 < 2147483647 := by omega
    refine ⟨c, ((c * 48271 + (k : Int) * 69621) % 2147483647 * ((c * 48271 + (k : Int) * 69621) % 2147483647) + c * 31 + k) % 1000003, some (.int ((c * 48271 + (k : Int) * 69621) % 2147483647)), ?_, by omega⟩
    simp -implicitDefEqProofs [modD_int, mulD_int (cmul_r (c := c) (k := 48271) (by decide)), mulD_int (cmul_r (c := (k : Int)) (k := 69621) (by decide)), small]
    rw [mulD_int (.inl (by omega))]
    simp -implicitDefEqProofs [modD_int, mulD_int (cmul_r (c := c) (k := 31) (by decide)), small]
theorem law_draws (c : Int) (n : Nat) (hn : n ≤ 1000) : ∃ ds : List Int, m__law_draws [.int c, .int n] = .ok (.list (ds.map PyData.int)) ∧ ds.length = n ∧ ∀ d ∈ ds, 0 ≤ d := by
  unfold m__law_draws mkFn b__law_draws
  have hp : powD (.int 10) (.int 18) = .ok (.int (10 ^ (18 : Int).toNat)) := powD_int (by decide)
  generalize (10 : Int) ^ (18 : Int).toNat = big at hp
  obtain ⟨w, hw⟩ : ∃ w, geI c big = w := ⟨_, rfl⟩
  obtain ⟨ρ', e, c', ds, x4, x5, rfl, hl, hd⟩ := forL_inv (fun j ρ => ∃ (c' : Int) (ds : List Int) (x4 x5 : Option D), ρ = [some (.int c'), some (.int n), some (.list (ds.map PyData.int)), some (.bool w), x4, x5] ∧ ds.length = j ∧ ∀ d ∈ ds, 0 ≤ d)
    (rngD 0 n) [some (.int c), some (.int n), some (.list []), some (.bool w), none, none] 0 ⟨c, [], none, none, rfl, rfl, by simp⟩ (b := lb__law_draws_0) (g := gSet 4) (fun i d ρ hd hI => by
      obtain ⟨c', ds, x4, x5, rfl, hl, h0⟩ := hI
      obtain ⟨hi, rfl⟩ := rngD_get hd
      obtain ⟨c2, d, x5', e, h1⟩ := draw_turn c' (.int n) ds w i x5 (by omega) (by omega)
      refine ⟨_, _, gSet_at _ _ _, .inl (by simpa using e), c2, ds ++ [d], _, x5', rfl, by simp [hl], fun d' hd' => ?_⟩
      rcases List.mem_append.mp hd' with hd' | hd'
      · exact h0 d' hd'
      · have : d' = d := by simpa using hd'
        omega)
  refine ⟨ds, ?_, by simpa [rngD_len] using hl, hd⟩
  simp -implicitDefEqProofs [hp, hw, rng1D_int (show (0 : Int) ≤ (n : Int) by omega) (show (n : Int) < 2 ^ 62 by omega), e]
@[simp] theorem mIsN_at (m : WD.Env → Res D) (ρ : WD.Env) : mIsN m ρ = (m ρ).bind fun d => .ok (.bool (isNoneD d)) := rfl
@[simp] theorem mNotN_at (m : WD.Env → Res D) (ρ : WD.Env) : mNotN m ρ = (m ρ).bind fun d => .ok (.bool (!isNoneD d)) := rfl
inductive Ln where
  | head (n : List Nat)
  | use (k : Nat) (n : List Nat)
  | code (t : List Nat)
  | prose (t : List Nat)
def lnD : Ln → D
  | .head n => .tuple [S [104, 101, 97, 100], S n]
  | .use k n => .tuple [S [117, 115, 101], .int k, S n]
  | .code t => .tuple [S [99, 111, 100, 101], S t]
  | .prose t => .tuple [S [112, 114, 111, 115, 101], S t]
def wr : Ln → List Nat
  | .head n => [61, 32] ++ n
  | .use k n => [124] ++ List.replicate k 32 ++ [60] ++ n ++ [62]
  | .code t => 124 :: t
  | .prose t => t
def P5 : List (List Nat) := [[], [87, 111, 114, 100, 115, 32, 111, 102, 32, 105, 116, 46], [32, 32, 98], [60, 99, 62], [97, 32, 61, 32, 98]]
def C10 : List (List Nat) := [[120], [], [105, 102, 32, 121, 58], [32, 32, 122], [32], [120, 32, 61, 32, 49], [60, 97], [97, 62], [120, 46, 121, 40, 122, 41], [60, 97, 32, 98, 62]]
def N6 : List (List Nat) := [[97], [98], [99], [100], [101], [122]]
def AllL : List Ln := (N6.map .head) ++ ((List.range 4).map fun k => N6.map (.use k)).flatten ++ C10.map .code ++ P5.map .prose
/-- the mirrors on every line, by running them -/
def isS (r : Res D) (l : List Nat) : Bool := match r with
  | .ok (.str x) => decide (x.cps.toList = l)
  | _ => false
theorem isS_ok {r : Res D} {l : List Nat} (h : isS r l = true) : r = .ok (S l) := by
  unfold isS at h
  split at h
  · rename_i x
    rw [str_eta x, of_decide_eq_true h]
  · cases h
theorem write_line_all : ∀ l ∈ AllL, isS (m_write_line [lnD l]) (wr l) = true := by decide +kernel
theorem law_written_all : ∀ l ∈ AllL, isS (m__law_written [lnD l]) (wr l) = true := by decide +kernel
def isLn (r : Res D) (l : Ln) : Bool := match r, l with
  | .ok (.tuple [.str a, .str b]), .head n => decide (a.cps.toList = [104, 101, 97, 100]) && decide (b.cps.toList = n)
  | .ok (.tuple [.str a, .int k, .str b]), .use i n => decide (a.cps.toList = [117, 115, 101]) && decide (k = (i : Int)) && decide (b.cps.toList = n)
  | .ok (.tuple [.str a, .str b]), .code n => decide (a.cps.toList = [99, 111, 100, 101]) && decide (b.cps.toList = n)
  | .ok (.tuple [.str a, .str b]), .prose n => decide (a.cps.toList = [112, 114, 111, 115, 101]) && decide (b.cps.toList = n)
  | _, _ => false
theorem isLn_ok {r : Res D} {l : Ln} (h : isLn r l = true) : r = .ok (lnD l) := by
  unfold isLn at h
  split at h
  · rename_i a b n
    simp only [Bool.and_eq_true, decide_eq_true_eq] at h
    rw [str_eta a, str_eta b, h.1, h.2]; rfl
  · rename_i a k b i n
    simp only [Bool.and_eq_true, decide_eq_true_eq] at h
    rw [str_eta a, str_eta b, h.1.1, h.2, h.1.2]; rfl
  · rename_i a b n
    simp only [Bool.and_eq_true, decide_eq_true_eq] at h
    rw [str_eta a, str_eta b, h.1, h.2]; rfl
  · rename_i a b n
    simp only [Bool.and_eq_true, decide_eq_true_eq] at h
    rw [str_eta a, str_eta b, h.1, h.2]; rfl
  · cases h
theorem read_line_all : ∀ l ∈ AllL, isLn (m_read_line [S (wr l)]) l = true := by decide +kernel
def isNo (r : Res D) : Bool := match r with
  | .ok .none => true
  | _ => false
theorem head_fault_all : ∀ n ∈ N6, isNo (m_head_fault [S (wr (.head n))]) = true := by decide +kernel
theorem isNo_ok {r : Res D} (h : isNo r = true) : r = .ok .none := by
  unfold isNo at h
  split at h
  · rfl
  · cases h
theorem wr_len_all : ∀ l ∈ AllL, (wr l).length ≤ 20 ∧ 10 ∉ wr l := by
  have h : ∀ l ∈ AllL, (decide ((wr l).length ≤ 20) && !decide (10 ∈ wr l)) = true := by decide +kernel
  intro l hl
  simpa using h l hl
theorem wr_len {l : Ln} (h : l ∈ AllL) : (wr l).length ≤ 20 := (wr_len_all l h).1
theorem write_line_is {l : Ln} (h : l ∈ AllL) : m_write_line [lnD l] = .ok (S (wr l)) := isS_ok (write_line_all l h)
theorem law_written_is {l : Ln} (h : l ∈ AllL) : m__law_written [lnD l] = .ok (S (wr l)) := isS_ok (law_written_all l h)
theorem read_line_is {l : Ln} (h : l ∈ AllL) : m_read_line [S (wr l)] = .ok (lnD l) := isLn_ok (read_line_all l h)
def isProse : Ln → Bool
  | .prose _ => true
  | _ => false
def inSec : Ln → Bool
  | .code _ => true
  | .use _ _ => true
  | _ => false
theorem at_last {xs : List D} {x : D} : atD (.list (xs ++ [x])) (.int (-1)) = .ok x := by
  have : atI (xs ++ [x]) (-1) = some x := by
    unfold atI ixN
    simp
    rw [if_pos (by omega)]
    have e : (-1 + ((xs.length : Int) + 1)).toNat = xs.length := by omega
    show (xs ++ [x])[(-1 + ((xs.length : Int) + 1)).toNat]? = some x
    rw [e]
    simp
  simp only [atD, this, ofO_some]
theorem starts_hd (c : Nat) (l : List Nat) (a : Nat) : startsL (c :: l) [a] = decide (c = a) := by
  unfold startsL
  simp
theorem head_in {n : List Nat} (h : Ln.head n ∈ AllL) : n ∈ N6 := by
  unfold AllL at h
  simp only [List.mem_append, List.mem_map, List.mem_flatten, List.mem_range] at h
  rcases h with ((⟨a, ha, e⟩ | ⟨l, ⟨k, hk, rfl⟩, h⟩) | ⟨a, ha, e⟩) | ⟨a, ha, e⟩
  · cases e; exact ha
  · obtain ⟨a, ha, e⟩ := List.mem_map.mp h
    cases e
  · cases e
  · cases e
theorem prose_in {n : List Nat} (h : Ln.prose n ∈ AllL) : n ∈ P5 := by
  unfold AllL at h
  simp only [List.mem_append, List.mem_map, List.mem_flatten, List.mem_range] at h
  rcases h with ((⟨a, ha, e⟩ | ⟨l, ⟨k, hk, rfl⟩, h⟩) | ⟨a, ha, e⟩) | ⟨a, ha, e⟩
  · cases e
  · obtain ⟨a, ha, e⟩ := List.mem_map.mp h
    cases e
  · cases e
  · cases e; exact ha
theorem p5_starts : ∀ t ∈ P5, startsL t [61] = false ∧ startsL t [124] = false := by decide +kernel
theorem fault_is {l : Ln} (h : l ∈ AllL) (bs : List Ln) (hs : inSec l = true → ∃ as x, bs = as ++ [x] ∧ isProse x = false) : m_fault_of [S (wr l), .list (bs.map lnD)] = .ok .none := by
  unfold m_fault_of mkFn b_fault_of
  have bar : ∀ t : List Nat, (∃ as x, bs = as ++ [x] ∧ isProse x = false) → fnOut (b_fault_of [some (S (124 :: t)), some (.list (bs.map lnD))]) = .ok .none := fun t ⟨as, x, e, hx⟩ => by
    unfold b_fault_of
    have ne : (bs.map lnD).isEmpty = false := by rw [e]; simp
    have ha : atD (.list (bs.map lnD)) (.int (-1)) = .ok (lnD x) := by
      rw [e, List.map_append]; exact at_last
    have ng : negD (.int 1) = .ok (.int (-1)) := rfl
    cases x with
    | prose t => cases hx
    | head n =>
      have h0 : atD (lnD (.head n)) (.int 0) = .ok (S [104, 101, 97, 100]) := atD_tuple (k := 0) rfl
      simp -implicitDefEqProofs [starts_hd, ng, ha, h0, ne]
    | use k n =>
      have h0 : atD (lnD (.use k n)) (.int 0) = .ok (S [117, 115, 101]) := atD_tuple (k := 0) rfl
      simp -implicitDefEqProofs [starts_hd, ng, ha, h0, ne]
    | code n =>
      have h0 : atD (lnD (.code n)) (.int 0) = .ok (S [99, 111, 100, 101]) := atD_tuple (k := 0) rfl
      simp -implicitDefEqProofs [starts_hd, ng, ha, h0, ne]
  cases l with
  | head n =>
    have hf := isNo_ok (head_fault_all n (head_in h))
    have hw : wr (.head n) = 61 :: 32 :: n := rfl
    rw [hw] at hf ⊢
    simp -implicitDefEqProofs [starts_hd, hf]
  | prose t =>
    have hp := p5_starts t (prose_in h)
    have hw : wr (.prose t) = t := rfl
    rw [hw]
    simp -implicitDefEqProofs [hp.1, hp.2]
  | code t => exact bar _ (hs rfl)
  | use k n => exact bar _ (hs rfl)
/-- what a document keeps -/
def Good (ls : List Ln) : Prop := (∀ l ∈ ls, l ∈ AllL) ∧ ∀ i l, ls[i]? = some l → inSec l = true → ∃ j x, i = j + 1 ∧ ls[j]? = some x ∧ isProse x = false
theorem enum_get {ds : List D} {i : Nat} {d : D} (h : (enumD ds)[i]? = some d) : ∃ x, ds[i]? = some x ∧ d = .tuple [.int (i : Int), x] := by
  have hi : i < ds.length := by
    have := (List.getElem?_eq_some_iff.mp h).1
    rwa [enumD_len] at this
  refine ⟨ds[i], List.getElem?_eq_getElem hi, ?_⟩
  rw [enumD_get (List.getElem?_eq_getElem hi)] at h
  exact (Option.some.inj h).symm
theorem sum_le : ∀ {ls : List (List Nat)}, (∀ l ∈ ls, l.length ≤ 20) → (ls.map List.length).sum ≤ 20 * ls.length
  | [], _ => by simp
  | l :: ls, h => by
    have := h l (by simp)
    have := sum_le (ls := ls) fun m hm => h m (by simp [hm])
    simp only [List.map_cons, List.sum_cons, List.length_cons]
    omega
theorem joinL_len : ∀ (ls : List (List Nat)), (TL.joinL [10] ls).length ≤ (ls.map List.length).sum + ls.length
  | [] => by simp [TL.joinL]
  | [p] => by simp [TL.joinL]
  | p :: q :: r => by
    have := joinL_len (q :: r)
    have e : TL.joinL [10] (p :: q :: r) = p ++ ([10] ++ TL.joinL [10] (q :: r)) := by simp [TL.joinL]
    rw [e]
    simp only [List.length_append, List.map_cons, List.sum_cons, List.length_cons, List.length_nil] at *
    omega
def txt (ls : List Ln) : List Nat := TL.joinL [10] (ls.map wr)
theorem wrs_len {ls : List Ln} (h : ∀ l ∈ ls, l ∈ AllL) (hn : ls.length ≤ 100) : ((ls.map wr).map List.length).sum ≤ 2000 := by
  have := sum_le (ls := ls.map wr) fun l hl => by
    obtain ⟨x, hx, rfl⟩ := List.mem_map.mp hl
    exact wr_len (h x hx)
  rw [List.length_map] at this
  omega
theorem compL_mapA {α : Type} {g : D → WD.Env → Option WD.Env} {t : WD.Env → Res Bool} {m : WD.Env → Res D} {ρ : WD.Env} (f h : α → D) : ∀ as : List α, (∀ a ∈ as, ∃ ρ1, g (f a) ρ = some ρ1 ∧ t ρ1 = .ok true ∧ m ρ1 = .ok (h a)) → compL g t m ρ (as.map f) = .ok (as.map h)
  | [], _ => rfl
  | a :: as, q => by
    obtain ⟨ρ1, e1, e2, e3⟩ := q a (by simp)
    have ih := compL_mapA f h as fun b hb => q b (by simp [hb])
    rw [List.map_cons]
    unfold compL
    simp only [e1, e2, e3, noErr_okR, bind_okR, if_true, ih, List.map_cons]
theorem join_is {ls : List Ln} (h : ∀ l ∈ ls, l ∈ AllL) (hn : ls.length ≤ 100) : joinD ⟨[10].toArray⟩ [.list (ls.map fun l => S (wr l))] = .ok (S (txt ls)) := by
  have e : (ls.map fun l => S (wr l)) = (ls.map wr).map S := by rw [List.map_map]; rfl
  rw [e]
  have := wrs_len h hn
  exact joinD_S (by rw [List.length_map]; simp only [List.length_cons, List.length_nil]; omega)
theorem write_is {ls : List Ln} (h : ∀ l ∈ ls, l ∈ AllL) (hn : ls.length ≤ 100) : m_write [.tuple (ls.map lnD)] = .ok (S (txt ls)) := by
  unfold m_write mkFn b_write
  have hc : compL (gSet 1) mYes (mCall m_write_line (mCons (mVar 1) mNil)) [some (.tuple (ls.map lnD)), none] (ls.map lnD) = .ok (ls.map fun l => S (wr l)) :=
    compL_mapA lnD _ ls fun l hl => ⟨_, gSet_at _ _ _, rfl, by simp -implicitDefEqProofs [write_line_is (h l hl)]⟩
  have hs : ls.length ≤ sizeLine := by rw [sl_eq]; omega
  have hj := join_is h hn
  simp -implicitDefEqProofs [hc, hs, hj]
theorem written_is {ls : List Ln} (h : ∀ l ∈ ls, l ∈ AllL) (A B : Option D) : compL (gSet 3) mYes (mCall m__law_written (mCons (mVar 3) mNil)) [A, some (.tuple (ls.map lnD)), B, none] (ls.map lnD) = .ok (ls.map fun l => S (wr l)) :=
  compL_mapA lnD _ ls fun l hl => ⟨_, gSet_at _ _ _, rfl, by simp -implicitDefEqProofs [law_written_is (h l hl)]⟩
theorem split_is {ls : List Ln} (h : ∀ l ∈ ls, l ∈ AllL) (hn : ls.length ≤ 100) (h0 : ls ≠ []) : s1D splitD ⟨(txt ls).toArray⟩ [S [10]] = .ok (.list (ls.map fun l => S (wr l))) := by
  have hl : (txt ls).length + 2 ≤ sizeLine := by
    have a := joinL_len (ls.map wr)
    have b := wrs_len h hn
    rw [List.length_map] at a
    rw [sl_eq]
    show (TL.joinL [10] (ls.map wr)).length + 2 ≤ 16777216
    omega
  have hj : (⟨(txt ls).toArray⟩ : Str) = Txt.join ⟨[10].toArray⟩ ((ls.map wr).map fun l => (⟨l.toArray⟩ : Str)) := (join_mk [10] (ls.map wr)).symm
  have hp : Txt.split ⟨(txt ls).toArray⟩ ⟨[10].toArray⟩ = (ls.map wr).map fun l => (⟨l.toArray⟩ : Str) := by
    rw [hj]
    refine TL.split_join (s := 10) (S := []) rfl (by decide +kernel) (by simpa using h0) fun p hp => ?_
    obtain ⟨l, hl, rfl⟩ := List.mem_map.mp hp
    obtain ⟨x, hx, rfl⟩ := List.mem_map.mp hl
    exact (wr_len_all x (h x hx)).2
  have hc : ((⟨[10].toArray⟩ : Str).length == 0) = false ∧ (⟨(txt ls).toArray⟩ : Str).length + 2 ≤ sizeLine := ⟨rfl, by rw [len_mk]; exact hl⟩
  simp only [s1D, splitD, if_pos hc, hp, List.map_map]
  rfl
theorem read_is {ls : List Ln} (G : Good ls) (hn : ls.length ≤ 100) (h0 : ls ≠ []) : m_read [S (txt ls)] = .ok (.tuple (ls.map lnD)) := by
  unfold m_read mkFn b_read
  have hsp := split_is G.1 hn h0
  obtain ⟨ρ', e, x2, x3, x4, x5, x6, rfl⟩ := forL_inv (fun j ρ => ∃ x2 x3 x4 x5 x6 : Option D, ρ = [some (S (txt ls)), some (.list ((ls.take j).map lnD)), x2, x3, x4, x5, x6])
    (enumD (ls.map fun l => S (wr l))) [some (S (txt ls)), some (.list []), none, none, none, none, none] 0 ⟨none, none, none, none, none, rfl⟩ (b := lb_read_0) (g := gTupD (lenG 2 (gConsD (gSet 2) (gConsD (gSet 3) gNilD)))) (fun i d ρ hd hI => by
      obtain ⟨x2, x3, x4, x5, x6, rfl⟩ := hI
      obtain ⟨y, hy, rfl⟩ := enum_get hd
      rw [List.getElem?_map] at hy
      obtain ⟨l, hl, rfl⟩ := Option.map_eq_some_iff.mp hy
      have hA : l ∈ AllL := G.1 l (List.mem_of_getElem? hl)
      have hf := fault_is hA (ls.take i) (fun hs => by
        obtain ⟨j, x, rfl, hx, hp⟩ := G.2 i l hl hs
        exact ⟨ls.take j, x, by rw [List.take_add_one, hx]; rfl, hp⟩)
      have hr := read_line_is hA
      have hlen : (ls.take i).length ≤ 100 := by rw [List.length_take]; omega
      have small : ((ls.take i).map lnD).length < sizeLine := by rw [List.length_map, sl_eq]; omega
      have hg : gTupD (lenG 2 (gConsD (gSet 2) (gConsD (gSet 3) gNilD))) (.tuple [.int (i : Int), S (wr l)]) [some (S (txt ls)), some (.list ((ls.take (0 + i)).map lnD)), x2, x3, x4, x5, x6] = some [some (S (txt ls)), some (.list ((ls.take (0 + i)).map lnD)), some (.int (i : Int)), some (S (wr l)), x4, x5, x6] := rfl
      rw [Nat.zero_add] at hg ⊢
      refine ⟨_, [some (S (txt ls)), some (.list ((ls.take i).map lnD ++ [lnD l])), some (.int (i : Int)), some (S (wr l)), some .none, x5, x6], hg, .inl ?_, some (.int (i : Int)), some (S (wr l)), some .none, x5, x6, ?_⟩
      · unfold lb_read_0
        generalize (ls.take i).map lnD = acc at hf small
        simp -implicitDefEqProofs [hf, hr, isNoneD, small]
      · rw [List.take_add_one, hl]
        simp)
  have hz : 0 + (enumD (ls.map fun l => S (wr l))).length = ls.length := by rw [enumD_len, List.length_map]; omega
  rw [hz, List.take_length] at e
  simp -implicitDefEqProofs [hsp, enumXD, e]
/-! the law's own comparison -/
theorem same_S (m : List D → Res D) (a : List Nat) : mkFn 3 (b__law_same m) [S a, S a] = .ok (.bool true) := by
  unfold mkFn b__law_same
  simp -implicitDefEqProofs [isNoneD]
theorem same_int (m : List D → Res D) (k : Int) : mkFn 3 (b__law_same m) [.int k, .int k] = .ok (.bool true) := by
  unfold mkFn b__law_same
  simp -implicitDefEqProofs [isNoneD]
theorem same_tup (m : List D → Res D) (ds : List D) (hn : ds.length ≤ 100) (h : ∀ d ∈ ds, m [d, d] = .ok (.bool true)) : mkFn 3 (b__law_same m) [.tuple ds, .tuple ds] = .ok (.bool true) := by
  unfold mkFn b__law_same
  obtain ⟨ρ', e, x, rfl⟩ := forL_inv (fun j ρ => ∃ x : Option D, ρ = [some (.tuple ds), some (.tuple ds), x]) (rngD 0 ds.length) [some (.tuple ds), some (.tuple ds), none] 0 ⟨none, rfl⟩ (b := lb__law_same_0 m) (g := gSet 2) (fun i d ρ hd hI => by
    obtain ⟨x, rfl⟩ := hI
    obtain ⟨hi, rfl⟩ := rngD_get hd
    obtain ⟨y, hy, hm⟩ := get_some hi
    have ha : atD (.tuple ds) (.int i) = .ok y := atD_tuple hy
    refine ⟨_, _, gSet_at _ _ _, .inl ?_, some (.int (0 + (i : Int))), rfl⟩
    unfold lb__law_same_0
    simp -implicitDefEqProofs [ha, h y hm])
  simp -implicitDefEqProofs [rng1D_int (show (0 : Int) ≤ (ds.length : Int) by omega) (show (ds.length : Int) < 2 ^ 62 by omega), e]
theorem same_ln (l : Ln) : m__law_same_3 [lnD l, lnD l] = .ok (.bool true) := by
  unfold m__law_same_3
  cases l <;> refine same_tup _ _ (by simp) fun d hd => ?_
  · rcases List.mem_cons.mp hd with rfl | hd
    · exact same_S _ _
    · rw [List.mem_singleton.mp hd]; exact same_S _ _
  · rcases List.mem_cons.mp hd with rfl | hd
    · exact same_S _ _
    · rcases List.mem_cons.mp hd with rfl | hd
      · exact same_int _ _
      · rw [List.mem_singleton.mp hd]; exact same_S _ _
  · rcases List.mem_cons.mp hd with rfl | hd
    · exact same_S _ _
    · rw [List.mem_singleton.mp hd]; exact same_S _ _
  · rcases List.mem_cons.mp hd with rfl | hd
    · exact same_S _ _
    · rw [List.mem_singleton.mp hd]; exact same_S _ _
theorem same_is (ls : List Ln) (hn : ls.length ≤ 100) : m__law_same_4 [.tuple (ls.map lnD), .tuple (ls.map lnD)] = .ok (.bool true) :=
  same_tup _ _ (by rw [List.length_map]; exact hn) fun d hd => by
    obtain ⟨l, _, rfl⟩ := List.mem_map.mp hd
    exact same_ln l
/-! the law's documents -/
theorem head_mem {n : List Nat} (h : n ∈ N6) : Ln.head n ∈ AllL := by
  unfold AllL
  exact List.mem_append_left _ (List.mem_append_left _ (List.mem_append_left _ (List.mem_map.mpr ⟨n, h, rfl⟩)))
theorem use_mem {k : Nat} {n : List Nat} (hk : k < 4) (h : n ∈ N6) : Ln.use k n ∈ AllL := by
  unfold AllL
  exact List.mem_append_left _ (List.mem_append_left _ (List.mem_append_right _ (List.mem_flatten.mpr ⟨_, List.mem_map.mpr ⟨k, List.mem_range.mpr hk, rfl⟩, List.mem_map.mpr ⟨n, h, rfl⟩⟩)))
theorem code_mem {n : List Nat} (h : n ∈ C10) : Ln.code n ∈ AllL := by
  unfold AllL
  exact List.mem_append_left _ (List.mem_append_right _ (List.mem_map.mpr ⟨n, h, rfl⟩))
theorem prose_mem {n : List Nat} (h : n ∈ P5) : Ln.prose n ∈ AllL := by
  unfold AllL
  exact List.mem_append_right _ (List.mem_map.mpr ⟨n, h, rfl⟩)
theorem at5 {o : Int} (h0 : 0 ≤ o) (h1 : o < 5) : ∃ n ∈ N6, atD (S [97, 98, 99, 100, 101]) (.int o) = .ok (S n) := by
  rcases (by omega : o = 0 ∨ o = 1 ∨ o = 2 ∨ o = 3 ∨ o = 4) with rfl | rfl | rfl | rfl | rfl
  · exact ⟨[97], by decide, atD_S (k := 0) (by simp) rfl⟩
  · exact ⟨[98], by decide, atD_S (k := 1) (by simp) rfl⟩
  · exact ⟨[99], by decide, atD_S (k := 2) (by simp) rfl⟩
  · exact ⟨[100], by decide, atD_S (k := 3) (by simp) rfl⟩
  · exact ⟨[101], by decide, atD_S (k := 4) (by simp) rfl⟩
theorem at6 {o : Int} (h0 : 0 ≤ o) (h1 : o < 6) : ∃ n ∈ N6, atD (S [97, 98, 99, 100, 101, 122]) (.int o) = .ok (S n) := by
  rcases (by omega : o = 0 ∨ o = 1 ∨ o = 2 ∨ o = 3 ∨ o = 4 ∨ o = 5) with rfl | rfl | rfl | rfl | rfl | rfl
  · exact ⟨[97], by decide, atD_S (k := 0) (by simp) rfl⟩
  · exact ⟨[98], by decide, atD_S (k := 1) (by simp) rfl⟩
  · exact ⟨[99], by decide, atD_S (k := 2) (by simp) rfl⟩
  · exact ⟨[100], by decide, atD_S (k := 3) (by simp) rfl⟩
  · exact ⟨[101], by decide, atD_S (k := 4) (by simp) rfl⟩
  · exact ⟨[122], by decide, atD_S (k := 5) (by simp) rfl⟩
theorem p5_at {o : Int} (h0 : 0 ≤ o) (h1 : o < 5) : ∃ t ∈ P5, atD (.list [S [], S [87, 111, 114, 100, 115, 32, 111, 102, 32, 105, 116, 46], S [32, 32, 98], S [60, 99, 62], S [97, 32, 61, 32, 98]]) (.int o) = .ok (S t) := by
  obtain ⟨k, rfl⟩ : ∃ k : Nat, o = (k : Int) := ⟨o.toNat, by omega⟩
  have hk : k < P5.length := by show k < 5; omega
  exact ⟨P5[k], List.getElem_mem hk, atD_list (xs := P5.map S) (by rw [List.getElem?_map, List.getElem?_eq_getElem hk]; rfl)⟩
theorem law_code_is (d : Int) : ∃ t ∈ C10, m__law_code [.int d] = .ok (S t) := by
  unfold m__law_code mkFn b__law_code
  obtain ⟨k, hk, hd⟩ : ∃ k : Nat, k < C10.length ∧ d % 10 = (k : Int) := ⟨(d % 10).toNat, by show (d % 10).toNat < 10; omega, by omega⟩
  have e : atD (.list [S [120], S [], S [105, 102, 32, 121, 58], S [32, 32, 122], S [32], S [120, 32, 61, 32, 49], S [60, 97], S [97, 62], S [120, 46, 121, 40, 122, 41], S [60, 97, 32, 98, 62]]) (.int k) = .ok (S C10[k]) := atD_list (xs := C10.map S) (by rw [List.getElem?_map, List.getElem?_eq_getElem hk]; rfl)
  have small : ∀ n : Nat, n ≤ 10 → n ≤ sizeLine := fun n hn => by rw [sl_eq]; omega
  refine ⟨C10[k], List.getElem_mem hk, ?_⟩
  simp -implicitDefEqProofs [modD_int, hd, small, e]
theorem cdiv4 (c : Int) : CDiv c 4 := by unfold CDiv; omega
theorem doc_turn (ns : List Int) (i : Nat) (acc : List D) (own : Int) (n : D) (x7 x8 x9 x10 : Option D) (h1 : -1 ≤ own) (h2 : own ≤ 4) (hs : acc.length < 1000) :
    ∃ (l : Ln) (own' : Int) (y7 y8 y9 y10 : Option D), lb__law_document_0 [some (.list (ns.map PyData.int)), some (.int 1), some n, some (.bool true), some (.list acc), some (.int own), some (.int i), x7, x8, x9, x10]
      = .nx [some (.list (ns.map PyData.int)), some (.int 1), some n, some (.bool true), some (.list (acc ++ [lnD l])), some (.int own'), some (.int i), y7, y8, y9, y10] ∧ l ∈ AllL ∧ -1 ≤ own' ∧ own' ≤ 4 ∧ (0 ≤ own' → isProse l = false) ∧ (inSec l = true → 0 ≤ own) := by
  have hcell : m__law_cell [.list (ns.map PyData.int), .int (1 + (i : Int))] = .ok (.int ((ns[1 + i]?).getD 0)) := by simpa using law_cell ns (1 + i)
  generalize ((ns[1 + i]?).getD 0) = c at hcell
  obtain ⟨ds, hds, hl, hpos⟩ := law_draws c 4 (by omega)
  have hds : m__law_draws [.int c, .int 4] = .ok (.list (ds.map PyData.int)) := hds
  generalize (PyData.list (ns.map PyData.int)) = sc at hcell ⊢
  obtain ⟨dd, I⟩ : ∃ dd : Nat → Int, ∀ k : Nat, k < 4 → atD (.list (List.map PyData.int ds)) (.int k) = .ok (.int (dd k)) := ⟨fun k => ds.getD k 0, fun k hk => by
    obtain ⟨x, hx, _⟩ := get_some (l := ds) (k := k) (by omega)
    rw [ints_at hx]
    show _ = Res.ok (PyData.int (ds.getD k 0))
    rw [List.getD_eq_getElem?_getD, hx]
    rfl⟩
  generalize hDD : (PyData.list (List.map PyData.int ds)) = DD at *
  have i0 : atD DD (.int 0) = .ok (.int (dd 0)) := I 0 (by omega)
  have i1 : atD DD (.int 1) = .ok (.int (dd 1)) := I 1 (by omega)
  have i2 : atD DD (.int 2) = .ok (.int (dd 2)) := I 2 (by omega)
  have i3 : atD DD (.int 3) = .ok (.int (dd 3)) := I 3 (by omega)
  have small : ∀ n : Nat, n ≤ 1001 → n ≤ sizeLine := fun n hn => by rw [sl_eq]; omega
  have small2 : acc.length < sizeLine := by rw [sl_eq]; omega
  obtain ⟨kd, hkd⟩ : ∃ kd, dd 0 % 10 = kd := ⟨_, rfl⟩
  have k0 : 0 ≤ kd := by omega
  have k9 : kd ≤ 9 := by omega
  have neg : negD (.int 1) = .ok (.int (-1)) := rfl
  unfold lb__law_document_0
  have headCase : ∀ (b : Bool), b = true → (own < 0 ∧ kd < 7 ∨ kd = 7 ∨ kd = 8) → True := fun _ _ _ => trivial
  by_cases hA : own < 0 ∧ kd < 7 ∨ kd = 7 ∨ kd = 8
  · obtain ⟨n5, hn5, ha5⟩ := at5 (o := dd 1 % 5) (by omega) (by omega)
    refine ⟨.head n5, dd 1 % 5, some DD, some (.int kd), x9, x10, ?_, head_mem hn5, by omega, by omega, fun _ => rfl, fun h => by cases h⟩
    by_cases c1 : own < 0
    · by_cases c2 : kd < 7
      · simp -implicitDefEqProofs [hcell, hds, i0, i1, i2, i3, modD_int, hkd, ltI, c1, c2, ha5, small, small2, lnD]
      · rcases hA with ⟨_, h⟩ | rfl | rfl
        · exact absurd h c2
        · simp -implicitDefEqProofs [hcell, hds, i0, i1, i2, i3, modD_int, hkd, ltI, c1, ha5, small, small2, lnD]
        · simp -implicitDefEqProofs [hcell, hds, i0, i1, i2, i3, modD_int, hkd, ltI, c1, ha5, small, small2, lnD]
    · rcases hA with ⟨h, _⟩ | rfl | rfl
      · exact absurd h c1
      · simp -implicitDefEqProofs [hcell, hds, i0, i1, i2, i3, modD_int, hkd, ltI, c1, ha5, small, small2, lnD]
      · simp -implicitDefEqProofs [hcell, hds, i0, i1, i2, i3, modD_int, hkd, ltI, c1, ha5, small, small2, lnD]
  · have nA1 : ¬ (own < 0 ∧ kd < 7) := fun h => hA (.inl h)
    have n7 : ¬ kd = 7 := fun h => hA (.inr (.inl h))
    have n8 : ¬ kd = 8 := fun h => hA (.inr (.inr h))
    by_cases h9 : kd = 9
    · subst h9
      obtain ⟨t, ht, hat⟩ := p5_at (o := dd 1 % 5) (by omega) (by omega)
      refine ⟨.prose t, -1, some DD, some (.int 9), x9, x10, ?_, prose_mem ht, by omega, by omega, fun h => by omega, fun h => by cases h⟩
      by_cases c1 : own < 0 <;> simp -implicitDefEqProofs [hcell, hds, i0, i1, i2, i3, modD_int, hkd, ltI, c1, hat, neg, small, small2, lnD]
    · have c1 : ¬ own < 0 := by omega
      by_cases hU : kd < 3 ∧ own < 4
      · obtain ⟨u1, u2⟩ := hU
        have hp : 0 < 4 - own := by omega
        have hm0 : 0 ≤ dd 2 % (4 - own) := Int.emod_nonneg _ (by omega)
        have hm1 : dd 2 % (4 - own) < 4 - own := Int.emod_lt_of_pos _ hp
        obtain ⟨n5, hn5, ha5⟩ := at5 (o := own + 1 + dd 2 % (4 - own)) (by omega) (by omega)
        obtain ⟨kk, hkk, hk4⟩ : ∃ k : Nat, dd 1 % 4 = (k : Int) ∧ k < 4 := ⟨(dd 1 % 4).toNat, by omega, by omega⟩
        by_cases h3 : dd 3 % 4 = 0
        · obtain ⟨n6, hn6, ha6⟩ := at6 (o := dd 3 / 4 % 6) (by omega) (by omega)
          refine ⟨.use kk n6, own, some DD, some (.int kd), some (.int (own + 1 + dd 2 % (4 - own))), some (S n6), ?_, use_mem hk4 hn6, by omega, by omega, fun _ => rfl, fun _ => by omega⟩
          simp -implicitDefEqProofs [hcell, hds, i0, i1, i2, i3, modD_int, fdivD_int (cdiv4 _), modD_int hp, hkd, ltI, c1, n7, n8, h9, u1, u2, h3, ha5, ha6, hkk, small, small2, lnD]
        · refine ⟨.use kk n5, own, some DD, some (.int kd), some (.int (own + 1 + dd 2 % (4 - own))), some (S n5), ?_, use_mem hk4 hn5, by omega, by omega, fun _ => rfl, fun _ => by omega⟩
          simp -implicitDefEqProofs [hcell, hds, i0, i1, i2, i3, modD_int, fdivD_int (cdiv4 _), modD_int hp, hkd, ltI, c1, n7, n8, h9, u1, u2, h3, ha5, hkk, small, small2, lnD]
      · obtain ⟨t, ht, hat⟩ := law_code_is (dd 2)
        refine ⟨.code t, own, some DD, some (.int kd), x9, x10, ?_, code_mem ht, by omega, by omega, fun _ => rfl, fun _ => by omega⟩
        by_cases u1 : kd < 3
        · have u2 : ¬ own < 4 := fun h => hU ⟨u1, h⟩
          simp -implicitDefEqProofs [hcell, hds, i0, i1, i2, i3, modD_int, hkd, ltI, c1, n7, n8, h9, u1, u2, hat, small, small2, lnD]
        · simp -implicitDefEqProofs [hcell, hds, i0, i1, i2, i3, modD_int, hkd, ltI, c1, n7, n8, h9, u1, hat, small, small2, lnD]
theorem good_snoc {ls : List Ln} {l : Ln} (G : Good ls) (h : l ∈ AllL) (hs : inSec l = true → ∃ as x, ls = as ++ [x] ∧ isProse x = false) : Good (ls ++ [l]) := by
  refine ⟨fun x hx => ?_, fun i x hx hi => ?_⟩
  · rcases List.mem_append.mp hx with hx | hx
    · exact G.1 x hx
    · rw [List.mem_singleton.mp hx]; exact h
  · by_cases q : i < ls.length
    · rw [List.getElem?_append_left q] at hx
      obtain ⟨j, y, rfl, hy, hp⟩ := G.2 i x hx hi
      exact ⟨j, y, rfl, by rw [List.getElem?_append_left (by omega)]; exact hy, hp⟩
    · have hlt := (List.getElem?_eq_some_iff.mp hx).1
      rw [List.length_append, List.length_singleton] at hlt
      have e : i = ls.length := by omega
      subst e
      rw [List.getElem?_append_right (by omega)] at hx
      simp at hx
      subst hx
      obtain ⟨as, y, rfl, hp⟩ := hs hi
      exact ⟨as.length, y, by simp, by simp, hp⟩
theorem doc_is (ns : List Int) (n : Nat) (hn : n ≤ 100) : ∃ ls : List Ln, m__law_document [.list (ns.map PyData.int), .int 1, .int n, .bool true] = .ok (.tuple (ls.map lnD)) ∧ ls.length = n ∧ Good ls := by
  unfold m__law_document mkFn b__law_document
  have neg : negD (.int 1) = .ok (.int (-1)) := rfl
  obtain ⟨ρ', e, ls, own, x6, x7, x8, x9, x10, rfl, hl, G, -⟩ := forL_inv (fun j ρ => ∃ (ls : List Ln) (own : Int) (x6 x7 x8 x9 x10 : Option D), ρ = [some (.list (ns.map PyData.int)), some (.int 1), some (.int n), some (.bool true), some (.list (ls.map lnD)), some (.int own), x6, x7, x8, x9, x10] ∧ ls.length = j ∧ Good ls ∧ -1 ≤ own ∧ own ≤ 4 ∧ (0 ≤ own → ∃ as x, ls = as ++ [x] ∧ isProse x = false))
    (rngD 0 n) [some (.list (ns.map PyData.int)), some (.int 1), some (.int n), some (.bool true), some (.list []), some (.int (-1)), none, none, none, none, none] 0
    ⟨[], -1, none, none, none, none, none, rfl, rfl, ⟨by simp, by simp⟩, by omega, by omega, by omega⟩ (b := lb__law_document_0) (g := gSet 6) (fun i d ρ hd hI => by
      obtain ⟨ls, own, x6, x7, x8, x9, x10, rfl, hl, G, o1, o2, ho⟩ := hI
      obtain ⟨hi, rfl⟩ := rngD_get hd
      obtain ⟨l, own', y7, y8, y9, y10, e, hA, p1, p2, p3, p4⟩ := doc_turn ns i (ls.map lnD) own (.int n) x7 x8 x9 x10 o1 o2 (by rw [List.length_map]; omega)
      refine ⟨_, _, gSet_at _ _ _, .inl (by simpa using e), ls ++ [l], own', some (.int i), y7, y8, y9, y10, by simp, by simp [hl], good_snoc G hA fun h => ho (p4 h), p1, p2, fun h => ⟨ls, l, rfl, p3 h⟩⟩)
  refine ⟨ls, ?_, by simpa [rngD_len] using hl, G⟩
  simp -implicitDefEqProofs [neg, rng1D_int (show (0 : Int) ≤ (n : Int) by omega) (show (n : Int) < 2 ^ 62 by omega), e]
theorem law_true (ns : List Int) (h : ns.length ≤ 63) : m_law [.list (ns.map PyData.int)] = .ok (.bool true) := by
  unfold m_law mkFn b_law
  have c0 : m__law_cell [.list (ns.map PyData.int), .int 0] = .ok (.int ((ns[0]?).getD 0)) := law_cell ns 0
  obtain ⟨n, hn, hn2⟩ : ∃ n : Nat, (1 : Int) + ((ns[0]?).getD 0) % 61 = (n : Int) ∧ 1 ≤ n ∧ n ≤ 61 := ⟨((1 : Int) + ((ns[0]?).getD 0) % 61).toNat, by omega, by omega⟩
  obtain ⟨ls, hd, hl, G⟩ := doc_is ns n (by omega)
  have ne : ls ≠ [] := fun e => by rw [e] at hl; simp at hl; omega
  have e1 := write_is G.1 (by omega)
  have e2 := written_is G.1 (some (.list (ns.map PyData.int))) (some (S (txt ls)))
  have e3 := join_is G.1 (by omega)
  have e4 := read_is G (by omega) ne
  have e5 : m__law_same [.tuple (ls.map lnD), .tuple (ls.map lnD)] = .ok (.bool true) := same_is ls (by omega)
  have hs : ls.length ≤ sizeLine := by rw [sl_eq]; omega
  simp -implicitDefEqProofs [c0, modD_int, hn, hd, e1, e2, e3, e4, e5, hs]
theorem law_sp {K : PySem.W.Frag} {mg : Mg} {vs : List V} {H : Hp} {Q : VK} {E : XK} (h : spLaw K vs H Q E) : spM mg K 1 m_law vs H Q E := law_spM law_true h
theorem all_mk {l : PySem.W.OpenLaw} {w : World} {K : PySem.W.Frag} {h : Heap} {mg : Str → Option Value} {fa : Addr} (X : K.In h) (G : h.Ns mainGlobals mg) (hfa : mg "law" = some (.ref fa))
    {f1 f2 f3 f4 f5 f6 f7 f8 f9 f10 f11 f12 f13 f14 f15 : Addr} {od1 an1 od2 an2 od3 an3 od4 an4 od5 an5 od6 an6 od7 an7 od8 an8 od9 an9 od10 an10 od11 an11 od12 an12 od13 an13 od14 an14 od15 an15 : Option Addr} {sl1 sl2 sl3 sl4 sl5 sl6 sl7 sl8 sl9 sl10 sl11 sl12 sl13 sl14 sl15 : Array (Option Value)} {oc1 kV1 dc1 pm1 cd1 ct1 oc2 kV2 dc2 pm2 cd2 ct2 oc3 kV3 dc3 pm3 cd3 ct3 oc4 kV4 dc4 pm4 cd4 ct4 oc5 kV5 dc5 pm5 cd5 ct5 oc6 kV6 dc6 pm6 cd6 ct6 oc7 kV7 dc7 pm7 cd7 ct7 oc8 kV8 dc8 pm8 cd8 ct8 oc9 kV9 dc9 pm9 cd9 ct9 oc10 kV10 dc10 pm10 cd10 ct10 oc11 kV11 dc11 pm11 cd11 ct11 oc12 kV12 dc12 pm12 cd12 ct12 oc13 kV13 dc13 pm13 cd13 ct13 oc14 kV14 dc14 pm14 cd14 ct14 oc15 kV15 dc15 pm15 cd15 ct15 : Value}
    (a1 : PySem.W.nsIn K mainGlobals "head_fault" = some (some (.ref f1))) (l1 : K.lookup f1 = some ⟨oc1, od1, .func (PySem.W.fnOf "head_fault" "head_fault" (defArgs s_head_fault) (defBody s_head_fault) (defScope s_head_fault) .none kV1 dc1 pm1 an1 cd1 ct1), sl1⟩) (q1 : PySem.W.codeIn K cd1 "head_fault" = true) (k1 : PySem.W.keepIn K (.ref f1) = true)
    (a2 : PySem.W.nsIn K mainGlobals "write_line" = some (some (.ref f2))) (l2 : K.lookup f2 = some ⟨oc2, od2, .func (PySem.W.fnOf "write_line" "write_line" (defArgs s_write_line) (defBody s_write_line) (defScope s_write_line) .none kV2 dc2 pm2 an2 cd2 ct2), sl2⟩) (q2 : PySem.W.codeIn K cd2 "write_line" = true) (k2 : PySem.W.keepIn K (.ref f2) = true)
    (a3 : PySem.W.nsIn K mainGlobals "is_name" = some (some (.ref f3))) (l3 : K.lookup f3 = some ⟨oc3, od3, .func (PySem.W.fnOf "is_name" "is_name" (defArgs s_is_name) (defBody s_is_name) (defScope s_is_name) .none kV3 dc3 pm3 an3 cd3 ct3), sl3⟩) (q3 : PySem.W.codeIn K cd3 "is_name" = true) (k3 : PySem.W.keepIn K (.ref f3) = true)
    (a4 : PySem.W.nsIn K mainGlobals "_law_cell" = some (some (.ref f4))) (l4 : K.lookup f4 = some ⟨oc4, od4, .func (PySem.W.fnOf "_law_cell" "_law_cell" (defArgs s__law_cell) (defBody s__law_cell) (defScope s__law_cell) .none kV4 dc4 pm4 an4 cd4 ct4), sl4⟩) (q4 : PySem.W.codeIn K cd4 "_law_cell" = true) (k4 : PySem.W.keepIn K (.ref f4) = true)
    (a5 : PySem.W.nsIn K mainGlobals "_law_draws" = some (some (.ref f5))) (l5 : K.lookup f5 = some ⟨oc5, od5, .func (PySem.W.fnOf "_law_draws" "_law_draws" (defArgs s__law_draws) (defBody s__law_draws) (defScope s__law_draws) .none kV5 dc5 pm5 an5 cd5 ct5), sl5⟩) (q5 : PySem.W.codeIn K cd5 "_law_draws" = true) (k5 : PySem.W.keepIn K (.ref f5) = true)
    (a6 : PySem.W.nsIn K mainGlobals "_law_code" = some (some (.ref f6))) (l6 : K.lookup f6 = some ⟨oc6, od6, .func (PySem.W.fnOf "_law_code" "_law_code" (defArgs s__law_code) (defBody s__law_code) (defScope s__law_code) .none kV6 dc6 pm6 an6 cd6 ct6), sl6⟩) (q6 : PySem.W.codeIn K cd6 "_law_code" = true) (k6 : PySem.W.keepIn K (.ref f6) = true)
    (a7 : PySem.W.nsIn K mainGlobals "_law_written" = some (some (.ref f7))) (l7 : K.lookup f7 = some ⟨oc7, od7, .func (PySem.W.fnOf "_law_written" "_law_written" (defArgs s__law_written) (defBody s__law_written) (defScope s__law_written) .none kV7 dc7 pm7 an7 cd7 ct7), sl7⟩) (q7 : PySem.W.codeIn K cd7 "_law_written" = true) (k7 : PySem.W.keepIn K (.ref f7) = true)
    (a8 : PySem.W.nsIn K mainGlobals "fault_of" = some (some (.ref f8))) (l8 : K.lookup f8 = some ⟨oc8, od8, .func (PySem.W.fnOf "fault_of" "fault_of" (defArgs s_fault_of) (defBody s_fault_of) (defScope s_fault_of) .none kV8 dc8 pm8 an8 cd8 ct8), sl8⟩) (q8 : PySem.W.codeIn K cd8 "fault_of" = true) (k8 : PySem.W.keepIn K (.ref f8) = true)
    (a9 : PySem.W.nsIn K mainGlobals "read_rest" = some (some (.ref f9))) (l9 : K.lookup f9 = some ⟨oc9, od9, .func (PySem.W.fnOf "read_rest" "read_rest" (defArgs s_read_rest) (defBody s_read_rest) (defScope s_read_rest) .none kV9 dc9 pm9 an9 cd9 ct9), sl9⟩) (q9 : PySem.W.codeIn K cd9 "read_rest" = true) (k9 : PySem.W.keepIn K (.ref f9) = true)
    (a10 : PySem.W.nsIn K mainGlobals "write" = some (some (.ref f10))) (l10 : K.lookup f10 = some ⟨oc10, od10, .func (PySem.W.fnOf "write" "write" (defArgs s_write) (defBody s_write) (defScope s_write) .none kV10 dc10 pm10 an10 cd10 ct10), sl10⟩) (q10 : PySem.W.codeIn K cd10 "write" = true) (k10 : PySem.W.keepIn K (.ref f10) = true)
    (a11 : PySem.W.nsIn K mainGlobals "_law_document" = some (some (.ref f11))) (l11 : K.lookup f11 = some ⟨oc11, od11, .func (PySem.W.fnOf "_law_document" "_law_document" (defArgs s__law_document) (defBody s__law_document) (defScope s__law_document) .none kV11 dc11 pm11 an11 cd11 ct11), sl11⟩) (q11 : PySem.W.codeIn K cd11 "_law_document" = true) (k11 : PySem.W.keepIn K (.ref f11) = true)
    (a12 : PySem.W.nsIn K mainGlobals "read_line" = some (some (.ref f12))) (l12 : K.lookup f12 = some ⟨oc12, od12, .func (PySem.W.fnOf "read_line" "read_line" (defArgs s_read_line) (defBody s_read_line) (defScope s_read_line) .none kV12 dc12 pm12 an12 cd12 ct12), sl12⟩) (q12 : PySem.W.codeIn K cd12 "read_line" = true) (k12 : PySem.W.keepIn K (.ref f12) = true)
    (a13 : PySem.W.nsIn K mainGlobals "read" = some (some (.ref f13))) (l13 : K.lookup f13 = some ⟨oc13, od13, .func (PySem.W.fnOf "read" "read" (defArgs s_read) (defBody s_read) (defScope s_read) .none kV13 dc13 pm13 an13 cd13 ct13), sl13⟩) (q13 : PySem.W.codeIn K cd13 "read" = true) (k13 : PySem.W.keepIn K (.ref f13) = true)
    (a14 : PySem.W.nsIn K mainGlobals "_law_same" = some (some (.ref f14))) (l14 : K.lookup f14 = some ⟨oc14, od14, .func (PySem.W.fnOf "_law_same" "_law_same" (defArgs s__law_same) (defBody s__law_same) (defScope s__law_same) .none kV14 dc14 pm14 an14 cd14 ct14), sl14⟩) (q14 : PySem.W.codeIn K cd14 "_law_same" = true) (k14 : PySem.W.keepIn K (.ref f14) = true)
    (a15 : PySem.W.nsIn K mainGlobals "law" = some (some (.ref f15))) (l15 : K.lookup f15 = some ⟨oc15, od15, .func (PySem.W.fnOf "law" "law" (defArgs s_law) (defBody s_law) (defScope s_law) .none kV15 dc15 pm15 an15 cd15 ct15), sl15⟩) (q15 : PySem.W.codeIn K cd15 "law" = true) (k15 : PySem.W.keepIn K (.ref f15) = true)
    (z1 : PySem.W.nsIn K mainGlobals "all" = some none)
    (z2 : PySem.W.nsIn K mainGlobals "bool" = some none)
    (z3 : PySem.W.nsIn K mainGlobals "enumerate" = some none)
    (z4 : PySem.W.nsIn K mainGlobals "int" = some none)
    (z5 : PySem.W.nsIn K mainGlobals "isinstance" = some none)
    (z6 : PySem.W.nsIn K mainGlobals "len" = some none)
    (z7 : PySem.W.nsIn K mainGlobals "range" = some none)
    (z8 : PySem.W.nsIn K mainGlobals "str" = some none)
    (z9 : PySem.W.nsIn K mainGlobals "tuple" = some none)
    {tk1 : Tok} (g1 : PySem.W.nsIn K mainGlobals "LONGEST_NAME" = some (some (.int 20 tk1)))
    {tk2 : Tok} (g2 : PySem.W.nsIn K mainGlobals "NAME_SIGNS" = some (some (.str "abcdefghijklmnopqrstuvwxyzABCDEFGHIJKLMNOPQRSTUVWXYZ0123456789_.-" tk2)))
    : ∃ fd : FuncData, (∀ (s : Shared) (v : Value), BindsTo s fd ⟨[v], []⟩ [("script", v)]) ∧ ∀ base : Heap, K.In base → base.Ns mainGlobals mg → FnOk l.prog w K mg base (L2.CX l.prog w) 5 fa fd ["script"] (spLaw K) := by
  have e := hfa.symm.trans (PySem.W.mg_of X G a15)
  cases e
  have T : Txt K mg := ⟨PySem.W.mg_none_of X G z1, PySem.W.mg_none_of X G z2, PySem.W.mg_none_of X G z3, PySem.W.mg_none_of X G z4, PySem.W.mg_none_of X G z5, PySem.W.mg_none_of X G z6, PySem.W.mg_none_of X G z7, PySem.W.mg_none_of X G z8, PySem.W.mg_none_of X G z9, ⟨⟨V.int 20, _, PySem.W.mg_of X G g1, ⟨_, rfl⟩, fun _ => .int _⟩⟩, ⟨⟨V.str ⟨([97, 98, 99, 100, 101, 102, 103, 104, 105, 106, 107, 108, 109, 110, 111, 112, 113, 114, 115, 116, 117, 118, 119, 120, 121, 122, 65, 66, 67, 68, 69, 70, 71, 72, 73, 74, 75, 76, 77, 78, 79, 80, 81, 82, 83, 84, 85, 86, 87, 88, 89, 90, 48, 49, 50, 51, 52, 53, 54, 55, 56, 57, 95, 46, 45] : List Nat).toArray⟩, _, PySem.W.mg_of X G g2, rel_strS [97, 98, 99, 100, 101, 102, 103, 104, 105, 106, 107, 108, 109, 110, 111, 112, 113, 114, 115, 116, 117, 118, 119, 120, 121, 122, 65, 66, 67, 68, 69, 70, 71, 72, 73, 74, 75, 76, 77, 78, 79, 80, 81, 82, 83, 84, 85, 86, 87, 88, 89, 90, 48, 49, 50, 51, 52, 53, 54, 55, 56, 57, 95, 46, 45] (by decide +kernel), fun _ => .str _ (by decide +kernel)⟩⟩⟩
  have F1 := fun_mk (st := s_head_fault) l1 q1 k1
  have F2 := fun_mk (st := s_write_line) l2 q2 k2
  have F3 := fun_mk (st := s_is_name) l3 q3 k3
  have F4 := fun_mk (st := s__law_cell) l4 q4 k4
  have F5 := fun_mk (st := s__law_draws) l5 q5 k5
  have F6 := fun_mk (st := s__law_code) l6 q6 k6
  have F7 := fun_mk (st := s__law_written) l7 q7 k7
  have F8 := fun_mk (st := s_fault_of) l8 q8 k8
  have F9 := fun_mk (st := s_read_rest) l9 q9 k9
  have F10 := fun_mk (st := s_write) l10 q10 k10
  have F11 := fun_mk (st := s__law_document) l11 q11 k11
  have F12 := fun_mk (st := s_read_line) l12 q12 k12
  have F13 := fun_mk (st := s_read) l13 q13 k13
  have F14 := fun_mk (st := s__law_same) l14 q14 k14
  have F15 := fun_mk (st := s_law) l15 q15 k15
  refine ⟨PySem.W.fnOf "law" "law" (defArgs s_law) (defBody s_law) (defScope s_law) .none kV15 dc15 pm15 an15 cd15 ct15, fun s v => .of_eq rfl, fun base _ _ => ?_⟩
  have G_head_fault : Fn l.prog w K mg base 1 "head_fault" ["written"] m_head_fault := ⟨⟨f1, _, PySem.W.mg_of X G a1, k1, F1.binds (ps := ["written"]) (fun _ _ _ _ _ _ us hl => match us, hl with | [_], _ => rfl), ok_head_fault F1 T ⟩⟩
  have G_write_line : Fn l.prog w K mg base 1 "write_line" ["line"] m_write_line := ⟨⟨f2, _, PySem.W.mg_of X G a2, k2, F2.binds (ps := ["line"]) (fun _ _ _ _ _ _ us hl => match us, hl with | [_], _ => rfl), ok_write_line F2 T ⟩⟩
  have G_is_name : Fn l.prog w K mg base 1 "is_name" ["text"] m_is_name := ⟨⟨f3, _, PySem.W.mg_of X G a3, k3, F3.binds (ps := ["text"]) (fun _ _ _ _ _ _ us hl => match us, hl with | [_], _ => rfl), ok_is_name F3 T ⟩⟩
  have G__law_cell : Fn l.prog w K mg base 1 "_law_cell" ["script", "k"] m__law_cell := ⟨⟨f4, _, PySem.W.mg_of X G a4, k4, F4.binds (ps := ["script", "k"]) (fun _ _ _ _ _ _ us hl => match us, hl with | [_, _], _ => rfl), ok__law_cell F4 T ⟩⟩
  have G__law_draws : Fn l.prog w K mg base 1 "_law_draws" ["cell", "count"] m__law_draws := ⟨⟨f5, _, PySem.W.mg_of X G a5, k5, F5.binds (ps := ["cell", "count"]) (fun _ _ _ _ _ _ us hl => match us, hl with | [_, _], _ => rfl), ok__law_draws F5 T ⟩⟩
  have G__law_code : Fn l.prog w K mg base 1 "_law_code" ["draw"] m__law_code := ⟨⟨f6, _, PySem.W.mg_of X G a6, k6, F6.binds (ps := ["draw"]) (fun _ _ _ _ _ _ us hl => match us, hl with | [_], _ => rfl), ok__law_code F6 T ⟩⟩
  have G__law_written : Fn l.prog w K mg base 1 "_law_written" ["line"] m__law_written := ⟨⟨f7, _, PySem.W.mg_of X G a7, k7, F7.binds (ps := ["line"]) (fun _ _ _ _ _ _ us hl => match us, hl with | [_], _ => rfl), ok__law_written F7 T ⟩⟩
  have G_fault_of : FnB l.prog w K mg base 2 "fault_of" ["written", "before"] [.im, .bw] m_fault_of := ⟨⟨f8, _, PySem.W.mg_of X G a8, k8, F8.binds (ps := ["written", "before"]) (fun _ _ _ _ _ _ us hl => match us, hl with | [_, _], _ => rfl), ok_fault_of F8 T G_head_fault⟩⟩
  have G_read_rest : Fn l.prog w K mg base 2 "read_rest" ["rest"] m_read_rest := ⟨⟨f9, _, PySem.W.mg_of X G a9, k9, F9.binds (ps := ["rest"]) (fun _ _ _ _ _ _ us hl => match us, hl with | [_], _ => rfl), ok_read_rest F9 T G_is_name⟩⟩
  have G_write : Fn l.prog w K mg base 2 "write" ["document"] m_write := ⟨⟨f10, _, PySem.W.mg_of X G a10, k10, F10.binds (ps := ["document"]) (fun _ _ _ _ _ _ us hl => match us, hl with | [_], _ => rfl), ok_write F10 T G_write_line⟩⟩
  have G__law_document : Fn l.prog w K mg base 2 "_law_document" ["script", "start", "many", "loose"] m__law_document := ⟨⟨f11, _, PySem.W.mg_of X G a11, k11, F11.binds (ps := ["script", "start", "many", "loose"]) (fun _ _ _ _ _ _ us hl => match us, hl with | [_, _, _, _], _ => rfl), ok__law_document F11 T G__law_draws G__law_cell G__law_code⟩⟩
  have G_read_line : Fn l.prog w K mg base 3 "read_line" ["written"] m_read_line := ⟨⟨f12, _, PySem.W.mg_of X G a12, k12, F12.binds (ps := ["written"]) (fun _ _ _ _ _ _ us hl => match us, hl with | [_], _ => rfl), ok_read_line F12 T G_read_rest⟩⟩
  have G_read : Fn l.prog w K mg base 4 "read" ["text"] m_read := ⟨⟨f13, _, PySem.W.mg_of X G a13, k13, F13.binds (ps := ["text"]) (fun _ _ _ _ _ _ us hl => match us, hl with | [_], _ => rfl), ok_read F13 T G_fault_of G_read_line⟩⟩
  have R0 : Fn l.prog w K mg base 0 "_law_same" ["actual", "expected"] m__law_same_0 := ⟨⟨f14, _, PySem.W.mg_of X G a14, k14, F14.binds (ps := ["actual", "expected"]) (fun _ _ _ _ _ _ us hl => match us, hl with | [_, _], _ => rfl), fn_stuck 0⟩⟩
  have R1 : Fn l.prog w K mg base 1 "_law_same" ["actual", "expected"] m__law_same_1 := ⟨⟨f14, _, PySem.W.mg_of X G a14, k14, F14.binds (ps := ["actual", "expected"]) (fun _ _ _ _ _ _ us hl => match us, hl with | [_, _], _ => rfl), ok__law_same (by decide) F14 T R0⟩⟩
  have R2 : Fn l.prog w K mg base 2 "_law_same" ["actual", "expected"] m__law_same_2 := ⟨⟨f14, _, PySem.W.mg_of X G a14, k14, F14.binds (ps := ["actual", "expected"]) (fun _ _ _ _ _ _ us hl => match us, hl with | [_, _], _ => rfl), ok__law_same (by decide) F14 T R1⟩⟩
  have R3 : Fn l.prog w K mg base 3 "_law_same" ["actual", "expected"] m__law_same_3 := ⟨⟨f14, _, PySem.W.mg_of X G a14, k14, F14.binds (ps := ["actual", "expected"]) (fun _ _ _ _ _ _ us hl => match us, hl with | [_, _], _ => rfl), ok__law_same (by decide) F14 T R2⟩⟩
  have R4 : Fn l.prog w K mg base 4 "_law_same" ["actual", "expected"] m__law_same_4 := ⟨⟨f14, _, PySem.W.mg_of X G a14, k14, F14.binds (ps := ["actual", "expected"]) (fun _ _ _ _ _ _ us hl => match us, hl with | [_, _], _ => rfl), ok__law_same (by decide) F14 T R3⟩⟩
  have G__law_same := R4
  exact (ok_law F15 T G__law_document G_write G__law_same G_read G__law_cell G__law_written).imp fun vs H Q E hs => law_sp hs
end WK
open PySem PySem.W PyProof.Rows
set_option maxHeartbeats 0 in
theorem PySem.Challenge.cw_weft_k01_write_and_read_holds : PySem.Challenge.rw_weft_k01_write_and_read.Holds := by
  w_on; o_law; k_head; (case hw => w_witness2)
  k_fill
  refine L2.walk_of (l := PySem.Challenge.rw_weft_k01_write_and_read) (n := 63) (k := 5) (x := "script") (CX := fun w => L2.CX (PySem.Challenge.rw_weft_k01_write_and_read).prog w) (sp := fun w => WD.spLaw _) rfl (by decide) rfl ⟨rfl, by decide, by decide⟩ (fun w h Y => PySem.W.kIn_of Y) ?F (fun _ _ a ns hl _ hS => ⟨a, ns, rfl, hS, hl, fun _ => rfl⟩) (fun _ _ _ _ _ h => WD.no_cx h)
  case F =>
    intro w mg fa h KX G hmg
    refine' WK.all_mk KX G hmg ?a1 ?l1 ?q1 ?k1 ?a2 ?l2 ?q2 ?k2 ?a3 ?l3 ?q3 ?k3 ?a4 ?l4 ?q4 ?k4 ?a5 ?l5 ?q5 ?k5 ?a6 ?l6 ?q6 ?k6 ?a7 ?l7 ?q7 ?k7 ?a8 ?l8 ?q8 ?k8 ?a9 ?l9 ?q9 ?k9 ?a10 ?l10 ?q10 ?k10 ?a11 ?l11 ?q11 ?k11 ?a12 ?l12 ?q12 ?k12 ?a13 ?l13 ?q13 ?k13 ?a14 ?l14 ?q14 ?k14 ?a15 ?l15 ?q15 ?k15 ?z1 ?z2 ?z3 ?z4 ?z5 ?z6 ?z7 ?z8 ?z9 ?g1 ?g2
    (case a1 => k_is); (case l1 => k_is); (case q1 => k_is); (case k1 => k_is); (case a2 => k_is); (case l2 => k_is); (case q2 => k_is); (case k2 => k_is)
    (case a3 => k_is); (case l3 => k_is); (case q3 => k_is); (case k3 => k_is); (case a4 => k_is); (case l4 => k_is); (case q4 => k_is); (case k4 => k_is)
    (case a5 => k_is); (case l5 => k_is); (case q5 => k_is); (case k5 => k_is); (case a6 => k_is); (case l6 => k_is); (case q6 => k_is); (case k6 => k_is)
    (case a7 => k_is); (case l7 => k_is); (case q7 => k_is); (case k7 => k_is); (case a8 => k_is); (case l8 => k_is); (case q8 => k_is); (case k8 => k_is)
    (case a9 => k_is); (case l9 => k_is); (case q9 => k_is); (case k9 => k_is); (case a10 => k_is); (case l10 => k_is); (case q10 => k_is); (case k10 => k_is)
    (case a11 => k_is); (case l11 => k_is); (case q11 => k_is); (case k11 => k_is); (case a12 => k_is); (case l12 => k_is); (case q12 => k_is); (case k12 => k_is)
    (case a13 => k_is); (case l13 => k_is); (case q13 => k_is); (case k13 => k_is); (case a14 => k_is); (case l14 => k_is); (case q14 => k_is); (case k14 => k_is)
    (case a15 => k_is); (case l15 => k_is); (case q15 => k_is); (case k15 => k_is); (case z1 => k_is); (case z2 => k_is); (case z3 => k_is); (case z4 => k_is)
    (case z5 => k_is); (case z6 => k_is); (case z7 => k_is); (case z8 => k_is); (case z9 => k_is); (case g1 => k_is); (case g2 => k_is)
namespace WK
/-! levels: head_fault=1 write_line=1 is_name=1 _law_cell=1 _law_draws=1 _law_code=1 _law_written=1 fault_of=2 read_rest=2 write=2 _law_document=2 read_line=3 read=4 _law_same=4 law=5 -/
end WK
