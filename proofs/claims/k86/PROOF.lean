import PyProof.Rows.All
import Wide.All
import OpenK.AllK
import Wide.FinOn
import HandS.ForMost
import HandS.ForExc
import HandS.Flow
import HandS.FStr
import HandS.StrMore
import HandS.Style
import HandS.IsInst
import HandS.Walk
import HandS.Zip
import HandS.Rev
import HandS.Evl
import HandS.ExcCtx
import PyProof.AutoSeq1
import HandS.TupAny
import KE.GoesEnum
import HandS.MapJoin
import HandS.ExcInit
import HandS.ExcField
import HandS.TryMany
import KE.KExcIs
import HandS.SetKeys
import HandS.DictComp
import HandS.ExcIs
import HandS.Conv
import HandS.Iter
import PyProof.SliceList
import PyProof.DelItemList
import HandS.More
import KE.GoesZip
import KE.GoesMore
import HandS.Deep
import KE.GoesEnumKw
import KE.DataMinMax
import PyProof.P3Eq
import HandS.SortKw
import HandS.SuiteRaise
import HandS.RaiseFrom
import HandS.ExcInitHot
import KE.IntTextText
import HandS.HotCalls
import KE.GoesRaise
import PyProof.Rows.StrMeet
import PySem.Challenge.RW_weft_k86_woven_positions
set_option Elab.async false
set_option linter.all false
set_option maxRecDepth 100000
set_option maxHeartbeats 4000000
/-! The data layer: what a body does, said over plain data. -/
namespace WD
open PySem PySem.Spec PyProof.Rows L2
open Evl (Ex Ex.refl Ex.trans Ex.new Ex.mut ex_l ex_t fresh_back)

abbrev D := PyData
abbrev Frag := PySem.W.Frag
structure Exn where
  cls : Str
  fs : List (Str × D)
inductive Res (α : Type) where
  | ok (a : α) | err (x : Exn) | stk
namespace Res
def bind {α β : Type} : Res α → (α → Res β) → Res β
  | .ok a, f => f a
  | .err x, _ => .err x
  | .stk, _ => .stk
def sat {α : Type} (P : α → Prop) (R : Exn → Prop) : Res α → Prop
  | .ok a => P a
  | .err x => R x
  | .stk => False
theorem sat_bind {α β : Type} {P : β → Prop} {R : Exn → Prop} {m : Res α} {f : α → Res β} (h : (m.bind f).sat P R) : m.sat (fun a => (f a).sat P R) R := by
  cases m <;> exact h
theorem sat_imp {α : Type} {P P' : α → Prop} {R R' : Exn → Prop} {m : Res α} (h : m.sat P R) (hp : ∀ a, m = .ok a → P a → P' a) (hr : ∀ x, R x → R' x) : m.sat P' R' := by
  cases m with
  | ok a => exact hp a rfl h
  | err x => exact hr x h
  | stk => exact h
end Res
def ofO {α : Type} : Option α → Res α
  | some a => .ok a
  | none => .stk
theorem ofO_sat {α : Type} {P : α → Prop} {R : Exn → Prop} {o : Option α} (h : (ofO o).sat P R) : ∃ a, o = some a ∧ P a := by
  cases o with
  | none => exact h.elim
  | some a => exact ⟨a, rfl, h⟩
abbrev Env := List (Option D)

/-! ### values that stand for data -/
abbrev OkS (x : Str) : Prop := PyData.strOk x = true
def KeyOk : Key → Prop
  | .inl _ => True
  | .inr x => OkS x
def keyD : Key → D
  | .inl i => .int i
  | .inr x => .str x
mutual
inductive Rp (K : Frag) (F : Hp) : V → D → Prop
  | non : Rp K F .non .none
  | bl (b : Bool) : Rp K F (.bl b) (.bool b)
  | int (i : Int) : Rp K F (.int i) (.int i)
  | str (x : Str) (h : OkS x) : Rp K F (.str x) (.str x)
  | lst {a : Addr} {xs : List V} {ds : List D} : SqL K F a xs → RpA K F xs ds → Rp K F (.ref a) (.list ds)
  | tup {a : Addr} {xs : List V} {ds : List D} : SqT K F a xs → RpA K F xs ds → Rp K F (.ref a) (.tuple ds)
  | dct {a : Addr} {kvs : List (Key × V)} {ds : List (D × D)} : Rd F a (.dK kvs) → RpK K F kvs ds → Rp K F (.ref a) (.dict ds)
inductive RpA (K : Frag) (F : Hp) : List V → List D → Prop
  | nil : RpA K F [] []
  | cons {v : V} {vs : List V} {d : D} {ds : List D} : Rp K F v d → RpA K F vs ds → RpA K F (v :: vs) (d :: ds)
inductive RpK (K : Frag) (F : Hp) : List (Key × V) → List (D × D) → Prop
  | nil : RpK K F [] []
  | cons {k : Key} {v : V} {kvs : List (Key × V)} {d : D} {ds : List (D × D)} : KeyOk k → Rp K F v d → RpK K F kvs ds → RpK K F ((k, v) :: kvs) ((keyD k, d) :: ds)
end
section
variable {K : Frag} {F F' H H' : Hp}
mutual
theorem Rp.mono (e : Ex F F') : ∀ {v : V} {d : D}, Rp K F v d → Rp K F' v d
  | _, _, .non => .non
  | _, _, .bl b => .bl b
  | _, _, .int i => .int i
  | _, _, .str x h => .str x h
  | _, _, .lst h a => .lst (ex_l e h) (RpA.mono e a)
  | _, _, .tup h a => .tup (ex_t e h) (RpA.mono e a)
  | _, _, .dct h a => .dct (h.imp (e _ _) fun ⟨o, q⟩ => ⟨o, e _ _ q⟩) (RpK.mono e a)
theorem RpA.mono (e : Ex F F') : ∀ {v : List V} {d : List D}, RpA K F v d → RpA K F' v d
  | _, _, .nil => .nil
  | _, _, .cons h a => .cons (Rp.mono e h) (RpA.mono e a)
theorem RpK.mono (e : Ex F F') : ∀ {v : List (Key × V)} {d : List (D × D)}, RpK K F v d → RpK K F' v d
  | _, _, .nil => .nil
  | _, _, .cons o h a => .cons o (Rp.mono e h) (RpK.mono e a)
end
theorem RpA.length : ∀ {vs : List V} {ds : List D}, RpA K F vs ds → vs.length = ds.length
  | _, _, .nil => rfl
  | _, _, .cons _ a => by rw [List.length_cons, List.length_cons, RpA.length a]
theorem RpA.append : ∀ {vs ws : List V} {ds es : List D}, RpA K F vs ds → RpA K F ws es → RpA K F (vs ++ ws) (ds ++ es)
  | _, _, _, _, .nil, b => b
  | _, _, _, _, .cons h a, b => .cons h (RpA.append a b)
theorem RpA.get : ∀ {vs : List V} {ds : List D} {i : Nat} {d : D}, RpA K F vs ds → ds[i]? = some d → ∃ v, vs[i]? = some v ∧ Rp K F v d
  | _, _, _, _, .nil, e => by simp at e
  | _, _, 0, d, .cons (v := v) h _, e => ⟨v, rfl, by simp at e; subst e; exact h⟩
  | _, _, i + 1, _, .cons _ a, e => by
    obtain ⟨v, h1, h2⟩ := RpA.get (i := i) a (by simpa using e)
    exact ⟨v, by simpa using h1, h2⟩
theorem RpA.getV : ∀ {vs : List V} {ds : List D} {i : Nat} {v : V}, RpA K F vs ds → vs[i]? = some v → ∃ d, ds[i]? = some d ∧ Rp K F v d
  | _, _, _, _, .nil, e => by simp at e
  | _, _, 0, _, .cons (d := d) h _, e => ⟨d, rfl, by simp at e; subst e; exact h⟩
  | _, _, i + 1, _, .cons _ a, e => by
    obtain ⟨v, h1, h2⟩ := RpA.getV (i := i) a (by simpa using e)
    exact ⟨v, by simpa using h1, h2⟩
theorem RpA.take : ∀ {vs : List V} {ds : List D} (n : Nat), RpA K F vs ds → RpA K F (vs.take n) (ds.take n)
  | _, _, 0, _ => .nil
  | _, _, _ + 1, .nil => .nil
  | _, _, n + 1, .cons h a => .cons h (RpA.take n a)
theorem RpA.drop : ∀ {vs : List V} {ds : List D} (n : Nat), RpA K F vs ds → RpA K F (vs.drop n) (ds.drop n)
  | _, _, 0, a => a
  | _, _, _ + 1, .nil => .nil
  | _, _, n + 1, .cons _ a => RpA.drop n a
theorem RpA.set {v : V} {d : D} (h : Rp K F v d) : ∀ {vs : List V} {ds : List D} (i : Nat), RpA K F vs ds → RpA K F (vs.set i v) (ds.set i d)
  | _, _, _, .nil => .nil
  | _, _, 0, .cons _ a => .cons h a
  | _, _, i + 1, .cons g a => .cons g (RpA.set h i a)
theorem RpA.dropLast : ∀ {vs : List V} {ds : List D}, RpA K F vs ds → RpA K F vs.dropLast ds.dropLast
  | _, _, .nil => .nil
  | _, _, .cons _ .nil => .nil
  | _, _, .cons h (.cons g a) => .cons h (RpA.dropLast (.cons g a))
theorem RpA.reverse {vs : List V} {ds : List D} (h : RpA K F vs ds) : RpA K F vs.reverse ds.reverse := by
  induction vs generalizing ds with
  | nil => cases h; exact .nil
  | cons v vs ih =>
    cases h with
    | cons h a =>
      rw [List.reverse_cons, List.reverse_cons]
      exact (ih a).append (.cons h .nil)
theorem RpA.rep {vs : List V} {ds : List D} (h : RpA K F vs ds) : ∀ k : Nat, RpA K F (List.replicate k vs).flatten (List.replicate k ds).flatten
  | 0 => .nil
  | k + 1 => by
    rw [List.replicate_succ, List.replicate_succ, List.flatten_cons, List.flatten_cons]
    exact h.append (h.rep k)
end

/-- what stands still holds its dicts as they lie (so that they can be walked) -/
def NF (F : Hp) : Prop := ∀ a kvs, F a ≠ some (.dK kvs)
theorem NF.upd {F : Hp} {p : Addr} {o : HO} (n : NF F) (ho : ∀ kvs, o ≠ .dK kvs) : NF (upd F p o) := fun a kvs => by
  by_cases h : a = p
  · rw [h, upd_same]; exact fun z => ho kvs (Option.some.inj z)
  · rw [upd_ne h]; exact n a kvs
/-- F: what stands still; H: all that is tracked -/
structure Ext (F H F' H' : Hp) : Prop where
  f : Ex F F'
  h : Ex H H'
  o : ∀ a, F a = none → H a ≠ none → F' a = none
  s : Ex F' H'
  n : NF F → NF F'
theorem Ext.refl {F H : Hp} (s : Ex F H) : Ext F H F H := ⟨Ex.refl F, Ex.refl H, fun _ h _ => h, s, id⟩
theorem Ext.trans {F H F1 H1 F2 H2 : Hp} (a : Ext F H F1 H1) (b : Ext F1 H1 F2 H2) : Ext F H F2 H2 :=
  ⟨a.f.trans b.f, a.h.trans b.h, fun x h n => b.o x (a.o x h n) (by
    cases e : H x with
    | none => exact absurd e n
    | some u => rw [a.h x u e]; exact fun q => nomatch q), b.s, fun z => b.n (a.n z)⟩
theorem none_of_ex {F H : Hp} {p : Addr} (s : Ex F H) (h : H p = none) : F p = none := fresh_back s h
/-- a new object that stands still from now on -/
theorem Ext.new {F H : Hp} {p : Addr} {o : HO} (s : Ex F H) (h : H p = none) (ho : ∀ kvs, o ≠ .dK kvs := by exact fun _ h => nomatch h) : Ext F H (upd F p o) (upd H p o) :=
  ⟨Ex.new (none_of_ex s h), Ex.new h, fun a h1 h2 => by
    rw [upd_ne (fun e => h2 (by rw [e]; exact h))]; exact h1, fun a u e => by
    by_cases q : a = p
    · subst q; rw [upd_same] at e ⊢; exact e
    · rw [upd_ne q] at e ⊢; exact s a u e, fun n => n.upd ho⟩
/-- a new object that may change yet -/
theorem Ext.newO {F H : Hp} {p : Addr} {o : HO} (s : Ex F H) (h : H p = none) : Ext F H F (upd H p o) :=
  ⟨Ex.refl F, Ex.new h, fun a h1 _ => h1, fun a u e => (Ex.new h) a u (s a u e), id⟩

def OwnAt (K : Frag) (F H : Hp) (a : Addr) (d : D) : Prop :=
  (∃ vs ds, d = .list ds ∧ H a = some (.lst vs) ∧ RpA K F vs ds) ∨ (∃ kvs ds, d = .dict ds ∧ H a = some (.dK kvs) ∧ RpK K F kvs ds)
def Rb (K : Frag) (F H : Hp) (v : V) (d : D) : Prop := Rp K F v d ∨ ∃ a, v = .ref a ∧ OwnAt K F H a d
theorem OwnAt.mono {K : Frag} {F H F' H' : Hp} {a : Addr} {d : D} (f : Ex F F') (h : Ex H H') (o : OwnAt K F H a d) : OwnAt K F' H' a d := by
  rcases o with ⟨vs, ds, e, g, r⟩ | ⟨vs, ds, e, g, r⟩
  · exact .inl ⟨vs, ds, e, h _ _ g, r.mono f⟩
  · exact .inr ⟨vs, ds, e, h _ _ g, r.mono f⟩
theorem Rb.mono {K : Frag} {F H F' H' : Hp} {v : V} {d : D} (e : Ext F H F' H') (r : Rb K F H v d) : Rb K F' H' v d := by
  rcases r with r | ⟨a, rfl, o⟩
  · exact .inl (r.mono e.f)
  · exact .inr ⟨a, rfl, o.mono e.f e.h⟩
/-- what is borrowed, over the whole heap -/
theorem Rb.whole {K : Frag} {F H : Hp} {v : V} {d : D} (s : Ex F H) (r : Rb K F H v d) : Rp K H v d := by
  rcases r with r | ⟨a, rfl, ⟨vs, ds, rfl, g, r⟩ | ⟨vs, ds, rfl, g, r⟩⟩
  · exact r.mono s
  · exact .lst (Evl.sq_of g) (r.mono s)
  · exact .dct (.inl g) (r.mono s)
theorem Rb.list {K : Frag} {F H : Hp} {v : V} {ds : List D} (s : Ex F H) (r : Rb K F H v (.list ds)) : ∃ a vs, v = .ref a ∧ SqL K H a vs ∧ RpA K F vs ds := by
  rcases r with r | ⟨a, rfl, ⟨vs, ds', e, g, r⟩ | ⟨vs, ds', e, g, r⟩⟩
  · cases r with
    | lst h a => exact ⟨_, _, rfl, ex_l s h, a⟩
  · cases e; exact ⟨a, vs, rfl, Evl.sq_of g, r⟩
  · cases e
theorem Rb.tuple {K : Frag} {F H : Hp} {v : V} {ds : List D} (s : Ex F H) (r : Rb K F H v (.tuple ds)) : ∃ a vs, v = .ref a ∧ SqT K H a vs ∧ RpA K F vs ds ∧ Rp K F v (.tuple ds) := by
  rcases r with r | ⟨a, rfl, ⟨vs, ds', e, g, r⟩ | ⟨vs, ds', e, g, r⟩⟩
  · have r' := r
    cases r with
    | tup h a => exact ⟨_, _, rfl, ex_t s h, a, r'⟩
  · cases e
  · cases e
theorem Rb.int {K : Frag} {F H : Hp} {v : V} {i : Int} (r : Rb K F H v (.int i)) : v = .int i := by
  rcases r with r | ⟨a, rfl, ⟨vs, ds', e, g, r⟩ | ⟨vs, ds', e, g, r⟩⟩
  · cases r; rfl
  · cases e
  · cases e
theorem Rb.bool {K : Frag} {F H : Hp} {v : V} {i : Bool} (r : Rb K F H v (.bool i)) : v = .bl i := by
  rcases r with r | ⟨a, rfl, ⟨vs, ds', e, g, r⟩ | ⟨vs, ds', e, g, r⟩⟩
  · cases r; rfl
  · cases e
  · cases e
theorem Rb.str {K : Frag} {F H : Hp} {v : V} {i : Str} (r : Rb K F H v (.str i)) : v = .str i ∧ OkS i := by
  rcases r with r | ⟨a, rfl, ⟨vs, ds', e, g, r⟩ | ⟨vs, ds', e, g, r⟩⟩
  · cases r with
    | str x h => exact ⟨rfl, h⟩
  · cases e
  · cases e
theorem Rb.non {K : Frag} {F H : Hp} {v : V} (r : Rb K F H v .none) : v = .non := by
  rcases r with r | ⟨a, rfl, ⟨vs, ds', e, g, r⟩ | ⟨vs, ds', e, g, r⟩⟩
  · cases r; rfl
  · cases e
  · cases e

/-- a caught exception's fields, as data -/
def xD (l : List (Str × D)) : D := .dict (l.map fun p => (.str p.1, p.2))
inductive Kd where
  | im | ow | bw | od | op
  | xn (a : Addr) (dd : Option Addr)
  | pw (a : Addr)
  deriving DecidableEq
def Kd.plain : Kd → Bool
  | .od => false
  | .op => false
  | .xn _ _ => false
  | _ => true
def XnOk (K : Frag) (F : Hp) (dd : Option Addr) (l : List (Str × D)) : Prop :=
  match dd with
  | none => l = []
  | some q => ∃ fs, F q = some (.xd fs) ∧ ∀ f e, l.lookup f = some e → ∃ v, fs.lookup f = some v ∧ Rp K F v e
theorem XnOk.mono {K : Frag} {F F' : Hp} {dd : Option Addr} {l : List (Str × D)} (e : Ex F F') (h : XnOk K F dd l) : XnOk K F' dd l := by
  cases dd with
  | none => exact h
  | some q =>
    obtain ⟨fs, h1, h2⟩ := h
    exact ⟨fs, e _ _ h1, fun f d hl => by
      obtain ⟨v, hv, r⟩ := h2 f d hl
      exact ⟨v, hv, r.mono e⟩⟩
/-- the entries of a dict whose values are lists of its own -/
inductive OdK (K : Frag) (H0 F H : Hp) : List (Key × V) → List (D × D) → Prop
  | nil : OdK K H0 F H [] []
  | cons {q : Key} {b : Addr} {vs : List V} {xs : List D} {kvs : List (Key × V)} {ds : List (D × D)} : KeyOk q → H0 b = none → F b = none → H b = some (.lst vs) → RpA K F vs xs → OdK K H0 F H kvs ds → OdK K H0 F H ((q, .ref b) :: kvs) ((keyD q, .list xs) :: ds)
theorem some_ne {H : Hp} {a : Addr} {o : HO} (h : H a = some o) : H a ≠ none := fun z => by rw [h] at z; cases z
theorem OdK.mono {K : Frag} {H0 F H F' H' : Hp} (f : Ex F F') (hk : ∀ b, F b = none → H b ≠ none → F' b = none) : ∀ {kvs : List (Key × V)} {ds : List (D × D)}, (∀ q b, (q, V.ref b) ∈ kvs → ∀ o, H b = some o → H' b = some o) → OdK K H0 F H kvs ds → OdK K H0 F' H' kvs ds
  | _, _, _, .nil => .nil
  | _, _, hh, .cons ko h1 h2 h3 h4 h5 => .cons ko h1 (hk _ h2 (some_ne h3)) (hh _ _ List.mem_cons_self _ h3) (h4.mono f) (OdK.mono f hk (fun q b hb => hh q b (by simp [hb])) h5)
theorem OdK.mem {K : Frag} {H0 F H : Hp} : ∀ {kvs : List (Key × V)} {ds : List (D × D)}, OdK K H0 F H kvs ds → ∀ {q : Key} {b : Addr}, (q, V.ref b) ∈ kvs → H0 b = none ∧ F b = none ∧ ∃ vs, H b = some (.lst vs)
  | _, _, .nil, _, _, h => by simp at h
  | _, _, .cons _ h1 h2 h3 h4 h5, q, b, h => by
    rcases List.mem_cons.mp h with h | h
    · have e : b = _ := V.ref.inj (Prod.mk.inj h).2
      subst e
      exact ⟨h1, h2, _, h3⟩
    · exact h5.mem h
/-- the entries of a list of pairs, each with a list of its own behind: the pairs stand still, the lists bs are owned -/
inductive OpK (K : Frag) (H0 F H : Hp) : List Addr → List V → List D → Prop
  | nil : OpK K H0 F H [] [] []
  | cons {t b : Addr} {v : V} {vs : List V} {d : D} {xs : List D} {bs : List Addr} {ws : List V} {ds : List D} : F t = some (.tup [v, .ref b]) → H t = some (.tup [v, .ref b]) → Rp K F v d → H0 b = none → F b = none → H b = some (.lst vs) → RpA K F vs xs → OpK K H0 F H bs ws ds → OpK K H0 F H (b :: bs) (.ref t :: ws) (.tuple [d, .list xs] :: ds)
theorem OpK.mem {K : Frag} {H0 F H : Hp} : ∀ {bs : List Addr} {ws : List V} {ds : List D}, OpK K H0 F H bs ws ds → ∀ {t b : Addr} {x : V}, V.ref t ∈ ws → H t = some (.tup [x, .ref b]) → b ∈ bs
  | _, _, _, .nil, _, _, _, h, _ => by simp at h
  | _, _, _, .cons f1 h1 r h2 h3 h4 h5 h6, t, b, x, h, e => by
    rcases List.mem_cons.mp h with h | h
    · have et : t = _ := V.ref.inj h
      subst et
      rw [h1] at e
      have := HO.tup.inj (Option.some.inj e)
      simp only [List.cons.injEq, V.ref.injEq, and_true] at this
      rw [this.2]; exact List.mem_cons_self
    · exact List.mem_cons_of_mem _ (h6.mem h e)
theorem OpK.at {K : Frag} {H0 F H : Hp} : ∀ {bs : List Addr} {ws : List V} {ds : List D}, OpK K H0 F H bs ws ds → ∀ {b : Addr}, b ∈ bs → (H0 b = none ∧ F b = none ∧ ∃ vs, H b = some (.lst vs)) ∧ ∃ t x, V.ref t ∈ ws ∧ H t = some (.tup [x, .ref b])
  | _, _, _, .nil, _, h => by simp at h
  | _, _, _, .cons f1 h1 r h2 h3 h4 h5 h6, b, h => by
    rcases List.mem_cons.mp h with h | h
    · subst h; exact ⟨⟨h2, h3, _, h4⟩, _, _, List.mem_cons_self, h1⟩
    · obtain ⟨g, t, x, m, e⟩ := h6.at h
      exact ⟨g, t, x, List.mem_cons_of_mem _ m, e⟩
theorem OpK.tupF {K : Frag} {H0 F H : Hp} : ∀ {bs : List Addr} {ws : List V} {ds : List D}, OpK K H0 F H bs ws ds → ∀ {t : Addr}, V.ref t ∈ ws → ∃ x b, F t = some (.tup [x, .ref b]) ∧ H t = some (.tup [x, .ref b])
  | _, _, _, .nil, _, h => by simp at h
  | _, _, _, .cons f1 h1 r h2 h3 h4 h5 h6, t, h => by
    rcases List.mem_cons.mp h with h | h
    · have et : t = _ := V.ref.inj h
      subst et
      exact ⟨_, _, f1, h1⟩
    · exact h6.tupF h
theorem OpK.mono {K : Frag} {H0 F H F' H' : Hp} (f : Ex F F') (s : ∀ a o, F a = some o → H' a = some o) : ∀ {bs : List Addr} {ws : List V} {ds : List D}, (∀ b ∈ bs, F' b = none) → (∀ b ∈ bs, ∀ o, H b = some o → H' b = some o) → OpK K H0 F H bs ws ds → OpK K H0 F' H' bs ws ds
  | _, _, _, _, _, .nil => .nil
  | _, _, _, hF, ho, .cons f1 h1 r h2 h3 h4 h5 h6 => .cons (f _ _ f1) (s _ _ f1) (r.mono f) h2 (hF _ List.mem_cons_self) (ho _ List.mem_cons_self _ h4) (h5.mono f) (h6.mono f s (fun b hb => hF b (List.mem_cons_of_mem _ hb)) fun b hb => ho b (List.mem_cons_of_mem _ hb))
theorem OpK.still {K : Frag} {H0 F H F' : Hp} (f : Ex F F') : ∀ {bs : List Addr} {ws : List V} {ds : List D}, (∀ b ∈ bs, F' b = H b) → OpK K H0 F H bs ws ds → RpA K F' ws ds
  | _, _, _, _, .nil => .nil
  | _, _, _, hh, .cons f1 h1 r h2 h3 h4 h5 h6 => .cons (.tup (Evl.st_of (f _ _ f1)) (.cons (r.mono f) (.cons (.lst (Evl.sq_of ((hh _ List.mem_cons_self).trans h4)) (h5.mono f)) .nil))) (h6.still f fun b hb => hh b (List.mem_cons_of_mem _ hb))
theorem OpK.len {K : Frag} {H0 F H : Hp} : ∀ {bs : List Addr} {ws : List V} {ds : List D}, OpK K H0 F H bs ws ds → ws.length = ds.length
  | _, _, _, .nil => rfl
  | _, _, _, .cons f1 h1 r h2 h3 h4 h5 h6 => by rw [List.length_cons, List.length_cons, h6.len]
def SlotOk (K : Frag) (k : Kd) (H0 F H : Hp) (v : V) (d : D) : Prop :=
  match k with
  | .im => Rp K F v d
  | .bw => Rp K F v d ∨ ∃ a, v = .ref a ∧ H0 a ≠ none ∧ OwnAt K F H a d
  | .ow => ∃ a, v = .ref a ∧ H0 a = none ∧ F a = none ∧ OwnAt K F H a d
  | .od => ∃ a kvs ds, v = .ref a ∧ H0 a = none ∧ F a = none ∧ d = .dict ds ∧ H a = some (.dK kvs) ∧ OdK K H0 F H kvs ds ∧ (kvs.map (·.2)).Nodup ∧ (kvs.map (·.1)).Nodup
  | .op => ∃ a bs ws ds, v = .ref a ∧ H0 a = none ∧ F a = none ∧ d = .list ds ∧ H a = some (.lst ws) ∧ OpK K H0 F H bs ws ds ∧ bs.Nodup ∧ a ∉ bs
  | .xn a dd => v = .ref a ∧ ∃ l, d = xD l ∧ XnOk K F dd l
  | .pw a => v = .ref a ∧ H0 a = none ∧ F a = none ∧ OwnAt K F H a d
/-- what a slot owns -/
def Owns (k : Kd) (H : Hp) (v : V) (b : Addr) : Prop :=
  match k with
  | .ow => v = .ref b
  | .pw _ => v = .ref b
  | .od => v = .ref b ∨ ∃ a kvs q, v = .ref a ∧ H a = some (.dK kvs) ∧ (q, V.ref b) ∈ kvs
  | .op => v = .ref b ∨ ∃ a ws t x, v = .ref a ∧ H a = some (.lst ws) ∧ V.ref t ∈ ws ∧ H t = some (.tup [x, .ref b])
  | _ => False
def Kd.owned : Kd → Bool
  | .ow => true
  | .op => true
  | .od => true
  | .pw _ => true
  | _ => false
/-- changed in place, by the name alone -/
def Kd.mutb : Kd → Bool
  | .ow => true
  | .pw _ => true
  | _ => false
theorem owns_owned {k : Kd} {H : Hp} {v : V} {b : Addr} (h : Owns k H v b) : k.owned = true := by
  cases k <;> first | rfl | exact h.elim
theorem own_some {K : Frag} {F H : Hp} {a : Addr} {d : D} (o : OwnAt K F H a d) : H a ≠ none := by
  rcases o with ⟨_, _, _, g, _⟩ | ⟨_, _, _, g, _⟩ <;> exact some_ne g
theorem SlotOk.owned {K : Frag} {k : Kd} {H0 F H : Hp} {v : V} {d : D} {b : Addr} (h : SlotOk K k H0 F H v d) (o : Owns k H v b) : H0 b = none ∧ F b = none ∧ H b ≠ none := by
  cases k with
  | ow =>
    obtain ⟨a, e, h0, f0, oa⟩ := h
    have e2 : v = .ref b := o
    rw [e] at e2
    cases e2
    exact ⟨h0, f0, own_some oa⟩
  | pw a =>
    obtain ⟨e, h0, f0, oa⟩ := h
    have e2 : v = .ref b := o
    rw [e] at e2
    cases e2
    exact ⟨h0, f0, own_some oa⟩
  | od =>
    obtain ⟨a, kvs, ds, e, h0, f0, _, hH, ok, _⟩ := h
    rcases (show v = .ref b ∨ ∃ a kvs q, v = .ref a ∧ H a = some (.dK kvs) ∧ (q, V.ref b) ∈ kvs from o) with e2 | ⟨a', kvs', q, e2, h2, h3⟩
    · rw [e] at e2
      cases e2
      exact ⟨h0, f0, some_ne hH⟩
    · rw [e] at e2
      cases e2
      rw [hH] at h2
      cases h2
      obtain ⟨x1, x2, vs, x3⟩ := ok.mem h3
      exact ⟨x1, x2, some_ne x3⟩
  | op =>
    obtain ⟨a, bs, ws, ds, e, h0, f0, _, hH, ok, _⟩ := h
    rcases (show v = .ref b ∨ ∃ a ws t x, v = .ref a ∧ H a = some (.lst ws) ∧ V.ref t ∈ ws ∧ H t = some (.tup [x, .ref b]) from o) with e2 | ⟨a', ws', t, x, e2, h2, h3, h4⟩
    · rw [e] at e2
      cases e2
      exact ⟨h0, f0, some_ne hH⟩
    · rw [e] at e2
      cases e2
      rw [hH] at h2
      cases h2
      obtain ⟨⟨x1, x2, vs, x3⟩, _⟩ := ok.at (ok.mem h3 h4)
      exact ⟨x1, x2, some_ne x3⟩
  | _ => exact o.elim
/-- what it owns over another heap, where its own objects have stayed -/
theorem Owns.back {K : Frag} {k : Kd} {H0 F H H' : Hp} {v : V} {d : D} {b : Addr} (h : SlotOk K k H0 F H v d) (keep : ∀ a, v = .ref a → ∀ o, H a = some o → H' a = some o) (kf : ∀ a o, F a = some o → H' a = some o) (o : Owns k H' v b) : Owns k H v b := by
  cases k with
  | od =>
    obtain ⟨a, kvs, ds, e, h0, f0, _, hH, ok, _⟩ := h
    rcases (show v = .ref b ∨ ∃ a kvs q, v = .ref a ∧ H' a = some (.dK kvs) ∧ (q, V.ref b) ∈ kvs from o) with e2 | ⟨a', kvs', q, e2, h2, h3⟩
    · exact .inl e2
    · rw [e] at e2
      cases e2
      rw [keep _ e _ hH] at h2
      cases h2
      exact .inr ⟨_, _, _, e, hH, h3⟩
  | op =>
    obtain ⟨a, bs, ws, ds, e, h0, f0, _, hH, ok, _⟩ := h
    rcases (show v = .ref b ∨ ∃ a ws t x, v = .ref a ∧ H' a = some (.lst ws) ∧ V.ref t ∈ ws ∧ H' t = some (.tup [x, .ref b]) from o) with e2 | ⟨a', ws', t, x, e2, h2, h3, h4⟩
    · exact .inl e2
    · rw [e] at e2
      cases e2
      rw [keep _ e _ hH] at h2
      cases h2
      obtain ⟨x2, b2, g1, g2⟩ := ok.tupF h3
      rw [kf _ _ g1] at h4
      exact .inr ⟨_, _, t, x, e, hH, h3, g2.trans h4⟩
  | _ => exact o
theorem OwnAt.keep {K : Frag} {F H F' H' : Hp} {a : Addr} {d : D} (f : Ex F F') (h : ∀ o, H a = some o → H' a = some o) (o : OwnAt K F H a d) : OwnAt K F' H' a d := by
  rcases o with ⟨vs, ds, e, g, r⟩ | ⟨vs, ds, e, g, r⟩
  · exact .inl ⟨vs, ds, e, h _ g, r.mono f⟩
  · exact .inr ⟨vs, ds, e, h _ g, r.mono f⟩
/-- a slot stands on, where what it owns and what it borrows has stayed -/
theorem SlotOk.keep {K : Frag} {k : Kd} {H0 F H F' H' : Hp} {v : V} {d : D} (f : Ex F F') (hF : ∀ b, Owns k H v b → F' b = none) (hb : ∀ b o, H0 b ≠ none → H b = some o → H' b = some o) (ho : ∀ b, Owns k H v b → ∀ o, H b = some o → H' b = some o) (kf : ∀ a o, F a = some o → H' a = some o) (h : SlotOk K k H0 F H v d) : SlotOk K k H0 F' H' v d := by
  cases k with
  | im => exact Rp.mono f h
  | bw =>
    rcases h with h | ⟨a, e1, h0, o⟩
    · exact .inl (h.mono f)
    · exact .inr ⟨a, e1, h0, o.keep f fun u => hb a u h0⟩
  | ow =>
    obtain ⟨a, e1, h0, f0, o⟩ := h
    exact ⟨a, e1, h0, hF a e1, o.keep f (ho a e1)⟩
  | pw a =>
    obtain ⟨e1, h0, f0, o⟩ := h
    exact ⟨e1, h0, hF a e1, o.keep f (ho a e1)⟩
  | od =>
    obtain ⟨a, kvs, ds, e1, h0, f0, e2, hH, ok, nd⟩ := h
    have own : ∀ q b, (q, V.ref b) ∈ kvs → Owns .od H v b := fun q b hb => .inr ⟨a, kvs, q, e1, hH, hb⟩
    refine ⟨a, kvs, ds, e1, h0, hF a (.inl e1), e2, ho a (.inl e1) _ hH, ?_, nd⟩
    have key : ∀ {kvs : List (Key × V)} {ds : List (D × D)}, (∀ q b, (q, V.ref b) ∈ kvs → Owns .od H v b) → OdK K H0 F H kvs ds → OdK K H0 F' H' kvs ds := fun {kvs ds} hown hk => by
      induction hk with
      | nil => exact .nil
      | @cons q b vs xs kvs ds ko h1 h2 h3 h4 _ ih =>
        have ob := hown q b (by simp)
        exact .cons ko h1 (hF b ob) (ho b ob _ h3) (h4.mono f) (ih fun q b hb => hown q b (by simp [hb]))
    exact key own ok
  | op =>
    obtain ⟨a, bs, ws, ds, e1, h0, f0, e2, hH, ok, nd, na⟩ := h
    have own : ∀ b ∈ bs, Owns .op H v b := fun b hb => by
      obtain ⟨_, t, x, m, g⟩ := ok.at hb
      exact .inr ⟨a, ws, t, x, e1, hH, m, g⟩
    exact ⟨a, bs, ws, ds, e1, h0, hF a (.inl e1), e2, ho a (.inl e1) _ hH, ok.mono f kf (fun b hb => hF b (own b hb)) (fun b hb => ho b (own b hb)), nd, na⟩
  | xn a dd =>
    obtain ⟨e1, l, e2, h⟩ := h
    exact ⟨e1, l, e2, h.mono f⟩
theorem SlotOk.mono {K : Frag} {k : Kd} {H0 F H F' H' : Hp} {v : V} {d : D} (e : Ext F H F' H') (h : SlotOk K k H0 F H v d) : SlotOk K k H0 F' H' v d :=
  h.keep e.f (fun b o => by
    obtain ⟨_, h2, h3⟩ := h.owned o
    exact e.o b h2 h3) (fun b o _ q => e.h b o q) (fun b _ o q => e.h b o q) fun a o q => e.s a o (e.f a o q)
theorem OdK.rpk {K : Frag} {H0 F H : Hp} (s : Ex F H) : ∀ {kvs : List (Key × V)} {ds : List (D × D)}, OdK K H0 F H kvs ds → RpK K H kvs ds
  | _, _, .nil => .nil
  | _, _, .cons ko h1 h2 h3 h4 h5 => .cons ko (.lst (Evl.sq_of h3) (h4.mono s)) (OdK.rpk s h5)
theorem SlotOk.rb {K : Frag} {k : Kd} {H0 F H : Hp} {v : V} {d : D} (h : SlotOk K k H0 F H v d) (hp : k.plain = true) : Rb K F H v d := by
  cases k with
  | xn a dd => cases hp
  | od => cases hp
  | op => cases hp
  | im => exact .inl h
  | bw =>
    rcases h with h | ⟨a, e1, h0, o⟩
    · exact .inl h
    · exact .inr ⟨a, e1, o⟩
  | ow =>
    obtain ⟨a, e1, h0, f0, o⟩ := h
    exact .inr ⟨a, e1, o⟩
  | pw a =>
    obtain ⟨e1, h0, f0, o⟩ := h
    exact .inr ⟨a, e1, o⟩
theorem SlotOk.mutb {K : Frag} {k : Kd} {H0 F H : Hp} {v : V} {d : D} (hk : k.mutb = true) (h : SlotOk K k H0 F H v d) : ∃ a, v = .ref a ∧ H0 a = none ∧ F a = none ∧ OwnAt K F H a d ∧ ∀ F' H' d', F' a = none → OwnAt K F' H' a d' → SlotOk K k H0 F' H' v d' := by
  cases k with
  | ow =>
    obtain ⟨a, e, h0, f0, o⟩ := h
    exact ⟨a, e, h0, f0, o, fun F' H' d' f o' => ⟨a, e, h0, f, o'⟩⟩
  | pw a =>
    obtain ⟨e, h0, f0, o⟩ := h
    exact ⟨a, e, h0, f0, o, fun F' H' d' f o' => ⟨e, h0, f, o'⟩⟩
  | _ => cases hk
theorem mutb_owns {k : Kd} {H : Hp} {v : V} {b : Addr} (hk : k.mutb = true) : Owns k H v b ↔ v = .ref b := by
  cases k with
  | ow => exact Iff.rfl
  | pw a => exact Iff.rfl
  | _ => cases hk
structure Stt (K : Frag) (κ : Nat → Kd) (F0 H0 F H : Hp) (σ : L2.St) (ρ : Env) : Prop where
  ex0 : Ex F0 F
  h0 : Ex H0 H
  o0 : ∀ a, F0 a = none → H0 a ≠ none → F a = none
  sub : Ex F H
  nf : NF F
  len : σ.length = ρ.length
  slot : ∀ i d, ρ[i]? = some (some d) → ∃ v, σ[i]? = some (some v) ∧ SlotOk K (κ i) H0 F H v d
  sep : ∀ i j b di dj u w, i ≠ j → ρ[i]? = some (some di) → ρ[j]? = some (some dj) → σ[i]? = some (some u) → σ[j]? = some (some w) → Owns (κ i) H u b → Owns (κ j) H w b → False
section
variable {K : Frag} {κ : Nat → Kd} {F0 H0 F H F' H' : Hp} {σ : L2.St} {ρ : Env}
theorem Stt.ext (S : Stt K κ F0 H0 F H σ ρ) : Ext F0 H0 F H := ⟨S.ex0, S.h0, S.o0, S.sub, fun _ => S.nf⟩
theorem Stt.slotAt (S : Stt K κ F0 H0 F H σ ρ) {i : Nat} {d : D} {v : V} (h : ρ[i]? = some (some d)) (e : σ[i]? = some (some v)) : SlotOk K (κ i) H0 F H v d := by
  obtain ⟨v', h1, h2⟩ := S.slot i d h
  rw [e] at h1
  cases h1
  exact h2
theorem Stt.mono (S : Stt K κ F0 H0 F H σ ρ) (e : Ext F H F' H') : Stt K κ F0 H0 F' H' σ ρ :=
  have x := S.ext.trans e
  ⟨x.f, x.h, x.o, x.s, e.n S.nf, S.len, fun i d h => by
    obtain ⟨v, h1, h2⟩ := S.slot i d h
    exact ⟨v, h1, h2.mono e⟩, fun i j b di dj u w n hi hj eu ew ou ow => S.sep i j b di dj u w n hi hj eu ew
      (Owns.back (S.slotAt hi eu) (fun a _ o q => e.h a o q) (fun a o q => e.s a o (e.f a o q)) ou) (Owns.back (S.slotAt hj ew) (fun a _ o q => e.h a o q) (fun a o q => e.s a o (e.f a o q)) ow)⟩
/-- a slot is stored that stands still -/
theorem Stt.set (S : Stt K κ F0 H0 F H σ ρ) {i : Nat} {v : V} {d : D} (hk : κ i = .im) (r : Rp K F v d) : Stt K κ F0 H0 F H (σ.set i (some v)) (ρ.set i (some d)) := by
  refine ⟨S.ex0, S.h0, S.o0, S.sub, S.nf, by rw [List.length_set, List.length_set, S.len], fun j e h => ?_, fun j l a dj dl u w hn hj hl ej el oj ol => ?_⟩
  · rw [List.getElem?_set] at h ⊢
    by_cases q : i = j
    · rw [if_pos q] at h ⊢
      subst q
      by_cases z : i < ρ.length
      · rw [if_pos z] at h
        rw [if_pos (by rw [S.len]; exact z)]
        cases h
        exact ⟨v, rfl, by rw [hk]; exact r⟩
      · rw [if_neg z] at h; cases h
    · rw [if_neg q] at h ⊢
      exact S.slot j e h
  · have nj : i ≠ j := fun z => by rw [← z, hk] at oj; exact oj.elim
    have nl : i ≠ l := fun z => by rw [← z, hk] at ol; exact ol.elim
    rw [List.getElem?_set_ne nj] at hj ej
    rw [List.getElem?_set_ne nl] at hl el
    exact S.sep j l a dj dl u w hn hj hl ej el oj ol
/-- a slot is stored that owns what no other slot owns -/
theorem Stt.setW (S : Stt K κ F0 H0 F H σ ρ) {i : Nat} {v : V} {d : D} (so : SlotOk K (κ i) H0 F H v d)
    (hn : ∀ j b dj w, ρ[j]? = some (some dj) → σ[j]? = some (some w) → j ≠ i → Owns (κ i) H v b → Owns (κ j) H w b → False) : Stt K κ F0 H0 F H (σ.set i (some v)) (ρ.set i (some d)) := by
  refine ⟨S.ex0, S.h0, S.o0, S.sub, S.nf, by rw [List.length_set, List.length_set, S.len], fun j e h => ?_, fun j l a dj dl u w hjl hj hl ej el oj ol => ?_⟩
  · rw [List.getElem?_set] at h ⊢
    by_cases q : i = j
    · rw [if_pos q] at h ⊢
      subst q
      by_cases z : i < ρ.length
      · rw [if_pos z] at h
        rw [if_pos (by rw [S.len]; exact z)]
        cases h
        exact ⟨v, rfl, so⟩
      · rw [if_neg z] at h; cases h
    · rw [if_neg q] at h ⊢
      exact S.slot j e h
  · by_cases qj : i = j
    · subst qj
      have nl : i ≠ l := hjl
      rw [List.getElem?_set_ne nl] at hl el
      rw [List.getElem?_set, if_pos rfl] at ej
      split at ej
      · cases ej
        exact hn l a dl w hl el (Ne.symm nl) oj ol
      · cases ej
    · by_cases ql : i = l
      · subst ql
        rw [List.getElem?_set_ne qj] at hj ej
        rw [List.getElem?_set, if_pos rfl] at el
        split at el
        · cases el
          exact hn j a dj u hj ej (Ne.symm qj) ol oj
        · cases el
      · rw [List.getElem?_set_ne qj] at hj ej
        rw [List.getElem?_set_ne ql] at hl el
        exact S.sep j l a dj dl u w hjl hj hl ej el oj ol
/-- a slot is stored that is owned: new at p -/
theorem Stt.setO (S : Stt K κ F0 H0 F H σ ρ) {i : Nat} {p : Addr} {d : D} (hk : κ i = .ow) (hp : H0 p = none) (fp : F p = none) (o : OwnAt K F H p d)
    (hn : ∀ j d w, ρ[j]? = some (some d) → j ≠ i → σ[j]? = some (some w) → ¬ Owns (κ j) H w p) : Stt K κ F0 H0 F H (σ.set i (some (.ref p))) (ρ.set i (some d)) :=
  S.setW (by rw [hk]; exact ⟨p, rfl, hp, fp, o⟩) fun j b dj w hj ej nj oi oj => by
    rw [hk] at oi
    cases (show V.ref p = .ref b from oi)
    exact hn j dj w hj nj ej oj
/-- what slot i owns is changed -/
theorem Stt.chg (S : Stt K κ F0 H0 F H σ ρ) {i : Nat} {u : V} {d d' : D} (hd : ρ[i]? = some (some d)) (hu : σ[i]? = some (some u)) (f : Ex F F') (s' : Ex F' H') (nf' : NF F') (o : ∀ b, F b = none → H b ≠ none → F' b = none)
    (keep : ∀ b x, H b = some x → ¬ Owns (κ i) H u b → H' b = some x) (slot' : SlotOk K (κ i) H0 F' H' u d') (own' : ∀ b, Owns (κ i) H' u b → Owns (κ i) H u b ∨ ∀ j dj w, j ≠ i → ρ[j]? = some (some dj) → σ[j]? = some (some w) → ¬ Owns (κ j) H w b) :
    Stt K κ F0 H0 F' H' σ (ρ.set i (some d')) := by
  have si := S.slotAt hd hu
  have h0k : ∀ b x, H0 b ≠ none → H b = some x → H' b = some x := fun b x hb hx => keep b x hx fun ob => hb (si.owned ob).1
  have other : ∀ {j : Nat} {w : V} {dj : D}, j ≠ i → ρ[j]? = some (some dj) → σ[j]? = some (some w) → ∀ b, Owns (κ j) H w b → ∀ x, H b = some x → H' b = some x := fun {j w dj} nj hj ej b ob x hx =>
    keep b x hx fun oi => S.sep i j b d dj u w (Ne.symm nj) hd hj hu ej oi ob
  have back : ∀ {m : Nat} {dm : D}, (ρ.set i (some d'))[m]? = some (some dm) → ∃ dm', ρ[m]? = some (some dm') := fun {m dm} hm => by
    by_cases q : i = m
    · subst q; exact ⟨d, hd⟩
    · rw [List.getElem?_set_ne q] at hm; exact ⟨dm, hm⟩
  -- what another slot owns, it owned
  have same : ∀ {j : Nat} {w : V} {dj : D} {b : Addr}, j ≠ i → ρ[j]? = some (some dj) → σ[j]? = some (some w) → Owns (κ j) H' w b → Owns (κ j) H w b := fun {j w dj b} nj hj ej ob =>
    Owns.back (S.slotAt hj ej) (fun a ea x hx => by
      subst ea
      refine other nj hj ej a ?_ x hx
      have q := owns_owned ob
      generalize κ j = k at q ⊢
      cases k <;> first | exact rfl | exact Or.inl rfl | cases q) (fun a o q => s' a o (f a o q)) ob
  refine ⟨S.ex0.trans f, fun b x e => h0k b x (some_ne e) (S.h0 b x e), fun b h1 h2 => o b (S.o0 b h1 h2) (by
    cases e : H0 b with
    | none => exact absurd e h2
    | some x => exact some_ne (S.h0 b x e)), s', nf', by rw [List.length_set, S.len], fun j e h => ?_, fun j l b dj dl v w hjl hj hl ej el oj ol => ?_⟩
  · by_cases q : i = j
    · subst q
      rw [List.getElem?_set, if_pos rfl] at h
      split at h
      · cases h
        exact ⟨u, hu, slot'⟩
      · cases h
    · rw [List.getElem?_set_ne q] at h
      obtain ⟨w, g1, g2⟩ := S.slot j e h
      exact ⟨w, g1, g2.keep f (fun b ob => o b (g2.owned ob).2.1 (g2.owned ob).2.2) h0k (other (Ne.symm q) h g1) fun a o q => s' a o (f a o q)⟩
  · obtain ⟨dj', hj'⟩ := back hj
    obtain ⟨dl', hl'⟩ := back hl
    by_cases qj : j = i
    · subst qj
      rw [hu] at ej
      cases ej
      have ol2 := same (Ne.symm hjl) hl' el ol
      rcases own' b oj with z | z
      · exact S.sep j l b dj' dl' u w hjl hj' hl' hu el z ol2
      · exact z l dl' w (Ne.symm hjl) hl' el ol2
    · have oj2 := same qj hj' ej oj
      by_cases ql : l = i
      · subst ql
        rw [hu] at el
        cases el
        rcases own' b ol with z | z
        · exact S.sep j l b dj' dl' v u hjl hj' hl' ej hu oj2 z
        · exact z j dj' v hjl hj' ej oj2
      · exact S.sep j l b dj' dl' v w hjl hj' hl' ej el oj2 (same ql hl' el ol)
/-- the owned object of slot i is changed -/
theorem Stt.mut (S : Stt K κ F0 H0 F H σ ρ) {i : Nat} {a : Addr} {d d' : D} {o : HO} (hk : (κ i).mutb = true) (hd : ρ[i]? = some (some d)) (hs : σ[i]? = some (some (.ref a))) (o' : OwnAt K F (upd H a o) a d') :
    Stt K κ F0 H0 F (upd H a o) σ (ρ.set i (some d')) := by
  have si := S.slotAt hd hs
  obtain ⟨a', e, ha0, fa, oa, mk⟩ := si.mutb hk
  cases e
  refine S.chg hd hs (Ex.refl F) (fun b u e => by rw [upd_ne (ne_of_none e fa)]; exact S.sub b u e) S.nf (fun _ h _ => h) (fun b x hx nb => ?_) (mk _ _ _ fa o') fun b ob => ?_
  · rw [upd_ne (fun z => nb ((mutb_owns hk).mpr (by rw [z])))]; exact hx
  · exact .inl ((mutb_owns hk).mpr ((mutb_owns hk).mp ob))
end
end WD

namespace WD
open PySem PySem.Spec PyProof.Rows L2
open Evl (Ex Ex.refl Ex.trans Ex.new Ex.mut ex_l ex_t fresh_back)

/-! ### readings by mirrors -/
abbrev Mg := Str → Option Value
def ExRep (mg : Mg) (K : Frag) (F H : Hp) (x : Exn) (cls : Value) (dd : Option Addr) : Prop :=
  ∃ C, mg x.cls = some (.ref C) ∧ cls = .ref C ∧ ((x.fs = [] ∧ dd = none) ∨ ∃ a fs, dd = some a ∧ F a = some (.xd fs) ∧ ∀ f d, x.fs.lookup f = some d → ∃ v, fs.lookup f = some v ∧ Rp K F v d)
/-- what a judgement wishes of exceptions (by the slots) and of what is returned -/
structure EX where
  err : L2.St → XK
  ret : Hp → D → V → Hp → Hp → Prop
abbrev EX0 : EX := ⟨fun _ => L2.E0, fun _ _ _ _ _ => False⟩
abbrev eX (K : Frag) (E : XK) : EX := ⟨fun _ => E, fun _ d v F _ => Rp K F v d⟩
def ErrOk (mg : Mg) (K : Frag) (E : XK) (F H : Hp) (x : Exn) : Prop := ∀ F' H' c dd, Ext F H F' H' → ExRep mg K F' H' x c dd → E c dd H'
theorem ErrOk.mono {mg : Mg} {K : Frag} {E : XK} {F H F' H' : Hp} {x : Exn} (e : Ext F H F' H') (h : ErrOk mg K E F H x) : ErrOk mg K E F' H' x :=
  fun F2 H2 c dd e2 r => h F2 H2 c dd (e.trans e2) r

section
variable (mg : Mg) (K : Frag) (κ : Nat → Kd) (E : EX)
def rdE (m : Env → Res D) : TE := fun σ H Q => ∃ F0 H0 F ρ, Stt K κ F0 H0 F H σ ρ ∧ (m ρ).sat (fun d => ∀ v F' H', Ext F H F' H' → Rp K F' v d → Q v H') (ErrOk mg K (E.err σ) F H)
def rdB (m : Env → Res D) : TE := fun σ H Q => ∃ F0 H0 F ρ, Stt K κ F0 H0 F H σ ρ ∧ (m ρ).sat (fun d => ∀ v F' H', Ext F H F' H' → Rb K F' H' v d → Q v H') (ErrOk mg K (E.err σ) F H)
/-- a new list, owned by whoever takes it -/
def rdN (m : Env → Res (List D)) : TE := fun σ H Q => ∃ F0 H0 F ρ, Stt K κ F0 H0 F H σ ρ ∧
  (m ρ).sat (fun ds => ∀ p vs F' H', Ext F H F' H' → H p = none → F' p = none → H' p = some (.lst vs) → RpA K F' vs ds → Q (.ref p) H') (ErrOk mg K (E.err σ) F H)
def rdT (m : Env → Res Bool) : TT := fun σ H Q => ∃ F0 H0 F ρ, Stt K κ F0 H0 F H σ ρ ∧ (m ρ).sat (fun b => ∀ F' H', Ext F H F' H' → Q b H') (ErrOk mg K (E.err σ) F H)
def rdA (m : Env → Res (List D)) : TA := fun σ H Q => ∃ F0 H0 F ρ, Stt K κ F0 H0 F H σ ρ ∧ (m ρ).sat (fun ds => ∀ vs F' H', Ext F H F' H' → RpA K F' vs ds → Q vs H') (ErrOk mg K (E.err σ) F H)
end
def DE (X : Cx) (κ : Nat → Kd) (E : EX) (e : Expr) (m : Env → Res D) : Prop := PE X e (rdE X.mg X.K κ E m)
def DB (X : Cx) (κ : Nat → Kd) (E : EX) (e : Expr) (m : Env → Res D) : Prop := PE X e (rdB X.mg X.K κ E m)
def DN (X : Cx) (κ : Nat → Kd) (E : EX) (e : Expr) (m : Env → Res (List D)) : Prop := PE X e (rdN X.mg X.K κ E m)
def DT (X : Cx) (κ : Nat → Kd) (E : EX) (e : Expr) (m : Env → Res Bool) : Prop := PT X e (rdT X.mg X.K κ E m)
def DW (X : Cx) (κ : Nat → Kd) (E : EX) (e : Expr) (m : Env → Res Bool) : Prop := PW X e (rdT X.mg X.K κ E m)
def DA (X : Cx) (κ : Nat → Kd) (E : EX) (es : List Expr) (m : Env → Res (List D)) : Prop := PA X es (rdA X.mg X.K κ E m)

theorem _root_.L2.PE.imp {X : Cx} {e : Expr} {t t' : TE} (h : PE X e t) (i : ∀ σ H Q, t' σ H Q → t σ H Q) : PE X e t' := ⟨fun pins s σ H Q I hw => h.run pins s σ H Q I (i σ H Q hw)⟩
theorem _root_.L2.PT.imp {X : Cx} {e : Expr} {t t' : TT} (h : PT X e t) (i : ∀ σ H Q, t' σ H Q → t σ H Q) : PT X e t' := ⟨fun pins s σ H Q I hw => h.run pins s σ H Q I (i σ H Q hw)⟩
theorem _root_.L2.PW.imp {X : Cx} {e : Expr} {t t' : TT} (h : PW X e t) (i : ∀ σ H Q, t' σ H Q → t σ H Q) : PW X e t' := ⟨fun wh pins s σ H Q I hw => h.run wh pins s σ H Q I (i σ H Q hw)⟩
theorem _root_.L2.PA.imp {X : Cx} {e : List Expr} {t t' : TA} (h : PA X e t) (i : ∀ σ H Q, t' σ H Q → t σ H Q) : PA X e t' := ⟨fun pos pins s σ H Q I hw => h.run pos pins s σ H Q I (i σ H Q hw)⟩
theorem _root_.L2.PS.imp {X : Cx} {e : Stmt} {t t' : TS} (h : PS X e t) (i : ∀ D σ H, t' D σ H → t D σ H) : PS X e t' := ⟨fun pins s σ H D I hw => h.run pins s σ H D I (i D σ H hw)⟩
theorem _root_.L2.PSs.imp {X : Cx} {e : List Stmt} {t t' : TS} (h : PSs X e t) (i : ∀ D σ H, t' D σ H → t D σ H) : PSs X e t' := ⟨fun pins s σ H D I hw => h.run pins s σ H D I (i D σ H hw)⟩

section
variable {X : Cx} {κ : Nat → Kd} {E : EX} {a b c e : Expr} {es : List Expr} {pos : Pos}

/-! ### from one judgement to another -/
theorem db_of {m : Env → Res D} (h : DE X κ E e m) : DB X κ E e m := h.imp fun σ H Q ⟨F0, H0, F, ρ, S, c⟩ =>
  ⟨F0, H0, F, ρ, S, Res.sat_imp c (fun d _ k v F' H' x r => k v F' H' x (.inl r)) fun _ z => z⟩
def mList (m : Env → Res (List D)) : Env → Res D := fun ρ => (m ρ).bind fun ds => .ok (.list ds)
theorem de_new {m : Env → Res (List D)} (h : DN X κ E e m) : DE X κ E e (mList m) := h.imp fun σ H Q ⟨F0, H0, F, ρ, S, c⟩ =>
  ⟨F0, H0, F, ρ, S, Res.sat_imp (Res.sat_bind c) (fun ds _ k p vs F' H' x hp fp hv r => k (.ref p) (upd F' p (.lst vs)) H'
    ⟨x.f.trans (Ex.new fp), x.h, fun a h1 h2 => by
      rw [upd_ne (fun z => h2 (by rw [z]; exact hp))]; exact x.o a h1 h2, fun a u q => by
      by_cases z : a = p
      · subst z; rw [upd_same] at q; cases q; exact hv
      · rw [upd_ne z] at q; exact x.s a u q, fun n => (x.n n).upd (fun _ h => nomatch h)⟩ (.lst (Evl.sq_of upd_same) (r.mono (Ex.new fp)))) fun _ z => z⟩

/-! ### names, constants -/
def mVar (i : Nat) : Env → Res D := fun ρ => ofO ((ρ[i]?).join)
def mC (d : D) : Env → Res D := fun _ => .ok d
theorem join_some {α : Type} {o : Option (Option α)} {a : α} (h : o.join = some a) : o = some (some a) := by
  cases o with
  | none => cases h
  | some q => cases q with
    | none => cases h
    | some b => cases h; rfl
theorem de_var {i : Nat} {x : Str} (hk : κ i = .im) (hN : X.N[i]? = some x) (hv : Vis X.env.scope x) (hd : (x == ("__debug__" : Str)) = false := by decide) (hcd : (x == ("__classdict__" : Str)) = false := by decide) : DE X κ E (.Name x pos) (mVar i) :=
  (pe_var hN hv hd hcd).imp fun σ H Q ⟨F0, H0, F, ρ, S, c⟩ => by
    obtain ⟨d, e, k⟩ := ofO_sat c
    obtain ⟨v, h1, h2⟩ := S.slot i d (join_some e)
    rw [hk] at h2
    exact ⟨v, h1, k v F H (Ext.refl S.sub) h2⟩
theorem db_var {i : Nat} {x : Str} (hp : (κ i).plain = true) (hN : X.N[i]? = some x) (hv : Vis X.env.scope x) (hd : (x == ("__debug__" : Str)) = false := by decide) (hcd : (x == ("__classdict__" : Str)) = false := by decide) : DB X κ E (.Name x pos) (mVar i) :=
  (pe_var hN hv hd hcd).imp fun σ H Q ⟨F0, H0, F, ρ, S, c⟩ => by
    obtain ⟨d, e, k⟩ := ofO_sat c
    obtain ⟨v, h1, h2⟩ := S.slot i d (join_some e)
    exact ⟨v, h1, k v F H (Ext.refl S.sub) (h2.rb hp)⟩
theorem rdE_c {mg : Mg} {K : Frag} {v : V} {d : D} (r : ∀ F, Rp K F v d) : ∀ σ H Q, rdE mg K κ E (mC d) σ H Q → tC v σ H Q := fun σ H Q ⟨F0, H0, F, ρ, S, c⟩ => c v F H (Ext.refl S.sub) (r F)
theorem de_int {i j} : DE X κ E (.Constant (.int i) j pos) (mC (.int i)) := pe_int.imp (rdE_c fun _ => .int i)
theorem de_bl {i j} : DE X κ E (.Constant (.bool i) j pos) (mC (.bool i)) := pe_bl.imp (rdE_c fun _ => .bl i)
theorem de_non {j} : DE X κ E (.Constant .none j pos) (mC .none) := pe_non.imp (rdE_c fun _ => .non)
theorem de_str {x : Str} {j} (h : OkS x := by decide +kernel) : DE X κ E (.Constant (.str x) j pos) (mC (.str x)) := pe_str.imp (rdE_c fun _ => .str x h)
/-- a constant of the module: of the written part -/
structure GlobC (K : Frag) (mg : Mg) (x : Str) (d : D) : Prop where
  ex : ∃ v u, mg x = some u ∧ RelV v u ∧ ∀ F, Rp K F v d
theorem de_glob {x : Str} {d : D} (G : GlobC X.K X.mg x d) (hg : Gl X x) (hd : (x == ("__debug__" : Str)) = false := by decide) : DE X κ E (.Name x pos) (mC d) := by
  obtain ⟨v, u, h1, h2, h3⟩ := G.ex
  exact (pe_glob hg h1 h2 hd).imp (rdE_c h3)

/-! ### operators -/
abbrev Post (K : Frag) (F H : Hp) (Q : VK) (r : Res D) : Prop := r.sat (fun d => ∀ v F' H', Ext F H F' H' → Rp K F' v d → Q v H') fun _ => False
def Op2 (K : Frag) (r : R2) (f : D → D → Res D) : Prop := ∀ F H x y dx dy, Ex F H → Rb K F H x dx → Rb K F H y dy → ∀ Q : VK, Post K F H Q (f dx dy) → r x y H Q
def mBin (f : D → D → Res D) (ma mb : Env → Res D) : Env → Res D := fun ρ => (ma ρ).bind fun x => (mb ρ).bind fun y => f x y
theorem sat_post {K : Frag} {F H : Hp} {Q : VK} {m : Res D} {mg : Mg} {E1 : XK} (noerr : ∀ x, m ≠ .err x) (h : m.sat (fun d => ∀ v F' H', Ext F H F' H' → Rp K F' v d → Q v H') (ErrOk mg K E1 F H)) : Post K F H Q m := by
  cases m with
  | ok d => exact h
  | err x => exact absurd rfl (noerr x)
  | stk => exact h
/-- two borrowed operands, from the left -/
theorem rd2 {ma mb : Env → Res D} {mg : Mg} {K : Frag} {σ : L2.St} {H : Hp} {R : V → V → Hp → Prop} {F0 H0 F : Hp} {ρ : Env} (S : Stt K κ F0 H0 F H σ ρ) {f : D → D → Res D} {P : D → Prop}
    (c : (mBin f ma mb ρ).sat P (ErrOk mg K (E.err σ) F H))
    (k : ∀ dx dy x y F2 H2, Ext F H F2 H2 → Rb K F2 H2 x dx → Rb K F2 H2 y dy → (f dx dy).sat P (ErrOk mg K (E.err σ) F H) → R x y H2) :
    rdB mg K κ E ma σ H fun x H1 => rdB mg K κ E mb σ H1 fun y H2 => R x y H2 := by
  refine ⟨F0, H0, F, ρ, S, Res.sat_imp (Res.sat_bind c) (fun dx _ c1 x F1 H1 e1 r1 => ?_) fun _ z => z⟩
  refine ⟨F0, H0, F1, ρ, S.mono e1, Res.sat_imp (Res.sat_bind c1) (fun dy _ c2 y F2 H2 e2 r2 => ?_) fun x z => z.mono e1⟩
  exact k dx dy x y F2 H2 (e1.trans e2) (r1.mono e2) r2 c2
theorem op2_read {r : R2} {f : D → D → Res D} {mg : Mg} {K : Frag} (hf : Op2 K r f) (ne : ∀ x y z, f x y ≠ .err z) {ma mb : Env → Res D} : ∀ σ H Q, rdE mg K κ E (mBin f ma mb) σ H Q → tOp r (rdB mg K κ E ma) (rdB mg K κ E mb) σ H Q :=
  fun σ H Q ⟨F0, H0, F, ρ, S, c⟩ => rd2 S c fun dx dy x y F2 H2 e r1 r2 c2 => hf F2 H2 x y dx dy e.s r1 r2 Q (by
    have c3 := sat_post (ne dx dy) c2
    exact Res.sat_imp c3 (fun d _ k v F' H' e' rp => k v F' H' (e.trans e') rp) fun _ z => z)
theorem de_op {op : Operator} {r : R2} {f : D → D → Res D} (ho : OpR X (binaryOp op) r) (hf : Op2 X.K r f) (ne : ∀ x y z, f x y ≠ .err z) {ma mb : Env → Res D} (ha : DB X κ E a ma) (hb : DB X κ E b mb) : DE X κ E (.BinOp a op b pos) (mBin f ma mb) :=
  (pe_op ho ha hb).imp (op2_read hf ne)
theorem de_cmp {op : CmpOp} {r : R2} {f : D → D → Res D} (ho : OpR X (compareOp op) r) (hf : Op2 X.K r f) (ne : ∀ x y z, f x y ≠ .err z) {ma mb : Env → Res D} (ha : DB X κ E a ma) (hb : DB X κ E b mb) (hm : behindInMarks op b = false) : DE X κ E (.Compare a [op] [b] pos) (mBin f ma mb) :=
  (pe_cmpR ho ha hb hm).imp (op2_read hf ne)
/-- a value as a test -/
def truD : D → Res Bool
  | .bool b => .ok b
  | .none => .ok false
  | .int i => .ok (i != 0)
  | .str x => if x.length ≤ sizeLine then .ok ((x.length : Int) != 0) else .stk
  | .list xs => .ok (!xs.isEmpty)
  | .tuple xs => .ok (!xs.isEmpty)
  | .dict _ => .stk
def mTru (m : Env → Res D) : Env → Res Bool := fun ρ => (m ρ).bind truD
theorem bool_of {r : Res D} {P : Bool → Prop} {Q : Exn → Prop} (h : ((r.bind truD)).sat P Q) (hb : ∀ d, r = .ok d → ∃ b, d = .bool b) : r.sat (fun d => ∃ b, d = .bool b ∧ P b) Q := by
  cases r with
  | ok d =>
    obtain ⟨b, rfl⟩ := hb d rfl
    exact ⟨b, rfl, h⟩
  | err x => exact h
  | stk => exact h
theorem dt_cmp {op : CmpOp} {r : R2} {f : D → D → Res D} (ho : OpR X (compareOp op) r) (hf : Op2 X.K r f) (ne : ∀ x y z, f x y ≠ .err z) (hb : ∀ x y d, f x y = .ok d → ∃ b, d = .bool b) {ma mb : Env → Res D} (ha : DB X κ E a ma) (hb' : DB X κ E b mb) (hm : behindInMarks op b = false) :
    DT X κ E (.Compare a [op] [b] pos) (mTru (mBin f ma mb)) :=
  (pt_cmpR ho ha hb' hm).imp fun σ H Q ⟨F0, H0, F, ρ, S, c⟩ => by
    refine op2_read (mg := X.mg) hf ne σ H _ ⟨F0, H0, F, ρ, S, Res.sat_imp (bool_of c fun d hd => ?_) (fun d _ k v F' H' e r => ?_) fun _ z => z⟩
    · unfold mBin at hd
      cases q : ma ρ with
      | ok x =>
        rw [q] at hd
        cases q2 : mb ρ with
        | ok y =>
          simp only [Res.bind, q2] at hd
          exact hb x y d hd
        | err y => simp only [Res.bind, q2] at hd; cases hd
        | stk => simp only [Res.bind, q2] at hd; cases hd
      | err x => rw [q] at hd; cases hd
      | stk => rw [q] at hd; cases hd
    · obtain ⟨b, rfl, k⟩ := k
      cases r
      exact ⟨b, rfl, k F' H' e⟩
theorem dt_truth {ma : Env → Res D} (ha : DB X κ E a ma) (he : ∀ whole, isTrue a X.env whole = (do let v ← whole; standAt a.pos; holding [v] (truthy v))) : DT X κ E a (mTru ma) :=
  (pt_truth ha he).imp fun σ H Q ⟨F0, H0, F, ρ, S, c⟩ => by
    refine ⟨F0, H0, F, ρ, S, Res.sat_imp (Res.sat_bind c) (fun d _ k v F' H' e r => ?_) fun _ z => z⟩
    have w := r.whole e.s
    cases w with
    | non => exact ⟨false, rfl, k F' H' e⟩
    | bl b => exact ⟨b, rfl, k F' H' e⟩
    | int i => exact ⟨_, rfl, k F' H' e⟩
    | str x hx =>
      unfold truD at k
      by_cases z : x.length ≤ sizeLine
      · simp only [if_pos z] at k
        exact ⟨_, ⟨z, rfl⟩, k F' H' e⟩
      · simp only [if_neg z] at k
        exact k.elim
    | @lst a xs ds h1 h2 =>
      refine ⟨!ds.isEmpty, .inl ⟨xs, h1, ?_⟩, k F' H' e⟩
      cases h2 <;> rfl
    | @tup a xs ds h1 h2 =>
      refine ⟨!ds.isEmpty, .inr (.inl ⟨xs, h1, ?_⟩), k F' H' e⟩
      cases h2 <;> rfl
    | @dct a kvs ds h1 h2 => exact k.elim
/-! and, or, not as tests -/
def mAnd (t u : Env → Res Bool) : Env → Res Bool := fun ρ => (t ρ).bind fun b => if b = true then u ρ else .ok false
def mOr (t u : Env → Res Bool) : Env → Res Bool := fun ρ => (t ρ).bind fun b => if b = true then .ok true else u ρ
def mNot (t : Env → Res Bool) : Env → Res Bool := fun ρ => (t ρ).bind fun b => .ok (!b)
variable {rest : List Expr}
theorem dw_and1 {t : Env → Res Bool} (h : DT X κ E a t) : DW X κ E (.BoolOp .And [a] pos) t := pw_and1 h
theorem dw_or1 {t : Env → Res Bool} (h : DT X κ E a t) : DW X κ E (.BoolOp .Or [a] pos) t := pw_or1 h
theorem dw_and {t u : Env → Res Bool} (h : DT X κ E a t) (h2 : DW X κ E (.BoolOp .And (b :: rest) pos) u) : DW X κ E (.BoolOp .And (a :: b :: rest) pos) (mAnd t u) :=
  (pw_and h h2).imp fun σ H Q ⟨F0, H0, F, ρ, S, c⟩ => ⟨F0, H0, F, ρ, S, Res.sat_imp (Res.sat_bind c) (fun b _ k F' H' e => by
    cases b with
    | true => exact ⟨F0, H0, F', ρ, S.mono e, Res.sat_imp k (fun b _ k F2 H2 e2 => k F2 H2 (e.trans e2)) fun x z => z.mono e⟩
    | false => exact k F' H' e) fun _ z => z⟩
theorem dw_or {t u : Env → Res Bool} (h : DT X κ E a t) (h2 : DW X κ E (.BoolOp .Or (b :: rest) pos) u) : DW X κ E (.BoolOp .Or (a :: b :: rest) pos) (mOr t u) :=
  (pw_or h h2).imp fun σ H Q ⟨F0, H0, F, ρ, S, c⟩ => ⟨F0, H0, F, ρ, S, Res.sat_imp (Res.sat_bind c) (fun b _ k F' H' e => by
    cases b with
    | false => exact ⟨F0, H0, F', ρ, S.mono e, Res.sat_imp k (fun b _ k F2 H2 e2 => k F2 H2 (e.trans e2)) fun x z => z.mono e⟩
    | true => exact k F' H' e) fun _ z => z⟩
theorem dt_not {t : Env → Res Bool} (h : DT X κ E a t) : DT X κ E (.UnaryOp .Not a pos) (mNot t) :=
  (pt_not h).imp fun σ H Q ⟨F0, H0, F, ρ, S, c⟩ => ⟨F0, H0, F, ρ, S, Res.sat_imp (Res.sat_bind c) (fun b _ k F' H' e => k F' H' e) fun _ z => z⟩
/-! .. as values, of bools -/
def boolD : D → Res Bool
  | .bool b => .ok b
  | _ => .stk
def mAndV (t u : Env → Res D) : Env → Res D := fun ρ => (t ρ).bind fun d => (boolD d).bind fun b => if b = true then u ρ else .ok (.bool false)
def mOrV (t u : Env → Res D) : Env → Res D := fun ρ => (t ρ).bind fun d => (boolD d).bind fun b => if b = true then .ok (.bool true) else u ρ
def mNotV (t : Env → Res D) : Env → Res D := fun ρ => (t ρ).bind fun d => (boolD d).bind fun b => .ok (.bool (!b))
theorem boolD_sat {d : D} {P : Bool → Prop} {R : Exn → Prop} (h : (boolD d).sat P R) : ∃ b, d = .bool b ∧ P b := by
  cases d <;> first | exact ⟨_, rfl, h⟩ | exact h.elim
theorem de_one {op} {m : Env → Res D} (h : DE X κ E a m) : DE X κ E (.BoolOp op [a] pos) m := pe_one h
theorem de_and {ma mb : Env → Res D} (ha : DE X κ E a ma) (hb : DE X κ E (.BoolOp .And (b :: rest) pos) mb) : DE X κ E (.BoolOp .And (a :: b :: rest) pos) (mAndV ma mb) :=
  (pe_and ha hb).imp fun σ H Q ⟨F0, H0, F, ρ, S, c⟩ => ⟨F0, H0, F, ρ, S, Res.sat_imp (Res.sat_bind c) (fun d _ k v F' H' e r => by
    obtain ⟨b, rfl, k⟩ := boolD_sat (Res.sat_bind k)
    cases r
    refine ⟨b, rfl, ?_⟩
    cases b with
    | true => exact ⟨F0, H0, F', ρ, S.mono e, Res.sat_imp k (fun d _ k v F2 H2 e2 r => k v F2 H2 (e.trans e2) r) fun x z => z.mono e⟩
    | false => exact k (.bl false) F' H' e (.bl false)) fun _ z => z⟩
theorem de_or {ma mb : Env → Res D} (ha : DE X κ E a ma) (hb : DE X κ E (.BoolOp .Or (b :: rest) pos) mb) : DE X κ E (.BoolOp .Or (a :: b :: rest) pos) (mOrV ma mb) :=
  (pe_or ha hb).imp fun σ H Q ⟨F0, H0, F, ρ, S, c⟩ => ⟨F0, H0, F, ρ, S, Res.sat_imp (Res.sat_bind c) (fun d _ k v F' H' e r => by
    obtain ⟨b, rfl, k⟩ := boolD_sat (Res.sat_bind k)
    cases r
    refine ⟨b, rfl, ?_⟩
    cases b with
    | false => exact ⟨F0, H0, F', ρ, S.mono e, Res.sat_imp k (fun d _ k v F2 H2 e2 r => k v F2 H2 (e.trans e2) r) fun x z => z.mono e⟩
    | true => exact k (.bl true) F' H' e (.bl true)) fun _ z => z⟩
theorem de_not {ma : Env → Res D} (ha : DE X κ E a ma) : DE X κ E (.UnaryOp .Not a pos) (mNotV ma) :=
  (pe_not ha).imp fun σ H Q ⟨F0, H0, F, ρ, S, c⟩ => ⟨F0, H0, F, ρ, S, Res.sat_imp (Res.sat_bind c) (fun d _ k v F' H' e r => by
    obtain ⟨b, rfl, k⟩ := boolD_sat (Res.sat_bind k)
    cases r
    exact ⟨b, rfl, k _ F' H' e (.bl _)⟩) fun _ z => z⟩
/-! x if t else y -/
def mIf (t : Env → Res Bool) (ma mb : Env → Res D) : Env → Res D := fun ρ => (t ρ).bind fun b => if b = true then ma ρ else mb ρ
theorem de_if {t : Env → Res Bool} {ma mb : Env → Res D} (ht : DT X κ E c t) (ha : DE X κ E a ma) (hb : DE X κ E b mb) : DE X κ E (.IfExp c a b pos) (mIf t ma mb) :=
  (pe_ifExp ht ha hb).imp fun σ H Q ⟨F0, H0, F, ρ, S, c⟩ => ⟨F0, H0, F, ρ, S, Res.sat_imp (Res.sat_bind c) (fun b _ k F' H' e => by
    cases b with
    | true => exact ⟨F0, H0, F', ρ, S.mono e, Res.sat_imp k (fun d _ k v F2 H2 e2 r => k v F2 H2 (e.trans e2) r) fun x z => z.mono e⟩
    | false => exact ⟨F0, H0, F', ρ, S.mono e, Res.sat_imp k (fun d _ k v F2 H2 e2 r => k v F2 H2 (e.trans e2) r) fun x z => z.mono e⟩) fun _ z => z⟩

/-! ### arguments, displays -/
def mNil : Env → Res (List D) := fun _ => .ok []
def mCons (m : Env → Res D) (ms : Env → Res (List D)) : Env → Res (List D) := fun ρ => (m ρ).bind fun d => (ms ρ).bind fun ds => .ok (d :: ds)
theorem da_nil : DA X κ E [] mNil := pa_nil.imp fun σ H Q ⟨F0, H0, F, ρ, S, c⟩ => c [] F H (Ext.refl S.sub) .nil
theorem da_cons {m : Env → Res D} {ms : Env → Res (List D)} (h : DE X κ E e m) (hs : DA X κ E es ms) (hst : starEach (e :: es) X.env = (false, eval e X.env) :: starEach es X.env := by rfl) : DA X κ E (e :: es) (mCons m ms) :=
  (pa_cons h hs hst).imp fun σ H Q ⟨F0, H0, F, ρ, S, c⟩ => ⟨F0, H0, F, ρ, S, Res.sat_imp (Res.sat_bind c) (fun d _ k v F' H' e r =>
    ⟨F0, H0, F', ρ, S.mono e, Res.sat_imp (Res.sat_bind k) (fun ds _ k vs F2 H2 e2 rs => k (v :: vs) F2 H2 (e.trans e2) (.cons (r.mono e2.f) rs)) fun x z => z.mono e⟩) fun _ z => z⟩
def mTup (m : Env → Res (List D)) : Env → Res D := fun ρ => (m ρ).bind fun ds => if ds.length ≤ sizeLine then .ok (.tuple ds) else .stk
theorem de_tup {x1} {m : Env → Res (List D)} (h : DA X κ E es m) : DE X κ E (.Tuple es x1 pos) (mTup m) :=
  (pe_tup h).imp fun σ H Q ⟨F0, H0, F, ρ, S, c⟩ => ⟨F0, H0, F, ρ, S, Res.sat_imp (Res.sat_bind c) (fun ds _ k vs F' H' e r => by
    by_cases z : ds.length ≤ sizeLine
    · simp only [if_pos z] at k
      exact ⟨by rw [r.length]; exact z, fun p hp => k _ (upd F' p (.tup vs)) _ (e.trans (.new e.s hp)) (.tup (Evl.st_of upd_same) (r.mono (Ex.new (none_of_ex e.s hp))))⟩
    · simp only [if_neg z] at k
      exact k.elim) fun _ z => z⟩
def mLst (m : Env → Res (List D)) : Env → Res (List D) := fun ρ => (m ρ).bind fun ds => if ds.length ≤ sizeLine then .ok ds else .stk
theorem dn_lst {m : Env → Res (List D)} (h : DA X κ E es m) : DN X κ E (.List es pos) (mLst m) :=
  (pe_lst h).imp fun σ H Q ⟨F0, H0, F, ρ, S, c⟩ => ⟨F0, H0, F, ρ, S, Res.sat_imp (Res.sat_bind c) (fun ds _ k vs F' H' e r => by
    by_cases z : ds.length ≤ sizeLine
    · simp only [if_pos z] at k
      exact ⟨by rw [r.length]; exact z, fun p hp => k p vs F' _ (e.trans (.newO e.s hp)) (fresh_back e.h hp) (none_of_ex e.s hp) upd_same r⟩
    · simp only [if_neg z] at k
      exact k.elim) fun _ z => z⟩
end
end WD

namespace WD
open PySem PySem.Spec PyProof.Rows L2
open Evl (Ex Ex.refl Ex.trans Ex.new Ex.mut ex_l ex_t fresh_back)

/-! ### statements -/
inductive Out where
  | nx (ρ : Env) | bk (ρ : Env) | ct (ρ : Env) | rt (d : D) | err (x : Exn) | stk
def Out.sat (N B C : Env → Prop) (T : D → Prop) (R : Exn → Prop) : Out → Prop
  | .nx ρ => N ρ
  | .bk ρ => B ρ
  | .ct ρ => C ρ
  | .rt d => T d
  | .err x => R x
  | .stk => False
theorem Out.sat_imp {N B C N' B' C' : Env → Prop} {T T' : D → Prop} {R R' : Exn → Prop} {o : Out} (h : Out.sat N B C T R o) (hn : ∀ ρ, N ρ → N' ρ) (hb : ∀ ρ, B ρ → B' ρ) (hc : ∀ ρ, C ρ → C' ρ) (ht : ∀ d, T d → T' d) (hr : ∀ x, R x → R' x) : Out.sat N' B' C' T' R' o := by
  cases o with
  | nx ρ => exact hn ρ h
  | bk ρ => exact hb ρ h
  | ct ρ => exact hc ρ h
  | rt d => exact ht d h
  | err x => exact hr x h
  | stk => exact h
def Res.out {α : Type} (r : Res α) (f : α → Out) : Out :=
  match r with
  | .ok a => f a
  | .err x => .err x
  | .stk => .stk
theorem out_sat {α : Type} {N B C : Env → Prop} {T : D → Prop} {R : Exn → Prop} {r : Res α} {f : α → Out} (h : Out.sat N B C T R (r.out f)) : Res.sat (fun a => Out.sat N B C T R (f a)) R r := by
  cases r <;> exact h
section
variable (mg : Mg) (K : Frag) (κ : Nat → Kd) (E : EX)
/-- what is asked of where a statement ends; F0 H0: the entry's -/
def OutOk (F0 H0 F H : Hp) (Dn : Ends) (o : Out) : Prop :=
  Out.sat (fun ρ' => ∀ σ' F' H', Ex F F' → Stt K κ F0 H0 F' H' σ' ρ' → Dn.nx σ' H') (fun ρ' => ∀ σ' F' H', Ex F F' → Stt K κ F0 H0 F' H' σ' ρ' → Dn.bk σ' H') (fun ρ' => ∀ σ' F' H', Ex F F' → Stt K κ F0 H0 F' H' σ' ρ' → Dn.ct σ' H')
    (fun d => ∀ v F' H', Ext F0 H0 F' H' → E.ret H0 d v F' H' → Dn.rt v H') (fun x => ∀ σ, ErrOk mg K (E.err σ) F0 H0 x) o
theorem OutOk.mono {mg : Mg} {K : Frag} {κ : Nat → Kd} {E : EX} {F0 H0 F H F' H' : Hp} {Dn : Ends} {o : Out} (x : Ex F F') (h : OutOk mg K κ E F0 H0 F H Dn o) : OutOk mg K κ E F0 H0 F' H' Dn o :=
  Out.sat_imp h (fun ρ k σ' F2 H2 e s => k σ' F2 H2 (x.trans e) s) (fun ρ k σ' F2 H2 e s => k σ' F2 H2 (x.trans e) s) (fun ρ k σ' F2 H2 e s => k σ' F2 H2 (x.trans e) s) (fun _ z => z) fun _ z => z
def rdS (m : Env → Out) : TS := fun Dn σ H => ∃ F0 H0 F ρ, Stt K κ F0 H0 F H σ ρ ∧ OutOk mg K κ E F0 H0 F H Dn (m ρ)
end
def DS (X : Cx) (κ : Nat → Kd) (E : EX) (e : Stmt) (m : Env → Out) : Prop := PS X e (rdS X.mg X.K κ E m)
def DSs (X : Cx) (κ : Nat → Kd) (E : EX) (e : List Stmt) (m : Env → Out) : Prop := PSs X e (rdS X.mg X.K κ E m)

section
variable {X : Cx} {κ : Nat → Kd} {E : EX} {a b c e : Expr} {es : List Expr} {pos : Pos} {st : Stmt} {sts : List Stmt}
def mNext : Env → Out := .nx
def mSeq (m n : Env → Out) : Env → Out := fun ρ =>
  match m ρ with
  | .nx ρ' => n ρ'
  | o => o
theorem ds_nil : DSs X κ E [] mNext := pss_nil.imp fun Dn σ H ⟨F0, H0, F, ρ, S, k⟩ => k σ F H (Ex.refl F) S
theorem ds_cons {m n : Env → Out} (h : DS X κ E st m) (hs : DSs X κ E sts n) : DSs X κ E (st :: sts) (mSeq m n) :=
  (pss_cons h hs).imp fun Dn σ H ⟨F0, H0, F, ρ, S, k⟩ => ⟨F0, H0, F, ρ, S, by
    unfold mSeq at k
    cases q : m ρ with
    | nx ρ' => rw [q] at k; exact fun σ' F' H' x S' => ⟨F0, H0, F', ρ', S', OutOk.mono (H := H) x k⟩
    | bk ρ' => rw [q] at k; exact k
    | ct ρ' => rw [q] at k; exact k
    | rt d => rw [q] at k; exact k
    | err x => rw [q] at k; exact k
    | stk => rw [q] at k; exact k⟩
theorem ds_one {m : Env → Out} (h : DS X κ E st m) : DSs X κ E [st] m := pss_one h
theorem ds_pass : DS X κ E (.Pass pos) mNext := ps_pass.imp fun Dn σ H ⟨F0, H0, F, ρ, S, k⟩ => k σ F H (Ex.refl F) S
theorem ds_break : DS X κ E (.Break pos) .bk := ps_break.imp fun Dn σ H ⟨F0, H0, F, ρ, S, k⟩ => k σ F H (Ex.refl F) S
theorem ds_continue : DS X κ E (.Continue pos) .ct := ps_continue.imp fun Dn σ H ⟨F0, H0, F, ρ, S, k⟩ => k σ F H (Ex.refl F) S
theorem ds_doc {x j pos pos'} : DS X κ E (.Expr (.Constant (.str x) j pos) pos') mNext := ps_doc.imp fun Dn σ H ⟨F0, H0, F, ρ, S, k⟩ => k σ F H (Ex.refl F) S
/-- what is never reached -/
def mStk : Env → Out := fun _ => .stk
theorem ds_stk : DS X κ E st mStk := ps_never.imp fun Dn σ H ⟨F0, H0, F, ρ, S, k⟩ => k
/-- the error's wish, seen from the entry -/
theorem err_back {mg : Mg} {K : Frag} {F0 H0 F H : Hp} {σ : L2.St} {ρ : Env} (S : Stt K κ F0 H0 F H σ ρ) {x : Exn} (h : ∀ σ, ErrOk mg K (E.err σ) F0 H0 x) {σ' : L2.St} : ErrOk mg K (E.err σ') F H x := (h σ').mono S.ext
def mRet (m : Env → Res D) : Env → Out := fun ρ => (m ρ).out .rt
theorem ds_ret {m : Env → Res D} (h : DE X κ E e m) (hR : ∀ H0 d v F H, Rp X.K F v d → E.ret H0 d v F H := by exact fun _ _ _ _ _ h => h) : DS X κ E (.Return (some e) pos) (mRet m) :=
  (ps_ret h).imp fun Dn σ H ⟨F0, H0, F, ρ, S, k⟩ => ⟨F0, H0, F, ρ, S, Res.sat_imp (out_sat k) (fun d _ k v F' H' x r => k v F' H' (S.ext.trans x) (hR _ _ _ _ _ r)) fun x z => err_back S z⟩
theorem ds_retN (hR : ∀ H0 d v F H, Rp X.K F v d → E.ret H0 d v F H := by exact fun _ _ _ _ _ h => h) : DS X κ E (.Return none pos) (fun _ => .rt .none) := ps_retN.imp fun Dn σ H ⟨F0, H0, F, ρ, S, k⟩ => k .non F H S.ext (hR _ _ _ _ _ .non)
def mAsg (i : Nat) (m : Env → Res D) : Env → Out := fun ρ => (m ρ).out fun d => .nx (ρ.set i (some d))
theorem ds_set {i : Nat} {x : Str} {pos' : Pos} {m : Env → Res D} (hk : κ i = .im) (hN : X.N.Nodup) (hi : X.N[i]? = some x) (hx : Loc X.env.scope x) (h : DE X κ E e m) (hs : swapsWith e (some (.Name x pos')) pos.line X.env = pure false := by rfl)
    (hf : X.fn x = true ∨ X.env.scope.names.lookup x = some .local := by first | exact .inl rfl | exact .inr rfl | assumption) : DS X κ E (.Assign [.Name x pos'] e pos) (mAsg i m) :=
  (ps_set (i := i) hN hi hx h hs hf).imp fun Dn σ H ⟨F0, H0, F, ρ, S, k⟩ => ⟨F0, H0, F, ρ, S, Res.sat_imp (out_sat k) (fun d _ k v F' H' x r => k _ F' H' x.f ((S.mono x).set hk r)) fun x z => err_back S z⟩
/-- an owned name gets a new list -/
def mAsgN (i : Nat) (m : Env → Res (List D)) : Env → Out := fun ρ => (m ρ).out fun ds => .nx (ρ.set i (some (.list ds)))
theorem asgN {mg : Mg} {K : Frag} {i : Nat} {m : Env → Res (List D)} (hk : κ i = .ow) {Dn : Ends} {σ : L2.St} {H F0 H0 F : Hp} {ρ : Env} (S : Stt K κ F0 H0 F H σ ρ) (k : OutOk mg K κ E F0 H0 F H Dn (mAsgN i m ρ)) :
    (m ρ).sat (fun ds => ∀ p vs F' H', Ext F H F' H' → H p = none → F' p = none → H' p = some (.lst vs) → RpA K F' vs ds → Dn.nx (σ.set i (some (.ref p))) H') (ErrOk mg K (E.err σ) F H) :=
  Res.sat_imp (out_sat k) (fun ds _ k p vs F' H' x hp fp hv r => k _ F' H' x.f ((S.mono x).setO hk (fresh_back S.h0 hp) fp (.inl ⟨vs, ds, rfl, hv, r⟩) (fun j d w hj _ ej ow => ((S.slotAt hj ej).owned (Owns.back (S.slotAt hj ej) (fun a _ o q => x.h a o q) (fun a o q => x.s a o (x.f a o q)) ow)).2.2 hp))) fun x z => err_back S z
theorem ds_setN {i : Nat} {x : Str} {pos' : Pos} {m : Env → Res (List D)} (hk : κ i = .ow) (hN : X.N.Nodup) (hi : X.N[i]? = some x) (hx : Loc X.env.scope x) (h : DN X κ E e m) (hs : swapsWith e (some (.Name x pos')) pos.line X.env = pure false := by rfl)
    (hf : X.fn x = true ∨ X.env.scope.names.lookup x = some .local := by first | exact .inl rfl | exact .inr rfl | assumption) : DS X κ E (.Assign [.Name x pos'] e pos) (mAsgN i m) :=
  (ps_set (i := i) hN hi hx h hs hf).imp fun Dn σ H ⟨F0, H0, F, ρ, S, k⟩ => ⟨F0, H0, F, ρ, S, asgN hk S k⟩
def mIfS (t : Env → Res Bool) (m n : Env → Out) : Env → Out := fun ρ => (t ρ).out fun b => if b = true then m ρ else n ρ
theorem ds_if {t : Env → Res Bool} {m n : Env → Out} {sts2 : List Stmt} (hc : DT X κ E c t) (h1 : DSs X κ E sts m) (h2 : DSs X κ E sts2 n) : DS X κ E (.If c sts sts2 pos) (mIfS t m n) :=
  (ps_if hc h1 h2).imp fun Dn σ H ⟨F0, H0, F, ρ, S, k⟩ => ⟨F0, H0, F, ρ, S, Res.sat_imp (out_sat k) (fun b _ k F' H' x => by
    cases b with
    | true => exact ⟨F0, H0, F', ρ, S.mono x, OutOk.mono (H := H) x.f k⟩
    | false => exact ⟨F0, H0, F', ρ, S.mono x, OutOk.mono (H := H) x.f k⟩) fun x z => err_back S z⟩
def mExpr (m : Env → Res D) : Env → Out := fun ρ => (m ρ).out fun _ => .nx ρ
theorem ds_expr {m : Env → Res D} (h : DE X κ E e m) (hs : swapsWith e none pos.line X.env = pure false := by rfl) : DS X κ E (.Expr e pos) (mExpr m) :=
  (ps_expr h hs).imp fun Dn σ H ⟨F0, H0, F, ρ, S, k⟩ => ⟨F0, H0, F, ρ, S, Res.sat_imp (out_sat k) (fun d _ k v F' H' x r => k σ F' H' x.f (S.mono x)) fun x z => err_back S z⟩

/-! ### freezing an owned slot; forgetting a slot -/
/-- F and the objects that a slot owns -/
theorem OdK.still {K : Frag} {H0 F H F' : Hp} (f : Ex F F') : ∀ {kvs : List (Key × V)} {ds : List (D × D)}, (∀ q b, (q, V.ref b) ∈ kvs → F' b = H b) → OdK K H0 F H kvs ds → RpK K F' kvs ds
  | _, _, _, .nil => .nil
  | _, _, hh, .cons ko h1 h2 h3 h4 h5 => .cons ko (.lst (Evl.sq_of ((hh _ _ List.mem_cons_self).trans h3)) (h4.mono f)) (OdK.still f (fun q b hb => hh q b (List.mem_cons_of_mem _ hb)) h5)
/-- the heap with the object of a held as it lies, if it is a dict -/
theorem lock_at {X : Cx} {pins : List (Addr × Obj)} {σ : L2.St} {H : Hp} {s : Shared} (I : Inv X pins σ H s) {a : Addr} {u : HO} (h : H a = some u) (hl : (∃ xs, u = .lst xs) ∨ ∃ kvs, u = .dK kvs) :
    ∃ u', (∀ kvs, u' ≠ .dK kvs) ∧ Inv X pins σ (upd H a u') s ∧ ((∃ xs, u = .lst xs ∧ u' = .lst xs) ∨ ∃ kvs o, u = .dK kvs ∧ u' = .frz o (.dK kvs)) := by
  rcases hl with ⟨xs, rfl⟩ | ⟨kvs, rfl⟩
  · have e : upd H a (.lst xs) = H := by
      funext b
      by_cases z : b = a
      · rw [z, upd_same, h]
      · rw [upd_ne z]
    exact ⟨.lst xs, (fun _ z => by cases z), (by rw [e]; exact I), .inl ⟨xs, rfl, rfl⟩⟩
  · obtain ⟨o, I2⟩ := I.lock h True.intro
    exact ⟨_, (fun _ z => by cases z), I2, .inr ⟨kvs, o, rfl, rfl⟩⟩
open Classical in
theorem Stt.freeze {X : Cx} {pins : List (Addr × Obj)} {s : Shared} {F0 H0 F H : Hp} {σ : L2.St} {ρ : Env} (I : Inv X pins σ H s) (S : Stt X.K κ F0 H0 F H σ ρ) (i : Nat) {κ' : Nat → Kd} (hi : (κ i).owned = true) (hi' : κ' i = .im) (ho : ∀ j, j ≠ i → κ' j = κ j) :
    ∃ F' H', Ex F F' ∧ Inv X pins σ H' s ∧ Stt X.K κ' F0 H0 F' H' σ ρ := by
  have sep' : ∀ j l b dj dl u w, j ≠ l → ρ[j]? = some (some dj) → ρ[l]? = some (some dl) → σ[j]? = some (some u) → σ[l]? = some (some w) → Owns (κ' j) H u b → Owns (κ' l) H w b → False := fun j l b dj dl u w n hj hl ej el oj ol => by
    have nj : j ≠ i := fun z => by rw [z, hi'] at oj; exact oj
    have nl : l ≠ i := fun z => by rw [z, hi'] at ol; exact ol
    rw [ho j nj] at oj
    rw [ho l nl] at ol
    exact S.sep j l b dj dl u w n hj hl ej el oj ol
  cases hd : (ρ[i]?).join with
  | none =>
    have hn : ∀ d, ρ[i]? ≠ some (some d) := fun d e => by rw [e] at hd; cases hd
    refine ⟨F, H, Ex.refl F, I, S.ex0, S.h0, S.o0, S.sub, S.nf, S.len, fun j d h => ?_, sep'⟩
    have : j ≠ i := fun z => hn d (z ▸ h)
    rw [ho j this]
    exact S.slot j d h
  | some d =>
    have hd' := join_some hd
    obtain ⟨u, hu, si⟩ := S.slot i d hd'
    -- the outer object
    obtain ⟨a, x, eu, own_a, hx, hxl⟩ : ∃ a x, u = .ref a ∧ Owns (κ i) H u a ∧ H a = some x ∧ ((∃ xs, x = .lst xs) ∨ ∃ kvs, x = .dK kvs) := by
      cases kj : κ i with
      | ow =>
        rw [kj] at si
        obtain ⟨a, e, a0, fa, o⟩ := si
        rcases o with ⟨vs, ds, _, g, r⟩ | ⟨vs, ds, _, g, r⟩
        · exact ⟨a, _, e, e, g, .inl ⟨_, rfl⟩⟩
        · exact ⟨a, _, e, e, g, .inr ⟨_, rfl⟩⟩
      | pw p =>
        rw [kj] at si
        obtain ⟨e, a0, fa, o⟩ := si
        rcases o with ⟨vs, ds, _, g, r⟩ | ⟨vs, ds, _, g, r⟩
        · exact ⟨p, _, e, e, g, .inl ⟨_, rfl⟩⟩
        · exact ⟨p, _, e, e, g, .inr ⟨_, rfl⟩⟩
      | od =>
        rw [kj] at si
        obtain ⟨a, kvs, ds, e, a0, fa, _, g, ok, nd⟩ := si
        exact ⟨a, _, e, .inl e, g, .inr ⟨_, rfl⟩⟩
      | op =>
        rw [kj] at si
        obtain ⟨a, bs, ws, ds, e, a0, fa, _, g, ok, nd⟩ := si
        exact ⟨a, _, e, .inl e, g, .inl ⟨_, rfl⟩⟩
      | im => rw [kj] at hi; cases hi
      | bw => rw [kj] at hi; cases hi
      | xn _ _ => rw [kj] at hi; cases hi
    obtain ⟨x', nx, I', hxx⟩ := lock_at I hx hxl
    obtain ⟨F', hF'⟩ : ∃ F' : Hp, F' = fun b => if Owns (κ i) H u b then upd H a x' b else F b := ⟨_, rfl⟩
    have inn : ∀ b, Owns (κ i) H u b → F' b = upd H a x' b := fun b o => by rw [hF']; exact if_pos o
    have out : ∀ b, ¬ Owns (κ i) H u b → F' b = F b := fun b o => by rw [hF']; exact if_neg o
    have fF : Ex F F' := fun b y e => by rw [out b fun o => by rw [(si.owned o).2.1] at e; cases e]; exact e
    have fa' : F' a = some x' := (inn a own_a).trans upd_same
    have stay : ∀ b, ¬ Owns (κ i) H u b → upd H a x' b = H b := fun b o => upd_ne fun z => o (z ▸ own_a)
    have keepO : ∀ {j : Nat} {w : V} {dj : D} {b : Addr}, j ≠ i → ρ[j]? = some (some dj) → σ[j]? = some (some w) → Owns (κ j) H w b → ¬ Owns (κ i) H u b := fun {j w dj b} z hj g ob oi => S.sep i j b d dj u w (Ne.symm z) hd' hj hu g oi ob
    have lstOf : ∀ b, Owns (κ i) H u b → ∀ y, upd H a x' b = some y → ∀ kvs, y ≠ .dK kvs := fun b o y e kvs => by
      by_cases z : b = a
      · rw [z, upd_same] at e; cases e; exact nx kvs
      · rw [upd_ne z] at e
        cases kj : κ i with
        | ow => rw [kj] at o; have o : u = .ref b := o; rw [eu] at o; cases o; exact absurd rfl z
        | pw p => rw [kj] at o; have o : u = .ref b := o; rw [eu] at o; cases o; exact absurd rfl z
        | od =>
          rw [kj] at si o
          obtain ⟨a', kvs', ds, e', a0, fa, _, g, ok, nd⟩ := si
          rcases (show u = .ref b ∨ ∃ a kvs q, u = .ref a ∧ H a = some (.dK kvs) ∧ (q, V.ref b) ∈ kvs from o) with o | ⟨a2, k2, q, e2, g2, m⟩
          · rw [eu] at o; cases o; exact absurd rfl z
          · rw [e'] at e2; cases e2
            rw [g] at g2; cases g2
            obtain ⟨_, _, vs, hb⟩ := ok.mem m
            rw [hb] at e; cases e
            exact fun q => by cases q
        | op =>
          rw [kj] at si o
          obtain ⟨a', bs, ws, ds, e', a0, fa, _, g, ok, nd⟩ := si
          rcases (show u = .ref b ∨ ∃ a ws t x, u = .ref a ∧ H a = some (.lst ws) ∧ V.ref t ∈ ws ∧ H t = some (.tup [x, .ref b]) from o) with o | ⟨a2, w2, t, x2, e2, g2, m, m2⟩
          · rw [eu] at o; cases o; exact absurd rfl z
          · rw [e'] at e2; cases e2
            rw [g] at g2; cases g2
            obtain ⟨⟨_, _, vs, hb⟩, _⟩ := ok.at (ok.mem m m2)
            rw [hb] at e; cases e
            exact fun q => by cases q
        | im => rw [kj] at hi; cases hi
        | bw => rw [kj] at hi; cases hi
        | xn _ _ => rw [kj] at hi; cases hi
    refine ⟨F', upd H a x', fF, I', S.ex0.trans fF, fun b y e => ?_, fun b h3 h4 => ?_, fun b w q => ?_, fun b kvs q => ?_, S.len, fun j dj h => ?_, fun j l b dj dl v w n hj hl ej el oj ol => ?_⟩
    · rw [stay b fun o => by rw [(si.owned o).1] at e; cases e]
      exact S.h0 b y e
    · rw [out b fun o => h4 (si.owned o).1]
      exact S.o0 b h3 h4
    · by_cases o : Owns (κ i) H u b
      · rw [inn b o] at q; exact q
      · rw [out b o] at q; rw [stay b o]; exact S.sub b w q
    · by_cases o : Owns (κ i) H u b
      · rw [inn b o] at q; exact lstOf b o _ q kvs rfl
      · rw [out b o] at q; exact S.nf b kvs q
    · by_cases z : j = i
      · subst z
        rw [hd'] at h
        cases h
        refine ⟨u, hu, ?_⟩
        rw [hi']
        cases kj : κ j with
        | ow =>
          rw [kj] at si
          obtain ⟨a2, e, a0, fa, o⟩ := si
          rw [eu] at e
          cases e
          subst eu
          rcases o with ⟨vs, ds, rfl, g, r⟩ | ⟨vs, ds, rfl, g, r⟩
          · rw [hx] at g
            cases g
            rcases hxx with ⟨xs, e1, e2⟩ | ⟨kvs, o, e1, e2⟩
            · cases e1; subst e2; exact Rp.lst (Evl.sq_of fa') (r.mono fF)
            · cases e1
          · rw [hx] at g
            cases g
            rcases hxx with ⟨xs, e1, e2⟩ | ⟨kvs, o, e1, e2⟩
            · cases e1
            · cases e1; subst e2; exact Rp.dct (.inr ⟨o, fa'⟩) (r.mono fF)
        | pw p =>
          rw [kj] at si
          obtain ⟨e, a0, fa, o⟩ := si
          rw [eu] at e
          cases e
          subst eu
          rcases o with ⟨vs, ds, rfl, g, r⟩ | ⟨vs, ds, rfl, g, r⟩
          · rw [hx] at g
            cases g
            rcases hxx with ⟨xs, e1, e2⟩ | ⟨kvs, o, e1, e2⟩
            · cases e1; subst e2; exact Rp.lst (Evl.sq_of fa') (r.mono fF)
            · cases e1
          · rw [hx] at g
            cases g
            rcases hxx with ⟨xs, e1, e2⟩ | ⟨kvs, o, e1, e2⟩
            · cases e1
            · cases e1; subst e2; exact Rp.dct (.inr ⟨o, fa'⟩) (r.mono fF)
        | od =>
          rw [kj] at si inn stay
          obtain ⟨a2, kvs, ds, e, a0, fa, rfl, g, ok, nd⟩ := si
          rw [eu] at e
          cases e
          have nest : ∀ q b, (q, V.ref b) ∈ kvs → F' b = H b := fun q b hb => by
            rw [inn b (.inr ⟨a, kvs, q, eu, g, hb⟩), upd_ne fun z => ?_]
            obtain ⟨_, _, vs, h⟩ := ok.mem hb
            rw [z, g] at h; cases h
          have r := ok.still fF nest
          subst eu
          rw [hx] at g
          cases g
          rcases hxx with ⟨xs, e1, e2⟩ | ⟨kvs, o, e1, e2⟩
          · cases e1
          · cases e1; subst e2; exact Rp.dct (.inr ⟨o, fa'⟩) r
        | op =>
          rw [kj] at si inn stay
          obtain ⟨a2, bs, ws, ds, e, a0, fa, rfl, g, ok, nd, na⟩ := si
          rw [eu] at e
          cases e
          have nest : ∀ b ∈ bs, F' b = H b := fun b hb => by
            obtain ⟨_, t, x, m, g2⟩ := ok.at hb
            rw [inn b (.inr ⟨a, ws, t, x, eu, g, m, g2⟩), upd_ne fun z => na (by rw [← z]; exact hb)]
          have r := ok.still fF nest
          subst eu
          rw [hx] at g
          cases g
          rcases hxx with ⟨xs, e1, e2⟩ | ⟨kvs, o, e1, e2⟩
          · cases e1; subst e2; exact Rp.lst (Evl.sq_of fa') r
          · cases e1
        | im => rw [kj] at hi; cases hi
        | bw => rw [kj] at hi; cases hi
        | xn _ _ => rw [kj] at hi; cases hi
      · obtain ⟨w, g1, g2⟩ := S.slot j dj h
        refine ⟨w, g1, ?_⟩
        rw [ho j z]
        exact g2.keep fF (fun b ob => by rw [out b (keepO z h g1 ob)]; exact (g2.owned ob).2.1)
          (fun b o h0 q => by rw [stay b fun oi => h0 (si.owned oi).1]; exact q) (fun b ob o q => by rw [stay b (keepO z h g1 ob)]; exact q) fun b o q => by
            rw [stay b fun oi => by rw [(si.owned oi).2.1] at q; cases q]
            exact S.sub b o q
    · have nj : j ≠ i := fun z => by rw [z, hi'] at oj; exact oj
      have nl : l ≠ i := fun z => by rw [z, hi'] at ol; exact ol
      rw [ho j nj] at oj
      rw [ho l nl] at ol
      have back : ∀ {j : Nat} {w : V} {dj : D}, j ≠ i → ρ[j]? = some (some dj) → σ[j]? = some (some w) → Owns (κ j) (upd H a x') w b → Owns (κ j) H w b := fun {j w dj} z hj g ob => by
        have g2 := S.slotAt hj g
        refine Owns.back g2 (fun a2 ea y hy => ?_) (fun a2 y q => ?_) ob
        · rw [stay a2 (keepO z hj g ?_)]
          · exact hy
          · subst ea
            have q := owns_owned ob
            generalize κ j = k at q ⊢
            cases k <;> first | exact rfl | exact Or.inl rfl | cases q
        · rw [stay a2 fun oi => by rw [(si.owned oi).2.1] at q; cases q]
          exact S.sub a2 y q
      exact S.sep j l b dj dl v w n hj hl ej el (back nj hj ej oj) (back nl hl el ol)
/-- from here on slot i stands still -/
def kdIm (κ : Nat → Kd) (i : Nat) : Nat → Kd := fun j => if j = i then .im else κ j
/-- the kinds at the end may be others -/
def rdS2 (mg : Mg) (K : Frag) (κ κe : Nat → Kd) (E : EX) (m : Env → Out) : TS := fun Dn σ H => ∃ F0 H0 F ρ, Stt K κ F0 H0 F H σ ρ ∧ OutOk mg K κe E F0 H0 F H Dn (m ρ)
def DSs2 (X : Cx) (κ κe : Nat → Kd) (E : EX) (e : List Stmt) (m : Env → Out) : Prop := PSs X e (rdS2 X.mg X.K κ κe E m)
variable {κe : Nat → Kd}
theorem ds2_of {m : Env → Out} (h : DSs X κ E sts m) : DSs2 X κ κ E sts m := h
/-- a statement that leaves nothing but by its end: no break, no continue -/
def Straight (m : Env → Out) : Prop := ∀ ρ, (∀ ρ', m ρ ≠ .bk ρ') ∧ ∀ ρ', m ρ ≠ .ct ρ'
theorem ds2_cons {m n : Env → Out} (h : DS X κ E st m) (hs : DSs2 X κ κe E sts n) (hm : ∀ ρ, (∀ ρ', m ρ ≠ .bk ρ') ∧ ∀ ρ', m ρ ≠ .ct ρ') : DSs2 X κ κe E (st :: sts) (mSeq m n) :=
  (pss_cons h hs).imp fun Dn σ H ⟨F0, H0, F, ρ, S, k⟩ => ⟨F0, H0, F, ρ, S, by
    unfold mSeq at k
    cases q : m ρ with
    | nx ρ' => rw [q] at k; exact fun σ' F' H' x S' => ⟨F0, H0, F', ρ', S', OutOk.mono (H := H) x k⟩
    | bk ρ' => exact absurd q ((hm ρ).1 ρ')
    | ct ρ' => exact absurd q ((hm ρ).2 ρ')
    | rt d => rw [q] at k; exact k
    | err x => rw [q] at k; exact k
    | stk => rw [q] at k; exact k⟩
theorem ds2_freeze (i : Nat) {m : Env → Out} (h : DSs2 X (kdIm κ i) κe E sts m) (hi : (κ i).owned = true) : DSs2 X κ κe E sts m :=
  ⟨fun pins s σ H Dn I ⟨F0, H0, F, ρ, S, k⟩ => by
    obtain ⟨F', H', x, I', S'⟩ := Stt.freeze I S i (κ' := kdIm κ i) hi (if_pos rfl) (fun j hj => if_neg hj)
    exact h.run pins s σ H' Dn I' ⟨F0, H0, F', ρ, S', OutOk.mono (H := H) x k⟩⟩
def forget (is : List Nat) (ρ : Env) : Env := is.foldl (fun r i => r.set i none) ρ
theorem forget_get : ∀ (is : List Nat) (ρ : Env) (i : Nat) (d : D), (forget is ρ)[i]? = some (some d) → ρ[i]? = some (some d) ∧ i ∉ is
  | [], ρ, i, d, h => ⟨h, by simp⟩
  | j :: is, ρ, i, d, h => by
    obtain ⟨h1, h2⟩ := forget_get is (ρ.set j none) i d h
    by_cases q : j = i
    · subst q
      rw [List.getElem?_set, if_pos rfl] at h1
      split at h1 <;> cases h1
    · rw [List.getElem?_set_ne q] at h1
      exact ⟨h1, by simp [h2, Ne.symm q]⟩
theorem forget_len : ∀ (is : List Nat) (ρ : Env), (forget is ρ).length = ρ.length
  | [], ρ => rfl
  | j :: is, ρ => by
    show (forget is (ρ.set j none)).length = _
    rw [forget_len is, List.length_set]
theorem Stt.forget {K : Frag} {F0 H0 F H : Hp} {σ : L2.St} {ρ : Env} (S : Stt K κe F0 H0 F H σ ρ) (is : List Nat) (hk : ∀ j, j ∉ is → κe j = κ j) : Stt K κ F0 H0 F H σ (forget is ρ) := by
  refine ⟨S.ex0, S.h0, S.o0, S.sub, S.nf, by rw [forget_len, S.len], fun j d h => ?_, fun j l a dj dl u w hn' hj hl ej el oj ol => ?_⟩
  · obtain ⟨h1, h2⟩ := forget_get is ρ j d h
    rw [← hk j h2]
    exact S.slot j d h1
  · obtain ⟨h1, h2⟩ := forget_get is ρ j dj hj
    obtain ⟨h3, h4⟩ := forget_get is ρ l dl hl
    rw [← hk j h2] at oj
    rw [← hk l h4] at ol
    exact S.sep j l a dj dl u w hn' h1 h3 ej el oj ol
def mForget (is : List Nat) (m : Env → Out) : Env → Out := fun ρ =>
  match m ρ with
  | .nx ρ' => .nx (forget is ρ')
  | .bk ρ' => .bk (forget is ρ')
  | .ct ρ' => .ct (forget is ρ')
  | .rt d => .rt d
  | .err x => .err x
  | .stk => .stk
theorem ds2_forget (is : List Nat) {m : Env → Out} (h : DSs2 X κ κe E sts m) (hk : ∀ j, j ∉ is → κe j = κ j) : DSs X κ E sts (mForget is m) :=
  PSs.imp h fun Dn σ H ⟨F0, H0, F, ρ, S, k⟩ => ⟨F0, H0, F, ρ, S, by
    unfold mForget at k
    cases q : m ρ with
    | nx ρ' => rw [q] at k; exact fun σ' F' H' x S' => k σ' F' H' x (S'.forget is hk)
    | bk ρ' => rw [q] at k; exact fun σ' F' H' x S' => k σ' F' H' x (S'.forget is hk)
    | ct ρ' => rw [q] at k; exact fun σ' F' H' x S' => k σ' F' H' x (S'.forget is hk)
    | rt d => rw [q] at k; exact k
    | err x => rw [q] at k; exact k
    | stk => rw [q] at k; exact k⟩

/-! ### targets -/
def rdG (K : Frag) (κ : Nat → Kd) (is : List Nat) (m : D → Env → Option Env) : TG := fun v σ H Q => ∃ F0 H0 F ρ d ρ', Stt K κ F0 H0 F H σ ρ ∧ Rp K F v d ∧ m d ρ = some ρ' ∧
  ∀ σ' F' H', Ext F H F' H' → Stt K κ F0 H0 F' H' σ' ρ' → σ'.length = σ.length → (∀ i, i ∉ is → σ'[i]? = σ[i]?) → Q σ' H'
def rdGs (K : Frag) (κ : Nat → Kd) (is : List Nat) (m : List D → Env → Option Env) : TGs := fun vs σ H Q => ∃ F0 H0 F ρ ds ρ', Stt K κ F0 H0 F H σ ρ ∧ RpA K F vs ds ∧ m ds ρ = some ρ' ∧
  ∀ σ' F' H', Ext F H F' H' → Stt K κ F0 H0 F' H' σ' ρ' → σ'.length = σ.length → (∀ i, i ∉ is → σ'[i]? = σ[i]?) → Q σ' H'
def DG (X : Cx) (κ : Nat → Kd) (e : Expr) (is : List Nat) (m : D → Env → Option Env) : Prop := PG X e (rdG X.K κ is m)
def DGs (X : Cx) (κ : Nat → Kd) (e : List Expr) (is : List Nat) (m : List D → Env → Option Env) : Prop := PGs X e (rdGs X.K κ is m)
theorem _root_.L2.PG.imp {X : Cx} {e : Expr} {t t' : TG} (h : PG X e t) (i : ∀ v σ H Q, t' v σ H Q → t v σ H Q) : PG X e t' := ⟨fun pins s σ H v u Q I r hw => h.run pins s σ H v u Q I r (i v σ H Q hw)⟩
theorem _root_.L2.PGs.imp {X : Cx} {e : List Expr} {t t' : TGs} (h : PGs X e t) (i : ∀ v σ H Q, t' v σ H Q → t v σ H Q) : PGs X e t' := ⟨fun pins s σ H v u Q I r hw => h.run pins s σ H v u Q I r (i v σ H Q hw)⟩
def gSet (i : Nat) : D → Env → Option Env := fun d ρ => some (ρ.set i (some d))
theorem dg_name {i : Nat} {x : Str} (hk : κ i = .im) (hN : X.N.Nodup) (hi : X.N[i]? = some x) (hx : Loc X.env.scope x) (hf : X.fn x = true ∨ X.env.scope.names.lookup x = some .local := by first | exact .inl rfl | exact .inr rfl | assumption) : DG X κ (.Name x pos) [i] (gSet i) :=
  (pg_name hN hi hx hf).imp fun v σ H Q ⟨F0, H0, F, ρ, d, ρ', S, r, e, k⟩ => by
    cases e
    refine k _ F H (Ext.refl S.sub) (S.set hk r) (by rw [List.length_set]) fun j hj => ?_
    rw [List.getElem?_set_ne (by simpa using (Ne.symm (by simpa using hj)))]
def gNilD : List D → Env → Option Env := fun ds ρ => match ds with
  | [] => some ρ
  | _ => none
def gConsD (g : D → Env → Option Env) (gs : List D → Env → Option Env) : List D → Env → Option Env := fun ds ρ => match ds with
  | [] => none
  | d :: ds => (g d ρ).bind (gs ds)
theorem dgs_nil : DGs X κ [] [] gNilD := pgs_nil.imp fun v σ H Q ⟨F0, H0, F, ρ, d, ρ', S, r, e, k⟩ => by
  cases r with
  | nil =>
    cases e
    exact ⟨rfl, k σ F H (Ext.refl S.sub) S rfl fun _ _ => rfl⟩
  | cons _ _ => cases e
theorem dgs_cons {is js : List Nat} {g : D → Env → Option Env} {gs : List D → Env → Option Env} (h : DG X κ e is g) (hs : DGs X κ es js gs)
    (hst : (assignEach (e :: es) X.env).map (·.2) = assign e X.env :: (assignEach es X.env).map (·.2) := by rfl) : DGs X κ (e :: es) (is ++ js) (gConsD g gs) :=
  (pgs_cons h hs hst).imp fun v σ H Q ⟨F0, H0, F, ρ, d, ρ', S, r, e, k⟩ => by
    cases r with
    | nil => cases e
    | @cons w vs dd ds r1 r2 =>
      have e' : (g dd ρ).bind (gs ds) = some ρ' := e
      cases q : g dd ρ with
      | none => rw [q] at e'; cases e'
      | some ρ1 =>
        rw [q] at e'
        refine ⟨w, vs, rfl, F0, H0, F, ρ, dd, ρ1, S, r1, q, fun σ1 F1 H1 x1 S1 l1 o1 => ?_⟩
        refine ⟨F0, H0, F1, ρ1, ds, ρ', S1, r2.mono x1.f, e', fun σ2 F2 H2 x2 S2 l2 o2 => k σ2 F2 H2 (x1.trans x2) S2 (l2.trans l1) fun i hi => ?_⟩
        have hi' : i ∉ is ∧ i ∉ js := by simpa using hi
        rw [o2 i hi'.2, o1 i hi'.1]
def gTupD (gs : List D → Env → Option Env) : D → Env → Option Env := fun d ρ => match d with
  | .tuple ds => gs ds ρ
  | _ => none
def lenG (n : Nat) (gs : List D → Env → Option Env) : List D → Env → Option Env := fun ds ρ => if ds.length = n then gs ds ρ else none
theorem dg_tup {is : List Nat} {k n : Nat} {gs : List D → Env → Option Env} (hc : X.calm = true) (h : DGs X κ es is gs)
    (hn : (assignEach es X.env).length = n := by rfl) (hst : (assignEach es X.env).findIdx? (·.1) = none := by rfl) : DG X κ (.Tuple es k pos) is (gTupD (lenG n gs)) :=
  (pg_tup hc h hn hst).imp fun v σ H Q ⟨F0, H0, F, ρ, d, ρ', S, r, e, k⟩ => by
    cases r with
    | @tup a xs ds h1 h2 =>
      have e' : (if ds.length = n then gs ds ρ else none) = some ρ' := e
      by_cases z : ds.length = n
      · rw [if_pos z] at e'
        exact ⟨a, xs, rfl, ex_t S.sub h1, by rw [h2.length]; exact z, F0, H0, F, ρ, ds, ρ', S, h2, e', k⟩
      · rw [if_neg z] at e'; cases e'
    | _ => cases e
/-- target = value -/
def mAsgG (g : D → Env → Option Env) (m : Env → Res D) : Env → Out := fun ρ => (m ρ).out fun d => (ofO (g d ρ)).out .nx
theorem ds_asg {tg : Expr} {is : List Nat} {g : D → Env → Option Env} {m : Env → Res D} (h : DE X κ E e m) (hg : DG X κ tg is g) (hs : swapsWithSole [tg] e pos.line X.env = pure false := by rfl) (hw : swappedStores [tg] e X.env = pure none := by rfl)
    (h1 : (assignEach [tg] X.env).map (·.2) = [assign tg X.env] := by rfl) : DS X κ E (.Assign [tg] e pos) (mAsgG g m) :=
  (ps_asg h hg hs hw h1).imp fun Dn σ H ⟨F0, H0, F, ρ, S, k⟩ => ⟨F0, H0, F, ρ, S, Res.sat_imp (out_sat k) (fun d _ k v F' H' x r => by
    obtain ⟨ρ', e, k⟩ := ofO_sat (out_sat k)
    exact ⟨F0, H0, F', ρ, d, ρ', S.mono x, r, e, fun σ' F2 H2 x2 S' _ _ => k σ' F2 H2 (x.f.trans x2.f) S'⟩) fun x z => err_back S z⟩

/-! ### walks -/
def WalkD (K : Frag) (G : Hp → Hp → Prop) (J : It) (ds : List D) : Prop := ∀ i F2 H2, G F2 H2 → Ex F2 H2 → i ≤ ds.length →
  (i < ds.length → J.go i H2 ∧ ∀ x H3, J.yld i H2 x H3 → ∃ d F3, ds[i]? = some d ∧ Ext F2 H2 F3 H3 ∧ Rp K F3 x d) ∧ (i = ds.length → J.stop i H2)
/-- over what stands still | over what is there for the while (for a comprehension) -/
def rdI (mg : Mg) (K : Frag) (κ : Nat → Kd) (E : EX) (m : Env → Res (List D)) : TI := fun σ H R => ∃ F0 H0 F ρ, Stt K κ F0 H0 F H σ ρ ∧
  (m ρ).sat (fun ds => ∀ J F' H', Ext F H F' H' → WalkD K (fun F2 H2 => Ex F' F2) J ds → R J H') (ErrOk mg K (E.err σ) F H)
def rdIp (mg : Mg) (K : Frag) (κ : Nat → Kd) (E : EX) (m : Env → Res (List D)) : TI := fun σ H R => ∃ F0 H0 F ρ, Stt K κ F0 H0 F H σ ρ ∧
  (m ρ).sat (fun ds => ∀ J F' H', Ext F H F' H' → WalkD K (fun F2 H2 => Ext F' H' F2 H2) J ds → R J H') (ErrOk mg K (E.err σ) F H)
def DI (X : Cx) (κ : Nat → Kd) (E : EX) (tg it : Expr) (m : Env → Res (List D)) : Prop := PI X tg it (rdI X.mg X.K κ E m)
def DIp (X : Cx) (κ : Nat → Kd) (E : EX) (tg it : Expr) (m : Env → Res (List D)) : Prop := PI X tg it (rdIp X.mg X.K κ E m)
theorem _root_.L2.PI.imp {X : Cx} {tg e : Expr} {t t' : TI} (h : PI X tg e t) (i : ∀ σ H R, t' σ H R → t σ H R) : PI X tg e t' := ⟨fun pins s σ H R I hw => h.run pins s σ H R I (i σ H R hw)⟩
theorem dip_of {tg : Expr} {m : Env → Res (List D)} (h : DI X κ E tg e m) : DIp X κ E tg e m := h.imp fun σ H R ⟨F0, H0, F, ρ, S, k⟩ =>
  ⟨F0, H0, F, ρ, S, Res.sat_imp k (fun ds _ k J F' H' x w => k J F' H' x fun i F2 H2 g => w i F2 H2 g.f) fun _ z => z⟩

/-! ### for -/
def forL (g : D → Env → Option Env) (b : Env → Out) : List D → Env → Out
  | [], ρ => .nx ρ
  | d :: ds, ρ =>
    match g d ρ with
    | none => .stk
    | some ρ1 =>
      match b ρ1 with
      | .nx ρ2 => forL g b ds ρ2
      | .ct ρ2 => forL g b ds ρ2
      | .bk ρ2 => .nx ρ2
      | .rt d => .rt d
      | .err x => .err x
      | .stk => .stk
def mFor (it : Env → Res (List D)) (g : D → Env → Option Env) (b : Env → Out) : Env → Out := fun ρ => (it ρ).out fun ds => forL g b ds ρ
theorem for_read {mg : Mg} {K : Frag} {it : Env → Res (List D)} {is : List Nat} {g : D → Env → Option Env} {b : Env → Out} : ∀ Dn σ H, rdS mg K κ E (mFor it g b) Dn σ H → tFor (rdI mg K κ E it) (rdG K κ is g) (rdS mg K κ E b) Dn σ H :=
  fun Dn σ H ⟨F0, H0, F, ρ, S, k⟩ => ⟨F0, H0, F, ρ, S, Res.sat_imp (out_sat k) (fun ds _ k J F1 H1 x1 w => by
    refine ⟨fun i m σ' H' => m = ds.length - i ∧ i ≤ ds.length ∧ ∃ F' ρ', Ex F1 F' ∧ Stt K κ F0 H0 F' H' σ' ρ' ∧ OutOk mg K κ E F0 H0 F' H' Dn (forL g b (ds.drop i) ρ'), ⟨ds.length, rfl, Nat.zero_le _, F1, ρ, Ex.refl F1, S.mono x1, OutOk.mono (H := H) x1.f k⟩, ?_⟩
    rintro i m σ' H' ⟨rfl, hi, F', ρ', e1, S', k'⟩
    obtain ⟨w1, w2⟩ := w i F' H' e1 S'.sub hi
    by_cases hlt : i < ds.length
    · obtain ⟨go, yl⟩ := w1 hlt
      have ed : ds.drop i = ds[i] :: ds.drop (i + 1) := List.drop_eq_getElem_cons hlt
      refine .inr ⟨go, fun σ2 H2 => ∃ F2 ρ2, Ex F1 F2 ∧ Stt K κ F0 H0 F2 H2 σ2 ρ2 ∧ OutOk mg K κ E F0 H0 F2 H2 Dn (forL g b (ds.drop (i + 1)) ρ2), fun σ2 H2 ⟨F2, ρ2, e2, S2, k2⟩ => ⟨ds.length - (i + 1), by omega, rfl, hlt, F2, ρ2, e2, S2, k2⟩, fun x H3 y => ?_⟩
      obtain ⟨d, F3, ed2, x3, r3⟩ := yl x H3 y
      have hd : ds[i] = d := by
        have := List.getElem?_eq_getElem hlt
        rw [this] at ed2
        exact Option.some.inj ed2
      rw [ed, hd] at k'
      unfold forL at k'
      cases q : g d ρ' with
      | none => rw [q] at k'; exact k'.elim
      | some ρ1 =>
        rw [q] at k'
        refine ⟨F0, H0, F3, ρ', d, ρ1, S'.mono x3, r3, q, fun σ4 F4 H4 x4 S4 _ _ => ⟨F0, H0, F4, ρ1, S4, ?_⟩⟩
        have e4 : Ex F1 F4 := (e1.trans x3.f).trans x4.f
        have e5 : Ex F' F4 := x3.f.trans x4.f
        cases q2 : b ρ1 with
        | nx ρ2 =>
          simp only [q2] at k'
          exact fun σ5 F5 H5 x5 S5 => ⟨F5, ρ2, e4.trans x5, S5, OutOk.mono (H := H') (e5.trans x5) k'⟩
        | ct ρ2 =>
          simp only [q2] at k'
          exact fun σ5 F5 H5 x5 S5 => ⟨F5, ρ2, e4.trans x5, S5, OutOk.mono (H := H') (e5.trans x5) k'⟩
        | bk ρ2 => simp only [q2] at k'; exact fun σ5 F5 H5 x5 S5 => k' σ5 F5 H5 (e5.trans x5) S5
        | rt d => simp only [q2] at k'; exact k'
        | err x => simp only [q2] at k'; exact k'
        | stk => simp only [q2] at k'; exact k'
    · have e : i = ds.length := by omega
      have ed : ds.drop i = [] := by rw [e, List.drop_length]
      rw [ed] at k'
      exact .inl ⟨w2 e, k' σ' F' H' (Ex.refl F') S'⟩) fun x z => err_back S z⟩
theorem ds_for {tg it : Expr} {is : List Nat} {mi : Env → Res (List D)} {g : D → Env → Option Env} {b : Env → Out} (hp : PassesOwn (model X.prog X.w) X.A X.env X.xe) (hc : X.calm = true) (hi : DI X κ E tg it mi) (hg : DG X κ tg is g) (hb : DSs X κ E sts b)
    (hs : ∀ x, foldedSetIterable it X.env x = pure x := by intro _; rfl) : DS X κ E (.For tg it sts [] pos) (mFor mi g b) :=
  (ps_for hp hc hi hg hb hs).imp for_read

/-! ### while -/
def whileL (c : Env → Res Bool) (b : Env → Out) : Nat → Env → Out
  | 0, _ => .stk
  | n + 1, ρ =>
    match c ρ with
    | .err x => .err x
    | .stk => .stk
    | .ok false => .nx ρ
    | .ok true =>
      match b ρ with
      | .nx ρ2 => whileL c b n ρ2
      | .ct ρ2 => whileL c b n ρ2
      | .bk ρ2 => .nx ρ2
      | .rt d => .rt d
      | .err x => .err x
      | .stk => .stk
def mWhile (fuel : Env → Nat) (c : Env → Res Bool) (b : Env → Out) : Env → Out := fun ρ => whileL c b (fuel ρ) ρ
theorem ds_while {fuel : Env → Nat} {t : Env → Res Bool} {b : Env → Out} (hp : PassesOwn (model X.prog X.w) X.A X.env X.xe) (ht : DT X κ E c t) (hb : DSs X κ E sts b) : DS X κ E (.While c sts [] pos) (mWhile fuel t b) :=
  (ps_while hp ht hb).imp fun Dn σ H ⟨F0, H0, F, ρ, S, k⟩ => by
    refine ⟨fun m σ' H' => ∃ F' ρ', Stt X.K κ F0 H0 F' H' σ' ρ' ∧ OutOk X.mg X.K κ E F0 H0 F' H' Dn (whileL t b m ρ'), ⟨fuel ρ, F, ρ, S, k⟩, ?_⟩
    rintro m σ' H' ⟨F', ρ', S', k'⟩
    cases m with
    | zero => exact k'.elim
    | succ n =>
      unfold whileL at k'
      refine ⟨F0, H0, F', ρ', S', ?_⟩
      cases q : t ρ' with
      | err x => rw [q] at k'; exact err_back S' k'
      | stk => rw [q] at k'; exact k'
      | ok v =>
        rw [q] at k'
        cases v with
        | false => exact fun F2 H2 x2 => k' σ' F2 H2 x2.f (S'.mono x2)
        | true =>
          intro F2 H2 x2
          refine ⟨fun σ3 H3 => ∃ F3 ρ3, Stt X.K κ F0 H0 F3 H3 σ3 ρ3 ∧ OutOk X.mg X.K κ E F0 H0 F3 H3 Dn (whileL t b n ρ3), fun σ3 H3 w => ⟨n, Nat.lt_succ_self n, w⟩, F0, H0, F2, ρ', S'.mono x2, ?_⟩
          cases q2 : b ρ' with
          | nx ρ2 => simp only [q2] at k'; exact fun σ3 F3 H3 x3 S3 => ⟨F3, ρ2, S3, OutOk.mono (H := H') (x2.f.trans x3) k'⟩
          | ct ρ2 => simp only [q2] at k'; exact fun σ3 F3 H3 x3 S3 => ⟨F3, ρ2, S3, OutOk.mono (H := H') (x2.f.trans x3) k'⟩
          | bk ρ2 => simp only [q2] at k'; exact fun σ3 F3 H3 x3 S3 => k' σ3 F3 H3 (x2.f.trans x3) S3
          | rt d => simp only [q2] at k'; exact k'
          | err x => simp only [q2] at k'; exact k'
          | stk => simp only [q2] at k'; exact k'
end
end WD

namespace PySem.AutoSeq1
theorem wd_extend_tuple (l : Addr) (items : Array Value) (n : Nat) (b : Addr) (items2 : Array Value) (n2 : Nat) (dd : Option Addr) (sl : Array (Option Value)) (hs0 : ¬(!items.isEmpty && Builtin.List.listTooLong (items.size + items2.size)) = true) (hs1 : items.size ≤ sizeLine) (hs2 : items.size + items2.size ≤ sizeLine + 1) :
    Meets (Builtin.«list.extend» ⟨[.ref l, .ref b], []⟩) (fun _ R s => s.heap.get? l = some { cls := .type "list", dict := none, data := .seq items n, slots := #[] } ∧ s.heap.get? b = some { cls := .type "tuple", dict := dd, data := .seq items2 n2, slots := sl } ∧ R (.ok (.ret Value.none)) { s with heap := s.heap.update l (Obj.mapSeq fun x => x ++ items2), toks := s.toks }) :=
  .of_wp fun prog w A R s h => by
    obtain ⟨hp, g, d, tk, os⟩ := s; obtain ⟨hl, hb, h⟩ := h; have f1 := idx_int; have f2 := sub_tuple_tuple; have f3 := sub_list_list; have f4 := sub_tuple_list; have f5 := sub_list_tuple;
    have hz' : (items ++ items2).size ≤ sizeLine + 1 := by rw [Array.size_append]; exact hs2
    wp_walk using (wpAny_updateSeq hl rfl (hz := hs1) (_hz' := hz')), wpAny_loadPart' hl, wpAny_loadPart' hb; exact ⟨_, rfl, h⟩
theorem wd_extend_list (l : Addr) (items : Array Value) (n : Nat) (b : Addr) (items2 : Array Value) (n2 : Nat) (sl : Array (Option Value)) (hs0 : ¬(!items.isEmpty && Builtin.List.listTooLong (items.size + items2.size)) = true) (hs1 : items.size ≤ sizeLine) (hs2 : items.size + items2.size ≤ sizeLine + 1) :
    Meets (Builtin.«list.extend» ⟨[.ref l, .ref b], []⟩) (fun _ R s => s.heap.get? l = some { cls := .type "list", dict := none, data := .seq items n, slots := #[] } ∧ s.heap.get? b = some { cls := .type "list", dict := none, data := .seq items2 n2, slots := sl } ∧ R (.ok (.ret Value.none)) { s with heap := s.heap.update l (Obj.mapSeq fun x => x ++ items2), toks := s.toks }) :=
  .of_wp fun prog w A R s h => by
    obtain ⟨hp, g, d, tk, os⟩ := s; obtain ⟨hl, hb, h⟩ := h; have f1 := idx_int; have f2 := sub_tuple_tuple; have f3 := sub_list_list; have f4 := sub_tuple_list; have f5 := sub_list_tuple;
    have hz' : (items ++ items2).size ≤ sizeLine + 1 := by rw [Array.size_append]; exact hs2
    wp_walk using (wpAny_updateSeq hl rfl (hz := hs1) (_hz' := hz')), wpAny_loadPart' hl, wpAny_loadPart' hb; exact ⟨_, rfl, h⟩
theorem wd_add_list (l : Addr) (items : Array Value) (n : Nat) (b : Addr) (items2 : Array Value) (n2 : Nat) (s1 s2 : Array (Option Value)) (hc0 : items.size + items2.size ≤ sizeLine) :
    Meets (Builtin.«list.__add__» ⟨[.ref l, .ref b], []⟩) (fun _ R s => s.heap.get? l = some { cls := .type "list", dict := none, data := .seq items n, slots := s1 } ∧ s.heap.get? b = some { cls := .type "list", dict := none, data := .seq items2 n2, slots := s2 } ∧ R (.ok (.ret (Value.ref s.heap.objs.size))) { s with heap := s.heap.push { cls := Value.type "list", data := Data.seq (items ++ items2) }, toks := s.toks }) :=
  .of_wp fun prog w A R s h => by obtain ⟨hp, g, d, tk, os⟩ := s; obtain ⟨hl, hb, h⟩ := h; have f1 := idx_int; have f2 := sub_tuple_tuple; have f3 := sub_list_list; have f4 := sub_tuple_list; have f5 := sub_list_tuple; wp_walk using wpAny_loadPart' hl, wpAny_loadPart' hb; exact ⟨_, rfl, h⟩
end PySem.AutoSeq1
namespace WD
open PySem PySem.Spec PyProof.Rows L2
open Evl (Ex Ex.refl Ex.trans Ex.new Ex.mut ex_l ex_t fresh_back)

/-! ### rules over any list, any tuple -/
section
variable {X : Cx}
def rExtA (K : Frag) : V → List V → Hp → VK → Prop := fun x vs H Q => ∃ l b xs zs, x = .ref l ∧ vs = [.ref b] ∧ H l = some (.lst xs) ∧ (SqL K H b zs ∨ SqT K H b zs) ∧ xs.length + zs.length ≤ sizeLine ∧ Q .non (upd H l (.lst (xs ++ zs)))
theorem mt_extendA : MtM X "list.extend" (rExtA X.K) := by
  intro pins s σ H x vs v us Q I rx rv h
  obtain ⟨l, b, xs, zs, rfl, rfl, hH, hB, hz, q⟩ := h
  cases rx
  obtain ⟨u, rfl, ru⟩ := rv.one
  cases ru
  obtain ⟨z, its, n, r, hl, e⟩ := I.lstM hH
  have fin : ∀ its2 : List Value, Vals zs its2 → EP X pins σ Q Value.none { s with heap := s.heap.update l (Obj.mapSeq fun x => x ++ its2.toArray), toks := s.toks } := fun its2 r2 =>
    ⟨.non, _, I.lset (its' := its ++ its2) hH e (by simp) (r.append r2) (by rw [List.length_append]; omega), rfl, q⟩
  have hlong : ∀ its2 : List Value, Vals zs its2 → ¬ (!its.toArray.isEmpty && Builtin.List.listTooLong (its.toArray.size + its2.toArray.size)) = true := fun its2 r2 => by
    have hl2 := r2.length
    rw [notLongL (by rw [List.size_toArray, List.size_toArray]; omega), Bool.and_false]
    exact Bool.false_ne_true
  rcases hB with hB | hB
  · obtain ⟨its2, r2, ⟨o, n2, ho, hc, hd, hdat⟩, z2⟩ := I.list hB
    have hl2 := r2.length
    obtain ⟨oc, od, odat, osl⟩ := o
    cases hc; cases hd; cases hdat
    exact call_meets F.slot_list_extend ⟨_, e, rfl⟩ F.entry_list_extend (F.args_list_extend_2 _ _)
      (AutoSeq1.wd_extend_list l its.toArray n b its2.toArray n2 osl (hlong its2 r2) (by rw [List.size_toArray]; omega) (by rw [List.size_toArray, List.size_toArray]; omega)) ⟨e, ho, fin its2 r2⟩
  · obtain ⟨its2, r2, ⟨o, ho, hc, n2, hdat⟩, z2⟩ := I.tuple hB
    have hl2 := r2.length
    obtain ⟨oc, od, odat, osl⟩ := o
    cases hc; cases hdat
    exact call_meets F.slot_list_extend ⟨_, e, rfl⟩ F.entry_list_extend (F.args_list_extend_2 _ _)
      (AutoSeq1.wd_extend_tuple l its.toArray n b its2.toArray n2 od osl (hlong its2 r2) (by rw [List.size_toArray]; omega) (by rw [List.size_toArray, List.size_toArray]; omega)) ⟨e, ho, fin its2 r2⟩
def rCatA (K : Frag) : R2 := fun x y H Q => ∃ l b xs zs, x = .ref l ∧ y = .ref b ∧ SqL K H l xs ∧ SqL K H b zs ∧ xs.length + zs.length ≤ sizeLine ∧ ∀ p, H p = none → Q (.ref p) (upd H p (.lst (xs ++ zs)))
theorem op_catA : OpR X (binaryOp .Add) (rCatA X.K) := by
  intro pins s σ H x y v u Q I rx ry h
  obtain ⟨l, b, xs, zs, rfl, rfl, hH, hB, hz, q⟩ := h
  cases rx
  cases ry
  obtain ⟨its, r, ⟨o, n, ho, hc, hd, hdat⟩, z⟩ := I.list hH
  obtain ⟨its2, r2, ⟨o2, n2, ho2, hc2, hd2, hdat2⟩, z2⟩ := I.list hB
  have hl := r.length
  have hl2 := r2.length
  obtain ⟨oc, od, odat, osl⟩ := o
  cases hc; cases hd; cases hdat
  obtain ⟨oc, od, odat, osl2⟩ := o2
  cases hc2; cases hd2; cases hdat2
  refine PySem.concat_meets ⟨_, ho, rfl⟩ ⟨_, ho2, rfl⟩ noFill_list_add seq_list_add F.slot_list_add F.entry_list_add (F.args_list_add_2 _ _) (AutoSeq1.wd_add_list l its.toArray n b its2.toArray n2 osl osl2 (by rw [List.size_toArray, List.size_toArray]; omega)) ⟨ho, ho2, ?_⟩
  have ea : its.toArray ++ its2.toArray = (its ++ its2).toArray := by simp
  rw [ea]
  exact ⟨.ref _, _, I.lnew (t' := s.toks) (r.append r2) (by rw [List.length_append]; omega), rfl, q _ I.fresh⟩
end

section
variable {X : Cx} {κ κe : Nat → Kd} {E : EX} {a b c e : Expr} {es : List Expr} {pos : Pos} {st : Stmt} {sts : List Stmt}

theorem _root_.L2.Fun.okQ {P : Program} {w : World} {K : Frag} {mg : Mg} {base : Heap} {x qual : Str} {st : Stmt} {f : Addr} {fd : FuncData} {N ps : List Str} {k : Nat} {sp : Sp} (F : Fun K x qual st f fd) (S : FnScope N ps (defScope st)) (len : ∀ vs H Q E, sp vs H Q E → vs.length = ps.length)
    (hbody : ∀ (cdv : Value) (A : Around) (outer : List PySem.Env) (s : Shared) (H : Hp) (vs : List V) (Q : VK) (E : XK), Room k (A.deeper (envOfC qual (defScope st) s.heap.objs.size f cdv)) → sp vs H Q E →
      ∃ t, PSs (cxOf (L2N.CX P w) P w K mg base N qual (defScope st) f cdv A outer s H E) (defBody st) t ∧ t { nx := fun _ H' => Q .non H', rt := Q } (L2.start N vs) H) : FnOk P w K mg base (L2N.CX P w) (k + 1) f fd ps sp := by
  obtain ⟨oc, od, kV, doc, pm, an, cdv, ct, osl, rfl, lk, hcd⟩ := F.ex
  exact fn_of lk hcd S len fun A outer s H vs Q E hr hsp => hbody cdv A outer s H vs Q E hr hsp
/-! ### calls of defs -/
def spM (mg : Mg) (K : Frag) (n : Nat) (m : List D → Res D) : Sp := fun vs H Q E => vs.length = n ∧ ∃ F ds, Ex F H ∧ NF F ∧ RpA K F vs ds ∧ (m ds).sat (fun d => ∀ v F' H', Ext F H F' H' → Rp K F' v d → Q v H') (ErrOk mg K E F H)
/-- a def of the module, its promise by a mirror -/
structure Fn (P : Program) (w : World) (K : Frag) (mg : Mg) (base : Heap) (k : Nat) (x : Str) (ps : List Str) (m : List D → Res D) : Prop where
  ex : ∃ f fd, mg x = some (.ref f) ∧ PySem.W.keepIn K (.ref f) = true ∧ Binds K fd ps [] ∧ FnOk P w K mg base (L2N.CX P w) k f fd ps (spM mg K ps.length m)
def mCall (m : List D → Res D) (ma : Env → Res (List D)) : Env → Res D := fun ρ => (ma ρ).bind m
theorem _root_.L2.PE.implies {X : Cx} {e : Expr} {t t' : TE} (h : PE X e t) (i : ∀ σ H Q, t' σ H Q → t σ H Q) : PE X e t' := h.imp i
theorem de_call {k : Nat} {x : Str} {p : Pos} {ps : List Str} {m : List D → Res D} {ma : Env → Res (List D)} (G : Fn X.prog X.w X.K X.mg X.base k x ps m) (hr : Room k X.A) (hx : ∀ σ, PassesAt (L2N.CX X.prog X.w) X σ (E.err σ)) (hg : Gl X x) (ha : DA X κ E (e :: es) ma) (hlen : (e :: es).length = ps.length)
    (hma : ∀ ρ ds, ma ρ = .ok ds → ds.length = ps.length)
    (hdb : (x == ("__debug__" : Str)) = false := by decide) (he : starEach (e :: es) X.env = (false, eval e X.env) :: starEach es X.env := by rfl) (hpl : (backTo pos (starEach es X.env)).any (·.1) = false := by rfl) :
    DE X κ E (.Call (.Name x p) (e :: es) [] pos) (mCall m ma) := by
  obtain ⟨f, fd, hm, hk, hb, hF⟩ := G.ex
  refine (pe_callS hF hr hg hm hk hb hx ha hdb he hpl).imp fun σ H Q ⟨F0, H0, F, ρ, S, c⟩ => ⟨F0, H0, F, ρ, S, Res.sat_imp (Res.sat_bind c) (fun ds q k vs F' H' x r => ?_) fun _ z => z⟩
  refine ⟨by rw [r.length, hma ρ ds q], F', ds, x.s, x.n S.nf, r, Res.sat_imp k (fun d _ k v F2 H2 x2 r2 => k v F2 H2 (x.trans x2) r2) fun _ z => z.mono x⟩
theorem mCons_len {m : Env → Res D} {ms : Env → Res (List D)} {n : Nat} (h : ∀ ρ ds, ms ρ = .ok ds → ds.length = n) : ∀ ρ ds, mCons m ms ρ = .ok ds → ds.length = n + 1 := fun ρ ds e => by
  unfold mCons at e
  cases q : m ρ with
  | ok d =>
    rw [q] at e
    cases q2 : ms ρ with
    | ok xs =>
      simp only [Res.bind, q2] at e
      cases e
      rw [List.length_cons, h ρ xs q2]
    | err x => simp only [Res.bind, q2] at e; cases e
    | stk => simp only [Res.bind, q2] at e; cases e
  | err x => rw [q] at e; cases e
  | stk => rw [q] at e; cases e
theorem mNil_len : ∀ ρ ds, mNil ρ = .ok ds → ds.length = 0 := fun ρ ds e => by cases e; rfl

/-! ### a def's body -/
def fnOut (o : Out) : Res D :=
  match o with
  | .nx _ => .ok .none
  | .rt d => .ok d
  | .err x => .err x
  | _ => .stk
def mkFn (n : Nat) (body : Env → Out) : List D → Res D := fun ds => fnOut (body (ds.map some ++ List.replicate (n - ds.length) none))
theorem fn_start {K : Frag} {F H : Hp} {vs : List V} {ds : List D} {N : List Str} {np : Nat} (s : Ex F H) (nf : NF F) (r : RpA K F vs ds) (hl : vs.length = np) (hk : ∀ i, i < np → κ i = .im) :
    Stt K κ F H F H (L2.start N vs) (ds.map some ++ List.replicate (N.length - ds.length) none) := by
  have el := r.length
  have known : ∀ i d, (ds.map some ++ List.replicate (N.length - ds.length) none)[i]? = some (some d) → ds[i]? = some d ∧ i < np := fun i d h => by
    by_cases hi : i < ds.length
    · rw [List.getElem?_append_left (by simpa using hi), List.getElem?_map, List.getElem?_eq_getElem hi] at h
      have : ds[i] = d := by simpa using h
      rw [List.getElem?_eq_getElem hi, this]
      exact ⟨rfl, by omega⟩
    · rw [List.getElem?_append_right (by simpa using hi), List.getElem?_replicate] at h
      split at h <;> cases h
  refine ⟨Ex.refl F, Ex.refl H, fun _ h _ => h, s, nf, ?_, fun i d h => ?_, fun i j a di dj u w hn hi hj _ _ ki _ => ?_⟩
  · unfold L2.start
    simp [el]
  · obtain ⟨h1, h2⟩ := known i d h
    obtain ⟨v, g1, g2⟩ := r.get h1
    refine ⟨v, ?_, by rw [hk i h2]; exact g2⟩
    unfold L2.start
    have hi : i < vs.length := by omega
    rw [List.getElem?_append_left (by simpa using hi), List.getElem?_map, g1]
    rfl
  · have := hk i (known i di hi).2
    rw [this] at ki; exact ki
theorem fn_ok {P : Program} {w : World} {K : Frag} {mg : Mg} {base : Heap} {x qual : Str} {st : Stmt} {f : Addr} {fd : FuncData} {N ps : List Str} {k n : Nat} {body : Env → Out} (F : Fun K x qual st f fd) (S : FnScope N ps (defScope st)) (hn : N.length = n)
    (hk : ∀ i, i < ps.length → κ i = .im)
    (hbody : ∀ (cdv : Value) (A : Around) (outer : List PySem.Env) (s : Shared) (H : Hp) (E : XK), Room k (A.deeper (envOfC qual (defScope st) s.heap.objs.size f cdv)) →
      DSs2 (cxOf (L2N.CX P w) P w K mg base N qual (defScope st) f cdv A outer s H E) κ κe (eX K E) (defBody st) body) : FnOk P w K mg base (L2N.CX P w) (k + 1) f fd ps (spM mg K ps.length (mkFn n body)) := by
  subst hn
  refine F.okQ S (fun vs H Q E h => h.1) fun cdv A outer s H vs Q E hr h => ⟨_, hbody cdv A outer s H E hr, ?_⟩
  obtain ⟨hl, F, ds, e, nf, r, c⟩ := h
  refine ⟨F, H, F, _, fn_start e nf r hl hk, ?_⟩
  unfold mkFn at c
  generalize ho : body (ds.map some ++ List.replicate (N.length - ds.length) none) = o at c ⊢
  cases o with
  | nx ρ => exact fun σ' F' H' _ S' => c .non F' H' S'.ext .non
  | bk ρ => exact c.elim
  | ct ρ => exact c.elim
  | rt d => exact c
  | err x => exact fun _ => c
  | stk => exact c

/-! ### what changes an owned list -/
theorem own_at {K : Frag} {F0 H0 F H : Hp} {σ : L2.St} {ρ : Env} (S : Stt K κ F0 H0 F H σ ρ) {i : Nat} {d : D} (hk : (κ i).mutb = true) (h : ρ[i]? = some (some d)) : ∃ a, σ[i]? = some (some (.ref a)) ∧ F a = none ∧ OwnAt K F H a d := by
  obtain ⟨v, h1, h2⟩ := S.slot i d h
  obtain ⟨a, e, _, fa, o, _⟩ := h2.mutb hk
  exact ⟨a, by rw [h1, e], fa, o⟩
def getL (i : Nat) (ρ : Env) : Res (List D) :=
  match (ρ[i]?).join with
  | some (.list ds) => .ok ds
  | _ => .stk
theorem getL_sat {i : Nat} {ρ : Env} {P : List D → Prop} {R : Exn → Prop} (h : (getL i ρ).sat P R) : ∃ ds, ρ[i]? = some (some (.list ds)) ∧ P ds := by
  unfold getL at h
  cases q : (ρ[i]?).join with
  | none => rw [q] at h; exact h.elim
  | some d =>
    rw [q] at h
    cases d <;> first | exact ⟨_, join_some q, h⟩ | exact h.elim
theorem own_list {K : Frag} {F H : Hp} {a : Addr} {ds : List D} (o : OwnAt K F H a (.list ds)) : ∃ vs, H a = some (.lst vs) ∧ RpA K F vs ds := by
  rcases o with ⟨vs, ds', e, g, r⟩ | ⟨vs, ds', e, g, r⟩
  · cases e; exact ⟨vs, g, r⟩
  · cases e
/-- x.append(e) -/
def mApp (i : Nat) (m : Env → Res D) : Env → Out := fun ρ => (getL i ρ).out fun ds => (m ρ).out fun d => if ds.length < sizeLine then .nx (ρ.set i (some (.list (ds ++ [d])))) else .stk
theorem ds_append {i : Nat} {x : Str} {px : Pos} {apos cpos pos : Pos} {m : Env → Res D} (hk : (κ i).mutb = true) (hN : X.N[i]? = some x) (hv : Vis X.env.scope x) (h : DE X κ E e m)
    (hx : PE X (.Call (.Attribute (.Name x px) "append" apos) [e] [] cpos) (tBM X.K "list" rAppend (tVar i) (tCons (rdE X.mg X.K κ E m) tNil)) := by exact pe_bm PySem.F.plainAttrs_list PySem.F.slot_list_append PySem.F.type_list_append mt_append (pe_var (by assumption) (by assumption)) (pa_cons (by assumption) pa_nil))
    (hs : swapsWith (.Call (.Attribute (.Name x px) "append" apos) [e] [] cpos) none pos.line X.env = pure false := by rfl) : DS X κ E (.Expr (.Call (.Attribute (.Name x px) "append" apos) [e] [] cpos) pos) (mApp i m) :=
  (ps_expr hx hs).imp fun Dn σ H ⟨F0, H0, F, ρ, S, k⟩ => by
    obtain ⟨ds, hd, k⟩ := getL_sat (out_sat k)
    obtain ⟨a, hs', fa, o⟩ := own_at S hk hd
    obtain ⟨vs, g, r⟩ := own_list o
    refine ⟨.ref a, hs', .inl ⟨rfl, vs, Evl.sq_of g⟩, F0, H0, F, ρ, S, Res.sat_imp (out_sat k) (fun d _ k v F' H' x rv => ?_) fun x z => err_back S z⟩
    by_cases z : ds.length < sizeLine
    · simp only [if_pos z] at k
      refine ⟨a, vs, v, rfl, rfl, x.h _ _ g, by rw [r.length]; exact z, k _ F' _ x.f ?_⟩
      exact (S.mono x).mut hk hd hs' (.inl ⟨vs ++ [v], ds ++ [d], rfl, upd_same, (r.mono x.f).append (.cons rv .nil)⟩)
    · simp only [if_neg z] at k
      exact k.elim
/-- x.extend(e), e a list or a tuple -/
def seqD : D → Res (List D)
  | .list ds => .ok ds
  | .tuple ds => .ok ds
  | _ => .stk
def mExt (i : Nat) (m : Env → Res D) : Env → Out := fun ρ => (getL i ρ).out fun ds => (m ρ).out fun d => (seqD d).out fun es => if ds.length + es.length ≤ sizeLine then .nx (ρ.set i (some (.list (ds ++ es)))) else .stk
theorem seqD_sat {d : D} {P : List D → Prop} {R : Exn → Prop} (h : (seqD d).sat P R) : ∃ ds, (d = .list ds ∨ d = .tuple ds) ∧ P ds := by
  cases d <;> first | exact ⟨_, .inl rfl, h⟩ | exact ⟨_, .inr rfl, h⟩ | exact h.elim
theorem Rp.seq {K : Frag} {F : Hp} {v : V} {d : D} {ds : List D} (r : Rp K F v d) (h : d = .list ds ∨ d = .tuple ds) : ∃ a vs, v = .ref a ∧ (SqL K F a vs ∨ SqT K F a vs) ∧ RpA K F vs ds := by
  rcases h with rfl | rfl
  · cases r with
    | lst h a => exact ⟨_, _, rfl, .inl h, a⟩
  · cases r with
    | tup h a => exact ⟨_, _, rfl, .inr h, a⟩
theorem ex_lt {K : Frag} {F H : Hp} {a : Addr} {vs : List V} (e : Ex F H) (h : SqL K F a vs ∨ SqT K F a vs) : SqL K H a vs ∨ SqT K H a vs := h.imp (ex_l e) (ex_t e)
theorem ds_extend {i : Nat} {x : Str} {px : Pos} {apos cpos pos : Pos} {m : Env → Res D} (hk : (κ i).mutb = true) (hN : X.N[i]? = some x) (hv : Vis X.env.scope x) (h : DE X κ E e m)
    (hx : PE X (.Call (.Attribute (.Name x px) "extend" apos) [e] [] cpos) (tBM X.K "list" (rExtA X.K) (tVar i) (tCons (rdE X.mg X.K κ E m) tNil)) := by exact pe_bm PySem.F.plainAttrs_list PySem.F.slot_list_extend PySem.F.type_list_extend mt_extendA (pe_var (by assumption) (by assumption)) (pa_cons (by assumption) pa_nil))
    (hs : swapsWith (.Call (.Attribute (.Name x px) "extend" apos) [e] [] cpos) none pos.line X.env = pure false := by rfl) : DS X κ E (.Expr (.Call (.Attribute (.Name x px) "extend" apos) [e] [] cpos) pos) (mExt i m) :=
  (ps_expr hx hs).imp fun Dn σ H ⟨F0, H0, F, ρ, S, k⟩ => by
    obtain ⟨ds, hd, k⟩ := getL_sat (out_sat k)
    obtain ⟨a, hs', fa, o⟩ := own_at S hk hd
    obtain ⟨vs, g, r⟩ := own_list o
    refine ⟨.ref a, hs', .inl ⟨rfl, vs, Evl.sq_of g⟩, F0, H0, F, ρ, S, Res.sat_imp (out_sat k) (fun d _ k v F' H' x rv => ?_) fun x z => err_back S z⟩
    obtain ⟨es, hse, k⟩ := seqD_sat (out_sat k)
    obtain ⟨b, ws, rfl, hb, rs⟩ := rv.seq hse
    by_cases z : ds.length + es.length ≤ sizeLine
    · simp only [if_pos z] at k
      refine ⟨a, b, vs, ws, rfl, rfl, x.h _ _ g, ex_lt x.s hb, by rw [r.length, rs.length]; exact z, k _ F' _ x.f ?_⟩
      exact (S.mono x).mut hk hd hs' (.inl ⟨vs ++ ws, ds ++ es, rfl, upd_same, (r.mono x.f).append rs⟩)
    · simp only [if_neg z] at k
      exact k.elim

/-! ### comprehensions -/
def noErr {α : Type} : Res α → Res α
  | .err _ => .stk
  | r => r
def compL (g : D → Env → Option Env) (t : Env → Res Bool) (m : Env → Res D) (ρ : Env) : List D → Res (List D)
  | [] => .ok []
  | d :: ds =>
    match g d ρ with
    | none => .stk
    | some ρ1 => (noErr (t ρ1)).bind fun b => if b = true then (noErr (m ρ1)).bind fun y => (compL g t m ρ ds).bind fun ys => .ok (y :: ys) else compL g t m ρ ds
def mLc (it : Env → Res (List D)) (g : D → Env → Option Env) (t : Env → Res Bool) (m : Env → Res D) (vs : List Nat) : Env → Res (List D) := fun ρ =>
  (it ρ).bind fun ds => if ds.length ≤ sizeLine then noErr (compL g t m (forget vs ρ) ds) else .stk
theorem wipe_at {σ : L2.St} {i : Nat} : ∀ {vs : List Nat}, i ∈ vs → i < σ.length → (wipe σ vs)[i]? = some none
  | [], h, _ => by simp at h
  | v :: vs, h, hl => by
    show ((wipe σ vs).set v none)[i]? = _
    by_cases q : v = i
    · subst q
      rw [List.getElem?_set_self (by rw [wipe_length]; exact hl)]
    · rw [List.getElem?_set_ne q]
      exact wipe_at (by simpa [Ne.symm q] using h) hl
theorem wipe_eq {σ σ2 : L2.St} {vs is : List Nat} (hl : σ2.length = σ.length) (h : ∀ i, i ∉ is → σ2[i]? = (wipe σ vs)[i]?) (his : ∀ i ∈ is, i ∈ vs) : wipe σ2 vs = wipe σ vs := by
  apply List.ext_getElem?
  intro i
  by_cases hv : i ∈ vs
  · by_cases hi : i < σ.length
    · rw [wipe_at hv (by rw [hl]; exact hi), wipe_at hv hi]
    · rw [List.getElem?_eq_none (by rw [wipe_length, hl]; omega), List.getElem?_eq_none (by rw [wipe_length]; omega)]
  · rw [wipe_out hv]
    exact h i fun z => hv (his i z)
theorem Stt.wipe {K : Frag} {F0 H0 F H : Hp} {σ : L2.St} {ρ : Env} (S : Stt K κ F0 H0 F H σ ρ) (vs : List Nat) : Stt K κ F0 H0 F H (L2.wipe σ vs) (WD.forget vs ρ) := by
  refine ⟨S.ex0, S.h0, S.o0, S.sub, S.nf, by rw [forget_len, wipe_length, S.len], fun j d h => ?_, fun j l a dj dl u w hn' hj hl ej el oj ol => ?_⟩
  · obtain ⟨h1, h2⟩ := forget_get vs ρ j d h
    rw [wipe_out h2]
    exact S.slot j d h1
  · obtain ⟨h1, h2⟩ := forget_get vs ρ j dj hj
    obtain ⟨h3, h4⟩ := forget_get vs ρ l dl hl
    rw [wipe_out h2] at ej
    rw [wipe_out h4] at el
    exact S.sep j l a dj dl u w hn' h1 h3 ej el oj ol
theorem noErr_sat {α : Type} {P : α → Prop} {R R' : Exn → Prop} {r : Res α} (h : (noErr r).sat P R) : r.sat P R' := by
  cases r with
  | ok a => exact h
  | err x => exact h.elim
  | stk => exact h
theorem noErr_ok {α : Type} {r : Res α} {a : α} (h : noErr r = .ok a) : r = .ok a := by
  cases r with
  | ok a => exact h
  | err x => cases h
  | stk => exact h
theorem bind_ok {α β : Type} {r : Res α} {f : α → Res β} {b : β} (h : r.bind f = .ok b) : ∃ a, r = .ok a ∧ f a = .ok b := by
  cases r with
  | ok a => exact ⟨a, rfl, h⟩
  | err x => cases h
  | stk => cases h
def DTs (X : Cx) (κ : Nat → Kd) (E : EX) (ifs : List Expr) (m : Env → Res Bool) : Prop := PTs X ifs (rdT X.mg X.K κ E m)
def mYes : Env → Res Bool := fun _ => .ok true
theorem dts_nil : DTs X κ E [] mYes := ⟨fun pins s σ H Q I ⟨F0, H0, F, ρ, S, k⟩ => pts_nil.run pins s σ H Q I (k F H (Ext.refl S.sub))⟩
theorem dts_one {m : Env → Res Bool} (h : DT X κ E c m) : DTs X κ E [c] m := pts_one h
theorem lc_read {mg : Mg} {K : Frag} {mi : Env → Res (List D)} {is vs : List Nat} {g : D → Env → Option Env} {mt : Env → Res Bool} {me : Env → Res D} (his : ∀ i ∈ is, i ∈ vs) : ∀ σ H Q, rdN mg K κ E (mLc mi g mt me vs) σ H Q →
    tLc (rdIp mg K κ E mi) (rdG K κ is g) (rdT mg K κ EX0 mt) (rdE mg K κ EX0 me) vs σ H Q :=
  fun σ H Q ⟨F0, H0, F, ρ, S, k⟩ => ⟨F0, H0, F, ρ, S, Res.sat_imp (Res.sat_bind k) (fun ds _ k J F1 H1 x1 w Dl hD => by
    by_cases hz : ds.length ≤ sizeLine
    case neg => simp only [if_neg hz] at k; exact k.elim
    simp only [if_pos hz] at k
    have k := noErr_sat (R' := fun _ => False) k
    cases hc : compL g mt me (forget vs ρ) ds with
    | err x => rw [hc] at k; exact k.elim
    | stk => rw [hc] at k; exact k.elim
    | ok out =>
      rw [hc] at k
      have fD : F1 Dl = none := none_of_ex x1.s hD
      have SW := (S.mono x1).wipe vs
      refine ⟨fun i m H2 => m = ds.length - i ∧ i ≤ ds.length ∧ ∃ F2 acc ads rs, Ext F1 H1 F2 H2 ∧ F2 Dl = none ∧ H2 Dl = some (.lst acc) ∧ RpA K F2 acc ads ∧ acc.length ≤ i ∧ compL g mt me (forget vs ρ) (ds.drop i) = .ok rs ∧ ads ++ rs = out,
        ⟨ds.length, rfl, Nat.zero_le _, F1, [], [], out, .newO x1.s hD, fD, upd_same, .nil, Nat.zero_le _, hc, rfl⟩, ?_⟩
      rintro i m H2 ⟨rfl, hi, F2, acc, ads, rs, x2, f2, h2, r2, l2, c2, e2⟩
      obtain ⟨w1, w2⟩ := w i F2 H2 x2 x2.s hi
      by_cases hlt : i < ds.length
      · obtain ⟨go, yl⟩ := w1 hlt
        have ed : ds.drop i = ds[i] :: ds.drop (i + 1) := List.drop_eq_getElem_cons hlt
        refine .inr ⟨go, fun H3 => ∃ F3 acc ads rs, Ext F1 H1 F3 H3 ∧ F3 Dl = none ∧ H3 Dl = some (.lst acc) ∧ RpA K F3 acc ads ∧ acc.length ≤ i + 1 ∧ compL g mt me (forget vs ρ) (ds.drop (i + 1)) = .ok rs ∧ ads ++ rs = out,
          fun H3 ⟨F3, acc, ads, rs, z⟩ => ⟨ds.length - (i + 1), by omega, rfl, hlt, F3, acc, ads, rs, z⟩, fun x H3 y => ?_⟩
        obtain ⟨d, F3, ed2, x3, r3⟩ := yl x H3 y
        have hd : ds[i] = d := by
          have := List.getElem?_eq_getElem hlt
          rw [this] at ed2
          exact Option.some.inj ed2
        rw [ed, hd] at c2
        unfold compL at c2
        cases q : g d (forget vs ρ) with
        | none => rw [q] at c2; cases c2
        | some ρ1 =>
          simp only [q] at c2
          obtain ⟨b, hb, c2⟩ := bind_ok c2
          have hb := noErr_ok hb
          have x13 := x2.trans x3
          refine ⟨F0, H0, F3, forget vs ρ, d, ρ1, SW.mono x13, r3, q, fun σ4 F4 H4 x4 S4 l4 o4 => ⟨wipe_eq (by rw [l4, wipe_length]) o4 his, F0, H0, F4, ρ1, S4, ?_⟩⟩
          rw [hb]
          intro F5 H5 x5
          have x15 := (x13.trans x4).trans x5
          have nD : H2 Dl ≠ none := by rw [h2]; exact fun z => nomatch z
          have x25 := (x3.trans x4).trans x5
          have f5 : F5 Dl = none := x25.o Dl f2 nD
          cases b with
          | false =>
            exact ⟨F5, acc, ads, rs, x15, f5, x25.h _ _ h2, r2.mono x25.f, by omega, c2, e2⟩
          | true =>
            obtain ⟨y, hy, c2⟩ := bind_ok c2
            have hy := noErr_ok hy
            obtain ⟨ys, hys, c2⟩ := bind_ok c2
            cases c2
            refine ⟨F0, H0, F5, ρ1, S4.mono x5, ?_⟩
            rw [hy]
            intro yv F6 H6 x6 r6
            have x26 := x25.trans x6
            have f6 : F6 Dl = none := x26.o Dl f2 nD
            have sub6 : Ex F6 (upd H6 Dl (.lst (acc ++ [yv]))) := fun b u q => by rw [upd_ne (ne_of_none q f6)]; exact x26.s b u q
            refine ⟨acc, x26.h _ _ h2, by omega, F6, acc ++ [yv], ads ++ [y], ys, ⟨(x15.trans x6).f, Ex.mut (x15.trans x6).h hD, (x15.trans x6).o, sub6, (x15.trans x6).n⟩, f6, upd_same, (r2.mono x26.f).append (.cons r6 .nil), by rw [List.length_append, List.length_singleton]; omega, hys, by rw [List.append_assoc]; exact e2⟩
      · have e : i = ds.length := by omega
        have ed : ds.drop i = [] := by rw [e, List.drop_length]
        rw [ed] at c2
        cases c2
        rw [List.append_nil] at e2
        subst e2
        exact .inl ⟨w2 e, k Dl acc F2 H2 (x1.trans x2) (fresh_back x1.h hD) f2 h2 r2⟩) fun _ z => z⟩
theorem dn_lc {elt tg iter : Expr} {ifs : List Expr} {scope : Scope} {own : List (Str × Nat)} {mi : Env → Res (List D)} {is : List Nat} {g : D → Env → Option Env} {mt : Env → Res Bool} {me : Env → Res D} (hc : X.calm = true) (hN : X.N.Nodup) (hi : DIp X κ E tg iter mi) (ok : BlkOk X.N X.env.scope scope own) (his : ∀ i ∈ is, i ∈ own.map (·.2))
    (hg : ∀ (s : Shared) (H : Hp) (C : Addr) (cl : List (Str × Addr)) (fp : List Addr), DG (X.blk s H scope (compEnvC scope cl C X.env) fp) κ tg is g) (ht : ∀ (s : Shared) (H : Hp) (C : Addr) (cl : List (Str × Addr)) (fp : List Addr), DTs (X.blk s H scope (compEnvC scope cl C X.env) fp) κ EX0 ifs mt)
    (he : ∀ (s : Shared) (H : Hp) (C : Addr) (cl : List (Str × Addr)) (fp : List Addr), DE (X.blk s H scope (compEnvC scope cl C X.env) fp) κ EX0 elt me) (hs : ∀ x, foldedSetIterable iter X.env x = pure x := by intro _; rfl) :
    DN X κ E (.ListComp elt [⟨tg, iter, ifs, 0⟩] scope pos) (mLc mi g mt me (own.map (·.2))) :=
  (pe_lc (wi := rdIp X.mg X.K κ E mi) (g := rdG X.K κ is g) (tt := rdT X.mg X.K κ EX0 mt) (te := rdE X.mg X.K κ EX0 me) hc hN hi ok hg ht he hs).imp (lc_read his)
/-- name = [..] -/
theorem ds_setLc {i : Nat} {y : Str} {py spos : Pos} {elt tg iter : Expr} {ifs : List Expr} {scope : Scope} {own : List (Str × Nat)} {mi : Env → Res (List D)} {is : List Nat} {g : D → Env → Option Env} {mt : Env → Res Bool} {me : Env → Res D} (hk : κ i = .im) (his : ∀ i ∈ is, i ∈ own.map (·.2))
    (h : PS X (.Assign [.Name y py] (.ListComp elt [⟨tg, iter, ifs, 0⟩] scope pos) spos) (tAsg (tLc (rdIp X.mg X.K κ E mi) (rdG X.K κ is g) (rdT X.mg X.K κ EX0 mt) (rdE X.mg X.K κ EX0 me) (own.map (·.2))) (gName i))) :
    DS X κ E (.Assign [.Name y py] (.ListComp elt [⟨tg, iter, ifs, 0⟩] scope pos) spos) (mAsg i (mList (mLc mi g mt me (own.map (·.2))))) :=
  h.imp fun Dn σ H ⟨F0, H0, F, ρ, S, k⟩ => by
    refine lc_read (mg := X.mg) (K := X.K) (E := E) his σ H _ ⟨F0, H0, F, ρ, S, ?_⟩
    have k1 := Res.sat_imp (R' := ErrOk X.mg X.K (E.err σ) F H) (out_sat k) (fun d _ k => k) fun x z => err_back S z
    refine Res.sat_imp (Res.sat_bind k1) (fun ds _ k p vs F' H' x hp fp hv r => ?_) fun _ z => z
    have fr : Ext F H (upd F' p (.lst vs)) H' := ⟨x.f.trans (Ex.new fp), x.h, fun a h1 h2 => by
      rw [upd_ne (fun z => h2 (by rw [z]; exact hp))]; exact x.o a h1 h2, fun a u q => by
      by_cases z : a = p
      · subst z; rw [upd_same] at q; cases q; exact hv
      · rw [upd_ne z] at q; exact x.s a u q, fun n => (x.n n).upd (fun _ h => by cases h)⟩
    exact k _ _ H' fr.f ((S.mono fr).set hk (.lst (Evl.sq_of upd_same) (r.mono (Ex.new fp))))
theorem ds_setLcN {i : Nat} {y : Str} {py spos : Pos} {elt tg iter : Expr} {ifs : List Expr} {scope : Scope} {own : List (Str × Nat)} {mi : Env → Res (List D)} {is : List Nat} {g : D → Env → Option Env} {mt : Env → Res Bool} {me : Env → Res D} (hk : κ i = .ow) (his : ∀ i ∈ is, i ∈ own.map (·.2))
    (h : PS X (.Assign [.Name y py] (.ListComp elt [⟨tg, iter, ifs, 0⟩] scope pos) spos) (tAsg (tLc (rdIp X.mg X.K κ E mi) (rdG X.K κ is g) (rdT X.mg X.K κ EX0 mt) (rdE X.mg X.K κ EX0 me) (own.map (·.2))) (gName i))) :
    DS X κ E (.Assign [.Name y py] (.ListComp elt [⟨tg, iter, ifs, 0⟩] scope pos) spos) (mAsgN i (mLc mi g mt me (own.map (·.2)))) :=
  h.imp fun Dn σ H ⟨F0, H0, F, ρ, S, k⟩ => lc_read (mg := X.mg) (K := X.K) (E := E) his σ H _ ⟨F0, H0, F, ρ, S, asgN hk S k⟩
end
end WD

namespace WD
open PySem PySem.Spec PyProof.Rows L2
open Evl (Ex Ex.refl Ex.trans Ex.new Ex.mut ex_l ex_t fresh_back)

/-! ### texts that are well made -/
theorem oks_iff {x : Str} : OkS x ↔ ∀ c ∈ x.cps.toList, c < 1114112 := by
  unfold OkS PyData.strOk
  rw [← Array.all_toList, List.all_eq_true]
  constructor
  · intro h c hc
    have := h c hc
    simpa using this
  · intro h c hc
    have := h c hc
    simpa using this
theorem oks_append {x y : Str} (hx : OkS x) (hy : OkS y) : OkS (x ++ y) := by
  rw [oks_iff] at *
  intro c hc
  have e : (x ++ y).cps.toList = x.cps.toList ++ y.cps.toList := TL.tl_append x y
  rw [e] at hc
  rcases List.mem_append.mp hc with h | h
  · exact hx c h
  · exact hy c h
theorem oks_sub {x y : Str} (hx : OkS x) (h : ∀ c ∈ y.cps.toList, c ∈ x.cps.toList) : OkS y := by
  rw [oks_iff] at *
  exact fun c hc => hx c (h c hc)
theorem oks_cut {x : Str} {lo hi : Option Int} (hx : OkS x) : OkS (cutS x lo hi) := oks_sub hx fun c hc => by
  have hc' : c ∈ ((x.cps.toList.drop (HT.sIx x.length 0 lo)).take (HT.sIx x.length x.length hi - HT.sIx x.length 0 lo)) := by simpa [cutS] using hc
  exact List.mem_of_mem_drop (List.mem_of_mem_take hc')
theorem oks_sign {x : Str} {c : Nat} (hx : OkS x) (h : c ∈ x.cps.toList) : OkS ⟨#[c]⟩ := oks_sub hx fun d hd => by
  have : d = c := by simpa using hd
  rw [this]; exact h

section
variable {X : Cx} {κ κe : Nat → Kd} {E : EX} {a b c e : Expr} {es : List Expr} {pos : Pos} {st : Stmt} {sts : List Stmt}

/-! ### arithmetic -/
def addD : D → D → Res D
  | .int i, .int j => .ok (.int (i + j))
  | .str x, .str y => if x.length + y.length ≤ sizeLine then .ok (.str (x ++ y)) else .stk
  | .list xs, .list ys => if xs.length + ys.length ≤ sizeLine then .ok (.list (xs ++ ys)) else .stk
  | .tuple xs, .tuple ys => if xs.length + ys.length ≤ sizeLine then .ok (.tuple (xs ++ ys)) else .stk
  | _, _ => .stk
theorem post_new {K : Frag} {F H : Hp} {Q : VK} {xs : List V} {ds : List D} (s : Ex F H) (r : RpA K F xs ds) (k : ∀ v F' H', Ext F H F' H' → Rp K F' v (.list ds) → Q v H') : ∀ p, H p = none → Q (.ref p) (upd H p (.lst xs)) :=
  fun p hp => k _ _ _ (.new s hp) (.lst (Evl.sq_of upd_same) (r.mono (Ex.new (none_of_ex s hp))))
theorem post_newT {K : Frag} {F H : Hp} {Q : VK} {xs : List V} {ds : List D} (s : Ex F H) (r : RpA K F xs ds) (k : ∀ v F' H', Ext F H F' H' → Rp K F' v (.tuple ds) → Q v H') : ∀ p, H p = none → Q (.ref p) (upd H p (.tup xs)) :=
  fun p hp => k _ _ _ (.new s hp) (.tup (Evl.st_of upd_same) (r.mono (Ex.new (none_of_ex s hp))))
theorem RpA.nil_iff {K : Frag} {F : Hp} {vs : List V} {ds : List D} (h : RpA K F vs ds) : vs = [] ↔ ds = [] := by
  cases h <;> simp
abbrev rAddA (K : Frag) : R2 := fun x y H Q => rI0 (fun i j => .int (i + j)) x y H Q ∨ (∃ i j, x = .str i ∧ y = .str j ∧ i.length + j.length ≤ sizeLine ∧ Q (.str (i ++ j)) H) ∨ WD.rCatA K x y H Q ∨ L2.rCatA K x y H Q
theorem op_addA : OpR X (binaryOp .Add) (rAddA X.K) := op_add.or (op_add_str.or (WD.op_catA.or L2.op_catA))
theorem op2_add {K : Frag} : Op2 K (rAddA K) addD := fun F H x y dx dy s rx ry Q k => by
  cases dx <;> cases dy <;> try exact k.elim
  · rename_i i j
    rw [rx.int, ry.int]
    exact .inl ⟨i, j, rfl, rfl, k _ F H (Ext.refl s) (.int _)⟩
  · rename_i i j
    obtain ⟨rfl, h1⟩ := rx.str
    obtain ⟨rfl, h2⟩ := ry.str
    by_cases z : i.length + j.length ≤ sizeLine
    · simp only [addD, if_pos z] at k
      exact .inr (.inl ⟨i, j, rfl, rfl, z, k _ F H (Ext.refl s) (.str _ (oks_append h1 h2))⟩)
    · simp only [addD, if_neg z] at k
      exact k.elim
  · rename_i xs ys
    obtain ⟨p, vs, rfl, h1, r1⟩ := rx.list s
    obtain ⟨q, ws, rfl, h2, r2⟩ := ry.list s
    by_cases z : xs.length + ys.length ≤ sizeLine
    · simp only [addD, if_pos z] at k
      exact .inr (.inr (.inl ⟨p, q, vs, ws, rfl, rfl, h1, h2, by rw [r1.length, r2.length]; exact z, post_new s (r1.append r2) k⟩))
    · simp only [addD, if_neg z] at k
      exact k.elim
  · rename_i xs ys
    obtain ⟨p, vs, rfl, h1, r1, w1⟩ := rx.tuple s
    obtain ⟨q, ws, rfl, h2, r2, w2⟩ := ry.tuple s
    by_cases z : xs.length + ys.length ≤ sizeLine
    · simp only [addD, if_pos z] at k
      refine .inr (.inr (.inr ⟨p, q, vs, ws, rfl, rfl, h1, h2, by rw [r1.length, r2.length]; exact z, fun e => ?_, fun e e2 => ?_, fun e e2 => post_newT s (r1.append r2) k⟩))
      · have e' := r1.nil_iff.mp e
        subst e'
        exact k _ F H (Ext.refl s) (by simpa using w2)
      · have e' := r2.nil_iff.mp e2
        subst e'
        exact k _ F H (Ext.refl s) (by simpa using w1)
    · simp only [addD, if_neg z] at k
      exact k.elim
theorem addD_ne : ∀ x y z, addD x y ≠ .err z := fun x y z h => by
  cases x <;> cases y <;> simp only [addD] at h <;> first | cases h | (split at h <;> cases h)
theorem de_add {ma mb : Env → Res D} (ha : DB X κ E a ma) (hb : DB X κ E b mb) : DE X κ E (.BinOp a .Add b pos) (mBin addD ma mb) := de_op op_addA op2_add addD_ne ha hb
def subD : D → D → Res D
  | .int i, .int j => .ok (.int (i - j))
  | _, _ => .stk
theorem de_sub {ma mb : Env → Res D} (ha : DB X κ E a ma) (hb : DB X κ E b mb) : DE X κ E (.BinOp a .Sub b pos) (mBin subD ma mb) :=
  de_op op_sub (fun F H x y dx dy s rx ry Q k => by
    cases dx <;> cases dy <;> try exact k.elim
    rename_i i j
    rw [rx.int, ry.int]
    exact ⟨i, j, rfl, rfl, k _ F H (Ext.refl s) (.int _)⟩) (fun x y z h => by cases x <;> cases y <;> cases h) ha hb
instance (i j : Int) : Decidable (CMul i j) := by unfold CMul; infer_instance
instance (i j : Int) : Decidable (CPow i j) := by unfold CPow; infer_instance
instance (i j : Int) : Decidable (CDiv i j) := by unfold CDiv; infer_instance
theorem op_mul_str : OpR X (binaryOp .Mult) (fun x y H Q => ∃ z k, x = .str z ∧ y = .int k ∧ -(2 ^ 63) ≤ k ∧ k < 2 ^ 63 ∧ z.length * k.toNat ≤ 16777216 ∧ Q (.str ⟨(List.replicate k.toNat z.cps.toList).flatten.toArray⟩) H) := by
  intro pins s σ H x y v u Q I rx ry h
  obtain ⟨z, k, rfl, rfl, h1, h2, hz, q⟩ := h
  obtain ⟨t, rfl⟩ := rx
  obtain ⟨t', rfl⟩ := ry
  have f0 : ∀ m : Nat, (List.replicate m z.cps).foldl (· ++ ·) #[] = (List.replicate m z.cps.toList).flatten.toArray := fun m => by
    have g : ∀ (m : Nat) (acc : Array Nat), (List.replicate m z.cps).foldl (· ++ ·) acc = acc ++ (List.replicate m z.cps.toList).flatten.toArray := fun m => by
      induction m with
      | zero => intro acc; simp
      | succ m ih =>
        intro acc
        rw [List.replicate_succ, List.foldl_cons, ih, List.replicate_succ, List.flatten_cons]
        apply Array.toList_inj.mp
        simp
    rw [g m #[]]
    simp
  refine PySem.P.mul_str ?_ (fun a1 a2 => ?_) (fun a1 a2 => ?_) ?_
  · rw [decide_eq_false (by omega), decide_eq_false (by omega)]; rfl
  · intro hgt
    have hk : 0 < k := by omega
    have h5 : ((z.length : Int)) ≤ 16777216 := by
      have : z.length * 1 ≤ z.length * k.toNat := Nat.mul_le_mul_left _ (by omega)
      omega
    have h6 : (z.length : Int) * k ≤ 16777216 := by
      have e : ((z.length * k.toNat : Nat) : Int) = (z.length : Int) * k := by
        rw [Int.natCast_mul, Int.toNat_of_nonneg (by omega)]
      rw [← e]; omega
    have h7 := Int.lt_iff_add_one_le.mp hgt
    have h8 : (2 ^ 63 - 1) < ((2 ^ 63 - 1) / k + 1) * k := Int.lt_ediv_add_one_mul_self _ hk
    have h9 : ((2 ^ 63 - 1) / k + 1) * k ≤ (z.length : Int) * k := Int.mul_le_mul_of_nonneg_right h7 (by omega)
    omega
  · unfold Builtin.Str.tooLong
    exact decide_eq_false (by rw [sizeLine_eq]; omega)
  · by_cases c1 : k < 1
    · rw [if_pos c1]
      refine ⟨by decide, .str Str.empty, H, I.tok _, ⟨_, rfl⟩, ?_⟩
      have : k.toNat = 0 := by omega
      rw [this] at q
      exact q
    · rw [if_neg c1]
      by_cases c2 : (k == 1 || z.length == 0) = true
      · rw [if_pos c2]
        refine ⟨.str z, H, I, ⟨_, rfl⟩, ?_⟩
        have e : (⟨(List.replicate k.toNat z.cps.toList).flatten.toArray⟩ : Str) = z := by
          apply TL.ext_tl
          show (List.replicate k.toNat z.cps.toList).flatten = z.cps.toList
          rcases Bool.or_eq_true_iff.mp c2 with e | e
          · have : k = 1 := by simpa using e
            subst this
            simp
          · have h0 : z.length = 0 := by simpa using e
            have : z.cps.toList = [] := by
              have : z.cps.toList.length = 0 := by rw [Array.length_toList]; exact h0
              exact List.eq_nil_of_length_eq_zero this
            rw [this]
            simp
        rw [e] at q
        exact q
      · rw [if_neg c2]
        rw [f0]
        refine ⟨?_, .str _, H, I.tok _, ⟨_, rfl⟩, q⟩
        rw [sizeLine_eq]
        show ((List.replicate k.toNat z.cps.toList).flatten.toArray).size ≤ _
        rw [List.size_toArray, List.length_flatten, List.map_replicate, List.sum_replicate_nat, Array.length_toList, Nat.mul_comm]
        exact hz
def repS (x : Str) (k : Nat) : Str := ⟨(List.replicate k x.cps.toList).flatten.toArray⟩
theorem oks_rep {x : Str} {k : Nat} (h : OkS x) : OkS (repS x k) := oks_sub h fun c hc => by
  have hc' : c ∈ (List.replicate k x.cps.toList).flatten := by simpa [repS] using hc
  obtain ⟨l, h1, h2⟩ := List.mem_flatten.mp hc'
  rw [(List.mem_replicate.mp h1).2] at h2
  exact h2
def mulD : D → D → Res D
  | .int i, .int j => if CMul i j then .ok (.int (i * j)) else .stk
  | .str x, .int k => if -(2 ^ 63) ≤ k ∧ k < 2 ^ 63 ∧ x.length * k.toNat ≤ 16777216 then .ok (.str (repS x k.toNat)) else .stk
  | _, _ => .stk
theorem mulD_ne : ∀ x y z, mulD x y ≠ .err z := fun x y z h => by
  cases x <;> cases y <;> simp only [mulD] at h <;> first | cases h | (split at h <;> cases h)
theorem de_mul {ma mb : Env → Res D} (ha : DB X κ E a ma) (hb : DB X κ E b mb) : DE X κ E (.BinOp a .Mult b pos) (mBin mulD ma mb) :=
  de_op (op_mul.or op_mul_str) (fun F H x y dx dy s rx ry Q k => by
    cases dx <;> cases dy <;> try exact k.elim
    · rename_i i j
      rw [rx.int, ry.int]
      by_cases z : CMul i j
      · simp only [mulD, if_pos z] at k
        exact .inl ⟨i, j, rfl, rfl, z, k _ F H (Ext.refl s) (.int _)⟩
      · simp only [mulD, if_neg z] at k
        exact k.elim
    · rename_i i j
      rw [ry.int]
      obtain ⟨rfl, h1⟩ := rx.str
      by_cases z : -(2 ^ 63) ≤ j ∧ j < 2 ^ 63 ∧ i.length * j.toNat ≤ 16777216
      · simp only [mulD, if_pos z] at k
        exact .inr ⟨i, j, rfl, rfl, z.1, z.2.1, z.2.2, k _ F H (Ext.refl s) (.str _ (oks_rep h1))⟩
      · simp only [mulD, if_neg z] at k
        exact k.elim) mulD_ne ha hb
/-- a written list times a number: a new list -/
def mRep (m : Env → Res (List D)) (mb : Env → Res D) : Env → Res (List D) := fun ρ => (m ρ).bind fun ds => (mb ρ).bind fun d => match d with
  | .int k => if -(2 ^ 63) ≤ k ∧ k < 2 ^ 63 ∧ ds.length * k.toNat ≤ sizeLine then .ok (List.replicate k.toNat ds).flatten else .stk
  | _ => .stk
theorem dn_rep {m : Env → Res (List D)} {mb : Env → Res D} (ha : DN X κ E a m) (hb : DE X κ E b mb) : DN X κ E (.BinOp a .Mult b pos) (mRep m mb) :=
  (pe_op op_rep ha hb).imp fun σ H Q ⟨F0, H0, F, ρ, S, c⟩ => ⟨F0, H0, F, ρ, S, Res.sat_imp (Res.sat_bind c) (fun ds _ k p vs F1 H1 x1 hp fp hv r => by
    refine ⟨F0, H0, F1, ρ, S.mono x1, Res.sat_imp (Res.sat_bind k) (fun d _ k v F2 H2 x2 r2 => ?_) fun _ z => z.mono x1⟩
    cases r2 with
    | int j =>
      by_cases z : -(2 ^ 63) ≤ j ∧ j < 2 ^ 63 ∧ ds.length * j.toNat ≤ sizeLine
      · simp only [if_pos z] at k
        have x := x1.trans x2
        exact ⟨p, j, vs, rfl, rfl, x2.h _ _ hv, z.1, z.2.1, by rw [r.length]; exact z.2.2, fun q hq => k q _ F2 _ (x.trans (.newO x.s hq)) (fresh_back x.h hq) (none_of_ex x.s hq) upd_same ((r.mono x2.f).rep _)⟩
      · simp only [if_neg z] at k
        exact k.elim
    | _ => exact k.elim) fun _ z => z⟩
/-- one list behind another: a new list -/
def catD : D → D → Res (List D)
  | .list xs, .list ys => if xs.length + ys.length ≤ sizeLine then .ok (xs ++ ys) else .stk
  | _, _ => .stk
def mCat (ma mb : Env → Res D) : Env → Res (List D) := fun ρ => (ma ρ).bind fun x => (mb ρ).bind fun y => catD x y
theorem cat_step {K : Frag} {mg : Mg} {E1 : XK} {F H F2 H2 : Hp} {Q : VK} {dx dy : D} {v w : V} (x : Ext F H F2 H2) (r1 : Rb K F2 H2 v dx) (r2 : Rb K F2 H2 w dy)
    (k : Res.sat (fun ds => ∀ p vs F' H', Ext F H F' H' → H p = none → F' p = none → H' p = some (.lst vs) → RpA K F' vs ds → Q (.ref p) H') (ErrOk mg K E1 F H) (catD dx dy)) : WD.rCatA K v w H2 Q := by
  cases dx <;> cases dy <;> try exact k.elim
  rename_i xs ys
  obtain ⟨p, vs, rfl, h1, q1⟩ := r1.list x.s
  obtain ⟨q, ws, rfl, h2, q2⟩ := r2.list x.s
  by_cases z : xs.length + ys.length ≤ sizeLine
  · simp only [catD, if_pos z] at k
    exact ⟨p, q, vs, ws, rfl, rfl, h1, h2, by rw [q1.length, q2.length]; exact z, fun l hl => k l _ F2 _ (x.trans (.newO x.s hl)) (fresh_back x.h hl) (none_of_ex x.s hl) upd_same (q1.append q2)⟩
  · simp only [catD, if_neg z] at k
    exact k.elim
theorem dn_cat {ma mb : Env → Res D} (ha : DB X κ E a ma) (hb : DB X κ E b mb) : DN X κ E (.BinOp a .Add b pos) (mCat ma mb) :=
  (pe_op WD.op_catA ha hb).imp fun σ H Q ⟨F0, H0, F, ρ, S, c⟩ => ⟨F0, H0, F, ρ, S, Res.sat_imp (Res.sat_bind c) (fun dx _ k v F1 H1 x1 r1 =>
    ⟨F0, H0, F1, ρ, S.mono x1, Res.sat_imp (Res.sat_bind k) (fun dy _ k w F2 H2 x2 r2 => cat_step (x1.trans x2) (r1.mono x2) r2 k) fun _ z => z.mono x1⟩) fun _ z => z⟩
def modD : D → D → Res D
  | .int i, .int j => if 0 < j then .ok (.int (i % j)) else .stk
  | _, _ => .stk
theorem de_mod {ma mb : Env → Res D} (ha : DB X κ E a ma) (hb : DB X κ E b mb) : DE X κ E (.BinOp a .Mod b pos) (mBin modD ma mb) :=
  de_op op_mod (fun F H x y dx dy s rx ry Q k => by
    cases dx <;> cases dy <;> try exact k.elim
    rename_i i j
    rw [rx.int, ry.int]
    by_cases z : 0 < j
    · simp only [modD, if_pos z] at k
      exact ⟨i, j, rfl, rfl, z, k _ F H (Ext.refl s) (.int _)⟩
    · simp only [modD, if_neg z] at k
      exact k.elim) (fun x y z h => by cases x <;> cases y <;> simp only [modD] at h <;> first | cases h | (split at h <;> cases h)) ha hb
def fdivD : D → D → Res D
  | .int i, .int j => if CDiv i j then .ok (.int (i / j)) else .stk
  | _, _ => .stk
theorem de_fdiv {ma mb : Env → Res D} (ha : DB X κ E a ma) (hb : DB X κ E b mb) : DE X κ E (.BinOp a .FloorDiv b pos) (mBin fdivD ma mb) :=
  de_op op_fdiv (fun F H x y dx dy s rx ry Q k => by
    cases dx <;> cases dy <;> try exact k.elim
    rename_i i j
    rw [rx.int, ry.int]
    by_cases z : CDiv i j
    · simp only [fdivD, if_pos z] at k
      exact ⟨i, j, rfl, rfl, z, k _ F H (Ext.refl s) (.int _)⟩
    · simp only [fdivD, if_neg z] at k
      exact k.elim) (fun x y z h => by cases x <;> cases y <;> simp only [fdivD] at h <;> first | cases h | (split at h <;> cases h)) ha hb
def powD : D → D → Res D
  | .int i, .int j => if CPow i j then .ok (.int (i ^ j.toNat)) else .stk
  | _, _ => .stk
theorem de_pow {ma mb : Env → Res D} (ha : DB X κ E a ma) (hb : DB X κ E b mb) : DE X κ E (.BinOp a .Pow b pos) (mBin powD ma mb) :=
  de_op op_pow (fun F H x y dx dy s rx ry Q k => by
    cases dx <;> cases dy <;> try exact k.elim
    rename_i i j
    rw [rx.int, ry.int]
    by_cases z : CPow i j
    · simp only [powD, if_pos z] at k
      exact ⟨i, j, rfl, rfl, z, k _ F H (Ext.refl s) (.int _)⟩
    · simp only [powD, if_neg z] at k
      exact k.elim) (fun x y z h => by cases x <;> cases y <;> simp only [powD] at h <;> first | cases h | (split at h <;> cases h)) ha hb
def negD : D → Res D
  | .int i => .ok (.int (-i))
  | _ => .stk
def mUn (f : D → Res D) (m : Env → Res D) : Env → Res D := fun ρ => (m ρ).bind f
theorem de_neg {m : Env → Res D} (ha : DE X κ E a m) : DE X κ E (.UnaryOp .USub a pos) (mUn negD m) :=
  (pe_un un_neg ha).imp fun σ H Q ⟨F0, H0, F, ρ, S, c⟩ => ⟨F0, H0, F, ρ, S, Res.sat_imp (Res.sat_bind c) (fun d _ k v F' H' x r => by
    cases r with
    | int i => exact ⟨i, rfl, k _ F' H' x (.int _)⟩
    | _ => exact k.elim) fun _ z => z⟩

/-! ### comparisons -/
def cmpD (p : Int → Int → Bool) : D → D → Res D
  | .int i, .int j => .ok (.bool (p i j))
  | _, _ => .stk
theorem cmpD_ne {p : Int → Int → Bool} : ∀ x y z, cmpD p x y ≠ .err z := fun x y z h => by cases x <;> cases y <;> cases h
theorem cmpD_b {p : Int → Int → Bool} : ∀ x y d, cmpD p x y = .ok d → ∃ b, d = .bool b := fun x y z h => by cases x <;> cases y <;> cases h; exact ⟨_, rfl⟩
theorem op2_cmp {K : Frag} {p : Int → Int → Bool} : Op2 K (rI0 fun i j => .bl (p i j)) (cmpD p) := fun F H x y dx dy s rx ry Q k => by
  cases dx <;> cases dy <;> try exact k.elim
  rename_i i j
  rw [rx.int, ry.int]
  exact ⟨i, j, rfl, rfl, k _ F H (Ext.refl s) (.bl _)⟩
abbrev ltI : Int → Int → Bool := fun i j => decide (i < j)
abbrev leI : Int → Int → Bool := fun i j => decide (i ≤ j)
abbrev gtI : Int → Int → Bool := fun i j => decide (j < i)
abbrev geI : Int → Int → Bool := fun i j => decide (j ≤ i)
section
variable {ma mb : Env → Res D}
theorem de_lt (ha : DB X κ E a ma) (hb : DB X κ E b mb) : DE X κ E (.Compare a [.Lt] [b] pos) (mBin (cmpD ltI) ma mb) := de_cmp op_lt op2_cmp cmpD_ne ha hb (nomark _)
theorem de_le (ha : DB X κ E a ma) (hb : DB X κ E b mb) : DE X κ E (.Compare a [.LtE] [b] pos) (mBin (cmpD leI) ma mb) := de_cmp op_le op2_cmp cmpD_ne ha hb (nomark _)
theorem de_gt (ha : DB X κ E a ma) (hb : DB X κ E b mb) : DE X κ E (.Compare a [.Gt] [b] pos) (mBin (cmpD gtI) ma mb) := de_cmp op_gt op2_cmp cmpD_ne ha hb (nomark _)
theorem de_ge (ha : DB X κ E a ma) (hb : DB X κ E b mb) : DE X κ E (.Compare a [.GtE] [b] pos) (mBin (cmpD geI) ma mb) := de_cmp op_ge op2_cmp cmpD_ne ha hb (nomark _)
theorem dt_lt (ha : DB X κ E a ma) (hb : DB X κ E b mb) : DT X κ E (.Compare a [.Lt] [b] pos) (mTru (mBin (cmpD ltI) ma mb)) := dt_cmp op_lt op2_cmp cmpD_ne cmpD_b ha hb (nomark _)
theorem dt_le (ha : DB X κ E a ma) (hb : DB X κ E b mb) : DT X κ E (.Compare a [.LtE] [b] pos) (mTru (mBin (cmpD leI) ma mb)) := dt_cmp op_le op2_cmp cmpD_ne cmpD_b ha hb (nomark _)
theorem dt_gt (ha : DB X κ E a ma) (hb : DB X κ E b mb) : DT X κ E (.Compare a [.Gt] [b] pos) (mTru (mBin (cmpD gtI) ma mb)) := dt_cmp op_gt op2_cmp cmpD_ne cmpD_b ha hb (nomark _)
theorem dt_ge (ha : DB X κ E a ma) (hb : DB X κ E b mb) : DT X κ E (.Compare a [.GtE] [b] pos) (mTru (mBin (cmpD geI) ma mb)) := dt_cmp op_ge op2_cmp cmpD_ne cmpD_b ha hb (nomark _)
end
/-! == of data -/
mutual
/-- plain data (no dicts), nested at most n deep -/
def plainD : Nat → D → Bool
  | _, .none => true
  | _, .bool _ => true
  | _, .int _ => true
  | _, .str _ => true
  | 0, .list _ => false
  | 0, .tuple _ => false
  | n + 1, .list xs => plainL n xs
  | n + 1, .tuple xs => plainL n xs
  | _, .dict _ => false
def plainL : Nat → List D → Bool
  | _, [] => true
  | n, x :: xs => plainD n x && plainL n xs
end
end
mutual
theorem plain_depth : ∀ (n : Nat) (d : D), plainD n d = true → d.depth ≤ n
  | n, .none, _ => by simp [PyData.depth]
  | n, .bool _, _ => by simp [PyData.depth]
  | n, .int _, _ => by simp [PyData.depth]
  | n, .str _, _ => by simp [PyData.depth]
  | 0, .list _, h => by simp [plainD] at h
  | 0, .tuple _, h => by simp [plainD] at h
  | n + 1, .list xs, h => by
    have := plain_depthL n xs (by simpa [plainD] using h)
    simp [PyData.depth] at *
    omega
  | n + 1, .tuple xs, h => by
    have := plain_depthL n xs (by simpa [plainD] using h)
    simp [PyData.depth] at *
    omega
  | n, .dict _, h => by cases n <;> simp [plainD] at h
theorem plain_depthL : ∀ (n : Nat) (ds : List D), plainL n ds = true → PyData.depthAll ds ≤ n
  | n, [], _ => by simp [PyData.depthAll]
  | n, x :: xs, h => by
    have h' : plainD n x = true ∧ plainL n xs = true := by simpa [plainL] using h
    have h1 := plain_depth n x h'.1
    have h2 := plain_depthL n xs h'.2
    simp [PyData.depthAll]
    omega
end
end WD

namespace WD
open PySem PySem.Spec PyProof.Rows L2
open Evl (Ex Ex.refl Ex.trans Ex.new Ex.mut ex_l ex_t fresh_back)

/-! ### == and in -/
mutual
theorem Rp.dp {K : Frag} {F : Hp} : ∀ (n : Nat) (d : D) (v : V), Rp K F v d → plainD n d = true → Dp K F v d ∧ PyData.canLay0 d = true
  | n, .none, _, h, _ => by cases h; exact ⟨.non, by simp [PyData.canLay0]⟩
  | n, .bool _, _, h, _ => by cases h; exact ⟨.bl _, by simp [PyData.canLay0]⟩
  | n, .int _, _, h, _ => by cases h; exact ⟨.int _, by simp [PyData.canLay0]⟩
  | n, .str _, _, h, _ => by
    cases h with
    | str x hx => exact ⟨.str _, by simpa [PyData.canLay0] using hx⟩
  | 0, .list _, _, _, p => by simp [plainD] at p
  | 0, .tuple _, _, _, p => by simp [plainD] at p
  | n + 1, .list xs, _, h, p => by
    cases h with
    | lst h a =>
      have := Rp.dpA n xs _ a (by simpa [plainD] using p)
      exact ⟨.lst h this.1, by simpa [PyData.canLay0] using this.2⟩
  | n + 1, .tuple xs, _, h, p => by
    cases h with
    | tup h a =>
      have := Rp.dpA n xs _ a (by simpa [plainD] using p)
      exact ⟨.tup h this.1, by simpa [PyData.canLay0] using this.2⟩
  | n, .dict _, _, _, p => by cases n <;> simp [plainD] at p
theorem Rp.dpA {K : Frag} {F : Hp} : ∀ (n : Nat) (ds : List D) (vs : List V), RpA K F vs ds → plainL n ds = true → DpAll K F vs ds ∧ PyData.canLayAll0 ds = true
  | n, [], _, h, _ => by cases h; exact ⟨.nil, by simp [PyData.canLayAll0]⟩
  | n, d :: ds, _, h, p => by
    cases h with
    | cons h1 h2 =>
      have p' : plainD n d = true ∧ plainL n ds = true := by simpa [plainL] using p
      have a := Rp.dp n d _ h1 p'.1
      have b := Rp.dpA n ds _ h2 p'.2
      exact ⟨.cons a.1 b.1, by simp [PyData.canLayAll0, a.2, b.2]⟩
end
theorem Rb.dp {K : Frag} {F H : Hp} {v : V} {d : D} {n : Nat} (s : Ex F H) (r : Rb K F H v d) (hn : n ≤ 64) (p : plainD n d = true) : Dp K H v d ∧ SeqAt.shaped d = true := by
  have a := Rp.dp n d v (r.whole s) p
  refine ⟨a.1, ?_⟩
  unfold SeqAt.shaped
  rw [a.2]
  have := plain_depth n d p
  rw [Bool.true_and]
  exact decide_eq_true (by omega)
/-- deep enough for every datum here -/
abbrev deep : Nat := 40
def eqD (x y : D) : Res D := if plainD deep x = true ∧ plainD deep y = true then .ok (.bool (PyData.eqv x y)) else .stk
def neD (x y : D) : Res D := if plainD deep x = true ∧ plainD deep y = true then .ok (.bool (!PyData.eqv x y)) else .stk
theorem eqD_ne : ∀ x y z, eqD x y ≠ .err z := fun x y z h => by unfold eqD at h; split at h <;> cases h
theorem neD_ne : ∀ x y z, neD x y ≠ .err z := fun x y z h => by unfold neD at h; split at h <;> cases h
theorem eqD_b : ∀ x y d, eqD x y = .ok d → ∃ b, d = .bool b := fun x y d h => by unfold eqD at h; split at h <;> cases h; exact ⟨_, rfl⟩
theorem neD_b : ∀ x y d, neD x y = .ok d → ∃ b, d = .bool b := fun x y d h => by unfold neD at h; split at h <;> cases h; exact ⟨_, rfl⟩
theorem op2_eq {K : Frag} : Op2 K (rEqD K) eqD := fun F H x y dx dy s rx ry Q k => by
  unfold eqD at k
  split at k
  · rename_i h
    have a := rx.dp s (by decide) h.1
    have b := ry.dp s (by decide) h.2
    exact ⟨dx, dy, a.1, b.1, a.2, b.2, k _ F H (Ext.refl s) (.bl _)⟩
  · exact k.elim
theorem op2_ne {K : Frag} : Op2 K (rNeD K) neD := fun F H x y dx dy s rx ry Q k => by
  unfold neD at k
  split at k
  · rename_i h
    have a := rx.dp s (by decide) h.1
    have b := ry.dp s (by decide) h.2
    exact ⟨dx, dy, a.1, b.1, a.2, b.2, k _ F H (Ext.refl s) (.bl _)⟩
  · exact k.elim
section
variable {X : Cx} {κ κe : Nat → Kd} {E : EX} {a b c e : Expr} {es : List Expr} {pos : Pos} {st : Stmt} {sts : List Stmt} {ma mb mc : Env → Res D}
theorem de_eq {k : Nat} (hr : Room k X.A) (ha : DB X κ E a ma) (hb : DB X κ E b mb) : DE X κ E (.Compare a [.Eq] [b] pos) (mBin eqD ma mb) := de_cmp (op_eqD hr.units) op2_eq eqD_ne ha hb (nomark _)
theorem de_ne {k : Nat} (hr : Room k X.A) (ha : DB X κ E a ma) (hb : DB X κ E b mb) : DE X κ E (.Compare a [.NotEq] [b] pos) (mBin neD ma mb) := de_cmp (op_neD hr.units) op2_ne neD_ne ha hb (nomark _)
theorem dt_eq {k : Nat} (hr : Room k X.A) (ha : DB X κ E a ma) (hb : DB X κ E b mb) : DT X κ E (.Compare a [.Eq] [b] pos) (mTru (mBin eqD ma mb)) := dt_cmp (op_eqD hr.units) op2_eq eqD_ne eqD_b ha hb (nomark _)
theorem dt_ne {k : Nat} (hr : Room k X.A) (ha : DB X κ E a ma) (hb : DB X κ E b mb) : DT X κ E (.Compare a [.NotEq] [b] pos) (mTru (mBin neD ma mb)) := dt_cmp (op_neD hr.units) op2_ne neD_ne neD_b ha hb (nomark _)

/-! is None -/
def isNoneD : D → Bool
  | .none => true
  | _ => false
def mIsN (m : Env → Res D) : Env → Res D := fun ρ => (m ρ).bind fun d => .ok (.bool (isNoneD d))
def mNotN (m : Env → Res D) : Env → Res D := fun ρ => (m ρ).bind fun d => .ok (.bool (!isNoneD d))
theorem Rb.isNone {K : Frag} {F H : Hp} {v : V} {d : D} (s : Ex F H) (r : Rb K F H v d) : decide (v = .non) = isNoneD d := by
  have w := r.whole s
  cases w <;> first | rfl | (exact decide_eq_false fun z => nomatch z)
theorem de_isN {j pos'} (ha : DB X κ E a ma) : DE X κ E (.Compare a [.Is] [.Constant .none j pos'] pos) (mIsN ma) :=
  (pe_cmp (pc_isN ha) rfl).imp fun σ H Q ⟨F0, H0, F, ρ, S, c⟩ => ⟨F0, H0, F, ρ, S, Res.sat_imp (Res.sat_bind c) (fun d _ k v F' H' x r => by
    show Q (V.bl (decide (v = V.non))) H'
    rw [r.isNone x.s]
    exact k _ F' H' x (.bl _)) fun _ z => z⟩
theorem de_notN {j pos'} (ha : DB X κ E a ma) : DE X κ E (.Compare a [.IsNot] [.Constant .none j pos'] pos) (mNotN ma) :=
  (pe_cmp (pc_notN ha) rfl).imp fun σ H Q ⟨F0, H0, F, ρ, S, c⟩ => ⟨F0, H0, F, ρ, S, Res.sat_imp (Res.sat_bind c) (fun d _ k v F' H' x r => by
    show Q (V.bl (!decide (v = V.non))) H'
    rw [r.isNone x.s]
    exact k _ F' H' x (.bl _)) fun _ z => z⟩
/-- a value that is a bool, as a test: by its value's truth -/
theorem dt_val (h : DE X κ E e ma) (hb : ∀ ρ d, ma ρ = .ok d → ∃ b, d = .bool b) (he : ∀ whole, isTrue e X.env whole = (do let v ← whole; standAt e.pos; holding [v] (truthy v)) := by intro _; rfl) : DT X κ E e (mTru ma) :=
  (pt_val h he).imp fun σ H Q ⟨F0, H0, F, ρ, S, c⟩ => ⟨F0, H0, F, ρ, S, Res.sat_imp (bool_of c fun d hd => hb ρ d hd) (fun d _ k v F' H' x r => by
    obtain ⟨b, rfl, k⟩ := k
    cases r
    exact ⟨b, rfl, k F' H' x⟩) fun _ z => z⟩
theorem isN_b : ∀ (ρ : Env) (d : D), mIsN ma ρ = .ok d → ∃ b, d = .bool b := fun ρ d h => by
  obtain ⟨x, _, h⟩ := bind_ok h
  cases h; exact ⟨_, rfl⟩
theorem notN_b : ∀ (ρ : Env) (d : D), mNotN ma ρ = .ok d → ∃ b, d = .bool b := fun ρ d h => by
  obtain ⟨x, _, h⟩ := bind_ok h
  cases h; exact ⟨_, rfl⟩
/-- (as a test) -/
theorem dt_isN {j pos'} (ha : DB X κ E a ma) : DT X κ E (.Compare a [.Is] [.Constant .none j pos'] pos) (mTru (mIsN ma)) :=
  (pt_cmp (pc_isN ha) rfl).imp fun σ H Q ⟨F0, H0, F, ρ, S, c⟩ => ⟨F0, H0, F, ρ, S, Res.sat_imp (Res.sat_bind (m := ma ρ) (f := fun d => (Res.ok (PyData.bool (isNoneD d)))|>.bind truD) (by
    have c' : Res.sat _ _ ((mIsN ma ρ).bind truD) := c
    unfold mIsN at c'
    cases q : ma ρ <;> rw [q] at c' <;> exact c')) (fun d _ k v F' H' x r => ⟨_, rfl, by
      show Q (decide (v = V.non)) H'
      rw [r.isNone x.s]; exact k F' H' x⟩) fun _ z => z⟩
theorem dt_notN {j pos'} (ha : DB X κ E a ma) : DT X κ E (.Compare a [.IsNot] [.Constant .none j pos'] pos) (mTru (mNotN ma)) :=
  (pt_cmp (pc_notN ha) rfl).imp fun σ H Q ⟨F0, H0, F, ρ, S, c⟩ => ⟨F0, H0, F, ρ, S, Res.sat_imp (Res.sat_bind (m := ma ρ) (f := fun d => (Res.ok (PyData.bool (!isNoneD d)))|>.bind truD) (by
    have c' : Res.sat _ _ ((mNotN ma ρ).bind truD) := c
    unfold mNotN at c'
    cases q : ma ρ <;> rw [q] at c' <;> exact c')) (fun d _ k v F' H' x r => ⟨_, rfl, by
      show Q (!decide (v = V.non)) H'
      rw [r.isNone x.s]; exact k F' H' x⟩) fun _ z => z⟩

/-! in -/
def flatD : D → Bool
  | .none => true
  | .bool _ => true
  | .int _ => true
  | .str _ => true
  | _ => false
def vOf : D → V
  | .none => .non
  | .bool b => .bl b
  | .int i => .int i
  | .str x => .str x
  | _ => .non
theorem flat_v {K : Frag} {F : Hp} {v : V} {d : D} (r : Rp K F v d) (h : flatD d = true) : v = vOf d ∧ flatV v = true := by
  cases r <;> first | exact ⟨rfl, rfl⟩ | cases h
theorem flat_vs {K : Frag} {F : Hp} : ∀ {vs : List V} {ds : List D}, RpA K F vs ds → ds.all flatD = true → vs = ds.map vOf ∧ vs.all flatV = true
  | _, _, .nil, _ => ⟨rfl, rfl⟩
  | _, _, .cons r a, h => by
    rw [List.all_cons, Bool.and_eq_true] at h
    have h1 := flat_v r h.1
    have h2 := flat_vs a h.2
    exact ⟨by rw [List.map_cons, ← h1.1, ← h2.1], by rw [List.all_cons, h1.2, h2.2]; rfl⟩
/-- one text in another -/
def inS (x y : Str) : Bool := !(Builtin.Str.occurrences y x 0 y.length 1).isEmpty
def inD (x y : D) : Res D :=
  match x, y with
  | .str x, .str y => .ok (.bool (inS x y))
  | x, .list ys => if flatD x = true ∧ ys.all flatD = true then .ok (.bool (inV (vOf x) (ys.map vOf))) else .stk
  | x, .tuple ys => if flatD x = true ∧ ys.all flatD = true then .ok (.bool (inV (vOf x) (ys.map vOf))) else .stk
  | _, _ => .stk
def notInD (x y : D) : Res D := (inD x y).bind fun d => match d with
  | .bool b => .ok (.bool (!b))
  | _ => .stk
theorem inD_ne : ∀ x y z, inD x y ≠ .err z := fun x y z h => by
  unfold inD at h
  split at h <;> first | cases h | (split at h <;> cases h)
theorem inD_b : ∀ x y d, inD x y = .ok d → ∃ b, d = .bool b := fun x y z h => by
  unfold inD at h
  split at h <;> first | (cases h; exact ⟨_, rfl⟩) | (split at h <;> cases h; exact ⟨_, rfl⟩) | cases h
theorem notInD_ne : ∀ x y z, notInD x y ≠ .err z := fun x y z h => by
  unfold notInD at h
  cases q : inD x y with
  | ok d =>
    rw [q] at h
    obtain ⟨b, rfl⟩ := inD_b x y d q
    cases h
  | err w => exact inD_ne x y w q
  | stk => rw [q] at h; cases h
theorem notInD_b : ∀ x y d, notInD x y = .ok d → ∃ b, d = .bool b := fun x y d h => by
  unfold notInD at h
  obtain ⟨e, q, h⟩ := bind_ok h
  obtain ⟨b, rfl⟩ := inD_b x y e q
  cases h; exact ⟨_, rfl⟩
abbrev rInA (K : Frag) : R2 := fun x y H Q => (∃ i j, x = .str i ∧ y = .str j ∧ Q (.bl (!(Builtin.Str.occurrences j i 0 j.length 1).isEmpty)) H) ∨ rIn K false x y H Q
abbrev rNotInA (K : Frag) : R2 := fun x y H Q => (∃ i j, x = .str i ∧ y = .str j ∧ Q (.bl (!(!(Builtin.Str.occurrences j i 0 j.length 1).isEmpty))) H) ∨ rIn K true x y H Q
theorem in_seq {K : Frag} {F H : Hp} {x y : V} {dx dy : D} {ys : List D} (s : Ex F H) (rx : Rb K F H x dx) (ry : Rb K F H y dy) (hy : dy = .list ys ∨ dy = .tuple ys) (hf : flatD dx = true ∧ ys.all flatD = true) :
    ∃ p xs, y = .ref p ∧ (SqL K H p xs ∨ SqT K H p xs) ∧ flatV x = true ∧ xs.all flatV = true ∧ inV x xs = inV (vOf dx) (ys.map vOf) := by
  have hx := flat_v (rx.whole s) hf.1
  rcases hy with rfl | rfl
  · obtain ⟨p, vs, rfl, h1, r1⟩ := ry.list s
    have hv := flat_vs r1 hf.2
    exact ⟨p, vs, rfl, .inl h1, hx.2, hv.2, by rw [hx.1, hv.1]⟩
  · obtain ⟨p, vs, rfl, h1, r1, _⟩ := ry.tuple s
    have hv := flat_vs r1 hf.2
    exact ⟨p, vs, rfl, .inr h1, hx.2, hv.2, by rw [hx.1, hv.1]⟩
theorem op2_in {K : Frag} : Op2 K (rInA K) inD := fun F H x y dx dy s rx ry Q k => by
  unfold inD at k
  split at k
  · obtain ⟨rfl, _⟩ := rx.str
    obtain ⟨rfl, _⟩ := ry.str
    exact .inl ⟨_, _, rfl, rfl, k _ F H (Ext.refl s) (.bl _)⟩
  · split at k
    · rename_i hf
      obtain ⟨p, xs, rfl, h1, h2, h3, h4⟩ := in_seq s rx ry (.inl rfl) hf
      refine .inr ⟨p, xs, rfl, h1, h2, h3, ?_⟩
      rw [if_neg Bool.false_ne_true, h4]
      exact k _ F H (Ext.refl s) (.bl _)
    · exact k.elim
  · split at k
    · rename_i hf
      obtain ⟨p, xs, rfl, h1, h2, h3, h4⟩ := in_seq s rx ry (.inr rfl) hf
      refine .inr ⟨p, xs, rfl, h1, h2, h3, ?_⟩
      rw [if_neg Bool.false_ne_true, h4]
      exact k _ F H (Ext.refl s) (.bl _)
    · exact k.elim
  · exact k.elim
theorem op2_notIn {K : Frag} : Op2 K (rNotInA K) notInD := fun F H x y dx dy s rx ry Q k => by
  unfold notInD inD at k
  split at k
  · obtain ⟨rfl, _⟩ := rx.str
    obtain ⟨rfl, _⟩ := ry.str
    exact .inl ⟨_, _, rfl, rfl, k _ F H (Ext.refl s) (.bl _)⟩
  · split at k
    · rename_i hf
      obtain ⟨p, xs, rfl, h1, h2, h3, h4⟩ := in_seq s rx ry (.inl rfl) hf
      refine .inr ⟨p, xs, rfl, h1, h2, h3, ?_⟩
      rw [if_pos rfl, h4]
      exact k _ F H (Ext.refl s) (.bl _)
    · exact k.elim
  · split at k
    · rename_i hf
      obtain ⟨p, xs, rfl, h1, h2, h3, h4⟩ := in_seq s rx ry (.inr rfl) hf
      refine .inr ⟨p, xs, rfl, h1, h2, h3, ?_⟩
      rw [if_pos rfl, h4]
      exact k _ F H (Ext.refl s) (.bl _)
    · exact k.elim
  · exact k.elim
theorem op_inA : OpR X (compareOp .In) (rInA X.K) := op_in_str.or op_in_seq
theorem op_notInA : OpR X (compareOp .NotIn) (rNotInA X.K) := L2.op_notIn_str.or op_notIn_seq
theorem de_in (ha : DB X κ E a ma) (hb : DB X κ E b mb) (hm : behindInMarks .In b = false := by rfl) : DE X κ E (.Compare a [.In] [b] pos) (mBin inD ma mb) := de_cmp op_inA op2_in inD_ne ha hb hm
theorem de_notIn (ha : DB X κ E a ma) (hb : DB X κ E b mb) (hm : behindInMarks .NotIn b = false := by rfl) : DE X κ E (.Compare a [.NotIn] [b] pos) (mBin notInD ma mb) := de_cmp op_notInA op2_notIn notInD_ne ha hb hm
theorem dt_in (ha : DB X κ E a ma) (hb : DB X κ E b mb) (hm : behindInMarks .In b = false := by rfl) : DT X κ E (.Compare a [.In] [b] pos) (mTru (mBin inD ma mb)) := dt_cmp op_inA op2_in inD_ne inD_b ha hb hm
theorem dt_notIn (ha : DB X κ E a ma) (hb : DB X κ E b mb) (hm : behindInMarks .NotIn b = false := by rfl) : DT X κ E (.Compare a [.NotIn] [b] pos) (mTru (mBin notInD ma mb)) := dt_cmp op_notInA op2_notIn notInD_ne notInD_b ha hb hm

/-! a < b <= c .. : two comparisons of whole numbers -/
def mChain (p q : Int → Int → Bool) (ma mb mc : Env → Res D) : Env → Res D := fun ρ => (ma ρ).bind fun x => (mb ρ).bind fun y => (cmpD p x y).bind fun d => (boolD d).bind fun b =>
  if b = true then (mc ρ).bind fun z => cmpD q y z else .ok (.bool false)
theorem cmpD_sat {p : Int → Int → Bool} {x y : D} {P : D → Prop} {R : Exn → Prop} (h : (cmpD p x y).sat P R) : ∃ i j, x = .int i ∧ y = .int j ∧ P (.bool (p i j)) := by
  cases x <;> cases y <;> first | exact ⟨_, _, rfl, rfl, h⟩ | exact h.elim
theorem chain_read {p q : Int → Int → Bool} {mg : Mg} {K : Frag} : ∀ σ H Q, rdE mg K κ E (mChain p q ma mb mc) σ H Q → tChain (rI0 fun i j => .bl (p i j)) (rI0 fun i j => .bl (q i j)) (rdE mg K κ E ma) (rdE mg K κ E mb) (rdE mg K κ E mc) σ H Q :=
  fun σ H Q ⟨F0, H0, F, ρ, S, c⟩ => ⟨F0, H0, F, ρ, S, Res.sat_imp (Res.sat_bind c) (fun x _ k v1 F1 H1 x1 r1 =>
    ⟨F0, H0, F1, ρ, S.mono x1, Res.sat_imp (Res.sat_bind k) (fun y _ k v2 F2 H2 x2 r2 => by
      obtain ⟨i, j, rfl, rfl, k⟩ := cmpD_sat (Res.sat_bind k)
      cases r1
      cases r2
      refine ⟨i, j, rfl, rfl, p i j, rfl, ?_⟩
      cases hp : p i j with
      | false =>
        rw [hp] at k
        first | exact k _ F2 H2 (x1.trans x2) (.bl _) | (rw [if_neg Bool.false_ne_true]; exact k _ F2 H2 (x1.trans x2) (.bl _))
      | true =>
        rw [hp] at k
        try rw [if_pos rfl]
        refine ⟨F0, H0, F2, ρ, (S.mono x1).mono x2, Res.sat_imp (Res.sat_bind k) (fun z _ k v3 F3 H3 x3 r3 => ?_) fun _ z => z.mono (x1.trans x2)⟩
        obtain ⟨j', l, e, rfl, k⟩ := cmpD_sat k
        cases e
        cases r3
        exact ⟨j, l, rfl, rfl, k _ F3 H3 ((x1.trans x2).trans x3) (.bl _)⟩) fun _ z => z.mono x1⟩) fun _ z => z⟩

theorem de_chain {op op' : CmpOp} {p q : Int → Int → Bool} (h1 : OpR X (compareOp op) (rI0 fun i j => .bl (p i j))) (h2 : OpR X (compareOp op') (rI0 fun i j => .bl (q i j))) (ha : DE X κ E a ma) (hb : DE X κ E b mb) (hc : DE X κ E c mc)
    (hp : PE X (.Compare a [op, op'] [b, c] pos) (tChain (rI0 fun i j => .bl (p i j)) (rI0 fun i j => .bl (q i j)) (rdE X.mg X.K κ E ma) (rdE X.mg X.K κ E mb) (rdE X.mg X.K κ E mc))) : DE X κ E (.Compare a [op, op'] [b, c] pos) (mChain p q ma mb mc) :=
  hp.imp (chain_read)
theorem mChain_b {p q : Int → Int → Bool} : ∀ (ρ : Env) (d : D), mChain p q ma mb mc ρ = .ok d → ∃ b, d = .bool b := fun ρ d h => by
  unfold mChain at h
  cases h1 : ma ρ with
  | ok x =>
    rw [h1] at h
    cases h2 : mb ρ with
    | ok y =>
      simp only [Res.bind, h2] at h
      cases x <;> cases y <;> simp only [cmpD, boolD] at h <;> try cases h
      rename_i i j
      cases hp : p i j with
      | false => rw [hp] at h; cases h; exact ⟨_, rfl⟩
      | true =>
        rw [hp] at h
        simp only [if_true] at h
        cases h3 : mc ρ with
        | ok z => rw [h3] at h; cases z <;> simp only [cmpD] at h <;> cases h; exact ⟨_, rfl⟩
        | err x => rw [h3] at h; cases h
        | stk => rw [h3] at h; cases h
    | err x => simp only [Res.bind, h2] at h; cases h
    | stk => simp only [Res.bind, h2] at h; cases h
  | err x => rw [h1] at h; cases h
  | stk => rw [h1] at h; cases h
theorem dt_chain {op op' : CmpOp} {p q : Int → Int → Bool} (h1 : OpR X (compareOp op) (rI0 fun i j => .bl (p i j))) (h2 : OpR X (compareOp op') (rI0 fun i j => .bl (q i j))) (ha : DE X κ E a ma) (hb : DE X κ E b mb) (hc : DE X κ E c mc)
    (hp : PT X (.Compare a [op, op'] [b, c] pos) (tTest (tChain (rI0 fun i j => .bl (p i j)) (rI0 fun i j => .bl (q i j)) (rdE X.mg X.K κ E ma) (rdE X.mg X.K κ E mb) (rdE X.mg X.K κ E mc)))) : DT X κ E (.Compare a [op, op'] [b, c] pos) (mTru (mChain p q ma mb mc)) :=
  hp.imp fun σ H Q ⟨F0, H0, F, ρ, S, c⟩ => chain_read σ H _ ⟨F0, H0, F, ρ, S, Res.sat_imp (bool_of c fun d hd => mChain_b ρ d hd) (fun d _ ⟨b, e, k⟩ v F' H' x r => by
    subst e
    cases r
    exact ⟨b, rfl, k F' H' x⟩) fun _ z => z⟩
end
end WD

namespace WD
open PySem PySem.Spec PyProof.Rows L2
open Evl (Ex Ex.refl Ex.trans Ex.new Ex.mut ex_l ex_t fresh_back)
section
variable {X : Cx} {κ κe : Nat → Kd} {E : EX} {a b c e : Expr} {es : List Expr} {pos : Pos} {st : Stmt} {sts : List Stmt} {ma mb mc : Env → Res D}

/-! ### built-in calls of one borrowed value -/
def Op1 (K : Frag) (r : List V → Hp → VK → Prop) (f : D → Res D) : Prop := ∀ F H x dx, Ex F H → Rb K F H x dx → ∀ Q : VK, Post K F H Q (f dx) → r [x] H Q
theorem op1_read {r : List V → Hp → VK → Prop} {f : D → Res D} {mg : Mg} {K : Frag} (hf : Op1 K r f) (ne : ∀ x z, f x ≠ .err z) : ∀ σ H Q, rdE mg K κ E (mUn f ma) σ H Q → tCB r (tCons (rdB mg K κ E ma) tNil) σ H Q :=
  fun σ H Q ⟨F0, H0, F, ρ, S, c⟩ => ⟨F0, H0, F, ρ, S, Res.sat_imp (Res.sat_bind c) (fun d _ k v F' H' x r => hf F' H' v d x.s r Q (by
    have c3 := sat_post (E1 := E.err σ) (mg := mg) (H := H) (F := F) (K := K) (Q := Q) (ne d) k
    exact Res.sat_imp c3 (fun d _ k v F2 H2 e' rp => k v F2 H2 (x.trans e') rp) fun _ z => z)) fun _ z => z⟩
theorem de_callB {x : Str} {p : Pos} {id : String} {r : List V → Hp → VK → Prop} {f : D → Res D} (hc : CallR X (.builtin id) r) (hf : Op1 X.K r f) (ne : ∀ x z, f x ≠ .err z) (hv : bootBuiltins x = some (.builtin id)) (hg : Gl X x) (hm : X.mg x = none) (ha : DB X κ E e ma) (hn : x ≠ "__name__" := by decide) (hdb : (x == ("__debug__" : Str)) = false := by decide)
    (he : starEach [e] X.env = (false, eval e X.env) :: starEach [] X.env := by rfl) (hpl : (backTo pos (starEach [] X.env)).any (·.1) = false := by rfl) : DE X κ E (.Call (.Name x p) [e] [] pos) (mUn f ma) :=
  (pe_callB hc hg hm hv (pa_cons ha pa_nil he) hn hdb he hpl).imp (op1_read hf ne)
theorem de_callTy {x : Str} {p : Pos} {T : String} {r : List V → Hp → VK → Prop} {f : D → Res D} (hc : CallR X (.type T) r) (hf : Op1 X.K r f) (ne : ∀ x z, f x ≠ .err z) (hv : bootBuiltins x = some (.type T)) (hg : Gl X x) (hm : X.mg x = none) (ha : DB X κ E e ma) (hn : x ≠ "__name__" := by decide) (hdb : (x == ("__debug__" : Str)) = false := by decide)
    (he : starEach [e] X.env = (false, eval e X.env) :: starEach [] X.env := by rfl) (hpl : (backTo pos (starEach [] X.env)).any (·.1) = false := by rfl) : DE X κ E (.Call (.Name x p) [e] [] pos) (mUn f ma) :=
  (pe_callTy hc hg hm hv (pa_cons ha pa_nil he) hn hdb he hpl).imp (op1_read hf ne)

def lenD : D → Res D
  | .list xs => .ok (.int xs.length)
  | .tuple xs => .ok (.int xs.length)
  | .dict xs => .ok (.int xs.length)
  | .str x => if x.length ≤ sizeLine then .ok (.int x.length) else .stk
  | _ => .stk
theorem lenD_ne : ∀ x z, lenD x ≠ .err z := fun x z h => by cases x <;> simp only [lenD] at h <;> first | cases h | (split at h <;> cases h)
theorem RpK.length {K : Frag} {F : Hp} : ∀ {vs : List (Key × V)} {ds : List (D × D)}, RpK K F vs ds → vs.length = ds.length
  | _, _, .nil => rfl
  | _, _, .cons _ _ a => by rw [List.length_cons, List.length_cons, RpK.length a]
abbrev rLenA (K : Frag) : List V → Hp → VK → Prop := fun xs H Q => (∃ x n, xs = [x] ∧ LenV K x H n ∧ Q (.int n) H) ∨ (∃ a kvs, xs = [V.ref a] ∧ Rd H a (.dK kvs) ∧ Q (.int kvs.length) H)
theorem call_lenR : CallR X (.builtin "len") (fun xs H Q => ∃ a kvs, xs = [V.ref a] ∧ Rd H a (.dK kvs) ∧ Q (.int kvs.length) H) := fun pins s σ H xs us Q I r ⟨a, kvs, e, ha, q⟩ => by
  subst e
  obtain ⟨u, rfl, ru⟩ := vals1 r
  cases ru
  exact d_len I ha fun t s' I' => ⟨.int kvs.length, H, I', ⟨t, rfl⟩, q⟩
theorem call_lenA : CallR X (.builtin "len") (rLenA X.K) := call_len.or call_lenR
theorem op1_len {K : Frag} : Op1 K (rLenA K) lenD := fun F H x dx s rx Q k => by
  have w := rx.whole s
  cases w with
  | str y hy =>
    simp only [lenD] at k
    split at k
    · rename_i z
      exact .inl ⟨_, _, rfl, ⟨z, rfl⟩, k _ F H (Ext.refl s) (.int _)⟩
    · exact k.elim
  | @lst a xs ds h r => exact .inl ⟨_, ds.length, rfl, .inl ⟨xs, h, r.length.symm⟩, k _ F H (Ext.refl s) (.int _)⟩
  | @tup a xs ds h r => exact .inl ⟨_, ds.length, rfl, .inr ⟨xs, h, r.length.symm⟩, k _ F H (Ext.refl s) (.int _)⟩
  | @dct a kvs ds h r => exact .inr ⟨a, kvs, rfl, h, by rw [r.length]; exact k _ F H (Ext.refl s) (.int _)⟩
  | _ => exact k.elim
theorem de_len {p : Pos} (hg : Gl X "len") (hm : X.mg "len" = none) (ha : DB X κ E e ma) (he : starEach [e] X.env = (false, eval e X.env) :: starEach [] X.env := by rfl) (hpl : (backTo pos (starEach [] X.env)).any (·.1) = false := by rfl) : DE X κ E (.Call (.Name "len" p) [e] [] pos) (mUn lenD ma) :=
  de_callB call_lenA op1_len lenD_ne PySem.boot_len hg hm ha (by decide) (by decide) he hpl
/-- list(x), a new list -/
def mSeq1 (m : Env → Res D) : Env → Res (List D) := fun ρ => (m ρ).bind seqD
theorem dn_list {p : Pos} (hg : Gl X "list") (hm : X.mg "list" = none) (ha : DB X κ E e ma) (hv : bootBuiltins "list" = some (.type "list") := by decide +kernel) (he : starEach [e] X.env = (false, eval e X.env) :: starEach [] X.env := by rfl) (hpl : (backTo pos (starEach [] X.env)).any (·.1) = false := by rfl) : DN X κ E (.Call (.Name "list" p) [e] [] pos) (mSeq1 ma) :=
  (pe_callTy call_list_of hg hm hv (pa_cons ha pa_nil he) (by decide) (by decide) he hpl).imp fun σ H Q ⟨F0, H0, F, ρ, S, c⟩ => ⟨F0, H0, F, ρ, S, Res.sat_imp (Res.sat_bind c) (fun d _ k v F' H' x r => by
    obtain ⟨ds, hd, k⟩ := seqD_sat k
    rcases hd with rfl | rfl
    · obtain ⟨p, vs, rfl, h1, r1⟩ := r.list x.s
      exact ⟨p, vs, rfl, .inl h1, fun l hl => k l vs F' _ (x.trans (.newO x.s hl)) (fresh_back x.h hl) (none_of_ex x.s hl) upd_same r1⟩
    · obtain ⟨p, vs, rfl, h1, r1, _⟩ := r.tuple x.s
      exact ⟨p, vs, rfl, .inr h1, fun l hl => k l vs F' _ (x.trans (.newO x.s hl)) (fresh_back x.h hl) (none_of_ex x.s hl) upd_same r1⟩) fun _ z => z⟩
def tupleD : D → Res D
  | .list xs => .ok (.tuple xs)
  | .tuple xs => .ok (.tuple xs)
  | _ => .stk
theorem de_tuple {p : Pos} (hg : Gl X "tuple") (hm : X.mg "tuple" = none) (ha : DB X κ E e ma) (hv : bootBuiltins "tuple" = some (.type "tuple") := by decide +kernel) (he : starEach [e] X.env = (false, eval e X.env) :: starEach [] X.env := by rfl) (hpl : (backTo pos (starEach [] X.env)).any (·.1) = false := by rfl) : DE X κ E (.Call (.Name "tuple" p) [e] [] pos) (mUn tupleD ma) :=
  de_callTy call_tuple_of (fun F H x dx s rx Q k => by
    cases dx with
    | list ds =>
      obtain ⟨p, vs, rfl, h1, r1⟩ := rx.list s
      exact ⟨p, vs, rfl, .inl ⟨h1, post_newT s r1 k⟩⟩
    | tuple ds =>
      obtain ⟨p, vs, rfl, h1, r1, w⟩ := rx.tuple s
      exact ⟨p, vs, rfl, .inr ⟨h1, k _ F H (Ext.refl s) w⟩⟩
    | _ => exact k.elim) (fun x z h => by cases x <;> cases h) hv hg hm ha (by decide) (by decide) he hpl
theorem oks_ofNat : ∀ (n : Nat), OkS (Str.ofString (toString ((n : Nat) : Int))) := fun n => by
  rw [oks_iff]
  intro c hc
  have e : TL.tl (Str.ofString (toString ((n : Nat) : Int))) = TL.numL n := TL.tl_num n
  have hc' : c ∈ TL.numL n := by rw [← e]; exact hc
  have := TL.numL_free (n := n) (s := c)
  by_cases h : c < 48 ∨ 57 < c
  · exact absurd hc' (this h)
  · omega
theorem oks_toString (i : Int) : OkS (toString i : Str) := by
  have e : TL.tl (Str.ofString (toString i)) = (toString i).toList.map Char.toNat := TL.tl_ofString _
  show OkS (Str.ofString (toString i))
  rw [oks_iff]
  intro c hc
  have hc' : c ∈ (toString i).toList.map Char.toNat := by rw [← e]; exact hc
  obtain ⟨ch, _, rfl⟩ := List.mem_map.mp hc'
  have := ch.valid
  have : ch.toNat < 0x110000 := by
    have h1 := ch.valid
    unfold Char.toNat
    rcases h1 with h1 | h1 <;> omega
  exact this
def strD : D → Res D
  | .int i => if i.natAbs.log2 < 1920 then .ok (.str (toString i)) else .stk
  | _ => .stk
theorem de_str1 {p : Pos} (hg : Gl X "str") (hm : X.mg "str" = none) (ha : DB X κ E e ma) (hv : bootBuiltins "str" = some (.type "str") := by decide +kernel) (he : starEach [e] X.env = (false, eval e X.env) :: starEach [] X.env := by rfl) (hpl : (backTo pos (starEach [] X.env)).any (·.1) = false := by rfl) : DE X κ E (.Call (.Name "str" p) [e] [] pos) (mUn strD ma) :=
  de_callTy call_str_int (fun F H x dx s rx Q k => by
    cases dx with
    | int i =>
      rw [rx.int]
      simp only [strD] at k
      split at k
      · rename_i h
        exact ⟨i, rfl, h, k _ F H (Ext.refl s) (.str _ (oks_toString i))⟩
      · exact k.elim
    | _ => exact k.elim) (fun x z h => by cases x <;> simp only [strD] at h <;> first | cases h | (split at h <;> cases h)) hv hg hm ha (by decide) (by decide) he hpl
def intD : D → Res D
  | .int i => .ok (.int i)
  | .bool k => .ok (.int (if k then 1 else 0))
  | .str x => match PySem.intText? x with
    | some n => if x.length ≤ 640 then .ok (.int n) else .stk
    | none => .stk
  | _ => .stk
theorem de_int1 {p : Pos} (hg : Gl X "int") (hm : X.mg "int" = none) (ha : DB X κ E e ma) (hv : bootBuiltins "int" = some (.type "int") := by decide +kernel) (he : starEach [e] X.env = (false, eval e X.env) :: starEach [] X.env := by rfl) (hpl : (backTo pos (starEach [] X.env)).any (·.1) = false := by rfl) : DE X κ E (.Call (.Name "int" p) [e] [] pos) (mUn intD ma) :=
  de_callTy (call_int1.or call_int_str) (fun F H x dx s rx Q k => by
    cases dx with
    | int i => rw [rx.int]; exact .inl (.inl ⟨i, rfl, k _ F H (Ext.refl s) (.int _)⟩)
    | bool i => rw [rx.bool]; exact .inl (.inr ⟨i, rfl, k _ F H (Ext.refl s) (.int _)⟩)
    | str y =>
      obtain ⟨rfl, _⟩ := rx.str
      simp only [intD] at k
      split at k
      · rename_i n hn
        split at k
        · rename_i hl
          exact .inr ⟨y, n, rfl, hn, hl, k _ F H (Ext.refl s) (.int _)⟩
        · exact k.elim
      · exact k.elim
    | _ => exact k.elim) (fun x z h => by
      cases x <;> simp only [intD] at h <;> first | cases h | (split at h <;> first | cases h | (split at h <;> cases h))) hv hg hm ha (by decide) (by decide) he hpl
def blsOf : List D → Option (List Bool)
  | [] => some []
  | .bool b :: ds => (blsOf ds).map (b :: ·)
  | _ :: _ => none
theorem bls_vs {K : Frag} {F : Hp} : ∀ {vs : List V} {ds : List D} {bs : List Bool}, RpA K F vs ds → blsOf ds = some bs → vs = bs.map V.bl
  | _, _, _, .nil, h => by cases h; rfl
  | _, _, bs, .cons (d := d) (ds := ds) r a, h => by
    cases r with
    | bl b =>
      simp only [blsOf] at h
      cases q : blsOf ds with
      | none => rw [q] at h; cases h
      | some cs =>
        rw [q] at h
        cases h
        rw [List.map_cons, bls_vs a q]
    | _ => cases h
def allD : D → Res D
  | .list ds => (ofO (blsOf ds)).bind fun bs => .ok (.bool (bs.all id))
  | _ => .stk
def anyD : D → Res D
  | .list ds => (ofO (blsOf ds)).bind fun bs => .ok (.bool (bs.any id))
  | _ => .stk
theorem ofO_ne {α : Type} {o : Option α} {z : Exn} : ofO o ≠ .err z := by cases o <;> exact fun h => nomatch h
theorem de_all {p : Pos} (hc : X.calm = true) (hg : Gl X "all") (hm : X.mg "all" = none) (ha : DB X κ E e ma) (hv : bootBuiltins "all" = some (.builtin "all") := by decide +kernel) (he : starEach [e] X.env = (false, eval e X.env) :: starEach [] X.env := by rfl) (hpl : (backTo pos (starEach [] X.env)).any (·.1) = false := by rfl) : DE X κ E (.Call (.Name "all" p) [e] [] pos) (mUn allD ma) :=
  de_callB (cr_all hc) (fun F H x dx s rx Q k => by
    cases dx with
    | list ds =>
      obtain ⟨p, vs, rfl, h1, r1⟩ := rx.list s
      obtain ⟨bs, hb, k⟩ := ofO_sat (Res.sat_bind k)
      have e := bls_vs r1 hb
      subst e
      exact ⟨p, bs, rfl, h1, k _ F H (Ext.refl s) (.bl _)⟩
    | _ => exact k.elim) (fun x z h => by
      cases x <;> first | cases h | skip
      rename_i ds
      simp only [allD] at h
      cases q : blsOf ds <;> rw [q] at h <;> cases h) hv hg hm ha (by decide) (by decide) he hpl
theorem de_any {p : Pos} (hc : X.calm = true) (hg : Gl X "any") (hm : X.mg "any" = none) (ha : DB X κ E e ma) (hv : bootBuiltins "any" = some (.builtin "any") := by decide +kernel) (he : starEach [e] X.env = (false, eval e X.env) :: starEach [] X.env := by rfl) (hpl : (backTo pos (starEach [] X.env)).any (·.1) = false := by rfl) : DE X κ E (.Call (.Name "any" p) [e] [] pos) (mUn anyD ma) :=
  de_callB (cr_any hc) (fun F H x dx s rx Q k => by
    cases dx with
    | list ds =>
      obtain ⟨p, vs, rfl, h1, r1⟩ := rx.list s
      obtain ⟨bs, hb, k⟩ := ofO_sat (Res.sat_bind k)
      have e := bls_vs r1 hb
      subst e
      exact ⟨p, bs, rfl, h1, k _ F H (Ext.refl s) (.bl _)⟩
    | _ => exact k.elim) (fun x z h => by
      cases x <;> first | cases h | skip
      rename_i ds
      simp only [anyD] at h
      cases q : blsOf ds <;> rw [q] at h <;> cases h) hv hg hm ha (by decide) (by decide) he hpl
def intsOf : List D → Option (List Int)
  | [] => some []
  | .int b :: ds => (intsOf ds).map (b :: ·)
  | _ :: _ => none
theorem ints_vs {K : Frag} {F : Hp} : ∀ {vs : List V} {ds : List D} {bs : List Int}, RpA K F vs ds → intsOf ds = some bs → vs = bs.map V.int
  | _, _, _, .nil, h => by cases h; rfl
  | _, _, bs, .cons (d := d) (ds := ds) r a, h => by
    cases r with
    | int b =>
      simp only [intsOf] at h
      cases q : intsOf ds with
      | none => rw [q] at h; cases h
      | some cs =>
        rw [q] at h
        cases h
        rw [List.map_cons, ints_vs a q]
    | _ => cases h
def sumD : D → Res D
  | .list ds => (ofO (intsOf ds)).bind fun bs => .ok (.int bs.sum)
  | _ => .stk
theorem de_sum {p : Pos} (hc : X.calm = true) (hg : Gl X "sum") (hm : X.mg "sum" = none) (ha : DB X κ E e ma) (hv : bootBuiltins "sum" = some (.builtin "sum") := by decide +kernel) (he : starEach [e] X.env = (false, eval e X.env) :: starEach [] X.env := by rfl) (hpl : (backTo pos (starEach [] X.env)).any (·.1) = false := by rfl) : DE X κ E (.Call (.Name "sum" p) [e] [] pos) (mUn sumD ma) :=
  de_callB (cr_sum hc) (fun F H x dx s rx Q k => by
    cases dx with
    | list ds =>
      obtain ⟨p, vs, rfl, h1, r1⟩ := rx.list s
      obtain ⟨bs, hb, k⟩ := ofO_sat (Res.sat_bind k)
      have e := ints_vs r1 hb
      subst e
      exact ⟨p, bs, rfl, h1, k _ F H (Ext.refl s) (.int _)⟩
    | _ => exact k.elim) (fun x z h => by
      cases x <;> first | cases h | skip
      rename_i ds
      simp only [sumD] at h
      cases q : intsOf ds <;> rw [q] at h <;> cases h) hv hg hm ha (by decide) (by decide) he hpl
/-! two whole numbers: max, min -/
def maxD (x y : D) : Res D := match x, y with
  | .int i, .int j => .ok (.int (if j > i then j else i))
  | _, _ => .stk
def minD (x y : D) : Res D := match x, y with
  | .int i, .int j => .ok (.int (if j < i then j else i))
  | _, _ => .stk
theorem call2_read {r : List V → Hp → VK → Prop} {f : D → D → Res D} {mg : Mg} {K : Frag} (hf : Op2 K (fun x y H Q => r [x, y] H Q) f) (ne : ∀ x y z, f x y ≠ .err z) : ∀ σ H Q, rdE mg K κ E (mBin f ma mb) σ H Q → tCB r (tCons (rdB mg K κ E ma) (tCons (rdB mg K κ E mb) tNil)) σ H Q :=
  fun σ H Q h => op2_read hf ne σ H Q h
theorem de_max {p : Pos} (hc : X.calm = true) (hg : Gl X "max") (hm : X.mg "max" = none) (ha : DB X κ E a ma) (hb : DB X κ E b mb) (hv : bootBuiltins "max" = some (.builtin "max") := by decide +kernel) (he : starEach [a, b] X.env = (false, eval a X.env) :: starEach [b] X.env := by rfl) (he2 : starEach [b] X.env = (false, eval b X.env) :: starEach [] X.env := by rfl) (hpl : (backTo pos (starEach [b] X.env)).any (·.1) = false := by rfl) : DE X κ E (.Call (.Name "max" p) [a, b] [] pos) (mBin maxD ma mb) :=
  (pe_callB (call_max2 hc) hg hm hv (pa_cons ha (pa_cons hb pa_nil he2) he) (by decide) (by decide) he hpl).imp (call2_read (fun F H x y dx dy s rx ry Q k => by
    cases dx <;> cases dy <;> try exact k.elim
    rw [rx.int, ry.int]
    exact ⟨_, _, rfl, k _ F H (Ext.refl s) (.int _)⟩) (fun x y z h => by cases x <;> cases y <;> cases h))
theorem de_min {p : Pos} (hc : X.calm = true) (hg : Gl X "min") (hm : X.mg "min" = none) (ha : DB X κ E a ma) (hb : DB X κ E b mb) (hv : bootBuiltins "min" = some (.builtin "min") := by decide +kernel) (he : starEach [a, b] X.env = (false, eval a X.env) :: starEach [b] X.env := by rfl) (he2 : starEach [b] X.env = (false, eval b X.env) :: starEach [] X.env := by rfl) (hpl : (backTo pos (starEach [b] X.env)).any (·.1) = false := by rfl) : DE X κ E (.Call (.Name "min" p) [a, b] [] pos) (mBin minD ma mb) :=
  (pe_callB (call_min2 hc) hg hm hv (pa_cons ha (pa_cons hb pa_nil he2) he) (by decide) (by decide) he hpl).imp (call2_read (fun F H x y dx dy s rx ry Q k => by
    cases dx <;> cases dy <;> try exact k.elim
    rw [rx.int, ry.int]
    exact ⟨_, _, rfl, k _ F H (Ext.refl s) (.int _)⟩) (fun x y z h => by cases x <;> cases y <;> cases h))
/-! isinstance(x, T), T a built-in class -/
def tyN : D → String
  | .none => "NoneType" | .bool _ => "bool" | .int _ => "int" | .str _ => "str" | .list _ => "list" | .tuple _ => "tuple" | .dict _ => "dict"
theorem Rp.ty {K : Frag} {H : Hp} {v : V} {d : D} (r : Rp K H v d) : TyX K H v (.type (tyN d)) := by
  cases r with
  | non => exact .base .non
  | bl b => exact .base (.bl b)
  | int i => exact .base (.int i)
  | str x _ => exact .base (.str x)
  | lst h _ =>
    rcases h with (h | ⟨o, h⟩) | ⟨o, its, n, h1, h2, _⟩
    · exact .base (.lst h)
    · exact .base (.frz h)
    · exact .kList h1 h2
  | tup h _ =>
    rcases h with (h | ⟨o, h⟩) | ⟨o, its, n, h1, h2, _⟩
    · exact .base (.tup h)
    · exact .fTuple h
    · exact .kTuple h1 h2
  | dct h _ =>
    rcases h with h | ⟨o, h⟩
    · exact .base (.dK h)
    · exact .fDict h
def isiD (T : String) (d : D) : Res D := (ofO (kitB (tyN d) T)).bind fun b => .ok (.bool b)
theorem isi_ne {T : String} {d : D} {z : Exn} : isiD T d ≠ .err z := by
  unfold isiD
  cases kitB (tyN d) T <;> exact fun h => nomatch h
theorem isi_b {T : String} : ∀ (ρ : Env) (d : D), mUn (isiD T) ma ρ = .ok d → ∃ b, d = .bool b := fun ρ d h => by
  obtain ⟨x, _, h⟩ := bind_ok h
  obtain ⟨b, _, h⟩ := bind_ok h
  cases h; exact ⟨_, rfl⟩
theorem de_isi {p q : Pos} {T : Str} {T' : String} (hg : Gl X "isinstance") (hm : X.mg "isinstance" = none) (hg2 : Gl X T) (hm2 : X.mg T = none) (hv2 : bootBuiltins T = some (.type T')) (ha : DB X κ E e ma) (hv : bootBuiltins "isinstance" = some (.builtin "isinstance") := by decide +kernel) (hn : T ≠ "__name__" := by decide) (hd : (T == ("__debug__" : Str)) = false := by decide)
    (he : starEach [e, .Name T q] X.env = (false, eval e X.env) :: starEach [.Name T q] X.env := by rfl) (he2 : starEach [.Name T q] X.env = (false, eval (.Name T q) X.env) :: starEach [] X.env := by rfl) (hpl : (backTo pos (starEach [.Name T q] X.env)).any (·.1) = false := by rfl) :
    DE X κ E (.Call (.Name "isinstance" p) [e, .Name T q] [] pos) (mUn (isiD T') ma) :=
  (pe_callB call_isi hg hm hv (pa_cons ha (pa_cons (pe_bltn (v := .ty T') hg2 hm2 hv2 rfl hn hd) pa_nil he2) he) (by decide) (by decide) he hpl).imp fun σ H Q ⟨F0, H0, F, ρ, S, c⟩ => ⟨F0, H0, F, ρ, S, Res.sat_imp (Res.sat_bind c) (fun d _ k v F' H' x r => by
    obtain ⟨b, hb, k⟩ := ofO_sat (Res.sat_bind k)
    exact ⟨v, .ty T', _, _, b, rfl, .ty T', (r.whole x.s).ty, kit_ty hb, k _ F' H' x (.bl _)⟩) fun _ z => z⟩

/-! ### subscripts -/
def atD (d i : D) : Res D :=
  match d, i with
  | .list xs, .int i => ofO (atI xs i)
  | .tuple xs, .int i => ofO (atI xs i)
  | .str x, .int i => if x.length ≤ sizeLine then (ofO (atI x.cps.toList i)).bind fun c => .ok (.str ⟨#[c]⟩) else .stk
  | _, _ => .stk
theorem bind_ne {α β : Type} {r : Res α} {f : α → Res β} {z : Exn} (h : r.bind f = .err z) (hr : r ≠ .err z) (hf : ∀ a, f a ≠ .err z) : False := by
  cases r with
  | ok a => exact hf a h
  | err x =>
    have e : x = z := by cases h; rfl
    exact hr (by rw [e])
  | stk => cases h
theorem atD_ne : ∀ x y z, atD x y ≠ .err z := fun x y z h => by
  unfold atD at h
  split at h
  · exact ofO_ne h
  · exact ofO_ne h
  · split at h
    · exact bind_ne h ofO_ne fun _ h => nomatch h
    · cases h
  · cases h
theorem atI_rp {K : Frag} {F : Hp} {vs : List V} {ds : List D} {i : Int} {d : D} (r : RpA K F vs ds) (h : atI ds i = some d) : ∃ v, atI vs i = some v ∧ Rp K F v d := by
  unfold atI at h ⊢
  rw [r.length]
  cases q : ixN ds.length i with
  | none => rw [q] at h; cases h
  | some j =>
    rw [q] at h
    exact r.get h
theorem atI_mem {α : Type} {xs : List α} {i : Int} {x : α} (h : atI xs i = some x) : x ∈ xs := by
  unfold atI at h
  cases q : ixN xs.length i with
  | none => rw [q] at h; cases h
  | some j => rw [q] at h; exact List.mem_of_getElem? h
theorem op2_at {K : Frag} : Op2 K (rIx K) atD := fun F H x y dx dy s rx ry Q k => by
  unfold atD at k
  split at k
  · obtain ⟨p, vs, rfl, h1, r1⟩ := rx.list s
    obtain ⟨d, hd, k⟩ := ofO_sat k
    obtain ⟨v, hv, rv⟩ := atI_rp r1 hd
    rw [ry.int]
    exact .inl ⟨p, vs, _, v, rfl, rfl, h1, hv, k v F H (Ext.refl s) rv⟩
  · obtain ⟨p, vs, rfl, h1, r1, _⟩ := rx.tuple s
    obtain ⟨d, hd, k⟩ := ofO_sat k
    obtain ⟨v, hv, rv⟩ := atI_rp r1 hd
    rw [ry.int]
    exact .inr (.inl ⟨p, vs, _, v, rfl, rfl, h1, hv, k v F H (Ext.refl s) rv⟩)
  · obtain ⟨rfl, hx⟩ := rx.str
    rw [ry.int]
    split at k
    · rename_i z
      obtain ⟨c, hc, k⟩ := ofO_sat (Res.sat_bind k)
      exact .inr (.inr ⟨_, _, c, rfl, rfl, z, hc, k _ F H (Ext.refl s) (.str _ (oks_sign hx (atI_mem hc)))⟩)
    · exact k.elim
  · exact k.elim
theorem de_at (ha : DB X κ E a ma) (hb : DB X κ E b mb) (hs : PlainIx b := by exact fun _ _ => rfl) : DE X κ E (.Subscript a b pos) (mBin atD ma mb) :=
  (pe_ix ix_seq ha hb hs).imp (op2_read op2_at atD_ne)
/-! slices -/
def rdO (mg : Mg) (K : Frag) (κ : Nat → Kd) (E : EX) (m : Env → Res (Option Int)) : TO := fun σ H Q => ∃ F0 H0 F ρ, Stt K κ F0 H0 F H σ ρ ∧ (m ρ).sat (fun o => ∀ F' H', Ext F H F' H' → Q o H') (ErrOk mg K (E.err σ) F H)
def DO (X : Cx) (κ : Nat → Kd) (E : EX) (e : Option Expr) (m : Env → Res (Option Int)) : Prop := PO X e (rdO X.mg X.K κ E m)
theorem _root_.L2.PO.imp {X : Cx} {e : Option Expr} {t t' : TO} (h : PO X e t) (i : ∀ σ H Q, t' σ H Q → t σ H Q) : PO X e t' := by
  constructor
  intro pins s σ H Q I hw
  exact h.run pins s σ H Q I (i σ H Q hw)
def mNone : Env → Res (Option Int) := fun _ => .ok none
def mSome (m : Env → Res D) : Env → Res (Option Int) := fun ρ => (m ρ).bind fun d => match d with
  | .int i => .ok (some i)
  | _ => .stk
theorem do_none : DO X κ E none mNone := po_none.imp fun σ H Q ⟨F0, H0, F, ρ, S, c⟩ => c F H (Ext.refl S.sub)
theorem do_some (h : DE X κ E e ma) : DO X κ E (some e) (mSome ma) := (po_some h).imp fun σ H Q ⟨F0, H0, F, ρ, S, c⟩ => ⟨F0, H0, F, ρ, S, Res.sat_imp (Res.sat_bind c) (fun d _ k v F' H' x r => by
  cases r with
  | int i => exact ⟨i, rfl, k F' H' x⟩
  | _ => exact k.elim) fun _ z => z⟩
def cutL {α : Type} (xs : List α) (lo hi : Option Int) : List α := (xs.drop (HT.sIx xs.length 0 lo)).take (HT.sIx xs.length xs.length hi - HT.sIx xs.length 0 lo)
theorem RpA.cut {K : Frag} {F : Hp} {vs : List V} {ds : List D} (r : RpA K F vs ds) (lo hi : Option Int) : RpA K F (cutV vs lo hi) (cutL ds lo hi) := by
  unfold cutV cutL
  rw [r.length]
  exact (r.drop _).take _
def cutD (d : D) (lo hi : Option Int) : Res D :=
  match d with
  | .list xs => .ok (.list (cutL xs lo hi))
  | .tuple xs => .ok (.tuple (cutL xs lo hi))
  | .str x => if x.length ≤ sizeLine then .ok (.str (cutS x lo hi)) else .stk
  | _ => .stk
def mCut (ma : Env → Res D) (ml mh : Env → Res (Option Int)) : Env → Res D := fun ρ => (ma ρ).bind fun d => (ml ρ).bind fun lo => (mh ρ).bind fun hi => cutD d lo hi
theorem cut_whole {α : Type} {xs : List α} {lo hi : Option Int} (h : HT.sIx xs.length 0 lo = 0 ∧ HT.sIx xs.length xs.length hi = xs.length) : cutL xs lo hi = xs := by
  unfold cutL
  rw [h.1, h.2]
  simp
theorem de_cut {lo hi : Option Expr} {p2 : Pos} {ml mh : Env → Res (Option Int)} (ha : DB X κ E a ma) (hl : DO X κ E lo ml) (hh : DO X κ E hi mh) : DE X κ E (.Subscript a (.Slice lo hi none p2) pos) (mCut ma ml mh) :=
  (pe_slice (sl_list.or (sl_tupA.or sl_str)) ha hl hh).imp fun σ H Q ⟨F0, H0, F, ρ, S, c⟩ => ⟨F0, H0, F, ρ, S, Res.sat_imp (Res.sat_bind c) (fun d _ k v F1 H1 x1 r1 =>
    ⟨F0, H0, F1, ρ, S.mono x1, Res.sat_imp (Res.sat_bind k) (fun lo _ k F2 H2 x2 =>
      ⟨F0, H0, F2, ρ, (S.mono x1).mono x2, Res.sat_imp (Res.sat_bind k) (fun hi _ k F3 H3 x3 => by
        have x := (x1.trans x2).trans x3
        have r3 := (r1.mono x2).mono x3
        unfold cutD at k
        split at k
        · obtain ⟨p, vs, rfl, h1, r⟩ := r3.list x.s
          exact .inl ⟨p, vs, rfl, h1, post_new x.s (r.cut lo hi) fun v F' H' x4 rp => k v F' H' (x.trans x4) rp⟩
        · obtain ⟨p, vs, rfl, h1, r, w⟩ := r3.tuple x.s
          refine .inr (.inl ⟨p, vs, rfl, h1, fun z => ?_, fun z => post_newT x.s (r.cut lo hi) fun v F' H' x4 rp => k v F' H' (x.trans x4) rp⟩)
          rw [r.length] at z
          rw [cut_whole z] at k
          exact k _ F3 H3 x w
        · obtain ⟨rfl, hx⟩ := r3.str
          split at k
          · rename_i z
            exact .inr (.inr ⟨_, rfl, z, k _ F3 H3 x (.str _ (oks_cut hx))⟩)
          · exact k.elim
        · exact k.elim) fun _ z => z.mono (x1.trans x2)⟩) fun _ z => z.mono x1⟩) fun _ z => z⟩

/-! ### methods of texts -/
def strM (f : Str → List D → Res D) : D → List D → Res D := fun d ds => match d with
  | .str x => f x ds
  | _ => .stk
def mMt (f : Str → List D → Res D) (mo : Env → Res D) (ms : Env → Res (List D)) : Env → Res D := fun ρ => (mo ρ).bind fun d => match d with
  | .str x => (ms ρ).bind (f x)
  | _ => .stk
def OpS (K : Frag) (r : V → List V → Hp → VK → Prop) (f : Str → List D → Res D) : Prop := ∀ F H x vs ds, Ex F H → OkS x → RpA K F vs ds → ∀ Q : VK, Post K F H Q (f x ds) → r (.str x) vs H Q
theorem strm_read {r : V → List V → Hp → VK → Prop} {f : Str → List D → Res D} {mo : Env → Res D} {ms : Env → Res (List D)} {mg : Mg} {K : Frag} (hf : OpS K r f) (ne : ∀ x y z, f x y ≠ .err z) : ∀ σ H Q, rdE mg K κ E (mMt f mo ms) σ H Q → tBM K "str" r (rdE mg K κ E mo) (rdA mg K κ E ms) σ H Q :=
  fun σ H Q ⟨F0, H0, F, ρ, S, c⟩ => ⟨F0, H0, F, ρ, S, Res.sat_imp (Res.sat_bind c) (fun d hd k v F1 H1 x1 r1 => by
    cases r1 with
    | str x hx =>
      refine ⟨rfl, F0, H0, F1, ρ, S.mono x1, Res.sat_imp (Res.sat_bind k) (fun ds _ k vs F2 H2 x2 r2 => ?_) fun _ z => z.mono x1⟩
      have c3 := sat_post (E1 := E.err σ) (mg := mg) (H := H) (F := F) (K := K) (Q := Q) (ne x ds) k
      exact hf F2 H2 x vs ds x2.s hx r2 Q (Res.sat_imp c3 (fun d _ k v F3 H3 e' rp => k v F3 H3 ((x1.trans x2).trans e') rp) fun _ z => z)
    | _ => exact k.elim) fun _ z => z⟩
/-- one method: its rule, its function of data -/
theorem de_m {o : Expr} {name : Str} {apos cpos : Pos} {id : String} {r : V → List V → Hp → VK → Prop} {f : Str → List D → Res D} {mo : Env → Res D} {ms : Env → Res (List D)} (slot : Slot "str" name id) (hty : typeOf (.builtin id) = pure (.type "method_descriptor")) (hm : MtR X id r) (hf : OpS X.K r f) (ne : ∀ x y z, f x y ≠ .err z)
    (ho : DE X κ E o mo) (ha : DA X κ E (e :: es) ms) (hbase : attributeBase o name X.env (eval o X.env) = eval o X.env := by rfl)
    (hfew : ((backTo cpos (starEach (e :: es) X.env)).all (fun x => !x.1) && (backToKw cpos (keywordEach [] X.env)).all (fun x => x.1.isSome)
      && decide ((e :: es).length + ([] : List Keyword).length + (if ([] : List Keyword).isEmpty then 0 else 1) < 30)) = true := by rfl)
    (hline : (apos.endLine == cpos.line) = true := by rfl) (hs : starEach (e :: es) X.env = (false, eval e X.env) :: starEach es X.env := by rfl) (hplain : (backTo cpos (starEach es X.env)).any (·.1) = false := by rfl) :
    DE X κ E (.Call (.Attribute o name apos) (e :: es) [] cpos) (mMt f mo ms) :=
  (pe_bm PySem.F.plainAttrs_str slot hty hm ho ha hbase hfew hline hs hplain).imp (strm_read hf ne)
/-- .. of one text -/
def s1D (g : Str → Str → Res D) : Str → List D → Res D := fun x ds => match ds with
  | [.str y] => g x y
  | _ => .stk
theorem s1_ne {g : Str → Str → Res D} (h : ∀ x y z, g x y ≠ .err z) : ∀ x y z, s1D g x y ≠ .err z := fun x y z e => by
  unfold s1D at e
  split at e
  · exact h _ _ _ e
  · cases e
theorem ops_1 {K : Frag} {r : V → List V → Hp → VK → Prop} {g : Str → Str → Res D} (h : ∀ F H x y, Ex F H → OkS x → OkS y → ∀ Q : VK, Post K F H Q (g x y) → r (.str x) [.str y] H Q) : OpS K r (s1D g) := fun F H x vs ds s hx rs Q k => by
  unfold s1D at k
  split at k
  · cases rs with
    | cons r1 rs =>
      cases rs
      cases r1 with
      | str _ hy => exact h F H x _ s hx hy Q k
  · exact k.elim
def startsD (x y : Str) : Res D := .ok (.bool (Txt.startswith x y))
def endsD (x y : Str) : Res D := .ok (.bool (Txt.endswith x y))
def findD (x y : Str) : Res D := .ok (.int (Txt.find x y))
def lstripD (x y : Str) : Res D := if x.length ≤ sizeLine then .ok (.str (Txt.lstripChars x y)) else .stk
theorem stripped_sub {goes : Nat → Bool} {l r : Bool} {x : Str} (hx : OkS x) : OkS (Txt.stripBy goes l r x) := by
  unfold Txt.stripBy
  split
  · exact hx
  · refine oks_sub hx fun c hc => ?_
    have e : ∀ i j, (Builtin.Str.strSub x i j).cps.toList = (x.cps.toList.drop i).take (j - i) := fun i j => TL.tl_strSub x i j
    unfold PySem.stripped at hc
    rw [e] at hc
    exact List.mem_of_mem_drop (List.mem_of_mem_take hc)
end
section
variable {X : Cx} {κ κe : Nat → Kd} {E : EX} {o e : Expr} {es : List Expr} {apos cpos pos : Pos} {mo : Env → Res D} {ms : Env → Res (List D)}
theorem ops_starts {K : Frag} : OpS K (fun x xs H Q => ∃ a b, x = .str a ∧ xs = [.str b] ∧ Q (.bl (Txt.startswith a b)) H) (s1D startsD) := ops_1 fun F H x y s hx hy Q k => ⟨x, y, rfl, rfl, k _ F H (Ext.refl s) (.bl _)⟩
theorem ops_ends {K : Frag} : OpS K (fun x xs H Q => ∃ a b, x = .str a ∧ xs = [.str b] ∧ Q (.bl (Txt.endswith a b)) H) (s1D endsD) := ops_1 fun F H x y s hx hy Q k => ⟨x, y, rfl, rfl, k _ F H (Ext.refl s) (.bl _)⟩
theorem ops_find {K : Frag} : OpS K (fun x xs H Q => ∃ a b, x = .str a ∧ xs = [.str b] ∧ Q (.int (Txt.find a b)) H) (s1D findD) := ops_1 fun F H x y s hx hy Q k => ⟨x, y, rfl, rfl, k _ F H (Ext.refl s) (.int _)⟩
theorem ops_lstrip {K : Frag} : OpS K (fun x xs H Q => ∃ a b, x = .str a ∧ xs = [.str b] ∧ a.length ≤ sizeLine ∧ Q (.str (Txt.lstripChars a b)) H) (s1D lstripD) := ops_1 fun F H x y s hx hy Q k => by
  unfold lstripD at k
  split at k
  · rename_i h
    exact ⟨x, y, rfl, rfl, h, k _ F H (Ext.refl s) (.str _ (stripped_sub hx))⟩
  · exact k.elim
theorem starts_ne : ∀ x y z, s1D startsD x y ≠ .err z := s1_ne fun _ _ _ h => nomatch h
theorem ends_ne : ∀ x y z, s1D endsD x y ≠ .err z := s1_ne fun _ _ _ h => nomatch h
theorem find_ne : ∀ x y z, s1D findD x y ≠ .err z := s1_ne fun _ _ _ h => nomatch h
theorem lstrip_ne : ∀ x y z, s1D lstripD x y ≠ .err z := s1_ne fun _ _ _ h => by unfold lstripD at h; split at h <;> cases h
end
end WD

namespace WD
open PySem PySem.Spec PyProof.Rows L2
open Evl (Ex Ex.refl Ex.trans Ex.new Ex.mut ex_l ex_t fresh_back)
section
variable {X : Cx} {κ κe : Nat → Kd} {E : EX} {a b c e tg : Expr} {es : List Expr} {pos : Pos} {ma mb mc : Env → Res D} {ms : Env → Res (List D)}
/-! ### what is walked -/
def signsD (x : Str) : List D := x.cps.toList.map fun c => .str ⟨#[c]⟩
def itD : D → Res (List D)
  | .list ds => .ok ds
  | .tuple ds => .ok ds
  | .str x => .ok (signsD x)
  | _ => .stk
def mIt (m : Env → Res D) : Env → Res (List D) := fun ρ => (m ρ).bind itD
theorem walkd_of {K : Frag} {J : It} {n : Nat} {G : Hp → Prop} {Y : Nat → Hp → V → Hp → Prop} {P : Hp → Hp → Prop} {ds : List D} (w : Walk J n G Y) (hn : n = ds.length) (hG : ∀ F2 H2, P F2 H2 → Ex F2 H2 → G H2)
    (hY : ∀ i F2 H2 x H3, P F2 H2 → Ex F2 H2 → i < ds.length → Y i H2 x H3 → ∃ d F3, ds[i]? = some d ∧ Ext F2 H2 F3 H3 ∧ Rp K F3 x d) : WalkD K P J ds := fun i F2 H2 p s hi => by
  subst hn
  exact ⟨fun hlt => ⟨w.goes i H2 hlt (hG F2 H2 p s), fun x H3 y => hY i F2 H2 x H3 p s hlt (w.yields i H2 x H3 hlt (hG F2 H2 p s) y)⟩, fun e => by subst e; exact w.stops H2 (hG F2 H2 p s)⟩
theorem walkd_at {K : Frag} {J : It} {G : Hp → Prop} {P : Hp → Hp → Prop} {vs : List V} {ds : List D} {F : Hp} (w : Walk J vs.length G (YAt vs)) (r : RpA K F vs ds) (hG : ∀ F2 H2, P F2 H2 → Ex F2 H2 → G H2) (hF : ∀ F2 H2, P F2 H2 → Ex F F2) : WalkD K P J ds :=
  walkd_of w r.length hG fun i F2 H2 x H3 p s hi y => by
    obtain ⟨rfl, hx⟩ := y
    obtain ⟨d, hd, rd⟩ := r.getV hx
    exact ⟨d, F2, hd, Ext.refl s, rd.mono (hF F2 _ p)⟩
theorem walkd_str {K : Frag} {P : Hp → Hp → Prop} {x : Str} (hx : OkS x) : WalkD K P (Its x) (signsD x) :=
  walkd_of walk_str (by simp [signsD]) (fun _ _ _ _ => trivial) fun i F2 H2 v H3 p s hi y => by
    obtain ⟨rfl, c, hc, rfl⟩ := y
    have hc' : x.cps.toList[i]? = some c := by rw [Array.getElem?_toList]; exact hc
    refine ⟨.str ⟨#[c]⟩, F2, ?_, Ext.refl s, .str _ (oks_sign hx (List.mem_of_getElem? hc'))⟩
    unfold signsD
    rw [List.getElem?_map, hc']
    rfl
theorem di_seq (h : DE X κ E e ma) : DI X κ E tg e (mIt ma) := ⟨fun pins s σ H R I ⟨F0, H0, F, ρ, S, k⟩ => by
  have k := Res.sat_bind k
  cases hd : ma ρ with
  | err x =>
    refine (pi_list h).run pins s σ H R I ⟨F0, H0, F, ρ, S, ?_⟩
    rw [hd] at k ⊢
    exact k
  | stk => rw [hd] at k; exact k.elim
  | ok d =>
    rw [hd] at k
    cases d with
    | list ds =>
      refine (pi_list h).run pins s σ H R I ⟨F0, H0, F, ρ, S, ?_⟩
      rw [hd]
      intro v F' H' x r
      cases r with
      | @lst a vs _ h1 h2 => exact ⟨a, rfl, ⟨vs, ex_l x.s h1⟩, k _ F' H' x (walkd_at walk_list h2 (fun F2 H2 p s => ex_l (p.trans s) h1) fun F2 H2 p => p)⟩
    | tuple ds =>
      refine (pi_tup h).run pins s σ H R I ⟨F0, H0, F, ρ, S, ?_⟩
      rw [hd]
      intro v F' H' x r
      cases r with
      | @tup a vs _ h1 h2 => exact ⟨a, rfl, ⟨vs, ex_t x.s h1⟩, k _ F' H' x (walkd_at walk_tup h2 (fun F2 H2 p s => ex_t (p.trans s) h1) fun F2 H2 p => p)⟩
    | str y =>
      refine (pi_str h).run pins s σ H R I ⟨F0, H0, F, ρ, S, ?_⟩
      rw [hd]
      intro v F' H' x r
      cases r with
      | str _ hy => exact ⟨y, rfl, k _ F' H' x (walkd_str hy)⟩
    | _ => exact k.elim⟩
theorem dip_seq (h : DB X κ E e ma) : DIp X κ E tg e (mIt ma) := ⟨fun pins s σ H R I ⟨F0, H0, F, ρ, S, k⟩ => by
  have k := Res.sat_bind k
  cases hd : ma ρ with
  | err x =>
    refine (pi_list h).run pins s σ H R I ⟨F0, H0, F, ρ, S, ?_⟩
    rw [hd] at k ⊢
    exact k
  | stk => rw [hd] at k; exact k.elim
  | ok d =>
    rw [hd] at k
    cases d with
    | list ds =>
      refine (pi_list h).run pins s σ H R I ⟨F0, H0, F, ρ, S, ?_⟩
      rw [hd]
      intro v F' H' x r
      obtain ⟨a, vs, rfl, h1, h2⟩ := r.list x.s
      exact ⟨a, rfl, ⟨vs, h1⟩, k _ F' H' x (walkd_at walk_list h2 (fun F2 H2 p s => ex_l p.h h1) fun F2 H2 p => p.f)⟩
    | tuple ds =>
      refine (pi_tup h).run pins s σ H R I ⟨F0, H0, F, ρ, S, ?_⟩
      rw [hd]
      intro v F' H' x r
      obtain ⟨a, vs, rfl, h1, h2, _⟩ := r.tuple x.s
      exact ⟨a, rfl, ⟨vs, h1⟩, k _ F' H' x (walkd_at walk_tup h2 (fun F2 H2 p s => ex_t p.h h1) fun F2 H2 p => p.f)⟩
    | str y =>
      refine (pi_str h).run pins s σ H R I ⟨F0, H0, F, ρ, S, ?_⟩
      rw [hd]
      intro v F' H' x r
      obtain ⟨rfl, hy⟩ := r.str
      exact ⟨y, rfl, k _ F' H' x (walkd_str hy)⟩
    | _ => exact k.elim⟩
/-! range -/
def rngD (lo : Int) (n : Nat) : List D := (List.range n).map fun (i : Nat) => .int (lo + (i : Int))
theorem walkd_rng {K : Frag} {P : Hp → Hp → Prop} {lo : Int} {n : Nat} : WalkD K P (Itr lo n) (rngD lo n) :=
  walkd_of walk_range (by simp [rngD]) (fun _ _ _ _ => trivial) fun i F2 H2 v H3 p s hi y => by
    obtain ⟨rfl, rfl⟩ := y
    have hi' : i < n := by simpa [rngD] using hi
    refine ⟨.int (lo + (i : Int)), F2, ?_, Ext.refl s, .int _⟩
    unfold rngD
    rw [List.getElem?_map, List.getElem?_range hi']
    rfl
def rng1D : List D → Res (List D)
  | [.int j] => if -(2 ^ 62) ≤ j ∧ j < 2 ^ 62 then .ok (rngD 0 j.toNat) else .stk
  | _ => .stk
def rng2D : List D → Res (List D)
  | [.int i, .int j] => if -(2 ^ 62) ≤ i ∧ i < 2 ^ 62 ∧ -(2 ^ 62) ≤ j ∧ j < 2 ^ 62 then .ok (rngD i (j - i).toNat) else .stk
  | _ => .stk
def mBindA (f : List D → Res (List D)) (m : Env → Res (List D)) : Env → Res (List D) := fun ρ => (m ρ).bind f
theorem di_range1 {p : Pos} (hg : Gl X "range") (hm : X.mg "range" = none) (ha : DA X κ E [a] ms) (hs : starEach [a] X.env = [(false, eval a X.env)] := by rfl) : DI X κ E tg (.Call (.Name "range" p) [a] [] pos) (mBindA rng1D ms) :=
  (pi_range1 hg hm ha hs).imp fun σ H R ⟨F0, H0, F, ρ, S, c⟩ => ⟨F0, H0, F, ρ, S, Res.sat_imp (Res.sat_bind c) (fun ds _ k vs F' H' x r => by
    unfold rng1D at k
    split at k
    · split at k
      · rename_i h
        cases r with
        | cons r1 r2 =>
          cases r1
          cases r2
          exact ⟨_, rfl, h.1, h.2, k _ F' H' x walkd_rng⟩
      · exact k.elim
    · exact k.elim) fun _ z => z⟩
theorem di_range2 {p : Pos} (hg : Gl X "range") (hm : X.mg "range" = none) (ha : DA X κ E [a, b] ms) (hs : starEach [a, b] X.env = [(false, eval a X.env), (false, eval b X.env)] := by rfl) (hs2 : starEach [b] X.env = [(false, eval b X.env)] := by rfl) : DI X κ E tg (.Call (.Name "range" p) [a, b] [] pos) (mBindA rng2D ms) :=
  (pi_range2 hg hm ha hs hs2).imp fun σ H R ⟨F0, H0, F, ρ, S, c⟩ => ⟨F0, H0, F, ρ, S, Res.sat_imp (Res.sat_bind c) (fun ds _ k vs F' H' x r => by
    unfold rng2D at k
    split at k
    · split at k
      · rename_i h
        cases r with
        | cons r1 r2 =>
          cases r1
          cases r2 with
          | cons r2 r3 =>
            cases r2
            cases r3
            exact ⟨_, _, rfl, h, k _ F' H' x walkd_rng⟩
      · exact k.elim
    · exact k.elim) fun _ z => z⟩
/-! pairs: enumerate of a list, zip of two lists -/
theorem walkd_pair {K : Frag} {J : It} {n : Nat} {G : Hp → Prop} {P : Hp → Hp → Prop} {fx fy : Nat → Option V} {ds : List D} (w : Walk J n G (YPair fx fy)) (hn : n = ds.length) (hG : ∀ F2 H2, P F2 H2 → Ex F2 H2 → G H2)
    (hv : ∀ i F2 H2 x y, P F2 H2 → i < ds.length → fx i = some x → fy i = some y → ∃ dx dy, ds[i]? = some (.tuple [dx, dy]) ∧ Rp K F2 x dx ∧ Rp K F2 y dy) : WalkD K P J ds :=
  walkd_of w hn hG fun i F2 H2 v H3 p s hi yy => by
    obtain ⟨T, x, y, rfl, hT, rfl, h1, h2⟩ := yy
    obtain ⟨dx, dy, hd, r1, r2⟩ := hv i F2 H2 x y p hi h1 h2
    have e := Ex.new (o := .tup [x, y]) (none_of_ex s hT)
    exact ⟨_, upd F2 T (.tup [x, y]), hd, .new s hT, .tup (Evl.st_of upd_same) (.cons (r1.mono e) (.cons (r2.mono e) .nil))⟩
def enumD (ds : List D) : List D := ds.zipIdx.map fun p => .tuple [.int (p.2 : Int), p.1]
def enum1D : List D → Res (List D)
  | [.list ds] => .ok (enumD ds)
  | _ => .stk
theorem di_enum {p tpos : Pos} {elts : List Expr} {kk : Nat} (hg : Gl X "enumerate") (hm : X.mg "enumerate" = none) (ha : DA X κ E [a] ms) (hs : starEach [a] X.env = [(false, eval a X.env)] := by rfl) : DI X κ E (.Tuple elts kk tpos) (.Call (.Name "enumerate" p) [a] [] pos) (mBindA enum1D ms) :=
  (pi_enum hg hm ha hs).imp fun σ H R ⟨F0, H0, F, ρ, S, c⟩ => ⟨F0, H0, F, ρ, S, Res.sat_imp (Res.sat_bind c) (fun ds _ k vs F' H' x r => by
    unfold enum1D at k
    split at k
    · rename_i ds
      cases r with
      | cons r1 r2 =>
        cases r2
        cases r1 with
        | @lst a vs _ h1 h2 =>
          refine ⟨a, vs, rfl, ex_l x.s h1, k _ F' H' x (walkd_pair walk_enum (by simp [enumD, h2.length]) (fun F2 H2 p s => ex_l (p.trans s) h1) fun i F2 H2 x y p hi e1 e2 => ?_)⟩
          cases e1
          obtain ⟨d, hd, rd⟩ := h2.getV e2
          refine ⟨.int (i : Int), d, ?_, .int _, rd.mono p⟩
          unfold enumD
          rw [List.getElem?_map, List.getElem?_zipIdx, hd]
          simp
    · exact k.elim) fun _ z => z⟩
def zipD : List D → List D → List D
  | x :: xs, y :: ys => .tuple [x, y] :: zipD xs ys
  | _, _ => []
theorem zipD_get : ∀ (xs ys : List D) (i : Nat) (x y : D), xs[i]? = some x → ys[i]? = some y → (zipD xs ys)[i]? = some (.tuple [x, y])
  | [], _, _, _, _, h, _ => by simp at h
  | _ :: _, [], _, _, _, _, h => by simp at h
  | a :: xs, b :: ys, 0, x, y, h1, h2 => by
    simp at h1 h2
    subst h1 h2
    rfl
  | a :: xs, b :: ys, i + 1, x, y, h1, h2 => by
    simp at h1 h2
    simpa [zipD] using zipD_get xs ys i x y h1 h2
theorem zipD_len : ∀ (xs ys : List D), (zipD xs ys).length = min xs.length ys.length
  | [], _ => by simp [zipD]
  | _ :: _, [] => by simp [zipD]
  | a :: xs, b :: ys => by
    rw [zipD, List.length_cons, zipD_len xs ys, List.length_cons, List.length_cons]
    omega
def zip1D : List D → Res (List D)
  | [.list xs, .list ys] => .ok (zipD xs ys)
  | _ => .stk
theorem di_zip {p tpos : Pos} {elts : List Expr} {kk : Nat}
    (h : PI X (.Tuple elts kk tpos) (.Call (.Name "zip" p) [a, b] [] pos) (iZip X.K (rdA X.mg X.K κ E ms))) : DI X κ E (.Tuple elts kk tpos) (.Call (.Name "zip" p) [a, b] [] pos) (mBindA zip1D ms) :=
  h.imp fun σ H R ⟨F0, H0, F, ρ, S, c⟩ => ⟨F0, H0, F, ρ, S, Res.sat_imp (Res.sat_bind c) (fun ds _ k vs F' H' x r => by
    unfold zip1D at k
    split at k
    · rename_i xs ys
      cases r with
      | cons r1 r2 =>
        cases r2 with
        | cons r2 r3 =>
          cases r3
          cases r1 with
          | @lst a vs _ h1 h2 =>
            cases r2 with
            | @lst b ws _ h3 h4 =>
              refine ⟨a, b, vs, ws, rfl, ex_l x.s h1, ex_l x.s h3, k _ F' H' x (walkd_pair (walk_zip rfl) (by rw [zipD_len, h2.length, h4.length]) (fun F2 H2 p s => ⟨ex_l (p.trans s) h1, ex_l (p.trans s) h3⟩) fun i F2 H2 x y p hi e1 e2 => ?_)⟩
              obtain ⟨d, hd, rd⟩ := h2.getV e1
              obtain ⟨d', hd', rd'⟩ := h4.getV e2
              exact ⟨d, d', zipD_get _ _ _ _ _ hd hd', rd.mono p, rd'.mono p⟩
    · exact k.elim) fun _ z => z⟩

/-! ### join, split -/
def strsOf : List D → Option (List Str)
  | [] => some []
  | .str b :: ds => (strsOf ds).map (b :: ·)
  | _ :: _ => none
theorem strs_vs {K : Frag} {F : Hp} : ∀ {vs : List V} {ds : List D} {bs : List Str}, RpA K F vs ds → strsOf ds = some bs → vs = bs.map V.str ∧ ∀ x ∈ bs, OkS x
  | _, _, _, .nil, h => by cases h; exact ⟨rfl, by simp⟩
  | _, _, bs, .cons (d := d) (ds := ds) r a, h => by
    cases r with
    | str b hb =>
      simp only [strsOf] at h
      cases q : strsOf ds with
      | none => rw [q] at h; cases h
      | some cs =>
        rw [q] at h
        cases h
        have := strs_vs a q
        refine ⟨by rw [List.map_cons, this.1], fun x hx => ?_⟩
        rcases List.mem_cons.mp hx with rfl | hx
        · exact hb
        · exact this.2 x hx
    | _ => cases h
theorem joinL_mem {S : List Nat} : ∀ {ps : List (List Nat)} {c : Nat}, c ∈ TL.joinL S ps → c ∈ S ∨ ∃ p ∈ ps, c ∈ p
  | [], c, h => by simp [TL.joinL] at h
  | [p], c, h => by
    have : c ∈ p := by simpa [TL.joinL] using h
    exact .inr ⟨p, by simp, this⟩
  | p :: q :: r, c, h => by
    have h' : c ∈ p ∨ c ∈ S ∨ c ∈ TL.joinL S (q :: r) := by simpa [TL.joinL] using h
    rcases h' with h' | h' | h'
    · exact .inr ⟨p, by simp, h'⟩
    · exact .inl h'
    · rcases joinL_mem h' with h2 | ⟨p2, h2, h3⟩
      · exact .inl h2
      · exact .inr ⟨p2, by simp [List.mem_cons.mp h2], h3⟩
theorem oks_join {a : Str} {ys : List Str} (ha : OkS a) (h : ∀ x ∈ ys, OkS x) : OkS (Txt.join a ys) := by
  rw [oks_iff]
  intro c hc
  have e : TL.tl (Txt.join a ys) = TL.joinL (TL.tl a) (ys.map TL.tl) := by rw [TL.join_eq, TL.tl_join]
  have hc' : c ∈ TL.joinL (TL.tl a) (ys.map TL.tl) := by rw [← e]; exact hc
  rcases joinL_mem hc' with h1 | ⟨p, h1, h2⟩
  · exact (oks_iff.mp ha) c h1
  · obtain ⟨y, hy, rfl⟩ := List.mem_map.mp h1
    exact (oks_iff.mp (h y hy)) c h2
def joinD (a : Str) (ds : List D) : Res D := match ds with
  | [d] => (seqD d).bind fun es => (ofO (strsOf es)).bind fun ys => if (ys.map (·.length)).sum + ys.length * a.length ≤ 16777216 then .ok (.str (Txt.join a ys)) else .stk
  | _ => .stk
theorem seqD_ne : ∀ x z, seqD x ≠ .err z := fun x z h => by cases x <;> cases h
theorem join_ne : ∀ x y z, joinD x y ≠ .err z := fun x y z h => by
  unfold joinD at h
  split at h
  · exact bind_ne h (seqD_ne _ _) fun _ h => bind_ne h ofO_ne fun _ h => by split at h <;> cases h
  · cases h
theorem ops_join {K : Frag} : OpS K (fun x xs H Q => ∃ a p, ∃ ys : List Str, x = .str a ∧ xs = [.ref p] ∧ (SqL K H p (ys.map V.str) ∨ SqT K H p (ys.map V.str)) ∧
    (ys.map (·.length)).sum + ys.length * a.length ≤ 16777216 ∧ Q (.str (Txt.join a ys)) H) joinD := fun F H x vs ds s hx rs Q k => by
  unfold joinD at k
  split at k
  · obtain ⟨es, hd, k⟩ := seqD_sat (Res.sat_bind k)
    obtain ⟨ys, hy, k⟩ := ofO_sat (Res.sat_bind k)
    split at k
    · rename_i hz
      cases rs with
      | cons r1 rs =>
        cases rs
        obtain ⟨p, ws, rfl, h1, r2⟩ := r1.seq hd
        obtain ⟨rfl, ho⟩ := strs_vs r2 hy
        exact ⟨x, p, ys, rfl, rfl, ex_lt s h1, hz, k _ F H (Ext.refl s) (.str _ (oks_join hx ho))⟩
    · exact k.elim
  · exact k.elim
/-! f-strings -/
def fmtD : D → Res D
  | .str y => if y.length ≤ sizeLine then .ok (.str y) else .stk
  | .int i => if i.natAbs.log2 < 1920 then .ok (.str (toString i)) else .stk
  | _ => .stk
theorem de_fmt (h : DE X κ E e ma) : DE X κ E (.FormattedValue e (-1) none pos) (mUn fmtD ma) :=
  (pe_fmt h).imp fun σ H Q ⟨F0, H0, F, ρ, S, c⟩ => ⟨F0, H0, F, ρ, S, Res.sat_imp (Res.sat_bind c) (fun d _ k v F' H' x r => by
    cases r with
    | str y hy =>
      simp only [fmtD] at k
      split at k
      · rename_i z
        exact .inl ⟨_, rfl, z, k _ F' H' x (.str _ hy)⟩
      · exact k.elim
    | int i =>
      simp only [fmtD] at k
      split at k
      · rename_i z
        exact .inr ⟨_, rfl, z, k _ F' H' x (.str _ (oks_toString i))⟩
      · exact k.elim
    | _ => exact k.elim) fun _ z => z⟩
inductive DJ (X : Cx) (κ : Nat → Kd) (E : EX) : List Expr → List (Env → Res D) → Prop where
  | nil : DJ X κ E [] []
  | cons {e : Expr} {m : Env → Res D} {es : List Expr} {ms : List (Env → Res D)} (h : DE X κ E e m) (r : DJ X κ E es ms) : DJ X κ E (e :: es) (m :: ms)
def joinsD (ρ : Env) : List (Env → Res D) → Str → Res D
  | [], acc => .ok (.str acc)
  | m :: ms, acc => (m ρ).bind fun d => match d with
    | .str y => if (acc ++ y).length ≤ sizeLine then joinsD ρ ms (acc ++ y) else .stk
    | _ => .stk
def mJs (ms : List (Env → Res D)) : Env → Res D := fun ρ => joinsD ρ ms Str.empty
theorem DJ.pj {es : List Expr} {ms : List (Env → Res D)} (h : DJ X κ E es ms) : PJ X es (ms.map fun m => rdE X.mg X.K κ E m) := by
  induction h with
  | nil => exact .nil
  | cons h _ ih => exact .cons h ih
theorem js_read {mg : Mg} {K : Frag} {σ : L2.St} {Q : VK} : ∀ (ms : List (Env → Res D)) (acc : Str) (H F0 H0 F : Hp) (ρ : Env), OkS acc → Stt K κ F0 H0 F H σ ρ →
    (joinsD ρ ms acc).sat (fun d => ∀ v F' H', Ext F H F' H' → Rp K F' v d → Q v H') (ErrOk mg K (E.err σ) F H) → tJs (ms.map fun m => rdE mg K κ E m) acc σ H (fun out H1 => Q (.str out) H1)
  | [], acc, H, F0, H0, F, ρ, ho, S, c => c _ F H (Ext.refl S.sub) (.str _ ho)
  | m :: ms, acc, H, F0, H0, F, ρ, ho, S, c => ⟨F0, H0, F, ρ, S, Res.sat_imp (Res.sat_bind c) (fun d _ k v F1 H1 x r => by
      cases r with
      | str y hy =>
        simp only at k
        split at k
        · rename_i z
          exact ⟨y, rfl, z, js_read ms (acc ++ y) H1 F0 H0 F1 ρ (oks_append ho hy) (S.mono x) (Res.sat_imp k (fun d _ k v F2 H2 x2 r2 => k v F2 H2 (x.trans x2) r2) fun _ z => z.mono x)⟩
        · exact k.elim
      | _ => exact k.elim) fun _ z => z⟩
theorem de_joined {v1 v2 : Expr} {rest : List Expr} {ms : List (Env → Res D)} (h : DJ X κ E (v1 :: v2 :: rest) ms) : DE X κ E (.JoinedStr (v1 :: v2 :: rest) pos) (mJs ms) :=
  (pe_joined h.pj).imp fun σ H Q ⟨F0, H0, F, ρ, S, c⟩ => js_read ms Str.empty H F0 H0 F ρ (by decide +kernel) S c
theorem de_joined1 (h : DE X κ E e ma) : DE X κ E (.JoinedStr [e] pos) ma := pe_joined1 h
end
end WD

namespace WD
open PySem PySem.Spec PyProof.Rows L2
open Evl (Ex Ex.refl Ex.trans Ex.new Ex.mut ex_l ex_t fresh_back)
/-! ### short words for printed terms -/
def kdL (os : List Nat) : Nat → Kd := fun i => if os.contains i then .ow else .im
section
variable {X : Cx} {κ κe : Nat → Kd} {E : EX} {a b c e tg : Expr} {es : List Expr} {pos : Pos} {ma mb mc : Env → Res D} {ms : Env → Res (List D)}
theorem dv (i : Nat) {x : Str} (hk : κ i = .im := by rfl) (hN : X.N[i]? = some x := by rfl) (hv : Vis X.env.scope x := by first | exact Or.inl rfl | exact Or.inr (Or.inl rfl) | exact Or.inr (Or.inr rfl)) (hd : (x == ("__debug__" : Str)) = false := by decide) (hcd : (x == ("__classdict__" : Str)) = false := by decide) : DE X κ E (.Name x pos) (mVar i) := de_var hk hN hv hd hcd
theorem bv (i : Nat) {x : Str} (hp : (κ i).plain = true := by rfl) (hN : X.N[i]? = some x := by rfl) (hv : Vis X.env.scope x := by first | exact Or.inl rfl | exact Or.inr (Or.inl rfl) | exact Or.inr (Or.inr rfl)) (hd : (x == ("__debug__" : Str)) = false := by decide) (hcd : (x == ("__classdict__" : Str)) = false := by decide) : DB X κ E (.Name x pos) (mVar i) := db_var hp hN hv hd hcd
theorem gn (i : Nat) {x : Str} (hN : X.N.Nodup) (hk : κ i = .im := by rfl) (hi : X.N[i]? = some x := by rfl) (hx : Loc X.env.scope x := by first | exact Or.inl rfl | exact Or.inr rfl) (hf : X.fn x = true ∨ X.env.scope.names.lookup x = some .local := by first | exact .inl rfl | exact .inr rfl | assumption) : DG X κ (.Name x pos) [i] (gSet i) := dg_name hk hN hi hx hf
/-- what a call's exceptions come to, in a def's body -/
theorem pcx {P : Program} {w : World} {K : PySem.W.Frag} {mg : Str → Option Value} {base : Heap} {N : List Str} {qual : Str} {scope : Scope} {f : Addr} {cd : Value} {A : Around} {outer : List PySem.Env} {s : Shared} {H : Hp} {E : XK} :
    ∀ σ, PassesAt (L2N.CX P w) (cxOf (L2N.CX P w) P w K mg base N qual scope f cd A outer s H E) σ ((eX K E).err σ) := fun σ pins H s e s' I h => L2N.passes_call (L2N.takes_of rfl rfl rfl rfl) (fun _ _ _ _ h => h) pins σ H s e s' I h
theorem passL0 {X : Cx} : ∀ σ, PassesAt (L2N.CX X.prog X.w) X σ (EX0.err σ) := fun σ pins H s e s' I h => by obtain ⟨_, _, _, _, _, _, _, _, _, _, _, _, z⟩ := h; exact z.elim
theorem pown {CX : CXT} {P : Program} {w : World} {K : PySem.W.Frag} {mg : Str → Option Value} {base : Heap} {N : List Str} {qual : Str} {scope : Scope} {f : Addr} {cd : Value} {A : Around} {outer : List PySem.Env} {s : Shared} {H : Hp} {E : XK} :
    PassesOwn (model P w) (A.deeper (envOfC qual scope s.heap.objs.size f cd)) (envOfC qual scope s.heap.objs.size f cd) (cxOf CX P w K mg base N qual scope f cd A outer s H E).xe := PassesOwn.leaving
theorem sg_out {α : Type} {r : Res α} {f : α → Out} (h : ∀ a, (∀ ρ', f a ≠ .bk ρ') ∧ ∀ ρ', f a ≠ .ct ρ') : (∀ ρ', r.out f ≠ .bk ρ') ∧ ∀ ρ', r.out f ≠ .ct ρ' := by
  cases r with
  | ok a => exact h a
  | err x => exact ⟨fun _ h => (nomatch h), fun _ h => (nomatch h)⟩
  | stk => exact ⟨fun _ h => (nomatch h), fun _ h => (nomatch h)⟩
theorem sg_nx {ρ : WD.Env} : (∀ ρ', Out.nx ρ ≠ .bk ρ') ∧ ∀ ρ', Out.nx ρ ≠ .ct ρ' := ⟨fun _ h => (nomatch h), fun _ h => (nomatch h)⟩
theorem sg_rt {d : D} : (∀ ρ', Out.rt d ≠ .bk ρ') ∧ ∀ ρ', Out.rt d ≠ .ct ρ' := ⟨fun _ h => (nomatch h), fun _ h => (nomatch h)⟩
theorem sg_stk : (∀ ρ', Out.stk ≠ .bk ρ') ∧ ∀ ρ', Out.stk ≠ .ct ρ' := ⟨fun _ h => (nomatch h), fun _ h => (nomatch h)⟩
theorem sg_err {x : Exn} : (∀ ρ', Out.err x ≠ .bk ρ') ∧ ∀ ρ', Out.err x ≠ .ct ρ' := ⟨fun _ h => (nomatch h), fun _ h => (nomatch h)⟩
theorem sg_next : Straight mNext := fun _ => sg_nx
theorem sg_asg {i : Nat} {m : WD.Env → Res D} : Straight (mAsg i m) := fun ρ => sg_out fun _ => sg_nx
theorem sg_asgN {i : Nat} {m : WD.Env → Res (List D)} : Straight (mAsgN i m) := fun ρ => sg_out fun _ => sg_nx
theorem sg_asgG {g : D → WD.Env → Option WD.Env} {m : WD.Env → Res D} : Straight (mAsgG g m) := fun ρ => sg_out fun _ => sg_out fun _ => sg_nx
theorem sg_expr {m : WD.Env → Res D} : Straight (mExpr m) := fun ρ => sg_out fun _ => sg_nx
theorem sg_ret {m : WD.Env → Res D} : Straight (mRet m) := fun ρ => sg_out fun _ => sg_rt
theorem sg_app {i : Nat} {m : WD.Env → Res D} : Straight (mApp i m) := fun ρ => sg_out fun _ => sg_out fun _ => by split; exact sg_nx; exact sg_stk
theorem sg_ext {i : Nat} {m : WD.Env → Res D} : Straight (mExt i m) := fun ρ => sg_out fun _ => sg_out fun _ => sg_out fun _ => by split; exact sg_nx; exact sg_stk
theorem sg_if {t : WD.Env → Res Bool} {m n : WD.Env → Out} (h1 : Straight m) (h2 : Straight n) : Straight (mIfS t m n) := fun ρ => sg_out fun b => by
  by_cases h : b = true
  · simp only [if_pos h]; exact h1 ρ
  · simp only [if_neg h]; exact h2 ρ
theorem sg_seq {m n : WD.Env → Out} (h1 : Straight m) (h2 : Straight n) : Straight (mSeq m n) := fun ρ => by
  unfold mSeq
  have a := h1 ρ
  cases q : m ρ with
  | nx ρ' => exact h2 ρ'
  | bk ρ' => exact absurd q (a.1 ρ')
  | ct ρ' => exact absurd q (a.2 ρ')
  | rt d => exact sg_rt
  | err x => exact sg_err
  | stk => exact sg_stk
theorem sg_forL {g : D → WD.Env → Option WD.Env} {b : WD.Env → Out} : ∀ (ds : List D) (ρ : WD.Env), (∀ ρ', forL g b ds ρ ≠ .bk ρ') ∧ ∀ ρ', forL g b ds ρ ≠ .ct ρ'
  | [], ρ => sg_nx
  | d :: ds, ρ => by
    unfold forL
    cases g d ρ with
    | none => exact sg_stk
    | some ρ1 =>
      simp only
      cases b ρ1 with
      | nx ρ2 => exact sg_forL ds ρ2
      | ct ρ2 => exact sg_forL ds ρ2
      | bk ρ2 => exact sg_nx
      | rt d => exact sg_rt
      | err x => exact sg_err
      | stk => exact sg_stk
theorem sg_for {it : WD.Env → Res (List D)} {g : D → WD.Env → Option WD.Env} {b : WD.Env → Out} : Straight (mFor it g b) := fun ρ => sg_out fun ds => sg_forL ds ρ
theorem sg_whileL {c : WD.Env → Res Bool} {b : WD.Env → Out} : ∀ (n : Nat) (ρ : WD.Env), (∀ ρ', whileL c b n ρ ≠ .bk ρ') ∧ ∀ ρ', whileL c b n ρ ≠ .ct ρ'
  | 0, ρ => sg_stk
  | n + 1, ρ => by
    unfold whileL
    cases c ρ with
    | err x => exact sg_err
    | stk => exact sg_stk
    | ok v =>
      cases v with
      | false => exact sg_nx
      | true =>
        simp only
        cases b ρ with
        | nx ρ2 => exact sg_whileL n ρ2
        | ct ρ2 => exact sg_whileL n ρ2
        | bk ρ2 => exact sg_nx
        | rt d => exact sg_rt
        | err x => exact sg_err
        | stk => exact sg_stk
theorem sg_while {fu : WD.Env → Nat} {c : WD.Env → Res Bool} {b : WD.Env → Out} : Straight (mWhile fu c b) := fun ρ => sg_whileL _ ρ
end
end WD
namespace WD
open PySem L2
theorem no_cx {P : Program} {w : World} {H : Hp} {s : Shared} {e : Value} {s' : Shared} (h : L2N.CX P w [] H s (fun _ _ _ => False) e s') : False := by
  obtain ⟨_, _, _, _, _, _, _, _, _, _, _, _, z⟩ := h
  exact z
/-- the law's own promise -/
def spLaw (K : PySem.W.Frag) : Sp := fun vs H Q _ => ∃ (a : Addr) (ns : List Int), vs = [.ref a] ∧ SqL K H a (ns.map V.int) ∧ ns.length ≤ 63 ∧ ∀ H', Q (.bl true) H'
theorem ints_rp {K : PySem.W.Frag} {H : Hp} : ∀ ns : List Int, RpA K H (ns.map V.int) (ns.map PyData.int)
  | [] => .nil
  | n :: ns => .cons (.int n) (ints_rp ns)
theorem law_spM {K : PySem.W.Frag} {mg : Mg} {m : List D → Res D} (hm : ∀ ns : List Int, ns.length ≤ 63 → m [.list (ns.map PyData.int)] = .ok (.bool true)) {vs : List V} {H : Hp} {Q : VK} {E : XK} (h : spLaw K vs H Q E) : spM mg K 1 m vs H Q E := by
  obtain ⟨a, ns, rfl, hS, hl, q⟩ := h
  obtain ⟨F, hF⟩ : ∃ F : Hp, F = fun b => match H b with | some (.dK _) => none | u => u := ⟨_, rfl⟩
  have e1 : Evl.Ex F H := fun b u e => by
    rw [hF] at e
    dsimp only at e
    split at e
    · cases e
    · exact e
  have keep : ∀ b u, H b = some u → (∀ kvs, u ≠ .dK kvs) → F b = some u := fun b u e n => by
    rw [hF]
    dsimp only
    split
    · rename_i kvs q
      rw [q] at e; cases e
      exact absurd rfl (n kvs)
    · exact e
  have nf : NF F := fun b kvs e => by
    have q := e1 b _ e
    rw [hF] at e
    dsimp only at e
    rw [q] at e
    cases e
  have hS' : SqL K F a (ns.map V.int) := by
    rcases hS with (h | ⟨o, h⟩) | h
    · exact .inl (.inl (keep _ _ h fun _ z => nomatch z))
    · exact .inl (.inr ⟨o, keep _ _ h fun _ z => nomatch z⟩)
    · exact .inr h
  refine ⟨rfl, F, [.list (ns.map PyData.int)], e1, nf, .cons (.lst hS' (ints_rp ns)) .nil, ?_⟩
  rw [hm ns hl]
  intro v F' H' x r
  cases r
  exact q H'
end WD

/-! enumerate over a tuple, over a text -/
namespace WD
open PySem PySem.Spec PyProof.Rows L2
open Evl (Ex Ex.refl Ex.trans Ex.new Ex.mut ex_l ex_t fresh_back)
/-- pairs of a count and what g gives -/
def ItP (n : Nat) (k0 : Int) (g : Nat → Option V) (G : Hp → Prop) : It :=
  ⟨fun i H => G H ∧ i < n, fun i H v H' => ∃ T x, v = .ref T ∧ H T = none ∧ H' = upd H T (.tup [.int (k0 + (i : Nat)), x]) ∧ g i = some x, fun i H => G H ∧ i = n⟩
/-- what an inner iterator has to be -/
structure Inner (P : Program) (w : World) (K : PySem.W.Frag) (e it : Addr) (n : Nat) (k0 : Int) (g : Nat → Option V) (G : Hp → Prop) (inn : Nat → Heap → Prop) : Prop where
  ne : e ≠ it
  obj : ∀ i h, inn i h → ∃ o, h.get? it = some o ∧ ∀ v, o.data ≠ .cell v
  keep : ∀ i (h h' : Heap), inn i h → (∀ o, h.get? it = some o → h'.get? it = some o) → inn i h'
  draw : ∀ (X : Cx), X.prog = P → X.w = w → X.K = K → X.calm = true → ∀ (i : Nat) (pins : List (Addr × Obj)) (s : Shared) (σ : L2.St) (H : Hp) (c : Int) (old : Value), Inv X pins σ H s → G H → inn i s.heap → IsEnum s.heap e it c old →
    ∃ fp Pv S, Draws P w X.A.in1 it fp n Pv S ∧ S i s.heap ∧ e ∉ fp ∧ (∀ j x, Pv j x → ∃ v, g j = some v ∧ RelV v x) ∧ ∀ j h, S j h → inn j h
theorem turn_enumP {P : Program} {w : World} {K : PySem.W.Frag} {elts : List Expr} {kk : Nat} {tpos : Pos} {e it : Addr} {n : Nat} {k0 : Int} {g : Nat → Option V} {G : Hp → Prop} {inn : Nat → Heap → Prop} (N : Inner P w K e it n k0 g G inn) :
    Turn P w K (.Tuple elts kk tpos) (ItP n k0 g G) [e, it] e (fun i h => (∃ old, IsEnum h e it (k0 + (i : Nat)) old) ∧ inn i h) where
  mem := by simp
  obj := fun i h st b hb => by
    obtain ⟨⟨old, he⟩, hi⟩ := st
    have e' : b = e ∨ b = it := by simpa using hb
    rcases e' with z | z
    · rw [z]; exact ⟨_, he, fun v q => nomatch q⟩
    · rw [z]; exact N.obj i h hi
  keep := fun i h h' st k => let ⟨⟨old, he⟩, hi⟩ := st; ⟨⟨old, k e (by simp) _ he⟩, N.keep i h h' hi fun o q => k it (by simp) o q⟩
  item := by
    intro X hP hw hK hc i pins s σ H E I hf st hg
    obtain ⟨⟨old, he⟩, hit⟩ := st
    obtain ⟨hG, hi⟩ := hg
    obtain ⟨fp, Pv, S, D, hS, hef, hpv, hinn⟩ := N.draw X hP hw hK hc i pins s σ H _ old I hG hit he
    subst hP hw hK
    have hel : e < s.heap.objs.size := Heap.lt_size he
    have hil : it < s.heap.objs.size := by obtain ⟨o, q, _⟩ := N.obj i _ hit; exact Heap.lt_size q
    refine wpAny_pyNext_enum_itemC D he hS hi N.ne hef fun x h' tk hP ho hs' hT hsz hk => ?_
    obtain ⟨v, hv, rv⟩ := hpv i x hP
    refine ⟨_, rfl, wpAny_letOwnedTupleGo_enum (s := { s with heap := h', toks := tk + 1 }) ho fun h'' he' sb => ?_⟩
    have hT2 : h''.get? s.heap.objs.size = some { cls := .type "tuple", data := .seq #[.int (k0 + (i : Nat)) tk, x] } := (sb.2 _ (Nat.ne_of_gt hel)).trans hT
    have new : ObjOk X.prog X.w (upd H s.heap.objs.size (.tup [.int (k0 + (i : Nat)), v])) h'' s.heap.objs.size (.tup [.int (k0 + (i : Nat)), v]) :=
      ⟨by show 2 ≤ sizeLine; decide, [.int (k0 + (i : Nat)) tk, x], .cons ⟨_, rfl⟩ (.cons rv .nil), ⟨_, hT2, rfl, _, rfl⟩⟩
    have I1 : Inv X pins σ (upd H s.heap.objs.size (.tup [.int (k0 + (i : Nat)), v])) { s with heap := h'', toks := tk + 1 } :=
      I.turnedNew (ch := [e, it]) (fun b ob hb q => (sb.2 b (fun z => hb (by simp [z]))).trans (hk b ob (fun z => hb (by simp [z])) (fun z => hb (by simp [z])) q)) hf (Nat.le_refl _) new
    have e1 : k0 + ((i + 1 : Nat) : Int) = k0 + (i : Int) + 1 := by omega
    refine ⟨.ref s.heap.objs.size, _, I1, rfl, ⟨_, v, rfl, I.hok.fresh (Nat.le_refl _), rfl, hv⟩, ⟨⟨x, by rw [e1]; exact he'⟩, N.keep _ _ _ (hinn _ _ hs') fun o q => (sb.2 it (Ne.symm N.ne)).trans q⟩, fun b hb => ?_⟩
    have hb' : b < s.heap.objs.size := by
      have e' : b = e ∨ b = it := by simpa using hb
      rcases e' with z | z
      · rw [z]; exact hel
      · rw [z]; exact hil
    rw [upd_ne (Nat.ne_of_lt hb')]
    exact (hf b hb).1
  done := by
    intro X hP hw hK hc i pins s σ H E I hf st hg
    obtain ⟨⟨old, he⟩, hit⟩ := st
    obtain ⟨hG, rfl⟩ := hg
    obtain ⟨fp, Pv, S, D, hS, hef, hpv, hinn⟩ := N.draw X hP hw hK hc i pins s σ H _ old I hG hit he
    subst hP hw hK
    obtain ⟨f0, f1, f2, f3, f4, f5⟩ := hf it (by simp)
    exact wpAny_pyNext_enum_endD D he hS fun h' eb => ⟨rfl, I.turned (t' := s.toks) (fun b o hb q => eb b o hb q) f0 f1 f3 f4 f5⟩
  self := fun A i s Q E st h => let ⟨⟨_, he⟩, _⟩ := st; wpAny_pyIter_enum he h
theorem inner_tuple {P : Program} {w : World} {K : PySem.W.Frag} {e it a : Addr} {xs : List V} {k0 : Int} (ne : e ≠ it) : Inner P w K e it xs.length k0 (fun i => xs[i]?) (fun H => SqT K H a xs) (fun i h => h.IsTupleIter it a i) where
  ne := ne
  obj := fun i h st => by
    obtain ⟨o, ho, hc, hd⟩ := st
    exact ⟨o, ho, fun v q => by rw [hd] at q; cases q⟩
  keep := fun i h h' st k => st.at fun o q => k o q
  draw := by
    intro X hP hw hK hc i pins s σ H c old I hG hit he
    subst hP hw hK
    obtain ⟨its, rv, p, hz⟩ := I.tuple hG
    obtain ⟨o, ho, hcls, n, hd⟩ := id p
    have ne1 : a ≠ it := fun z => by
      obtain ⟨o2, ho2, hc2, hd2⟩ := hit
      rw [z] at ho
      rw [ho] at ho2; cases ho2
      rw [hc2] at hcls; simp at hcls
    have ne2 : e ≠ a := fun z => by
      rw [← z] at ho
      have := he.symm.trans ho
      cases this
      simp at hcls
    have hn : its.toArray.size = xs.length := by simpa using rv.length.symm
    have hA : X.A.in1.handled = none := I.ok.hd hc
    have D := Draws.tuple (prog := X.prog) (w := X.w) hA it a ne1 its.toArray
    rw [hn] at D
    refine ⟨_, _, _, D, ⟨hit, ⟨o, ho, hcls, n, hd⟩⟩, by simp [ne, ne2], fun j x hx => ?_, fun j h st => st.1⟩
    have hx : its[j]? = some x := by simpa using hx
    have hj : j < xs.length := by
      rw [← hn]
      have := (List.getElem?_eq_some_iff.mp hx).1
      simpa using this
    obtain ⟨u, hu, ru⟩ := rv.get (List.getElem?_eq_getElem hj)
    rw [hx] at hu; cases hu
    exact ⟨_, List.getElem?_eq_getElem hj, ru⟩
theorem inner_text {P : Program} {w : World} {K : PySem.W.Frag} {e it : Addr} {x : Str} {t : Tok} {k0 : Int} (ne : e ≠ it) : Inner P w K e it x.cps.size k0 (fun i => (x.cps[i]?).map fun c => V.str ⟨#[c]⟩) (fun _ => True) (fun i h => h.IsStrIter it (strIterType x) x t i) where
  ne := ne
  obj := fun i h st => by
    obtain ⟨o, ho, hc, hd⟩ := st
    exact ⟨o, ho, fun v q => by rw [hd] at q; cases q⟩
  keep := fun i h h' st k => let ⟨o, ho, r⟩ := st; ⟨o, k o ho, r⟩
  draw := by
    intro X hP hw hK hc i pins s σ H c old I hG hit he
    subst hP hw hK
    have hA : X.A.in1.handled = none := I.ok.hd hc
    exact ⟨_, _, _, Draws.text (prog := X.prog) (w := X.w) hA it x t, hit, by simp [ne], fun j y ⟨c, u, hc, hy⟩ => ⟨.str ⟨#[c]⟩, by rw [hc]; rfl, hy ▸ ⟨u, rfl⟩⟩, fun j h st => st⟩
/-- enumerate of what begins, one argument -/
theorem meets_enum1 {v : Value} {o : Obj} {H : Heap → Prop} (B : Begins v o H) :
    Meets (Builtin.«enumerate.__new__» ⟨[.type "enumerate", v], []⟩) (fun _ R s => H s.heap ∧
      R (.ok (.ret (.ref (s.heap.push o).objs.size))) { s with heap := (s.heap.push o).push { cls := .type "enumerate", data := .fields #[.none, .bool false, .ref s.heap.objs.size, rawInt 0, .none, .none] } }) :=
  .of_wp fun prog w A R s h => by
    obtain ⟨hp, g, d, tk, os⟩ := s
    obtain ⟨h1, h⟩ := h
    have hsub := sub_enumerate
    have q1 : ∀ {A' : Around} {E : Value → Shared → Prop} {Q : Value → Shared → Prop}, Q (.ref hp.objs.size) ⟨hp.push o, g, d, tk, os⟩ → wpAny (model prog w) A' (pyIter v) Q E ⟨hp, g, d, tk, os⟩ :=
      fun q => B.iter prog w _ _ ⟨hp, g, d, tk, os⟩ _ h1 q
    wp_walk using q1
    refine wpAny_stack_any fun st => wpAny_pure ?_
    split
    · rename_i c _ _ _ _ _
      cases (c == Value.type "enumerate") <;> (wp_walk using q1; exact ⟨_, rfl, h⟩)
    · wp_walk using q1
      exact ⟨_, rfl, h⟩
theorem call_enum1 {prog : Program} {w : World} {A : Around} {E : Value → Shared → Prop} {s : Shared} {v : Value} {o : Obj} {H : Heap → Prop} {Q : Value → Shared → Prop} (B : Begins v o H) (h1 : H s.heap)
    (h : ∀ h', IsEnum h' (s.heap.objs.size + 1) s.heap.objs.size 0 .none → h'.get? s.heap.objs.size = some o →
      (∀ b o, s.heap.get? b = some o → h'.get? b = some o) → Q (.ref (s.heap.objs.size + 1)) { s with heap := h' }) :
    wpAny (model prog w) A (call (.type "enumerate") [v]) Q E s := by
  refine callType_new F.called_enumerate (by decide) (F.typeCall_enumerate_1 _) (F.newCall_enumerate_1 _) (fun obj => F.args_object_init_2 obj _) F.entry_enumerate_new (meets_enum1 B) ⟨h1, ?_⟩
  have hz : (s.heap.push o).objs.size = s.heap.objs.size + 1 := Heap.size_push ..
  show _ ∧ _
  rw [hz]
  have he : IsEnum ((s.heap.push o).push { cls := .type "enumerate", data := .fields #[.none, .bool false, .ref s.heap.objs.size, rawInt 0, .none, .none] }) (s.heap.objs.size + 1) s.heap.objs.size 0 .none := by
    have := Heap.get?_push_size (s.heap.push o) (o := { cls := .type "enumerate", data := .fields #[.none, .bool false, .ref s.heap.objs.size, rawInt 0, .none, .none] }) rfl
    rw [hz] at this
    exact this
  exact ⟨⟨_, he, rfl⟩, h _ he (Heap.get?_push_of_some _ (Heap.get?_push_size _ B.free)) fun b o x => Heap.get?_push_of_some _ (Heap.get?_push_of_some _ x)⟩
/-- enumerate of one: a list as before, a tuple, a text -/
def iEnumX (K : PySem.W.Frag) (ta : TA) : TI := fun σ H R => ta σ H fun vs H1 => (∃ a xs, vs = [.ref a] ∧ SqL K H1 a xs ∧ R (Ite K a) H1) ∨ (∃ a xs, vs = [.ref a] ∧ SqT K H1 a xs ∧ R (ItP xs.length 0 (fun i => xs[i]?) fun H => SqT K H a xs) H1) ∨
  ∃ x, vs = [.str x] ∧ R (ItP x.cps.size 0 (fun i => (x.cps[i]?).map fun c => V.str ⟨#[c]⟩) fun _ => True) H1
theorem pi_enumX {X : Cx} {e : Expr} {ta : TA} {p pos tpos : Pos} {elts : List Expr} {kk : Nat} (hg : Gl X "enumerate") (hm : X.mg "enumerate" = none) (ha : PA X [e] ta) (hs : starEach [e] X.env = [(false, eval e X.env)] := by rfl) :
    PI X (.Tuple elts kk tpos) (.Call (.Name "enumerate" p) [e] [] pos) (iEnumX X.K ta) := by
  refine ⟨fun pins s σ H R I h => ?_⟩
  refine Call_ (ld_blt I hg hm boot_enumerate (PyProof.Rows.callWith_type1 (thn (ha.run pos pins s σ H _ I h) fun us s1 ⟨vs, H1, I1, r1, q1⟩ => ?_) hs rfl))
  have fp : ∀ {h' : Heap}, Inv X pins σ H1 { s1 with heap := h' } → ∀ b ∈ [s1.heap.objs.size + 1, s1.heap.objs.size], FpOk X pins H1 b := fun I2 b hb => by
    have e' : b = s1.heap.objs.size + 1 ∨ b = s1.heap.objs.size := by simpa using hb
    have hle : s1.heap.objs.size ≤ b := by
      rcases e' with z | z
      · rw [z]; exact Nat.le_add_right _ _
      · rw [z]; exact Nat.le_refl _
    exact I1.fpOk hle (I1.hok.fresh hle)
  rcases q1 with ⟨a, xs, ex, hq, q⟩ | ⟨a, xs, ex, hq, q⟩ | ⟨x, ex, q⟩
  · subst ex
    cases r1 with
    | cons r rr =>
      cases rr
      cases r
      obtain ⟨its, rv, p', hz⟩ := I1.list hq
      refine call_enumerate_list p'.isList fun h' he hit hsz hk => wpAny_pyIter_enum he ?_
      have I2 : Inv X pins σ H1 { s1 with heap := h' } := I1.kept (t' := s1.toks) hk
      exact ⟨s1.heap.objs.size + 1, [s1.heap.objs.size + 1, s1.heap.objs.size], _, _, H1, rfl, I2, turn_enum a (s1.heap.objs.size + 1) s1.heap.objs.size, ⟨⟨.none, he⟩, hit, Nat.succ_ne_self _⟩, fp I2, q⟩
  · subst ex
    cases r1 with
    | cons r rr =>
      cases rr
      cases r
      obtain ⟨its, rv, p', hz⟩ := I1.tuple hq
      refine call_enum1 (begins_tuple a its.toArray) p' fun h' he hit hk => wpAny_pyIter_enum he ?_
      have I2 : Inv X pins σ H1 { s1 with heap := h' } := I1.kept (t' := s1.toks) hk
      exact ⟨s1.heap.objs.size + 1, [s1.heap.objs.size + 1, s1.heap.objs.size], _, _, H1, rfl, I2, turn_enumP (inner_tuple (Nat.succ_ne_self _)), ⟨⟨.none, he⟩, ⟨_, hit, rfl, rfl⟩⟩, fp I2, q⟩
  · subst ex
    cases r1 with
    | cons r rr =>
      cases rr
      obtain ⟨t, rfl⟩ := r
      refine call_enum1 (begins_text x t) trivial fun h' he hit hk => wpAny_pyIter_enum he ?_
      have I2 : Inv X pins σ H1 { s1 with heap := h' } := I1.kept (t' := s1.toks) hk
      exact ⟨s1.heap.objs.size + 1, [s1.heap.objs.size + 1, s1.heap.objs.size], _, _, H1, rfl, I2, turn_enumP (inner_text (Nat.succ_ne_self _)), ⟨⟨.none, he⟩, ⟨_, hit, rfl, rfl⟩⟩, fp I2, q⟩
theorem walk_enumP {n : Nat} {k0 : Int} {g : Nat → Option V} {G : Hp → Prop} : Walk (ItP n k0 g G) n G (YPair (fun i => some (.int (k0 + (i : Nat)))) g) := by
  refine ⟨fun i _ hi q => ⟨q, hi⟩, fun _ q => ⟨q, rfl⟩, fun i H v H' _ q y => ?_⟩
  obtain ⟨T, x, h1, h2, h3, h4⟩ := y
  exact ⟨T, .int (k0 + (i : Nat)), x, h1, h2, h3, rfl, h4⟩
end WD

namespace WD
open PySem PySem.Spec PyProof.Rows L2
open Evl (Ex Ex.refl Ex.trans Ex.new Ex.mut ex_l ex_t fresh_back)
def enumXD : List D → Res (List D)
  | [.list ds] => .ok (enumD ds)
  | [.tuple ds] => .ok (enumD ds)
  | [.str x] => .ok (enumD (signsD x))
  | _ => .stk
theorem enumD_len (ds : List D) : (enumD ds).length = ds.length := by simp [enumD]
theorem enumD_get {ds : List D} {i : Nat} {d : D} (h : ds[i]? = some d) : (enumD ds)[i]? = some (.tuple [.int (i : Int), d]) := by
  unfold enumD
  rw [List.getElem?_map, List.getElem?_zipIdx, h]
  simp
section
variable {X : Cx} {κ κe : Nat → Kd} {E : EX} {a b c e tg o : Expr} {es : List Expr} {pos : Pos} {st : Stmt} {ma mb mc : Env → Res D} {ms : Env → Res (List D)}
theorem di_enumX {p tpos : Pos} {elts : List Expr} {kk : Nat} (hg : Gl X "enumerate") (hm : X.mg "enumerate" = none) (ha : DA X κ E [a] ms) (hs : starEach [a] X.env = [(false, eval a X.env)] := by rfl) : DI X κ E (.Tuple elts kk tpos) (.Call (.Name "enumerate" p) [a] [] pos) (mBindA enumXD ms) :=
  (pi_enumX hg hm ha hs).imp fun σ H R ⟨F0, H0, F, ρ, S, c⟩ => ⟨F0, H0, F, ρ, S, Res.sat_imp (Res.sat_bind c) (fun ds _ k vs F' H' x r => by
    unfold enumXD at k
    split at k
    · rename_i ds
      cases r with
      | cons r1 r2 =>
        cases r2
        cases r1 with
        | @lst a vs _ h1 h2 =>
          refine .inl ⟨a, vs, rfl, ex_l x.s h1, k _ F' H' x (walkd_pair walk_enum (by rw [enumD_len, h2.length]) (fun F2 H2 p s => ex_l (p.trans s) h1) fun i F2 H2 x y p hi e1 e2 => ?_)⟩
          cases e1
          obtain ⟨d, hd, rd⟩ := h2.getV e2
          exact ⟨.int (i : Int), d, enumD_get hd, .int _, rd.mono p⟩
    · rename_i ds
      cases r with
      | cons r1 r2 =>
        cases r2
        cases r1 with
        | @tup a vs _ h1 h2 =>
          refine .inr (.inl ⟨a, vs, rfl, ex_t x.s h1, k _ F' H' x (walkd_pair walk_enumP (by rw [enumD_len, h2.length]) (fun F2 H2 p s => ex_t (p.trans s) h1) fun i F2 H2 x y p hi e1 e2 => ?_)⟩)
          cases e1
          obtain ⟨d, hd, rd⟩ := h2.getV e2
          refine ⟨.int (i : Int), d, enumD_get hd, ?_, rd.mono p⟩
          rw [Int.zero_add]
          exact .int _
    · rename_i x0 _
      cases r with
      | cons r1 r2 =>
        cases r2
        cases r1 with
        | str _ hx =>
          refine .inr (.inr ⟨x0, rfl, k _ F' H' x (walkd_pair walk_enumP (by rw [enumD_len]; simp [signsD]) (fun F2 H2 p s => trivial) fun i F2 H2 x y p hi e1 e2 => ?_)⟩)
          cases e1
          obtain ⟨c, hc, rfl⟩ := Option.map_eq_some_iff.mp e2
          refine ⟨.int (i : Int), .str ⟨#[c]⟩, enumD_get (by simp [signsD, hc]), ?_, .str _ ?_⟩
          · rw [Int.zero_add]
            exact .int _
          · have hx : (x0.cps.all fun c => decide (c < 0x110000)) = true := hx
            rw [Array.all_eq_true] at hx
            obtain ⟨hi, hc⟩ := Array.getElem?_eq_some_iff.mp hc
            have := hx i hi
            rw [hc] at this
            show ((#[c] : Array Nat).all fun c => decide (c < 0x110000)) = true
            simpa using this
    · exact k.elim) fun _ z => z⟩

/-! ### split -/
theorem joinL_has {S : List Nat} : ∀ {ps : List (List Nat)} {p : List Nat} {c : Nat}, p ∈ ps → c ∈ p → c ∈ TL.joinL S ps
  | [], _, _, h, _ => by simp at h
  | [q], p, c, h, hc => by
    rw [List.mem_singleton.mp h] at hc
    simpa [TL.joinL] using hc
  | q :: r :: ps, p, c, h, hc => by
    have e : TL.joinL S (q :: r :: ps) = q ++ (S ++ TL.joinL S (r :: ps)) := by simp [TL.joinL]
    rw [e]
    rcases List.mem_cons.mp h with rfl | h
    · exact List.mem_append_left _ hc
    · exact List.mem_append_right _ (List.mem_append_right _ (joinL_has h hc))
theorem oks_split {x y p : Str} (hx : OkS x) (hp : p ∈ Txt.split x y) : OkS p := by
  have hj : Txt.join y (Txt.split x y) = x := by rw [TL.join_eq]; exact PySem.StrLaws.join_split x y
  have hx' : ∀ c ∈ TL.tl x, c < 0x110000 := fun c hc => by
    have hx : (x.cps.all fun c => decide (c < 0x110000)) = true := hx
    rw [← Array.all_toList, List.all_eq_true] at hx
    simpa using hx c hc
  have hall : ∀ c ∈ TL.tl p, c < 0x110000 := fun c hc => hx' c (by
    rw [← hj, TL.join_eq, TL.tl_join]
    exact joinL_has (List.mem_map.mpr ⟨p, hp, rfl⟩) hc)
  show (p.cps.all fun c => decide (c < 0x110000)) = true
  rw [← Array.all_toList, List.all_eq_true]
  intro c hc
  simpa using hall c hc
theorem strs_rp {K : Frag} {F : Hp} : ∀ {ys : List Str}, (∀ y ∈ ys, OkS y) → RpA K F (ys.map V.str) (ys.map PyData.str)
  | [], _ => .nil
  | y :: ys, h => .cons (.str y (h y (by simp))) (strs_rp fun z hz => h z (by simp [hz]))
def splitD (x y : Str) : Res D := if (y.length == 0) = false ∧ x.length + 2 ≤ sizeLine then .ok (.list ((Txt.split x y).map PyData.str)) else .stk
theorem ops_split {K : Frag} : OpS K (fun x xs H Q => ∃ a b, x = .str a ∧ xs = [.str b] ∧ (b.length == 0) = false ∧ a.length + 2 ≤ sizeLine ∧ rNewStrs (Txt.split a b) H Q) (s1D splitD) := ops_1 fun F H x y s hx hy Q k => by
  unfold splitD at k
  split at k
  · rename_i h
    exact ⟨x, y, rfl, rfl, h.1, h.2, post_new s (strs_rp fun p hp => oks_split hx hp) k⟩
  · exact k.elim
theorem split_ne : ∀ x y z, s1D splitD x y ≠ .err z := s1_ne fun _ _ _ h => by unfold splitD at h; split at h <;> cases h

/-! ### stuck: what must not happen -/
theorem sg_raise : Straight mStk := fun _ => sg_stk

/-! ### arguments that are lent -/
def kdB (os bs : List Nat) : Nat → Kd := fun i => if os.contains i then .ow else if bs.contains i then .bw else .im
inductive ArgR (K : Frag) (F H : Hp) : List Kd → List V → List D → Prop
  | nil : ArgR K F H [] [] []
  | im {v : V} {d : D} {ks : List Kd} {vs : List V} {ds : List D} : Rp K F v d → ArgR K F H ks vs ds → ArgR K F H (.im :: ks) (v :: vs) (d :: ds)
  | bw {v : V} {d : D} {ks : List Kd} {vs : List V} {ds : List D} : Rb K F H v d → ArgR K F H ks vs ds → ArgR K F H (.bw :: ks) (v :: vs) (d :: ds)
theorem ArgR.length {K : Frag} {F H : Hp} {ks : List Kd} {vs : List V} {ds : List D} (r : ArgR K F H ks vs ds) : vs.length = ks.length ∧ ds.length = ks.length := by
  induction r with
  | nil => exact ⟨rfl, rfl⟩
  | im _ _ ih => simp [ih.1, ih.2]
  | bw _ _ ih => simp [ih.1, ih.2]
theorem ArgR.get {K : Frag} {F H : Hp} {ks : List Kd} {vs : List V} {ds : List D} (r : ArgR K F H ks vs ds) : ∀ {i : Nat} {d : D}, ds[i]? = some d → ∃ v k, vs[i]? = some v ∧ ks[i]? = some k ∧ ((k = .im ∧ Rp K F v d) ∨ (k = .bw ∧ Rb K F H v d)) := by
  induction r with
  | nil => intro i d h; simp at h
  | im h _ ih =>
    intro i d hd
    cases i with
    | zero => simp at hd; subst hd; exact ⟨_, _, rfl, rfl, .inl ⟨rfl, h⟩⟩
    | succ i => simpa using ih (by simpa using hd)
  | bw h _ ih =>
    intro i d hd
    cases i with
    | zero => simp at hd; subst hd; exact ⟨_, _, rfl, rfl, .inr ⟨rfl, h⟩⟩
    | succ i => simpa using ih (by simpa using hd)
def spMb (mg : Mg) (K : Frag) (ks : List Kd) (m : List D → Res D) : Sp := fun vs H Q E => vs.length = ks.length ∧ ∃ F ds, Ex F H ∧ NF F ∧ ArgR K F H ks vs ds ∧ (m ds).sat (fun d => ∀ v F' H', Ext F H F' H' → Rp K F' v d → Q v H') (ErrOk mg K E F H)
structure FnB (P : Program) (w : World) (K : Frag) (mg : Mg) (base : Heap) (k : Nat) (x : Str) (ps : List Str) (ks : List Kd) (m : List D → Res D) : Prop where
  ex : ∃ f fd, mg x = some (.ref f) ∧ PySem.W.keepIn K (.ref f) = true ∧ Binds K fd ps [] ∧ FnOk P w K mg base (L2N.CX P w) k f fd ps (spMb mg K ks m)
def rdAB (mg : Mg) (K : Frag) (κ : Nat → Kd) (E : EX) (ks : List Kd) (m : Env → Res (List D)) : TA := fun σ H Q => ∃ F0 H0 F ρ, Stt K κ F0 H0 F H σ ρ ∧ (m ρ).sat (fun ds => ∀ vs F' H', Ext F H F' H' → ArgR K F' H' ks vs ds → Q vs H') (ErrOk mg K (E.err σ) F H)
def DAB (X : Cx) (κ : Nat → Kd) (E : EX) (es : List Expr) (ks : List Kd) (m : Env → Res (List D)) : Prop := PA X es (rdAB X.mg X.K κ E ks m)
theorem dab_nil : DAB X κ E [] [] mNil := pa_nil.imp fun σ H Q ⟨F0, H0, F, ρ, S, c⟩ => c [] F H (Ext.refl S.sub) .nil
theorem dab_im {ks : List Kd} {m : Env → Res D} {ms : Env → Res (List D)} (h : DE X κ E e m) (hs : DAB X κ E es ks ms) (hst : starEach (e :: es) X.env = (false, eval e X.env) :: starEach es X.env := by rfl) : DAB X κ E (e :: es) (.im :: ks) (mCons m ms) :=
  (pa_cons h hs hst).imp fun σ H Q ⟨F0, H0, F, ρ, S, c⟩ => ⟨F0, H0, F, ρ, S, Res.sat_imp (Res.sat_bind c) (fun d _ k v F' H' e r =>
    ⟨F0, H0, F', ρ, S.mono e, Res.sat_imp (Res.sat_bind k) (fun ds _ k vs F2 H2 e2 rs => k (v :: vs) F2 H2 (e.trans e2) (.im (r.mono e2.f) rs)) fun x z => z.mono e⟩) fun _ z => z⟩
theorem dab_bw {ks : List Kd} {m : Env → Res D} {ms : Env → Res (List D)} (h : DB X κ E e m) (hs : DAB X κ E es ks ms) (hst : starEach (e :: es) X.env = (false, eval e X.env) :: starEach es X.env := by rfl) : DAB X κ E (e :: es) (.bw :: ks) (mCons m ms) :=
  (pa_cons h hs hst).imp fun σ H Q ⟨F0, H0, F, ρ, S, c⟩ => ⟨F0, H0, F, ρ, S, Res.sat_imp (Res.sat_bind c) (fun d _ k v F' H' e r =>
    ⟨F0, H0, F', ρ, S.mono e, Res.sat_imp (Res.sat_bind k) (fun ds _ k vs F2 H2 e2 rs => k (v :: vs) F2 H2 (e.trans e2) (.bw (r.mono e2) rs)) fun x z => z.mono e⟩) fun _ z => z⟩
theorem de_callL {k : Nat} {x : Str} {p : Pos} {ps : List Str} {ks : List Kd} {m : List D → Res D} {ma : Env → Res (List D)} (G : FnB X.prog X.w X.K X.mg X.base k x ps ks m) (hr : Room k X.A) (hx : ∀ σ, PassesAt (L2N.CX X.prog X.w) X σ (E.err σ)) (hg : Gl X x) (ha : DAB X κ E (e :: es) ks ma)
    (hdb : (x == ("__debug__" : Str)) = false := by decide) (he : starEach (e :: es) X.env = (false, eval e X.env) :: starEach es X.env := by rfl) (hpl : (backTo pos (starEach es X.env)).any (·.1) = false := by rfl) :
    DE X κ E (.Call (.Name x p) (e :: es) [] pos) (mCall m ma) := by
  obtain ⟨f, fd, hm, hk, hb, hF⟩ := G.ex
  refine (pe_callS hF hr hg hm hk hb hx ha hdb he hpl).imp fun σ H Q ⟨F0, H0, F, ρ, S, c⟩ => ⟨F0, H0, F, ρ, S, Res.sat_imp (Res.sat_bind c) (fun ds q k vs F' H' x r => ?_) fun _ z => z⟩
  refine ⟨r.length.1, F', ds, x.s, x.n S.nf, r, Res.sat_imp k (fun d _ k v F2 H2 x2 r2 => k v F2 H2 (x.trans x2) r2) fun _ z => z.mono x⟩
theorem fn_startB {K : Frag} {F H : Hp} {vs : List V} {ds : List D} {N : List Str} {ks : List Kd} (s : Ex F H) (nf : NF F) (r : ArgR K F H ks vs ds) (hk : ∀ i, i < ks.length → ks[i]? = some (κ i)) :
    Stt K κ F H F H (L2.start N vs) (ds.map some ++ List.replicate (N.length - ds.length) none) := by
  have el := r.length
  have known : ∀ i d, (ds.map some ++ List.replicate (N.length - ds.length) none)[i]? = some (some d) → ds[i]? = some d ∧ i < ks.length := fun i d h => by
    by_cases hi : i < ds.length
    · rw [List.getElem?_append_left (by simpa using hi), List.getElem?_map, List.getElem?_eq_getElem hi] at h
      have : ds[i] = d := by simpa using h
      rw [List.getElem?_eq_getElem hi, this]
      exact ⟨rfl, by omega⟩
    · rw [List.getElem?_append_right (by simpa using hi), List.getElem?_replicate] at h
      split at h <;> cases h
  refine ⟨Ex.refl F, Ex.refl H, fun _ h _ => h, s, nf, ?_, fun i d h => ?_, fun i j a di dj u w hn hi hj _ _ ki _ => ?_⟩
  · unfold L2.start
    simp [el.1, el.2]
  · obtain ⟨h1, h2⟩ := known i d h
    obtain ⟨v, k, g1, g2, g3⟩ := r.get h1
    have hki := (hk i h2).symm.trans g2
    have hki : κ i = k := by simpa using hki
    refine ⟨v, ?_, ?_⟩
    · unfold L2.start
      have hi : i < vs.length := by omega
      rw [List.getElem?_append_left (by simpa using hi), List.getElem?_map, g1]
      rfl
    · rw [hki]
      rcases g3 with ⟨rfl, g⟩ | ⟨rfl, g⟩
      · exact g
      · rcases g with g | ⟨a, rfl, g⟩
        · exact .inl g
        · refine .inr ⟨a, rfl, ?_, g⟩
          rcases g with ⟨vs, ds, _, g, _⟩ | ⟨vs, ds, _, g, _⟩ <;> rw [g] <;> exact fun q => nomatch q
  · obtain ⟨h1, h2⟩ := known i di hi
    obtain ⟨v, k, g1, g2, g3⟩ := r.get h1
    have hki := (hk i h2).symm.trans g2
    have hki : κ i = k := by simpa using hki
    rw [hki] at ki
    rcases g3 with ⟨rfl, _⟩ | ⟨rfl, _⟩ <;> exact ki
theorem fn_okB {P : Program} {w : World} {K : Frag} {mg : Mg} {base : Heap} {x qual : Str} {st : Stmt} {f : Addr} {fd : FuncData} {N ps : List Str} {ks : List Kd} {k n : Nat} {body : Env → Out} (F : Fun K x qual st f fd) (S : FnScope N ps (defScope st)) (hn : N.length = n)
    (hps : ks.length = ps.length) (hk : ∀ i, i < ks.length → ks[i]? = some (κ i))
    (hbody : ∀ (cdv : Value) (A : Around) (outer : List PySem.Env) (s : Shared) (H : Hp) (E : XK), Room k (A.deeper (envOfC qual (defScope st) s.heap.objs.size f cdv)) →
      DSs2 (cxOf (L2N.CX P w) P w K mg base N qual (defScope st) f cdv A outer s H E) κ κe (eX K E) (defBody st) body) : FnOk P w K mg base (L2N.CX P w) (k + 1) f fd ps (spMb mg K ks (mkFn n body)) := by
  subst hn
  refine F.okQ S (fun vs H Q E h => h.1.trans hps) fun cdv A outer s H vs Q E hr h => ⟨_, hbody cdv A outer s H E hr, ?_⟩
  obtain ⟨hl, F, ds, e, nf, r, c⟩ := h
  refine ⟨F, H, F, _, fn_startB e nf r hk, ?_⟩
  unfold mkFn at c
  generalize ho : body (ds.map some ++ List.replicate (N.length - ds.length) none) = o at c ⊢
  cases o with
  | nx ρ => exact fun σ' F' H' _ S' => c .non F' H' S'.ext .non
  | bk ρ => exact c.elim
  | ct ρ => exact c.elim
  | rt d => exact c
  | err x => exact fun _ => c
  | stk => exact c
/-- a promise of nothing: where a recursion's mirror has no turns left -/
theorem fn_stuck {P : Program} {w : World} {K : Frag} {mg : Mg} {base : Heap} {f : Addr} {fd : FuncData} {ps : List Str} (k : Nat) : FnOk P w K mg base (L2N.CX P w) k f fd ps (spM mg K ps.length (fun _ => .stk)) :=
  ⟨fun vs H Q E h => h.1, fun A outer s H args us vs Q E _ _ _ _ h => by
    obtain ⟨_, F, ds, _, _, _, c⟩ := h
    exact c.elim⟩
end
end WD

/-! exceptions: made, raised, caught, read -/
namespace WD
open PySem PySem.Spec PyProof.Rows L2
open Evl (Ex Ex.refl Ex.trans Ex.new Ex.mut ex_l ex_t fresh_back)

/-! ### __init__ of an own class: its fields are stored one by one -/
def iniSt (a C : Addr) (H1 H : Hp) (acc : List (Str × V)) : Prop :=
  (acc = [] ∧ H = H1) ∨ ∃ d, H1 d = none ∧ d ≠ a ∧ H a = some (exo a C (some d)) ∧ H d = some (exd d acc) ∧ ∀ b, b ≠ a → b ≠ d → H b = H1 b
def iniT (K : Frag) (fs : List Str) (i : Nat) : TS := fun D σ H => ∃ (a C : Addr) (acc : List (Str × V)) (xs : List V) (H1 : Hp), σ[0]? = some (some (.ref a)) ∧ OexC K C ∧ (∀ f ∈ fs, PySem.W.findIn K (.ref C) f = some none) ∧ H1 a = some (exo a C none) ∧
  xs.length = fs.length ∧ (∀ j x, xs[j]? = some x → σ[i + j]? = some (some x)) ∧ acc.length + fs.length ≤ 900 ∧ (acc = [] → fs ≠ []) ∧ iniSt a C H1 H acc ∧
  ∀ d H', H1 d = none → d ≠ a → H' a = some (exo a C (some d)) → H' d = some (exd d ((fs.zip xs).reverse ++ acc)) → (∀ b, b ≠ a → b ≠ d → H' b = H1 b) → D.nx σ H'
section
variable {X : Cx}
theorem ini_nil {i : Nat} : PSs X [] (iniT X.K [] i) := pss_nil.imp fun D σ H ⟨a, C, acc, xs, H1, h0, T, hf, h1, hx, hs, hl, hne, hi, k⟩ => by
  rcases hi with ⟨rfl, rfl⟩ | ⟨d, h2, h3, h4, h5, h6⟩
  · exact absurd rfl (hne rfl)
  · have : xs = [] := List.eq_nil_of_length_eq_zero hx
    subst this
    exact k d H h2 h3 h4 h5 h6
theorem ini_cons {f : Str} {fs : List Str} {i : Nat} {rest : List Stmt} {p1 p2 p3 p4 : Pos} (hr : PSs X rest (iniT X.K fs (i + 1))) (h0 : PE X (.Name "self" p1) (tVar 0) := by exact pv 0) (hi : PE X (.Name f p3) (tVar i) := by exact pv _)
    (hs : swapsWith (.Name f p3) (some (.Attribute (.Name "self" p1) f p2)) p4.line X.env = pure false := by rfl) : PSs X (.Assign [.Attribute (.Name "self" p1) f p2] (.Name f p3) p4 :: rest) (iniT X.K (f :: fs) i) :=
  (pss_cons (ps_ost h0 hi hs) hr).imp fun D σ H ⟨a, C, acc, xs, H1, hs0, T, hf, h1, hx, hs, hl, hne, hi, k⟩ => by
    cases xs with
    | nil => cases hx
    | cons x xs =>
      refine ⟨x, by simpa using hs 0 x rfl, .ref a, hs0, a, C, rfl, T, hf f List.mem_cons_self, ?_⟩
      have hx' : xs.length = fs.length := by simpa using hx
      have hs' : ∀ j y, xs[j]? = some y → σ[i + 1 + j]? = some (some y) := fun j y h => by
        have := hs (j + 1) y (by simpa using h)
        rw [show i + 1 + j = i + (j + 1) by omega]
        exact this
      have hl' : acc.length + 1 + fs.length ≤ 900 := by rw [List.length_cons] at hl; omega
      have hz : ((f :: fs).zip (x :: xs)).reverse ++ acc = (fs.zip xs).reverse ++ ((f, x) :: acc) := by simp
      rw [hz] at k
      rcases hi with ⟨rfl, rfl⟩ | ⟨d, h2, h3, h4, h5, h6⟩
      · refine .inl ⟨h1, fun dx hd hda => ?_⟩
        refine ⟨a, C, [(f, x)], xs, H, hs0, T, fun g hg => hf g (List.mem_cons_of_mem _ hg), h1, hx', hs', hl', (fun z => nomatch z), .inr ⟨dx, hd, hda, upd_same, by rw [upd_ne hda]; exact upd_same, fun b hb hbd => by rw [upd_ne hb, upd_ne hbd]⟩, k⟩
      · refine .inr ⟨d, acc, h4, h5, by omega, ?_⟩
        refine ⟨a, C, (f, x) :: acc, xs, H1, hs0, T, fun g hg => hf g (List.mem_cons_of_mem _ hg), h1, hx', hs', hl', (fun z => nomatch z), .inr ⟨d, h2, h3, by rw [upd_ne (Ne.symm h3)]; exact h4, upd_same, fun b hb hbd => by rw [upd_ne hbd]; exact h6 b hb hbd⟩, k⟩
end
/-- what __init__ promises -/
def spI (K : Frag) (fs : List Str) : Sp := fun vs H Q _ => ∃ (a C : Addr) (xs : List V), vs = .ref a :: xs ∧ xs.length = fs.length ∧ OexC K C ∧ (∀ f ∈ fs, PySem.W.findIn K (.ref C) f = some none) ∧ H a = some (exo a C none) ∧
  ∀ d H', H d = none → d ≠ a → H' a = some (exo a C (some d)) → H' d = some (exd d (fs.zip xs).reverse) → (∀ b, b ≠ a → b ≠ d → H' b = H b) → Q .non H'
theorem ini_ok {P : Program} {w : World} {K : Frag} {mg : Mg} {base : Heap} {qual : Str} {st : Stmt} {f : Addr} {fd : FuncData} {fs : List Str} (F : Fun K "__init__" qual st f fd) (S : FnScope ("self" :: fs) ("self" :: fs) (defScope st)) (hne : fs ≠ []) (hl : fs.length ≤ 900)
    (hbody : ∀ (cdv : Value) (A : Around) (outer : List PySem.Env) (s : Shared) (H : Hp) (E : XK), PSs (cxOf (L2N.CX P w) P w K mg base ("self" :: fs) qual (defScope st) f cdv A outer s H E) (defBody st) (iniT K fs 1)) :
    FnOk P w K mg base (L2N.CX P w) 1 f fd ("self" :: fs) (spI K fs) :=
  F.okQ S (fun vs H Q E ⟨a, C, xs, e, hx, _⟩ => by rw [e]; simp [hx]) fun cdv A outer s H vs Q E hr ⟨a, C, xs, e, hx, T, hf, h1, k⟩ => by
    subst e
    refine ⟨_, hbody cdv A outer s H E, a, C, [], xs, H, rfl, T, hf, h1, hx, fun j x hj => ?_, by simpa using hl, fun _ => hne, .inl ⟨rfl, rfl⟩, fun d H' a1 a2 a3 a4 a5 => k d H' a1 a2 a3 (by simpa using a4) a5⟩
    have hjl : j < xs.length := by
      rcases Nat.lt_or_ge j xs.length with q | q
      · exact q
      · rw [List.getElem?_eq_none q] at hj; cases hj
    show (L2.start ("self" :: fs) (.ref a :: xs))[1 + j]? = _
    unfold L2.start
    rw [List.getElem?_append_left (by simp; omega), List.getElem?_map, show 1 + j = j + 1 by omega, List.getElem?_cons_succ, hj]
    rfl

/-! ### raise C(e, ..) -/
section
variable {X : Cx} {e : Expr} {es : List Expr} {ta : TA} {p pos : Pos}
/-- C(e, ..), made where nothing is handled: its context is None -/
theorem pmkN_oex {CX : CXT} {x : Str} {C fI : Addr} {k : Nat} {fd : FuncData} {ps : List Str} {sp : Sp} (T : OexC X.K C) (iC : PySem.W.findIn X.K (.ref C) "__init__" = some (some (.ref fI))) (tI : PySem.W.typeIn X.K (.ref fI) = some (.type "function"))
    (F1 : FnOk X.prog X.w X.K X.mg X.base CX k fI fd ps sp) (hr : Room (k + 1) X.A) (hb : Binds X.K fd ps []) (hx : Passes CX X (fun _ _ _ => False)) (hg : Gl X x) (hm : X.mg x = some (.ref C)) (ha : PA X (e :: es) ta)
    (hdb : (x == ("__debug__" : Str)) = false := by decide) (he : starEach (e :: es) X.env = (false, eval e X.env) :: starEach es X.env := by rfl) (hpl : (backTo pos (starEach es X.env)).any (·.1) = false := by rfl) :
    L2N.PMk X (.Call (.Name x p) (e :: es) [] pos) (tMkO C sp [] ta) := fun pins s σ H Q I h => by
  obtain ⟨nC, qC, NC, bC, mroC, e1, e2, e3, e4, e5, f0, f1, f2, f3, f5, look, mro⟩ := T.cls
  refine wpAny_Call_Name_kw (ld_glob I hg hm (PySem.W.callWith_K (h₀ := X.base) I.ok.mod.kin T.kC (thn (ha.run pos pins s σ H _ I h) fun ws sA ⟨zs, HA, IA, rA, small, next⟩ => ⟨IA.kIn, ?_⟩) he hpl) hdb)
  show wpAny _ _ (call (.ref C) ws) _ _ _
  obtain ⟨hA, gA, dA, kA, oA⟩ := sA
  have le1 : hA.objs.size ≤ hA.objs.size + 1 := Nat.le_succ _
  have goal1 := next (hA.objs.size + 1) (IA.hok.fresh le1)
  have stay : ∀ b o, hA.get? b = some o → ((hA.push (PySem.W.kdv_tup ws)).push (PySem.HandSPX.excO C hA.objs.size)).get? b = some o := fun b o z => Heap.get?_push_of_some _ (Heap.get?_push_of_some _ z)
  have J2 := IA.laid (t' := kA) (a := hA.objs.size + 1) (o := exo (hA.objs.size + 1) C none) (h' := (hA.push (PySem.W.kdv_tup ws)).push (PySem.HandSPX.excO C hA.objs.size)) stay le1 (exo_ok (by heap_get))
  have few : ws.length ≤ sizeLine := by have := rA.length; rw [sizeLine_eq]; omega
  rw [List.append_nil] at goal1
  have rl : Vals (V.ref (hA.objs.size + 1) :: zs) (Value.ref (hA.objs.size + 1) :: ws) := .cons rfl rA
  have len1 : (Value.ref (hA.objs.size + 1) :: ws ++ []).length = ps.length := by rw [List.append_nil]; exact rl.length.symm.trans (F1.len _ _ _ _ goal1)
  have bind1 := hb _ (Value.ref (hA.objs.size + 1) :: ws) J2.kIn len1
  rw [List.append_nil] at bind1
  have run1 := F1.run _ X.stack _ _ ⟨Value.ref (hA.objs.size + 1) :: ws, []⟩ (Value.ref (hA.objs.size + 1) :: ws) _ _ (fun _ _ _ => False) (hr.make C ws []) (J2.env0.make C ws []) bind1 rl goal1
  refine wpAny_call (PySem.HandSPX.call_own F.excBase_ValueError (fun Y => PySem.HandSPX.refsVE_contains Y mroC mro) (IA.kIn _ _ look) (PySem.W.looks_findIn IA.kIn iC) (fun self => PySem.W.bind_fn IA.kIn self tI) few (codeAny_mono run1 fun r sB hB => ?_))
  match r, hB with
  | .error er, hB => exact hx pins σ _ _ er sB J2 hB
  | .ok .next, hB => exact hB.elim
  | .ok .brk, hB => exact hB.elim
  | .ok .cont, hB => exact hB.elim
  | .ok (.ret u), ⟨v, HB, oB, bareB, unB, hokB, rv, ev, dd, flds, atA, atD, free, fin⟩ =>
    subst ev
    obtain ⟨hB, gB, dB, kB, oB'⟩ := sB
    obtain ⟨tA, G, J, keepG, noG, atE, naE⟩ := mk_end0 (d2 := dB) (t2 := kB) IA le1 stay unB hokB oB bareB atA atD free
    exact ⟨rv, hA.objs.size + 1, _, _, ⟨G, gB, dB, kB, oB'⟩, _, .ref C, some dd, rfl, J, keepG, noG, atE, ⟨rfl, rfl, fun ys hy => by cases hy; rfl⟩, rfl, rfl, naE, rfl, bareB, raises_own T.exC T.tyC, fin⟩
end

/-- a class of the program: with fields of its own __init__ | without one -/
structure XCls (P : Program) (w : World) (K : Frag) (mg : Mg) (base : Heap) (x : Str) (fs : List Str) : Prop where
  ex : ∃ C fI fd, mg x = some (.ref C) ∧ OexC K C ∧ (∀ f ∈ fs, PySem.W.findIn K (.ref C) f = some none) ∧ PySem.W.findIn K (.ref C) "__init__" = some (some (.ref fI)) ∧ PySem.W.typeIn K (.ref fI) = some (.type "function") ∧ Binds K fd ("self" :: fs) [] ∧ FnOk P w K mg base (L2N.CX P w) 1 fI fd ("self" :: fs) (spI K fs)
structure XCls0 (K : Frag) (mg : Mg) (x : Str) : Prop where
  ex : ∃ C, mg x = some (.ref C) ∧ PySem.W.excIn K C [.type "ValueError", .type "Exception", .type "BaseException", .type "object"] "ValueError.__new__" = true ∧ PySem.W.keepIn K (.ref C) = true ∧ PySem.W.subIn K (.ref C) (.type "BaseException") = some true ∧ PySem.W.typeIn K (.ref C) = some (.type "type")
def mRaise (x : Str) (fs : List Str) (ma : Env → Res (List D)) : Env → Out := fun ρ => (ma ρ).out fun ds => if ds.length = fs.length then .err ⟨x, (fs.zip ds).reverse⟩ else .stk
theorem look_put {β : Type} (f g : Str) (y : β) (fs : List (Str × β)) : ((f, y) :: fs).lookup g = if g = f then some y else fs.lookup g := by
  by_cases h : g = f
  · subst h; simp [List.lookup]
  · have e : (g == f) = false := by simpa using h
    rw [if_neg h]; simp [List.lookup, e]
theorem zip_look {K : Frag} {F : Hp} : ∀ {fs : List Str} {vs : List V} {ds : List D} {acc : List (Str × V)} {acd : List (Str × D)}, RpA K F vs ds → (∀ f d, acd.lookup f = some d → ∃ v, acc.lookup f = some v ∧ Rp K F v d) → ∀ f d, ((fs.zip ds).reverse ++ acd).lookup f = some d → ∃ v, ((fs.zip vs).reverse ++ acc).lookup f = some v ∧ Rp K F v d
  | [], vs, ds, acc, acd, _, h, f, d, e => by simpa using h f d (by simpa using e)
  | g :: fs, _, _, acc, acd, .nil, h, f, d, e => by simpa using h f d (by simpa using e)
  | g :: fs, _, _, acc, acd, .cons (v := v) (vs := vs) (d := d0) (ds := ds) r rs, h, f, d, e => by
    have := zip_look (fs := fs) (acc := (g, v) :: acc) (acd := (g, d0) :: acd) rs (fun f d e => by
      rw [look_put] at e ⊢
      by_cases z : f = g
      · rw [if_pos z] at e ⊢
        cases e
        exact ⟨v, rfl, r⟩
      · rw [if_neg z] at e ⊢
        exact h f d e) f d (by simpa using e)
    simpa using this
theorem passQ {X : Cx} : Passes (L2N.CX X.prog X.w) X (fun _ _ _ => False) := fun _ _ _ _ _ _ _ h => by obtain ⟨_, _, _, _, _, _, _, _, _, _, _, _, z⟩ := h; exact z.elim
section
variable {X : Cx} {κ : Nat → Kd} {E : EX} {es : List Expr} {e : Expr} {pos pos2 p : Pos} {x : Str}
theorem ds_raise {fs : List Str} {ma : Env → Res (List D)} {n : Nat} (T : XCls X.prog X.w X.K X.mg X.base x fs) (hc : X.calm = true) (tk : L2N.Takes X (fun cls d σ H => E.err σ cls d H)) (hr : Room n X.A) (hn : 2 ≤ n) (hg : Gl X x) (ha : DA X κ E (e :: es) ma) (hz : fs.length ≤ 900)
    (hdb : (x == ("__debug__" : Str)) = false := by decide) (he : starEach (e :: es) X.env = (false, eval e X.env) :: starEach es X.env := by rfl) (hpl : (backTo pos (starEach es X.env)).any (·.1) = false := by rfl) :
    DS X κ E (.Raise (some (.Call (.Name x p) (e :: es) [] pos)) none pos2) (mRaise x fs ma) := by
  obtain ⟨C, fI, fd, hm, hC, hf, iC, tI, hb, F1⟩ := T.ex
  refine (L2N.ps_raise hc tk (pmkN_oex hC iC tI F1 (hr.mono hn) hb passQ hg hm ha hdb he hpl)).imp fun Dn σ H ⟨F0, H0, F, ρ, S, k⟩ => ⟨F0, H0, F, ρ, S, Res.sat_imp (out_sat k) (fun ds _ k vs F' H' x' r => ?_) fun x z => err_back S z⟩
  by_cases hl : ds.length = fs.length
  · simp only [if_pos hl] at k
    have hv : vs.length = fs.length := r.length.trans hl
    refine ⟨by omega, fun a na => ⟨a, C, vs, by simp, hv, hC, hf, upd_same, fun d H2 h1 h2 h3 h4 h5 => ⟨rfl, d, (fs.zip vs).reverse, h3, h4, by rw [upd_ne h2] at h1; exact h1, ?_⟩⟩⟩
    have hnd : H' d = none := by rw [upd_ne h2] at h1; exact h1
    have e2 : upd (del H2 a) d (.xd (fs.zip vs).reverse) = upd H' d (.xd (fs.zip vs).reverse) := by
      funext b
      by_cases z : b = d
      · rw [z, upd_same, upd_same]
      · rw [upd_ne z, upd_ne z]
        by_cases z2 : b = a
        · rw [z2, del_same, na]
        · rw [del_ne z2, h5 b z2 z, upd_ne z2]
    rw [e2]
    have x2 : Ext F' H' (upd F' d (.xd (fs.zip vs).reverse)) (upd H' d (.xd (fs.zip vs).reverse)) := Ext.new x'.s hnd
    refine (k σ) _ _ (.ref C) (some d) (S.ext.trans (x'.trans x2)) ⟨C, hm, rfl, .inr ⟨d, _, rfl, upd_same, fun f dd hd => ?_⟩⟩
    have := zip_look (fs := fs) (acc := []) (acd := []) (r.mono x2.f) (fun f d h => by cases h) f dd (by simpa using hd)
    simpa using this
  · simp only [if_neg hl] at k
    exact k.elim
/-- C() -/
theorem pmk_own0 {C : Addr} (q : PySem.W.excIn X.K C [.type "ValueError", .type "Exception", .type "BaseException", .type "object"] "ValueError.__new__" = true) (gC : X.mg x = some (.ref C)) (kC : PySem.W.keepIn X.K (.ref C) = true) (r : Raises X (.ref C)) (hg : Gl X x)
    (hdb : (x == ("__debug__" : Str)) = false := by decide) : L2N.PMk X (.Call (.Name x p) [] [] pos) (fun _ H Q => Q (.ref C) none H) := fun pins s σ H Q I h => by
  refine wpAny_Call_Name_kw (ld_glob I hg gC (PySem.W.callWith_K0 I.kIn kC ?_) hdb)
  obtain ⟨bm, N, nm, qn, bs, hdct, sn, sub, ab, col, dd, k0, k1, k2, k3, k5, mN, hC, hN, hni, T⟩ := exc_obj I.kIn q
  exact wpAny_call_exc_subT F.excBase_ValueError T hC hN hni (fun h' e hm => L2N.mk_of I hm r h (I.hok.gone hm.new)) (Nat.zero_le _)
theorem ds_raise0 (T : XCls0 X.K X.mg x) (hc : X.calm = true) (tk : L2N.Takes X (fun cls d σ H => E.err σ cls d H)) (hg : Gl X x) (hdb : (x == ("__debug__" : Str)) = false := by decide) :
    DS X κ E (.Raise (some (.Call (.Name x p) [] [] pos)) none pos2) (fun _ => .err ⟨x, []⟩) := by
  obtain ⟨C, hm, q, kC, h1, h2⟩ := T.ex
  exact (L2N.ps_raise hc tk (pmk_own0 q hm kC (raises_own h1 h2) hg hdb)).imp fun Dn σ H ⟨F0, H0, F, ρ, S, k⟩ => k σ F H (.ref C) none S.ext ⟨C, hm, rfl, .inl ⟨rfl, rfl⟩⟩
end
end WD

/-! try with several clauses that name what they catch -/
namespace WD
open PySem PySem.Spec PyProof.Rows L2
open Evl (Ex Ex.refl Ex.trans Ex.new Ex.mut ex_l ex_t fresh_back)
abbrev Sui := Addr → Value → Option Addr → TS
/-- behind a suite its name is gone -/
def endN (D : Ends) (i : Nat) : Ends := ⟨fun σ' H' => D.nx (σ'.set i none) H', D.rt, fun σ' H' => D.bk (σ'.set i none) H', fun σ' H' => D.ct (σ'.set i none) H'⟩
def wHs (K : Frag) (Wout : WX) (D : Ends) : List (Value × Nat × Sui) → WX
  | [] => Wout
  | h :: r => fun cls d σ H => ∃ b, PySem.W.exmOne K cls h.1 = some b ∧ (b = true → ∀ a, H a = none → h.2.2 a cls d (endN D h.2.1) (σ.set h.2.1 (some (.ref a))) H) ∧ (b = false → wHs K Wout D r cls d σ H)
inductive HdsN (X : Cx) : List ExceptHandler → List (Value × Nat × Sui) → Prop
  | nil : HdsN X [] []
  | cons {x n : Str} {c : Value} {i : Nat} {ts : Sui} {b0 : Stmt} {suite : List Stmt} {np hp : Pos} {hds : List ExceptHandler} {l : List (Value × Nat × Sui)} (hi : X.N[i]? = some n) (hl : X.env.kindOf n = some .local) (hc : Names X x c)
      (hsu : ∀ (a : Addr) (oe : Obj) (cls : Value) (d : Option Addr) (pn : List (Addr × Obj)), Zc cls d oe → (∃ vs, oe.data = .fields vs) → PSs (X.suite a ((a, oe) :: pn)) (b0 :: suite) (ts a cls d)) (r : HdsN X hds l) : HdsN X (.ExceptHandler (some (.Name x np)) (some n) (b0 :: suite) hp :: hds) ((c, i, ts) :: l)
section
variable {X : Cx}
theorem not_framed {h : Heap} {B : Heap} {l : List PySem.Env} {a : Addr} {o : Obj} {vs : Array Value} (ff : h.FunFrames B l) (e : h.get? a = some o) (dd : o.data = .fields vs) : a ∉ frs l := fun hm => by
  obtain ⟨_, o2, e2, hnf⟩ := ff.mem hm
  rw [e] at e2
  cases e2
  exact hnf _ dd
theorem try_walk {body : List Stmt} {h0 : ExceptHandler} {hds : List ExceptHandler} {l : List (Value × Nat × Sui)} {pos : Pos} {tb : WX → TS} {Wout : WX} (hs : X.stack = X.env :: X.outer) (hf : X.env.frame = some X.env.locals) (hN : X.N.Nodup) (tk : L2N.Takes X Wout)
    (hb : ∀ (W : WX) (pn : List (Addr × Obj)) (xe : Value → Shared → Prop), L2N.Takes (X.tr pn xe) W → PSs (X.tr pn xe) body (tb W)) (hh : HdsN X (h0 :: hds) l) : PS X (.Try body (h0 :: hds) [] [] pos) (fun D σ H => tb (wHs X.K Wout D l) D σ H) := ⟨fun pins s σ H D I h => by
  have ok := I.ok
  have hfr : X.A.frames = some (X.env :: X.outer) := (congrArg some hs).symm ▸ ok.frames
  refine wpAny_Try_except (wpAny_mono ((hb (wHs X.K Wout D l) (X.pn ++ pins) (fun e s1 => wpAny (model X.prog X.w) X.A (noteFrame e X.env) (fun _ s2 => wpAny (model X.prog X.w) X.A (setFlight e none) (fun _ s3 => wpAny (model X.prog X.w) X.A (handleBy e X.env (h0 :: hds)) (SP X pins D) X.xe s3) X.xe s2) X.xe s1) (fun u s' xx => ?_)).run [] s σ H D (I.toTry _) h) (fun fl s1 q => ?_) fun _ _ he => he)
  · obtain ⟨a, B, sI, pins', σ', H', cls, d, rfl, J', nb, up, sky, na, os, ag, w⟩ := xx
    have J : Inv X pins σ' H' sI := J'.ofTry ok
    refine L2N.Sky.land L2N.Zn.steady hfr hf (show Sky B (X.env :: X.outer) a (L2N.Zn cls d) X.env.locals s'.heap from hs ▸ sky) fun h3 fl3 up3 => ?_
    have J3 : Inv X pins σ' H' { s' with heap := h3 } := J.landed nb fl3.1 (up.trans up3) os ag
    obtain ⟨o3, vs3, he3, hz3, hd3⟩ := fl3.there
    have nfr := not_framed fl3.2.2.1 he3 hd3
    have nL : a ≠ X.env.locals := fun z => nfr (List.mem_filterMap.mpr ⟨X.env, List.mem_cons_self, hf.trans (congrArg some z.symm)⟩)
    have nF : a ∉ X.fs := fun hm => let ⟨e, he, q⟩ := List.mem_filterMap.mp hm; nfr (List.mem_filterMap.mpr ⟨e, List.mem_cons_of_mem _ he, q⟩)
    have S3 := J3.suite he3 hd3 na nL nF
    have LT : PySem.W.Looks (model X.prog X.w) h3 (typeOf (.ref a)) cls := fun _ _ _ _ k q => wpAny_typeOf_ref (k _ _ he3) (hz3.1.symm ▸ q)
    have go : ∀ {ds : List ExceptHandler} {m : List (Value × Nat × Sui)}, HdsN X ds m → wHs X.K Wout D m cls d σ' H' → wpAny (model X.prog X.w) X.A (handleBy (.ref a) X.env ds) (SP X pins D) X.xe { s' with heap := h3 } := by
      intro ds m hk
      induction hk with
      | nil =>
        refine fun w => wpAny_handleBy_nil ?_
        obtain ⟨_, _, _, oe, vs, T, oT, ts', he, hz, hd, h1, hr⟩ := id fl3
        unfold PySem.passOn
        refine wpAny_bind (wpAny_field he hd h1 ?_)
        rw [if_neg (show ¬ ((Value.ref T == Value.none) = true) by simp)]
        have fin : wpAny (model X.prog X.w) X.A (setFlight (.ref a) X.env.frame) (fun _ s4 => wpAny (model X.prog X.w) X.A (throw (.ref a) : Sem Flow) (SP X pins D) X.xe s4) X.xe { s' with heap := h3 } := by
          rw [hf]
          exact HandSPX.setFlight_upZ fl3 fun h4 hh4 up4 => wpAny_throw (tk _ _ ⟨a, B, sI, pins, σ', H', cls, d, rfl, J, nb, (up.trans up3).trans up4, .inr (.inr (hs.symm ▸ hh4)), na, os, ag, w⟩)
        first | exact wpAny_bind (wpAny_pure (wpAny_bind fin)) | exact wpAny_bind fin
      | @cons x n c i ts b0 suite np hp hds2 l2 hi hl hc hsu r ih =>
        rintro ⟨b, hb1, hyes, hno⟩
        have LM := PySem.W.exm_one (M := model X.prog X.w) (J3.kIn) LT hb1
        have test : ∀ {Q : Value → Shared → Prop} {E : Value → Shared → Prop}, Q c { s' with heap := h3 } → wpAny (model X.prog X.w) (X.A.mark (some (.ref a))) (eval (.Name x np) X.env) Q E { s' with heap := h3 } := fun {Q E} q => by
          obtain ⟨hg, hdbg, hm | ⟨hm, hv, hnn⟩⟩ := hc
          · exact ld_glob (X := X.suite a ((a, o3) :: (X.pn ++ pins))) S3 hg hm q hdbg
          · exact ld_blt (X := X.suite a ((a, o3) :: (X.pn ++ pins))) S3 hg hm hv q hnn hdbg
        refine wpAny_handleBy_cons (codeAny_handlers_test (test (LM.here ?_))) fun q => nomatch q
        cases b with
        | false => exact ih (hno rfl)
        | true =>
          refine codeAny_handlers_suite_as (HandSPX.lands_againZ fl3 fun h4 fl4 up4 => ?_)
          have J4 : Inv X pins σ' H' { s' with heap := h4 } := J.landed nb fl4.1 ((up.trans up3).trans up4) os ag
          obtain ⟨o4, vs4, he4, hz4, hd4⟩ := fl4.there
          refine store_ok (X := X.suite a ((a, o4) :: (X.pn ++ pins))) (v := .ref a) (J4.suite he4 hd4 na nL nF) hN hi (.inl hl) rfl (fun s5 S5 => ?_) (.inr hl)
          refine wpAny_mono ((hsu a o4 cls d (X.pn ++ pins) hz4.zc ⟨_, hd4⟩).run [] s5 _ H' _ S5 (hyes rfl a na)) (fun f s6 q => ?_) fun _ _ z => z.elim
          have fin : ∀ {σ6 : L2.St} {H6 : Hp} {Q : Shared → Prop}, Inv (X.suite a ((a, o4) :: (X.pn ++ pins))) [] σ6 H6 s6 → (∀ s7, Inv X pins (σ6.set i none) H6 s7 → Q s7) → wpAny (model X.prog X.w) X.A (do bindName X.env n .none; unbindBehindTheSuite X.env n hp) (fun _ s7 => Q s7) X.xe s6 :=
            fun S6 hq => gone_ok (S6.unsuite ok) hN hi hl hq
          cases f with
          | next => obtain ⟨σ6, H6, S6, q6⟩ := q; exact fin S6 fun s7 J7 => ⟨_, _, J7, q6⟩
          | brk => obtain ⟨σ6, H6, S6, q6⟩ := q; exact fin S6 fun s7 J7 => ⟨_, _, J7, q6⟩
          | cont => obtain ⟨σ6, H6, S6, q6⟩ := q; exact fin S6 fun s7 J7 => ⟨_, _, J7, q6⟩
          | ret u => obtain ⟨v6, σ6, H6, S6, r6, q6⟩ := q; exact fin S6 fun s7 J7 => ⟨_, _, _, J7, r6, q6⟩
    exact go hh w
  · cases fl with
    | next => obtain ⟨σ', H', J', q⟩ := q; exact wpAny_execs_nil ⟨σ', H', J'.ofTry ok, q⟩
    | brk => obtain ⟨σ', H', J', q⟩ := q; exact ⟨σ', H', J'.ofTry ok, q⟩
    | cont => obtain ⟨σ', H', J', q⟩ := q; exact ⟨σ', H', J'.ofTry ok, q⟩
    | ret u => obtain ⟨v, σ', H', J', r, q⟩ := q; exact ⟨v, σ', H', J'.ofTry ok, r, q⟩⟩
end

/-! ### the data layer's try: one statement, an expression of which may raise -/
/-- slot i holds a caught exception -/
def kdX (κ : Nat → Kd) (i : Nat) (a : Addr) (d : Option Addr) : Nat → Kd := fun j => if j = i then .xn a d else κ j
def mXf (i : Nat) (f : Str) : Env → Res D := fun ρ => match (ρ[i]?).join with
  | some (.dict kvs) => ofO ((kvs.find? fun p => match p.1 with | .str x => x == f | _ => false).map (·.2))
  | _ => .stk
theorem xd_find (l : List (Str × D)) (f : Str) : ((l.map fun p => (PyData.str p.1, p.2)).find? fun p => match p.1 with | .str x => x == f | _ => false).map (·.2) = l.lookup f := by
  induction l with
  | nil => rfl
  | cons p l ih =>
    obtain ⟨g, d⟩ := p
    rw [List.map_cons, List.find?_cons, look_put]
    by_cases h : f = g
    · subst h; simp
    · have e : (g == f) = false := beq_eq_false_iff_ne.mpr fun z => h z.symm
      rw [if_neg h]
      simp only [e]
      exact ih
/-- the suites: the class that is caught, the mirror by the exception's class -/
abbrev Tbl := Str → Str → Option Bool
structure Sut where
  cls : Str
  slot : Nat
  m : Str → Env → Out
def hndl (tb : Tbl) : List Sut → Exn → Env → Out
  | [], x, _ => .err x
  | s :: r, x, ρ => match tb x.cls s.cls with
    | none => .stk
    | some true => (match s.m x.cls (ρ.set s.slot (some (xD x.fs))) with
      | .nx ρ' => .nx (ρ'.set s.slot none)
      | .bk ρ' => .bk (ρ'.set s.slot none)
      | .ct ρ' => .ct (ρ'.set s.slot none)
      | .rt d => .rt d
      | _ => .stk)
    | some false => hndl tb r x ρ
def mTry (tb : Tbl) (m : Env → Res D) (fin : D → Env → Out) (hs : List Sut) : Env → Out := fun ρ => match m ρ with
  | .ok d => fin d ρ
  | .err x => hndl tb hs x ρ
  | .stk => .stk
/-- how the table speaks of the classes -/
def TblOk (K : Frag) (mg : Mg) (tb : Tbl) : Prop := ∀ x c b, tb x c = some b → ∀ C, mg x = some (.ref C) → ∃ cv, mg c = some cv ∧ PySem.W.exmOne K (.ref C) cv = some b
section
variable {X : Cx} {κ : Nat → Kd} {E : EX}
inductive HdsD (X : Cx) (κ : Nat → Kd) (E : EX) : List ExceptHandler → List Sut → Prop
  | nil : HdsD X κ E [] []
  | cons {x n : Str} {i : Nat} {m : Str → Env → Out} {b0 : Stmt} {suite : List Stmt} {np hp : Pos} {hds : List ExceptHandler} {l : List Sut} (hk : κ i = .im) (hi : X.N[i]? = some n) (hl : X.env.kindOf n = some .local) (hg : Gl X x) (hdb : (x == ("__debug__" : Str)) = false)
      (hsu : ∀ (a : Addr) (oe : Obj) (C : Addr) (cn : Str) (d : Option Addr) (pn : List (Addr × Obj)), X.mg cn = some (.ref C) → Zc (.ref C) d oe → (∃ vs, oe.data = .fields vs) → DSs (X.suite a ((a, oe) :: pn)) (kdX κ i a d) ⟨EX0.err, E.ret⟩ (b0 :: suite) (m cn)) (r : HdsD X κ E hds l) :
      HdsD X κ E (.ExceptHandler (some (.Name x np)) (some n) (b0 :: suite) hp :: hds) (⟨x, i, m⟩ :: l)
theorem Stt.enter {K : Frag} {F0 H0 F H : Hp} {σ : L2.St} {ρ : Env} (S : Stt K κ F0 H0 F H σ ρ) {i : Nat} {a : Addr} {d : Option Addr} (hk : κ i = .im) {l : List (Str × D)} (hx : XnOk K F d l) : Stt K (kdX κ i a d) F0 H0 F H (σ.set i (some (.ref a))) (ρ.set i (some (xD l))) := by
  have e1 : kdX κ i a d i = .xn a d := if_pos rfl
  have e2 : ∀ j, j ≠ i → kdX κ i a d j = κ j := fun j h => if_neg h
  refine ⟨S.ex0, S.h0, S.o0, S.sub, S.nf, by rw [List.length_set, List.length_set, S.len], fun j e h => ?_, fun j l' b dj dl u w hn hj hl ej el oj ol => ?_⟩
  · rw [List.getElem?_set] at h ⊢
    by_cases q : i = j
    · rw [if_pos q] at h ⊢
      subst q
      by_cases z : i < ρ.length
      · rw [if_pos z] at h
        rw [if_pos (by rw [S.len]; exact z)]
        cases h
        exact ⟨_, rfl, by rw [e1]; exact ⟨rfl, l, rfl, hx⟩⟩
      · rw [if_neg z] at h; cases h
    · rw [if_neg q] at h ⊢
      rw [e2 j (Ne.symm q)]
      exact S.slot j e h
  · have nj : i ≠ j := fun z => by rw [← z, e1] at oj; exact oj
    have nl : i ≠ l' := fun z => by rw [← z, e1] at ol; exact ol
    rw [e2 j (Ne.symm nj)] at oj
    rw [e2 l' (Ne.symm nl)] at ol
    rw [List.getElem?_set_ne nj] at hj ej
    rw [List.getElem?_set_ne nl] at hl el
    exact S.sep j l' b dj dl u w hn hj hl ej el oj ol
theorem Stt.leave {K : Frag} {F0 H0 F H : Hp} {σ : L2.St} {ρ : Env} {i : Nat} {a : Addr} {d : Option Addr} (S : Stt K (kdX κ i a d) F0 H0 F H σ ρ) : Stt K κ F0 H0 F H (σ.set i none) (ρ.set i none) := by
  have e2 : ∀ j, j ≠ i → kdX κ i a d j = κ j := fun j h => if_neg h
  have out : ∀ {j : Nat} {e : D}, (ρ.set i none)[j]? = some (some e) → j ≠ i ∧ ρ[j]? = some (some e) := fun {j e} h => by
    rw [List.getElem?_set] at h
    by_cases q : i = j
    · rw [if_pos q] at h
      split at h <;> cases h
    · rw [if_neg q] at h
      exact ⟨Ne.symm q, h⟩
  refine ⟨S.ex0, S.h0, S.o0, S.sub, S.nf, by rw [List.length_set, List.length_set, S.len], fun j e h => ?_, fun j l' b dj dl u w hn hj hl ej el oj ol => ?_⟩
  · obtain ⟨q, h⟩ := out h
    rw [List.getElem?_set_ne (Ne.symm q), ← e2 j q]
    exact S.slot j e h
  · obtain ⟨qj, hj⟩ := out hj
    obtain ⟨ql, hl⟩ := out hl
    rw [List.getElem?_set_ne (Ne.symm qj)] at ej
    rw [List.getElem?_set_ne (Ne.symm ql)] at el
    rw [← e2 j qj] at oj
    rw [← e2 l' ql] at ol
    exact S.sep j l' b dj dl u w hn hj hl ej el oj ol
theorem ExRep.xn {mg : Mg} {K : Frag} {F H : Hp} {x : Exn} {cls : Value} {d : Option Addr} (h : ExRep mg K F H x cls d) : XnOk K F d x.fs := by
  obtain ⟨C, _, _, ⟨e1, e2⟩ | ⟨a, fs, e1, e2, e3⟩⟩ := h
  · subst e2; exact e1
  · subst e1; exact ⟨fs, e2, e3⟩
/-- the suites, over plain data, keep what is asked of the exception -/
theorem hds_of {hds : List ExceptHandler} {l : List Sut} (h : HdsD X κ E hds l) {tb : Tbl} (ht : TblOk X.K X.mg tb) :
    ∃ l' : List (Value × Nat × Sui), (l ≠ [] → ∀ n ∈ l, ∃ cv, X.mg n.cls = some cv) → HdsN X hds l' ∧
      ∀ (Dn : Ends) (F0 H0 F H : Hp) (σ : L2.St) (ρ : Env) (x : Exn) (cls : Value) (d : Option Addr), Stt X.K κ F0 H0 F H σ ρ → ExRep X.mg X.K F H x cls d → OutOk X.mg X.K κ E F0 H0 F H Dn (hndl tb l x ρ) →
        wHs X.K (fun cls d σ H => E.err σ cls d H) Dn l' cls d σ H := by
  induction h with
  | nil => exact ⟨[], fun _ => ⟨.nil, fun Dn F0 H0 F H σ ρ x cls d S r k => (show ∀ σ, ErrOk X.mg X.K (E.err σ) F0 H0 x from k) σ F H cls d S.ext r⟩⟩
  | @cons x n i m b0 suite np hp hds l hk hi hl hg hdb hsu r ih =>
    obtain ⟨l', ih⟩ := ih
    cases hcv : X.mg x with
    | none => exact ⟨[], fun z => by obtain ⟨cv, e⟩ := z (by simp) ⟨x, i, m⟩ (by simp); rw [hcv] at e; cases e⟩
    | some cv =>
      refine ⟨(cv, i, fun a cls d => fun D σ H => ∃ C cn, cls = .ref C ∧ X.mg cn = some (.ref C) ∧ rdS X.mg X.K (kdX κ i a d) ⟨EX0.err, E.ret⟩ (m cn) D σ H) :: l', fun z => ?_⟩
      obtain ⟨h1, h2⟩ := ih fun _ n hn => z (by simp) n (by simp [hn])
      refine ⟨.cons hi hl ⟨hg, hdb, .inl hcv⟩ (fun a oe cls d pn hz hf => ⟨fun pins s σ H D I ⟨C, cn, e1, e2, k⟩ => by subst e1; exact (hsu a oe C cn d pn e2 hz hf).run pins s σ H D I k⟩) h1, fun Dn F0 H0 F H σ ρ y cls d S rep k => ?_⟩
      have hx := rep.xn
      obtain ⟨C, e1, e2, _⟩ := id rep
      unfold hndl at k
      cases htb : tb y.cls x with
      | none => simp only [htb] at k; exact k.elim
      | some b =>
        obtain ⟨cv', e3, e4⟩ := ht _ _ _ htb C e1
        rw [hcv] at e3
        cases e3
        refine ⟨b, by rw [e2]; exact e4, fun hb a na => ?_, fun hb => ?_⟩
        · subst hb
          simp only [htb] at k
          refine ⟨C, y.cls, e2, e1, F0, H0, F, _, S.enter hk hx, ?_⟩
          generalize m y.cls (ρ.set i (some (xD y.fs))) = o at k ⊢
          cases o with
          | nx ρ' => exact fun σ' F' H' x' S' => k _ F' H' x' S'.leave
          | bk ρ' => exact fun σ' F' H' x' S' => k _ F' H' x' S'.leave
          | ct ρ' => exact fun σ' F' H' x' S' => k _ F' H' x' S'.leave
          | rt d => exact k
          | err x => exact k.elim
          | stk => exact k.elim
        · subst hb
          simp only [htb] at k
          exact h2 Dn F0 H0 F H σ ρ y cls d S rep k
theorem ds_tryG {st : Stmt} {h0 : ExceptHandler} {hds : List ExceptHandler} {l : List Sut} {pos : Pos} {tb : Tbl} {me : Env → Res D} {mfin : D → Env → Out} {fin : Ends → V → L2.St → Hp → Prop}
    (hb : ∀ (W : WX) (pn : List (Addr × Obj)) (xe : Value → Shared → Prop), L2N.Takes (X.tr pn xe) W → PSs (X.tr pn xe) [st] (fun D σ H => rdE X.mg X.K κ ⟨WE W, E.ret⟩ me σ H fun v H' => fin D v σ H'))
    (hfin : ∀ (Dn : Ends) (F0 H0 F H : Hp) (σ : L2.St) (ρ : Env) (v : V) (d : D), Stt X.K κ F0 H0 F H σ ρ → Rp X.K F v d → OutOk X.mg X.K κ E F0 H0 F H Dn (mfin d ρ) → fin Dn v σ H)
    (hd : HdsD X κ E (h0 :: hds) l) (ht : TblOk X.K X.mg tb) (hcl : ∀ n ∈ l, ∃ cv, X.mg n.cls = some cv) (hN : X.N.Nodup) (tk : L2N.Takes X (fun cls d σ H => E.err σ cls d H)) (hs : X.stack = X.env :: X.outer := by rfl) (hf : X.env.frame = some X.env.locals := by rfl) :
    DS X κ E (.Try [st] (h0 :: hds) [] [] pos) (mTry tb me mfin l) := by
  obtain ⟨l', h⟩ := hds_of hd ht
  obtain ⟨h1, h2⟩ := h fun _ => hcl
  refine (try_walk hs hf hN tk hb h1).imp fun Dn σ H ⟨F0, H0, F, ρ, S, k⟩ => ⟨F0, H0, F, ρ, S, ?_⟩
  unfold mTry at k
  cases q : me ρ with
  | ok d =>
    simp only [q] at k
    exact fun v F' H' x r => hfin Dn F0 H0 F' H' σ ρ v d (S.mono x) r (OutOk.mono (H := H) x.f k)
  | err y =>
    simp only [q] at k
    exact fun F' H' c dd x rep => h2 Dn F0 H0 F' H' σ ρ y c dd (S.mono x) rep (OutOk.mono (H := H) x.f k)
  | stk => simp only [q] at k; exact k.elim
/-- try: x = e -/
theorem ds_tryA {e : Expr} {x : Str} {i : Nat} {px ps : Pos} {h0 : ExceptHandler} {hds : List ExceptHandler} {l : List Sut} {pos : Pos} {tb : Tbl} {me : Env → Res D} (hk : κ i = .im) (hi : X.N[i]? = some x) (hx : Loc X.env.scope x) (he : ∀ (W : WX) (pn : List (Addr × Obj)) (xe : Value → Shared → Prop), L2N.Takes (X.tr pn xe) W → DE (X.tr pn xe) κ ⟨WE W, E.ret⟩ e me)
    (hd : HdsD X κ E (h0 :: hds) l) (ht : TblOk X.K X.mg tb) (hcl : ∀ n ∈ l, ∃ cv, X.mg n.cls = some cv) (hN : X.N.Nodup) (tk : L2N.Takes X (fun cls d σ H => E.err σ cls d H)) (hs : swapsWith e (some (.Name x px)) ps.line X.env = pure false := by rfl)
    (hf : X.fn x = true ∨ X.env.scope.names.lookup x = some .local := by first | exact .inl rfl | exact .inr rfl | assumption) (hst : X.stack = X.env :: X.outer := by rfl) (hfr : X.env.frame = some X.env.locals := by rfl) :
    DS X κ E (.Try [.Assign [.Name x px] e ps] (h0 :: hds) [] [] pos) (mTry tb me (fun d ρ => .nx (ρ.set i (some d))) l) :=
  ds_tryG (fin := fun D v σ H => D.nx (σ.set i (some v)) H) (fun W pn xe tk => pss_one (ps_set (i := i) (X := X.tr pn xe) hN hi hx (he W pn xe tk) hs hf)) (fun Dn F0 H0 F H σ ρ v d S r k => k _ F H (Ex.refl F) (S.set hk r)) hd ht hcl hN tk hst hfr
/-- try: return e -/
theorem ds_tryR {e : Expr} {ps : Pos} {h0 : ExceptHandler} {hds : List ExceptHandler} {l : List Sut} {pos : Pos} {tb : Tbl} {me : Env → Res D} (he : ∀ (W : WX) (pn : List (Addr × Obj)) (xe : Value → Shared → Prop), L2N.Takes (X.tr pn xe) W → DE (X.tr pn xe) κ ⟨WE W, E.ret⟩ e me)
    (hd : HdsD X κ E (h0 :: hds) l) (ht : TblOk X.K X.mg tb) (hcl : ∀ n ∈ l, ∃ cv, X.mg n.cls = some cv) (hN : X.N.Nodup) (tk : L2N.Takes X (fun cls d σ H => E.err σ cls d H)) (hR : ∀ H0 d v F H, Rp X.K F v d → E.ret H0 d v F H := by exact fun _ _ _ _ _ h => h) (hst : X.stack = X.env :: X.outer := by rfl) (hfr : X.env.frame = some X.env.locals := by rfl) :
    DS X κ E (.Try [.Return (some e) ps] (h0 :: hds) [] [] pos) (mTry tb me (fun d _ => .rt d) l) :=
  ds_tryG (fin := fun D v _ H => D.rt v H) (fun W pn xe tk => pss_one (ps_ret (he W pn xe tk))) (fun Dn F0 H0 F H σ ρ v d S r k => k v F H S.ext (hR _ _ _ _ _ r)) hd ht hcl hN tk hst hfr
/-- try: e -/
theorem ds_tryE {e : Expr} {ps : Pos} {h0 : ExceptHandler} {hds : List ExceptHandler} {l : List Sut} {pos : Pos} {tb : Tbl} {me : Env → Res D} (he : ∀ (W : WX) (pn : List (Addr × Obj)) (xe : Value → Shared → Prop), L2N.Takes (X.tr pn xe) W → DE (X.tr pn xe) κ ⟨WE W, E.ret⟩ e me)
    (hd : HdsD X κ E (h0 :: hds) l) (ht : TblOk X.K X.mg tb) (hcl : ∀ n ∈ l, ∃ cv, X.mg n.cls = some cv) (hN : X.N.Nodup) (tk : L2N.Takes X (fun cls d σ H => E.err σ cls d H)) (hs : swapsWith e none ps.line X.env = pure false := by rfl) (hst : X.stack = X.env :: X.outer := by rfl) (hfr : X.env.frame = some X.env.locals := by rfl) :
    DS X κ E (.Try [.Expr e ps] (h0 :: hds) [] [] pos) (mTry tb me (fun _ ρ => .nx ρ) l) :=
  ds_tryG (fin := fun D _ σ H => D.nx σ H) (fun W pn xe tk => pss_one (ps_expr (he W pn xe tk) hs)) (fun Dn F0 H0 F H σ ρ v d S r k => k _ F H (Ex.refl F) S) hd ht hcl hN tk hst hfr

/-! ### in a suite: e.f, isinstance(e, C) -/
/-- what the written part says of every class that is caught -/
def XfOk (K : Frag) (mg : Mg) (cs : List Str) (fs : List Str) : Prop := ∀ x ∈ cs, ∀ C, mg x = some (.ref C) → XfC K C ∧ ∀ f ∈ fs, PySem.W.findIn K (.ref C) f = some none
theorem de_xf {a : Addr} {oe : Obj} {C : Addr} {cn : Str} {d : Option Addr} {pn : List (Addr × Obj)} {i : Nat} {n f : Str} {p pos : Pos} {cs fs : List Str} {κ' : Nat → Kd} (T : XfOk X.K X.mg cs fs) (hm : X.mg cn = some (.ref C)) (hz : Zc (.ref C) d oe) (hf : ∃ vs, oe.data = .fields vs)
    (hk : κ' i = .xn a d) (hN : X.N[i]? = some n) (hv : Vis X.env.scope n) (hff : fs.contains f = true) (hdb : (n == ("__debug__" : Str)) = false := by decide) (hcd : (n == ("__classdict__" : Str)) = false := by decide)
    (hb : attributeBase (.Name n p) f X.env (eval (.Name n p) X.env) = eval (.Name n p) X.env := by rfl) :
    DE (X.suite a ((a, oe) :: pn)) κ' E (.Attribute (.Name n p) f pos) (fun ρ => if cs.contains cn = true then mXf i f ρ else .stk) := by
  by_cases hc : cs.contains cn = true
  · obtain ⟨xf, hno⟩ := T cn (by simpa using hc) C hm
    refine (pe_xf xf (hno f (by simpa using hff)) hz hf (pe_var (X := X.suite a ((a, oe) :: pn)) hN hv hdb hcd) hb).imp fun σ H Q ⟨F0, H0, F, ρ, S, c⟩ => ?_
    simp only [if_pos hc] at c
    unfold mXf at c
    cases hd : (ρ[i]?).join with
    | none => simp only [hd] at c; exact c.elim
    | some dd =>
      obtain ⟨v, h1, h2⟩ := S.slot i dd (join_some hd)
      rw [hk] at h2
      obtain ⟨e1, l, e2, hx⟩ := h2
      subst e1 e2
      simp only [hd, xD] at c
      rw [xd_find] at c
      obtain ⟨u, hu, k⟩ := ofO_sat c
      refine ⟨_, h1, rfl, rfl, ?_⟩
      cases d with
      | none => have hx : l = [] := hx; subst hx; cases hu
      | some q =>
        obtain ⟨gs, h3, h4⟩ := hx
        obtain ⟨w, hw, r⟩ := h4 f u hu
        exact ⟨q, gs, w, rfl, S.sub _ _ h3, hw, k w F H (Ext.refl S.sub) r⟩
  · refine ⟨fun pins s σ H Q I ⟨F0, H0, F, ρ, S, c⟩ => ?_⟩
    simp only [if_neg hc] at c
    exact c.elim
end
end WD

/-! isinstance of what is caught; dicts -/
namespace WD
open PySem PySem.Spec PyProof.Rows L2
open Evl (Ex Ex.refl Ex.trans Ex.new Ex.mut ex_l ex_t fresh_back)
theorem pe_or {X : Cx} {e : Expr} {t u : TE} (h : PE X e t) (g : PE X e u) : PE X e (fun σ H Q => t σ H Q ∨ u σ H Q) := ⟨fun pins s σ H Q I q => q.elim (h.run pins s σ H Q I) (g.run pins s σ H Q I)⟩

/-! ### isinstance(e, C), e caught -/
def rIsX (K : Frag) (C a : Addr) (d : Option Addr) : List V → Hp → VK → Prop := fun xs H Q => ∃ (c : V) (cv : Value) (b : Bool), xs = [.ref a, c] ∧ ClsV c cv ∧ PySem.W.kitOne K (.ref C) cv = some b ∧ (∀ q, d = some q → ∃ fs, H q = some (.xd fs)) ∧ Q (.bl b) H
theorem call_isX {X : Cx} {a C : Addr} {oe : Obj} {d : Option Addr} {pn : List (Addr × Obj)} (T : ExcC X.K C) (hz : Zc (.ref C) d oe) (hf : ∃ vs, oe.data = .fields vs) : CallR (X.suite a ((a, oe) :: pn)) (.builtin "isinstance") (rIsX X.K C a d) := fun pins s σ H xs us Q I r ⟨c, cv, b, e, k, kb, hd, q⟩ => by
  subst e
  obtain ⟨u1, u2, rfl, r1, r2⟩ := vals2 r
  cases (show u1 = Value.ref a from r1)
  have e2 := k.eq r2
  subst e2
  obtain ⟨hget, _⟩ := I.pin (a, oe) (List.mem_append.mpr (.inl List.mem_cons_self))
  obtain ⟨vs, hv⟩ := hf
  obtain ⟨cd, hcl, _⟩ := PySem.W.any_some T.hd
  have hcs : (PySem.W.clsIn X.K C).isSome = true := by rw [hcl]; rfl
  obtain ⟨od, J⟩ : ∃ od, PySem.W.InstAt s.heap a oe C od := by
    cases d with
    | none =>
      obtain ⟨oc, od, oda, osl⟩ := oe
      obtain ⟨h1, h2⟩ := hz
      dsimp only at h1 h2 hv
      subst h1 h2 hv
      exact ⟨none, hget, rfl, rfl, trivial⟩
    | some q =>
      obtain ⟨fs, hq⟩ := hd q rfl
      obtain ⟨mA, hns, _⟩ := (show ObjOk X.prog X.w H s.heap q (.xd fs) from I.hok q _ hq)
      obtain ⟨od, ho, _⟩ := lookIn_ns hns
      exact ⟨some od, hget, hz.1, by unfold PySem.W.notCls; rw [hv] <;> rfl, by rw [hz.2]; exact ho⟩
  exact PySem.W.kia_one (PySem.W.kitx_exc (gt := none) hcs T.hg T.hk T.hs T.ha T.hn T.ht T.hm) I.kIn J kb (fun z => nomatch z) fun tk => ⟨.bl b, H, I.kept (t' := tk) fun _ _ z => z, rfl, q⟩
/-- the table of isinstance over the classes that are caught -/
def IsOk (K : Frag) (mg : Mg) (tb : Tbl) : Prop := ∀ cn T b, tb cn T = some b → ∀ C, mg cn = some (.ref C) → ExcC K C ∧ ∃ c cv, ClsV c cv ∧ RelV c cv ∧ (mg T = some cv ∨ (mg T = none ∧ bootBuiltins T = some cv ∧ T ≠ "__name__")) ∧ PySem.W.kitOne K (.ref C) cv = some b
def mIsX (tb : Tbl) (cn T : Str) (i : Nat) : Env → Res D := fun ρ => match (ρ[i]?).join with
  | some _ => (ofO (tb cn T)).bind fun b => .ok (.bool b)
  | none => .stk
theorem de_isX {X : Cx} {E : EX} {a : Addr} {oe : Obj} {C : Addr} {cn : Str} {d : Option Addr} {pn : List (Addr × Obj)} {i : Nat} {n T : Str} {p q r pos : Pos} {tb : Tbl} {κ' : Nat → Kd} (ht : IsOk X.K X.mg tb) (hmC : X.mg cn = some (.ref C)) (hz : Zc (.ref C) d oe) (hf : ∃ vs, oe.data = .fields vs)
    (hk : κ' i = .xn a d) (hN : X.N[i]? = some n) (hv : Vis X.env.scope n) (hg : Gl X "isinstance") (hm : X.mg "isinstance" = none) (hgT : Gl X T) (hdb : (n == ("__debug__" : Str)) = false := by decide) (hcd : (n == ("__classdict__" : Str)) = false := by decide) (hdT : (T == ("__debug__" : Str)) = false := by decide)
    (hv1 : bootBuiltins "isinstance" = some (.builtin "isinstance") := by decide +kernel)
    (he : starEach [.Name n q, .Name T r] X.env = (false, eval (.Name n q) X.env) :: starEach [.Name T r] X.env := by rfl) (he2 : starEach [.Name T r] X.env = (false, eval (.Name T r) X.env) :: starEach [] X.env := by rfl) (hpl : (backTo pos (starEach [.Name T r] X.env)).any (·.1) = false := by rfl) :
    DE (X.suite a ((a, oe) :: pn)) κ' E (.Call (.Name "isinstance" p) [.Name n q, .Name T r] [] pos) (mIsX tb cn T i) := by
  cases htb : tb cn T with
  | none =>
    refine ⟨fun pins s σ H Q I ⟨F0, H0, F, ρ, S, c⟩ => ?_⟩
    unfold mIsX at c
    rw [htb] at c
    split at c <;> exact c.elim
  | some b =>
    obtain ⟨TC, c, cv, hcv, rcv, hnm, kb⟩ := ht _ _ _ htb C hmC
    have hT : PE (X.suite a ((a, oe) :: pn)) (.Name T r) (tC c) := by
      rcases hnm with h | ⟨h1, h2, h3⟩
      · exact pe_glob (X := X.suite a ((a, oe) :: pn)) hgT h rcv hdT
      · exact pe_bltn (X := X.suite a ((a, oe) :: pn)) hgT h1 h2 rcv h3 hdT
    refine (pe_callB (X := X.suite a ((a, oe) :: pn)) (call_isX TC hz hf) hg hm hv1 (pa_cons (pe_var (X := X.suite a ((a, oe) :: pn)) hN hv hdb hcd) (pa_cons hT pa_nil he2) he) (by decide) (by decide) he hpl).imp fun σ H Q ⟨F0, H0, F, ρ, S, k⟩ => ?_
    unfold mIsX at k
    cases hd : (ρ[i]?).join with
    | none => simp only [hd] at k; exact k.elim
    | some dd =>
      simp only [hd, htb] at k
      obtain ⟨v, h1, h2⟩ := S.slot i dd (join_some hd)
      rw [hk] at h2
      obtain ⟨e1, l, e2, hx⟩ := h2
      subst e1
      refine ⟨_, h1, c, cv, b, rfl, hcv, kb, fun q eq => ?_, k _ F H (Ext.refl S.sub) (.bl _)⟩
      subst eq
      obtain ⟨fs, hq, _⟩ := hx
      exact ⟨fs, S.sub _ _ hq⟩

/-! ### dicts as data -/
def keyOf : D → Option Key
  | .int i => some (.inl i)
  | .str x => some (.inr x)
  | _ => none
theorem keyOf_keyD (k : Key) : keyOf (keyD k) = some k := by cases k <;> rfl
theorem Rp.key {K : Frag} {F : Hp} {v : V} {d : D} {k : Key} (r : Rp K F v d) (h : keyOf d = some k) : v = kV k ∧ d = keyD k ∧ KeyOk k := by
  cases r <;> simp only [keyOf] at h <;> cases h
  · exact ⟨rfl, rfl, trivial⟩
  · rename_i ho; exact ⟨rfl, rfl, ho⟩
def valD (ds : List (D × D)) (k : Key) : Option D := (ds.find? fun p => decide (keyOf p.1 = some k)).map (·.2)
def putD (ds : List (D × D)) (k : Key) (d : D) : List (D × D) := if (ds.any fun p => decide (keyOf p.1 = some k)) = true then ds.map fun p => if keyOf p.1 = some k then (p.1, d) else p else ds ++ [(keyD k, d)]
def dropD (ds : List (D × D)) (k : Key) : List (D × D) := ds.filter fun p => decide (keyOf p.1 ≠ some k)
section
variable {K : Frag} {F H0 H : Hp}
theorem RpK.val : ∀ {kvs : List (Key × V)} {ds : List (D × D)} (k : Key), RpK K F kvs ds → (valV kvs k = none ∧ valD ds k = none) ∨ ∃ v d, valV kvs k = some v ∧ valD ds k = some d ∧ Rp K F v d
  | _, _, _, .nil => .inl ⟨rfl, rfl⟩
  | _, _, k, .cons (k := j) (v := v) (d := d) (kvs := kvs) (ds := ds) _ h a => by
    by_cases e : j = k
    · exact .inr ⟨v, d, valV_pos e, by unfold valD; rw [List.find?_cons]; simp [keyOf_keyD, e], h⟩
    · rw [valV_neg e]
      have : valD ((keyD j, d) :: ds) k = valD ds k := by unfold valD; rw [List.find?_cons]; simp [keyOf_keyD, e]
      rw [this]
      exact RpK.val k a
theorem any_keys (k : Key) : ∀ {kvs : List (Key × V)} {ds : List (D × D)}, ds.map (·.1) = kvs.map (fun p => keyD p.1) → (kvs.any fun kv => decide (kv.1 = k)) = ds.any fun p => decide (keyOf p.1 = some k)
  | [], [], _ => rfl
  | [], _ :: _, e => by simp at e
  | _ :: _, [], e => by simp at e
  | p :: kvs, q :: ds, e => by
    obtain ⟨e1, e2⟩ := List.cons.inj e
    have e1 : q.1 = keyD p.1 := e1
    rw [List.any_cons, List.any_cons, any_keys k e2, e1, keyOf_keyD]
    simp
theorem RpK.keys : ∀ {kvs : List (Key × V)} {ds : List (D × D)}, RpK K F kvs ds → ds.map (·.1) = kvs.map (fun p => keyD p.1)
  | _, _, .nil => rfl
  | _, _, .cons _ h a => by rw [List.map_cons, List.map_cons, RpK.keys a]
theorem RpK.app : ∀ {kvs more : List (Key × V)} {ds es : List (D × D)}, RpK K F kvs ds → RpK K F more es → RpK K F (kvs ++ more) (ds ++ es)
  | _, _, _, _, .nil, b => b
  | _, _, _, _, .cons o h a, b => .cons o h (RpK.app a b)
theorem RpK.repl {k : Key} {v : V} {d : D} (r : Rp K F v d) : ∀ {kvs : List (Key × V)} {ds : List (D × D)}, RpK K F kvs ds → RpK K F (kvs.map fun kv => if kv.1 = k then (kv.1, v) else kv) (ds.map fun p => if keyOf p.1 = some k then (p.1, d) else p)
  | _, _, .nil => .nil
  | _, _, .cons (k := j) (v := w) (d := e) o h a => by
    rw [List.map_cons, List.map_cons]
    by_cases z : j = k
    · rw [if_pos z, if_pos (by rw [keyOf_keyD, z])]; exact .cons o r (RpK.repl r a)
    · rw [if_neg z, if_neg (by rw [keyOf_keyD]; simpa using z)]; exact .cons o h (RpK.repl r a)
theorem RpK.put {kvs : List (Key × V)} {ds : List (D × D)} {k : Key} {v : V} {d : D} (h : RpK K F kvs ds) (ko : KeyOk k) (r : Rp K F v d) : RpK K F (putK kvs k v) (putD ds k d) := by
  unfold putK putD
  rw [any_keys k h.keys]
  split
  · exact h.repl r
  · exact h.app (.cons ko r .nil)
theorem RpK.drop (k : Key) : ∀ {kvs : List (Key × V)} {ds : List (D × D)}, RpK K F kvs ds → RpK K F (dropK kvs k) (dropD ds k)
  | _, _, .nil => .nil
  | _, _, .cons (k := j) o h a => by
    have ih := RpK.drop k a
    unfold dropK dropD at ih ⊢
    by_cases z : j = k
    · rw [List.filter_cons_of_neg (by simp [z]), List.filter_cons_of_neg (by simp [keyOf_keyD, z])]; exact ih
    · rw [List.filter_cons_of_pos (by simp [z]), List.filter_cons_of_pos (by simp [keyOf_keyD, z])]; exact .cons o h ih
theorem OdK.keys : ∀ {kvs : List (Key × V)} {ds : List (D × D)}, OdK K H0 F H kvs ds → ds.map (·.1) = kvs.map (fun p => keyD p.1)
  | _, _, .nil => rfl
  | _, _, .cons _ _ _ _ _ a => by rw [List.map_cons, List.map_cons, OdK.keys a]
theorem OdK.length {kvs : List (Key × V)} {ds : List (D × D)} (h : OdK K H0 F H kvs ds) : ds.length = kvs.length := by
  have := congrArg List.length h.keys
  simpa using this
theorem OdK.val : ∀ {kvs : List (Key × V)} {ds : List (D × D)} (k : Key), OdK K H0 F H kvs ds → (valV kvs k = none ∧ valD ds k = none) ∨ ∃ b vs xs, (k, V.ref b) ∈ kvs ∧ valV kvs k = some (.ref b) ∧ valD ds k = some (.list xs) ∧ H0 b = none ∧ F b = none ∧ H b = some (.lst vs) ∧ RpA K F vs xs
  | _, _, _, .nil => .inl ⟨rfl, rfl⟩
  | _, _, k, .cons (q := j) (b := b) (vs := vs) (xs := xs) (kvs := kvs) (ds := ds) _ h1 h2 h3 h4 a => by
    by_cases e : j = k
    · exact .inr ⟨b, vs, xs, by rw [e]; exact List.mem_cons_self, valV_pos e, by unfold valD; rw [List.find?_cons]; simp [keyOf_keyD, e], h1, h2, h3, h4⟩
    · rw [valV_neg e]
      have : valD ((keyD j, PyData.list xs) :: ds) k = valD ds k := by unfold valD; rw [List.find?_cons]; simp [keyOf_keyD, e]
      rw [this]
      rcases OdK.val k a with h | ⟨b, vs, xs, h0, h⟩
      · exact .inl h
      · exact .inr ⟨b, vs, xs, List.mem_cons_of_mem _ h0, h⟩
/-- a list of a dict of lists is changed -/
theorem OdK.chg {k : Key} {b : Addr} {vs : List V} {xs : List D} (r : RpA K F vs xs) {kvs : List (Key × V)} {ds : List (D × D)} (hk : OdK K H0 F H kvs ds) : (kvs.map (·.2)).Nodup → (kvs.map (·.1)).Nodup → (k, V.ref b) ∈ kvs →
    OdK K H0 F (upd H b (.lst vs)) kvs (ds.map fun p => if keyOf p.1 = some k then (p.1, .list xs) else p) := by
  induction hk with
  | nil => intro _ _ h; simp at h
  | @cons j c ws ys kvs ds ko h1 h2 h3 h4 a ih =>
    intro nd nk h
    rw [List.map_cons] at nd nk ⊢
    obtain ⟨n1, n2⟩ := List.nodup_cons.mp nd
    obtain ⟨m1, m2⟩ := List.nodup_cons.mp nk
    rcases List.mem_cons.mp h with h | h
    · obtain ⟨e1, e2⟩ := Prod.mk.inj h
      cases e2
      subst e1
      rw [if_pos (keyOf_keyD k)]
      refine .cons ko h1 h2 upd_same r ?_
      have stay : ∀ {kvs : List (Key × V)} {ds : List (D × D)}, V.ref b ∉ kvs.map (·.2) → k ∉ kvs.map (·.1) → OdK K H0 F H kvs ds → OdK K H0 F (upd H b (.lst vs)) kvs (ds.map fun p => if keyOf p.1 = some k then (p.1, .list xs) else p) := fun {kvs ds} x y hk => by
        induction hk with
        | nil => exact .nil
        | @cons q c2 ws ys kvs ds go g1 g2 g3 g4 _ ih =>
          rw [List.map_cons] at x y ⊢
          rw [if_neg (by rw [keyOf_keyD]; intro z; exact y (by rw [Option.some.inj z]; exact List.mem_cons_self))]
          exact .cons go g1 g2 (by rw [upd_ne (fun z => x (by rw [z]; exact List.mem_cons_self))]; exact g3) g4 (ih (fun z => x (List.mem_cons_of_mem _ z)) fun z => y (List.mem_cons_of_mem _ z))
      exact stay n1 m1 a
    · have hj : j ≠ k := fun z => m1 (by rw [z]; exact List.mem_map.mpr ⟨_, h, rfl⟩)
      have hc : c ≠ b := fun z => n1 (by rw [z]; exact List.mem_map.mpr ⟨_, h, rfl⟩)
      rw [if_neg (by rw [keyOf_keyD]; simpa using hj)]
      exact .cons ko h1 h2 (by rw [upd_ne hc]; exact h3) h4 (ih n2 m2 h)
theorem OdK.app : ∀ {kvs more : List (Key × V)} {ds es : List (D × D)}, OdK K H0 F H kvs ds → OdK K H0 F H more es → OdK K H0 F H (kvs ++ more) (ds ++ es)
  | _, _, _, _, .nil, b => b
  | _, _, _, _, .cons ko h1 h2 h3 h4 a, b => .cons ko h1 h2 h3 h4 (OdK.app a b)
end

/-! ### statements on a dict that is owned -/
def getDct (i : Nat) (ρ : Env) : Res (List (D × D)) := match (ρ[i]?).join with
  | some (.dict ds) => .ok ds
  | _ => .stk
theorem getDct_sat {i : Nat} {ρ : Env} {P : List (D × D) → Prop} {R : Exn → Prop} (h : (getDct i ρ).sat P R) : ∃ ds, ρ[i]? = some (some (.dict ds)) ∧ P ds := by
  unfold getDct at h
  cases q : (ρ[i]?).join with
  | none => rw [q] at h; exact h.elim
  | some d =>
    rw [q] at h
    cases d <;> first | exact ⟨_, join_some q, h⟩ | exact h.elim
def Kd.fre : Kd → Bool
  | .ow => true
  | .od => true
  | _ => false
section
variable {X : Cx} {κ : Nat → Kd} {E : EX} {a b c e o : Expr} {es : List Expr} {pos : Pos} {ma mb mk mv me : Env → Res D}
/-- x = {} -/
theorem ds_setD0 {i : Nat} {x : Str} {pos' p2 : Pos} (hk : (κ i).fre = true) (hN : X.N.Nodup) (hi : X.N[i]? = some x) (hx : Loc X.env.scope x) (hs : swapsWith (.Dict [] [] p2) (some (.Name x pos')) pos.line X.env = pure false := by rfl)
    (hf : X.fn x = true ∨ X.env.scope.names.lookup x = some .local := by first | exact .inl rfl | exact .inr rfl | assumption) : DS X κ E (.Assign [.Name x pos'] (.Dict [] [] p2) pos) (fun ρ => .nx (ρ.set i (some (.dict [])))) :=
  (ps_set (i := i) hN hi hx pe_dnewK hs hf).imp fun Dn σ H ⟨F0, H0, F, ρ, S, k⟩ => fun p hp => by
    have x := Ext.newO (o := .dK []) S.sub hp
    refine k _ F _ (Ex.refl F) ((S.mono x).setW ?_ fun j c dj w hj ej nj oi oj => ?_)
    · have h0 := fresh_back S.h0 hp
      have f0 := none_of_ex S.sub hp
      cases kj : κ i with
      | ow => exact ⟨p, rfl, h0, f0, .inr ⟨[], [], rfl, upd_same, .nil⟩⟩
      | od => exact ⟨p, [], [], rfl, h0, f0, rfl, upd_same, .nil, by simp, by simp⟩
      | _ => rw [kj] at hk; cases hk
    · have hc : c = p := by
        cases kj : κ i with
        | ow => rw [kj] at oi; cases (show V.ref p = .ref c from oi); rfl
        | od =>
          rw [kj] at oi
          rcases (show V.ref p = .ref c ∨ ∃ a kvs q, V.ref p = .ref a ∧ upd H p (.dK []) a = some (.dK kvs) ∧ (q, V.ref c) ∈ kvs from oi) with z | ⟨a, kvs, q, e1, e2, e3⟩
          · cases z; rfl
          · cases e1; rw [upd_same] at e2; cases e2; simp at e3
        | _ => rw [kj] at hk; cases hk
      subst hc
      have g := S.slotAt hj ej
      exact (g.owned (Owns.back g (fun a _ o q => x.h a o q) (fun a o q => x.s a o (x.f a o q)) oj)).2.2 hp
/-- d[k] = v, v stands still -/
def mDPut (i : Nat) (mk mv : Env → Res D) : Env → Out := fun ρ => (mv ρ).out fun v => (getDct i ρ).out fun ds => (mk ρ).out fun k => (ofO (keyOf k)).out fun k => if ds.length < sizeLine then .nx (ρ.set i (some (.dict (putD ds k v)))) else .stk
theorem own_dict' {K : Frag} {F H : Hp} {a : Addr} {ds : List (D × D)} (o : OwnAt K F H a (.dict ds)) : ∃ kvs, H a = some (.dK kvs) ∧ RpK K F kvs ds := by
  rcases o with ⟨vs, ds', e, g, r⟩ | ⟨vs, ds', e, g, r⟩
  · cases e
  · cases e; exact ⟨vs, g, r⟩
theorem ds_dput {i : Nat} {x : Str} {n : Nat} {px p2 : Pos} (hr : Room n X.A) (hk : (κ i).mutb = true) (hN : X.N[i]? = some x) (hv : Vis X.env.scope x) (hb : DE X κ E b mk) (he : DE X κ E e mv) (hs : swapsWith e (some (.Subscript (.Name x px) b p2)) pos.line X.env = pure false := by rfl)
    (hdb : (x == ("__debug__" : Str)) = false := by decide) (hcd : (x == ("__classdict__" : Str)) = false := by decide) : DS X κ E (.Assign [.Subscript (.Name x px) b p2] e pos) (mDPut i mk mv) :=
  (ps_dput (hu_of hr) (pe_var hN hv hdb hcd) hb he hs).imp fun Dn σ H ⟨F0, H0, F, ρ, S, k⟩ => ⟨F0, H0, F, ρ, S, Res.sat_imp (out_sat k) (fun d _ k v F1 H1 x1 rv => by
    obtain ⟨ds, hd, k⟩ := getDct_sat (out_sat k)
    have S1 := S.mono x1
    obtain ⟨a, hs', fa, o⟩ := own_at S1 hk hd
    refine ⟨.ref a, hs', F0, H0, F1, ρ, S1, Res.sat_imp (out_sat k) (fun dk _ k y F2 H2 x2 ry => ?_) fun x z => err_back S1 z⟩
    have S2 := S1.mono x2
    obtain ⟨kk, hkk, k⟩ := ofO_sat (out_sat k)
    obtain ⟨e1, _, ko⟩ := ry.key hkk
    subst e1
    obtain ⟨a', hs2, fa2, o2⟩ := own_at S2 hk hd
    rw [hs'] at hs2
    cases hs2
    obtain ⟨kvs, g, r⟩ := own_dict' o2
    by_cases z : ds.length < sizeLine
    · simp only [if_pos z] at k
      exact ⟨a, _, rfl, DPut.k g (by rw [r.length]; exact z), k _ F2 _ (x1.trans x2).f (S2.mut hk hd hs' (.inr ⟨_, _, rfl, upd_same, r.put ko (rv.mono x2.f)⟩))⟩
    · simp only [if_neg z] at k; exact k.elim) fun x z => err_back S z⟩
/-- d[k] = [..], d a dict of lists of its own -/
def mDPutN (i : Nat) (mk : Env → Res D) (mv : Env → Res (List D)) : Env → Out := fun ρ => (mv ρ).out fun v => (getDct i ρ).out fun ds => (mk ρ).out fun k => (ofO (keyOf k)).out fun k => if ds.length < sizeLine ∧ valD ds k = none then .nx (ρ.set i (some (.dict (putD ds k (.list v))))) else .stk
theorem od_at {K : Frag} {F0 H0 F H : Hp} {σ : L2.St} {ρ : Env} (S : Stt K κ F0 H0 F H σ ρ) {i : Nat} {ds : List (D × D)} (hk : κ i = .od) (h : ρ[i]? = some (some (.dict ds))) :
    ∃ a kvs, σ[i]? = some (some (.ref a)) ∧ H0 a = none ∧ F a = none ∧ H a = some (.dK kvs) ∧ OdK K H0 F H kvs ds ∧ (kvs.map (·.2)).Nodup ∧ (kvs.map (·.1)).Nodup := by
  obtain ⟨v, h1, h2⟩ := S.slot i _ h
  rw [hk] at h2
  obtain ⟨a, kvs, ds', e, h0, f0, e2, g, ok, n1, n2⟩ := h2
  cases e2
  exact ⟨a, kvs, by rw [h1, e], h0, f0, g, ok, n1, n2⟩
theorem putK_none {kvs : List (Key × V)} {k : Key} {v : V} (h : valV kvs k = none) : putK kvs k v = kvs ++ [(k, v)] := putK_new v h
theorem putD_none {ds : List (D × D)} {k : Key} {d : D} (h : valD ds k = none) : putD ds k d = ds ++ [(keyD k, d)] := by
  unfold putD
  have : (ds.any fun p => decide (keyOf p.1 = some k)) = false := by
    unfold valD at h
    have h' := Option.map_eq_none_iff.mp h
    rw [List.find?_eq_none] at h'
    rw [List.any_eq_false]
    exact h'
  rw [this]
  rfl
theorem val_none_key {kvs : List (Key × V)} {k : Key} (h : valV kvs k = none) : k ∉ kvs.map (·.1) := fun hm => by
  obtain ⟨p, hp, e⟩ := List.mem_map.mp hm
  have q := valV_any k kvs
  rw [h] at q
  have q : (kvs.any fun kv => decide (kv.1 = k)) = false := q
  rw [List.any_eq_false] at q
  exact q p hp (by simpa using e)
/-- a new list is laid into a dict of lists at a new key -/
theorem od_new {K : Frag} {F0 H0 F H : Hp} {σ : L2.St} {ρ : Env} (S : Stt K κ F0 H0 F H σ ρ) {i : Nat} {a p : Addr} {kvs : List (Key × V)} {ds : List (D × D)} {k : Key} {vs : List V} {xs : List D} (hk : κ i = .od) (hd : ρ[i]? = some (some (.dict ds))) (hs : σ[i]? = some (some (.ref a)))
    (ko : KeyOk k) (g : H a = some (.dK kvs)) (hn : valV kvs k = none) (hp0 : H0 p = none) (fp : F p = none) (hp : H p = some (.lst vs)) (r : RpA K F vs xs) (hno : ∀ j dj w, ρ[j]? = some (some dj) → σ[j]? = some (some w) → ¬ Owns (κ j) H w p) :
    Stt K κ F0 H0 F (upd H a (.dK (putK kvs k (.ref p)))) σ (ρ.set i (some (.dict (putD ds k (.list xs))))) := by
  obtain ⟨a', kvs', e1, a0, fa, g', ok, n1, n2⟩ := od_at S hk hd
  rw [hs] at e1
  cases e1
  rw [g] at g'
  cases g'
  have hdn : valD ds k = none := by
    rcases ok.val k with h | ⟨b, vs, xs, _, h, _⟩
    · exact h.2
    · rw [hn] at h; cases h
  rw [putK_none hn, putD_none hdn]
  have pa : p ≠ a := fun z => by rw [z, g] at hp; cases hp
  have pk : V.ref p ∉ kvs.map (·.2) := fun z => by
    obtain ⟨⟨q, w⟩, hq, e⟩ := List.mem_map.mp z
    dsimp only at e
    subst e
    exact hno i _ _ hd hs (by rw [hk]; exact .inr ⟨a, kvs, q, rfl, g, hq⟩)
  refine S.chg hd hs (Ex.refl F) (fun b u e => by rw [upd_ne (ne_of_none e fa)]; exact S.sub b u e) S.nf (fun _ h _ => h) (fun b x hx nb => ?_) ?_ fun b ob => ?_
  · rw [upd_ne (fun z => nb (by rw [hk, z]; exact .inl rfl))]; exact hx
  · rw [hk]
    refine ⟨a, _, _, rfl, a0, fa, rfl, upd_same, ?_, ?_, ?_⟩
    · have st : ∀ {kvs kvs2 : List (Key × V)} {ds : List (D × D)}, OdK K H0 F H kvs ds → OdK K H0 F (upd H a (.dK kvs2)) kvs ds := fun {_ _ _} h => h.mono (Ex.refl F) (fun _ h _ => h) fun q b hb o ho => by
        rw [upd_ne (fun z => by obtain ⟨_, _, vs, hv⟩ := h.mem hb; rw [z, g] at hv; cases hv)]; exact ho
      exact (st ok).app (.cons ko hp0 fp (by rw [upd_ne pa]; exact hp) r .nil)
    · rw [List.map_append, List.nodup_append]
      exact ⟨n1, by simp, fun x hx y hy => by rw [List.map_singleton, List.mem_singleton] at hy; rw [hy]; exact fun z => pk (by rw [← show x = V.ref p from z]; exact hx)⟩
    · rw [List.map_append, List.nodup_append]
      exact ⟨n2, by simp, fun x hx y hy => by rw [List.map_singleton, List.mem_singleton] at hy; rw [hy]; exact fun z => val_none_key hn (by rw [← show x = k from z]; exact hx)⟩
  · rw [hk] at ob ⊢
    rcases (show V.ref a = .ref b ∨ ∃ a2 k2 q, V.ref a = .ref a2 ∧ upd H a (.dK (kvs ++ [(k, V.ref p)])) a2 = some (.dK k2) ∧ (q, V.ref b) ∈ k2 from ob) with z | ⟨a2, k2, q, e1, e2, e3⟩
    · exact .inl (.inl z)
    · cases e1
      rw [upd_same] at e2
      cases e2
      rcases List.mem_append.mp e3 with e3 | e3
      · exact .inl (.inr ⟨a, kvs, q, rfl, g, e3⟩)
      · refine .inr fun j dj w nj hj ej => ?_
        have e4 := List.mem_singleton.mp e3
        have e5 : V.ref b = V.ref p := (Prod.mk.inj e4).2
        cases e5
        exact hno j dj w hj ej
end
end WD

/-! dicts: what is asked of them; dicts of lists -/
namespace WD
open PySem PySem.Spec PyProof.Rows L2
open Evl (Ex Ex.refl Ex.trans Ex.new Ex.mut ex_l ex_t fresh_back)
section
variable {X : Cx} {κ : Nat → Kd} {E : EX} {a b c e o : Expr} {es : List Expr} {pos : Pos} {ma mb mc mk mv me : Env → Res D}
theorem Rb.dict {K : Frag} {F H : Hp} {v : V} {ds : List (D × D)} (s : Ex F H) (r : Rb K F H v (.dict ds)) : ∃ a kvs, v = .ref a ∧ Rd H a (.dK kvs) ∧ RpK K F kvs ds := by
  rcases r with r | ⟨a, rfl, ⟨vs, ds', e, g, r⟩ | ⟨vs, ds', e, g, r⟩⟩
  · cases r with
    | dct h a => exact ⟨_, _, rfl, h.imp (s _ _) fun ⟨o, q⟩ => ⟨o, s _ _ q⟩, a⟩
  · cases e
  · cases e; exact ⟨a, vs, rfl, .inl g, r⟩
theorem dget_rd {H : Hp} {a : Addr} {kvs : List (Key × V)} (k : Key) (h : Rd H a (.dK kvs)) : DGet H a (kV k) (valV kvs k) := .inl ⟨kvs, k, h, rfl, rfl⟩
theorem Rb.key {K : Frag} {F H : Hp} {v : V} {d : D} {k : Key} (r : Rb K F H v d) (h : keyOf d = some k) : v = kV k := by
  cases d <;> simp only [keyOf] at h <;> cases h
  · exact r.int
  · exact r.str.1
/-! k in d -/
def rInK : R2 := fun y x H Q => ∃ a o, x = .ref a ∧ DGet H a y o ∧ Q (.bl o.isSome) H
def rNotInK : R2 := fun y x H Q => ∃ a o, x = .ref a ∧ DGet H a y o ∧ Q (.bl (!o.isSome)) H
theorem op_inK (hu : X.A.units + 1 < cLine) : OpR X (compareOp .In) rInK := fun pins s σ H y x v u Q I ry rx ⟨a, o, ex, g, q⟩ => by
  subst ex
  obtain rfl : u = Value.ref a := rx
  exact d_in hu I g ry fun s3 I3 => ⟨.bl o.isSome, H, I3, rfl, q⟩
theorem op_notInK (hu : X.A.units + 1 < cLine) : OpR X (compareOp .NotIn) rNotInK := fun pins s σ H y x v u Q I ry rx ⟨a, o, ex, g, q⟩ => by
  subst ex
  obtain rfl : u = Value.ref a := rx
  exact d_notIn hu I g ry fun s3 I3 => ⟨.bl (!o.isSome), H, I3, rfl, q⟩
def inX (x y : D) : Res D := match y with
  | .dict ds => (ofO (keyOf x)).bind fun k => .ok (.bool (valD ds k).isSome)
  | _ => inD x y
def notInX (x y : D) : Res D := (inX x y).bind fun d => match d with
  | .bool b => .ok (.bool (!b))
  | _ => .stk
theorem inX_ne : ∀ x y z, inX x y ≠ .err z := fun x y z h => by
  unfold inX at h
  split at h
  · exact bind_ne h ofO_ne fun _ h => nomatch h
  · exact inD_ne _ _ _ h
theorem notInX_ne : ∀ x y z, notInX x y ≠ .err z := fun x y z h => by
  unfold notInX at h
  exact bind_ne h (inX_ne _ _ _) fun d h => by cases d <;> cases h
theorem inX_b : ∀ x y d, inX x y = .ok d → ∃ b, d = .bool b := fun x y d h => by
  unfold inX at h
  split at h
  · obtain ⟨k, _, h⟩ := bind_ok h
    cases h; exact ⟨_, rfl⟩
  · exact inD_b _ _ _ h
theorem notInX_b : ∀ x y d, notInX x y = .ok d → ∃ b, d = .bool b := fun x y d h => by
  unfold notInX at h
  obtain ⟨k, _, h⟩ := bind_ok h
  cases k <;> cases h; exact ⟨_, rfl⟩
theorem in_val {K : Frag} {F H : Hp} {x y : V} {dx : D} {ds : List (D × D)} {k : Key} (s : Ex F H) (rx : Rb K F H x dx) (ry : Rb K F H y (.dict ds)) (hk : keyOf dx = some k) : ∃ a o, y = .ref a ∧ DGet H a x o ∧ o.isSome = (valD ds k).isSome := by
  obtain ⟨a, kvs, rfl, h, r⟩ := ry.dict s
  rw [rx.key hk]
  refine ⟨a, _, rfl, dget_rd k h, ?_⟩
  rcases r.val k with ⟨h1, h2⟩ | ⟨v, d, h1, h2, _⟩ <;> rw [h1, h2] <;> rfl
theorem op2_inX {K : Frag} : Op2 K (fun x y H Q => rInA K x y H Q ∨ rInK x y H Q) inX := fun F H x y dx dy s rx ry Q k => by
  unfold inX at k
  split at k
  · rename_i ds
    obtain ⟨kk, hk, k⟩ := ofO_sat (Res.sat_bind k)
    obtain ⟨a, o, e, g, q⟩ := in_val s rx ry hk
    exact .inr ⟨a, o, e, g, by rw [q]; exact k _ F H (Ext.refl s) (.bl _)⟩
  · exact .inl (op2_in F H x y dx dy s rx ry Q k)
theorem op2_notInX {K : Frag} : Op2 K (fun x y H Q => rNotInA K x y H Q ∨ rNotInK x y H Q) notInX := fun F H x y dx dy s rx ry Q k => by
  unfold notInX inX at k
  split at k
  · rename_i ds
    cases hk : keyOf dx with
    | none => rw [hk] at k; exact k.elim
    | some kk =>
      rw [hk] at k
      obtain ⟨a, o, e, g, q⟩ := in_val s rx ry hk
      exact .inr ⟨a, o, e, g, by rw [q]; exact k _ F H (Ext.refl s) (.bl _)⟩
  · exact .inl (op2_notIn F H x y dx _ s rx ry Q k)
theorem de_inX {n : Nat} (hr : Room n X.A) (ha : DB X κ E a ma) (hb : DB X κ E b mb) (hm : behindInMarks .In b = false := by rfl) : DE X κ E (.Compare a [.In] [b] pos) (mBin inX ma mb) := de_cmp (op_inA.or (op_inK (hu_of hr))) op2_inX inX_ne ha hb hm
theorem de_notInX {n : Nat} (hr : Room n X.A) (ha : DB X κ E a ma) (hb : DB X κ E b mb) (hm : behindInMarks .NotIn b = false := by rfl) : DE X κ E (.Compare a [.NotIn] [b] pos) (mBin notInX ma mb) := de_cmp (op_notInA.or (op_notInK (hu_of hr))) op2_notInX notInX_ne ha hb hm
theorem dt_inX {n : Nat} (hr : Room n X.A) (ha : DB X κ E a ma) (hb : DB X κ E b mb) (hm : behindInMarks .In b = false := by rfl) : DT X κ E (.Compare a [.In] [b] pos) (mTru (mBin inX ma mb)) := dt_cmp (op_inA.or (op_inK (hu_of hr))) op2_inX inX_ne inX_b ha hb hm
theorem dt_notInX {n : Nat} (hr : Room n X.A) (ha : DB X κ E a ma) (hb : DB X κ E b mb) (hm : behindInMarks .NotIn b = false := by rfl) : DT X κ E (.Compare a [.NotIn] [b] pos) (mTru (mBin notInX ma mb)) := dt_cmp (op_notInA.or (op_notInK (hu_of hr))) op2_notInX notInX_ne notInX_b ha hb hm
/-! d[k] -/
def rGetK : R2 := fun x y H Q => ∃ a v, x = .ref a ∧ DGet H a y (some v) ∧ Q v H
def getK (d i : D) : Res D := match d with
  | .dict ds => (ofO (keyOf i)).bind fun k => ofO (valD ds k)
  | _ => .stk
def atX (d i : D) : Res D := match d with
  | .dict _ => getK d i
  | _ => atD d i
theorem getK_ne : ∀ x y z, getK x y ≠ .err z := fun x y z h => by
  unfold getK at h
  split at h
  · exact bind_ne h ofO_ne fun _ h => ofO_ne h
  · cases h
theorem op2_getK {K : Frag} : Op2 K rGetK getK := fun F H x y dx dy s rx ry Q k => by
  unfold getK at k
  split at k
  · rename_i ds
    obtain ⟨kk, hk, k⟩ := ofO_sat (Res.sat_bind k)
    obtain ⟨d, hd, k⟩ := ofO_sat k
    obtain ⟨a, kvs, rfl, h, r⟩ := rx.dict s
    rcases r.val kk with ⟨_, h2⟩ | ⟨v, d', h1, h2, r2⟩
    · rw [hd] at h2; cases h2
    · rw [hd] at h2; cases h2
      refine ⟨a, v, rfl, ?_, k v F H (Ext.refl s) r2⟩
      rw [ry.key hk, ← h1]
      exact dget_rd kk h
  · exact k.elim
theorem de_atX {n : Nat} (hr : Room n X.A) (ha : DB X κ E a ma) (hb : DB X κ E b mb) (hs : PlainIx b := by exact fun _ _ => rfl) (hn : NoSl b := by exact fun _ _ => rfl) : DE X κ E (.Subscript a b pos) (mBin atX ma mb) :=
  (pe_or (de_at ha hb hs) (pe_dget (hu_of hr) ha hb hn)).imp fun σ H Q ⟨F0, H0, F, ρ, S, c⟩ => by
    have cs : (∃ ds, ma ρ = .ok (.dict ds)) ∨ mBin atX ma mb ρ = mBin atD ma mb ρ := by
      unfold mBin
      cases ma ρ with
      | ok d => cases d <;> first | exact .inl ⟨_, rfl⟩ | exact .inr rfl
      | err x => exact .inr rfl
      | stk => exact .inr rfl
    rcases cs with ⟨ds, hd⟩ | e
    · have e : mBin atX ma mb ρ = mBin getK ma mb ρ := by
        unfold mBin
        rw [hd]
        rfl
      rw [e] at c
      exact .inr (op2_read op2_getK getK_ne σ H Q ⟨F0, H0, F, ρ, S, c⟩)
    · rw [e] at c
      exact .inl ⟨F0, H0, F, ρ, S, c⟩
/-! d.get(k, x), d.get(k) -/
def mGet2 (md mk mx : Env → Res D) : Env → Res D := fun ρ => (md ρ).bind fun d => match d with
  | .dict ds => (mk ρ).bind fun y => (mx ρ).bind fun z => (ofO (keyOf y)).bind fun k => .ok ((valD ds k).getD z)
  | _ => .stk
def mGet1 (md mk : Env → Res D) : Env → Res D := fun ρ => (md ρ).bind fun d => match d with
  | .dict ds => (mk ρ).bind fun y => (ofO (keyOf y)).bind fun k => .ok ((valD ds k).getD .none)
  | _ => .stk
theorem de_get2 {n : Nat} {apos cpos : Pos} {f : Expr} {mx : Env → Res D} (hr : Room n X.A) (ho : DB X κ E o ma) (he : DE X κ E e mk) (hf : DE X κ E f mx) (m : M2 X o "get" apos e f cpos := by exact ⟨rfl, rfl, rfl, rfl⟩) : DE X κ E (.Call (.Attribute o "get" apos) [e, f] [] cpos) (mGet2 ma mk mx) :=
  (pe_dget2 (hu_of hr) ho he hf m).imp fun σ H Q ⟨F0, H0, F, ρ, S, c⟩ => ⟨F0, H0, F, ρ, S, Res.sat_imp (Res.sat_bind c) (fun d _ k v F1 H1 x1 r1 => by
    split at k
    · rename_i ds
      obtain ⟨a, kvs, rfl, h, r⟩ := r1.dict x1.s
      refine ⟨a, rfl, .inl ⟨kvs, h⟩, F0, H0, F1, ρ, S.mono x1, Res.sat_imp (Res.sat_bind k) (fun y _ k y' F2 H2 x2 r2 => ⟨F0, H0, F2, ρ, (S.mono x1).mono x2, Res.sat_imp (Res.sat_bind k) (fun z _ k z' F3 H3 x3 r3 => ?_) fun x z => z.mono (x1.trans x2)⟩) fun x z => z.mono x1⟩
      obtain ⟨kk, hk, k⟩ := ofO_sat (Res.sat_bind k)
      rw [(r2.key hk).1]
      refine ⟨_, dget_rd kk (h.imp ((x2.trans x3).h _ _) fun ⟨o, q⟩ => ⟨o, (x2.trans x3).h _ _ q⟩), ?_⟩
      rcases (r.mono (x2.trans x3).f).val kk with ⟨h1, h2⟩ | ⟨v, d', h1, h2, r4⟩
      · rw [h2] at k; rw [h1]
        exact k _ F3 H3 (x1.trans (x2.trans x3)) r3
      · rw [h2] at k; rw [h1]
        exact k _ F3 H3 (x1.trans (x2.trans x3)) r4
    · exact k.elim) fun _ z => z⟩
theorem de_get1 {n : Nat} {apos cpos : Pos} (hr : Room n X.A) (ho : DB X κ E o ma) (he : DE X κ E e mk) (m : M1 X o "get" apos e cpos := by exact ⟨rfl, rfl, rfl, rfl⟩) : DE X κ E (.Call (.Attribute o "get" apos) [e] [] cpos) (mGet1 ma mk) :=
  (pe_dget1 (hu_of hr) ho he m).imp fun σ H Q ⟨F0, H0, F, ρ, S, c⟩ => ⟨F0, H0, F, ρ, S, Res.sat_imp (Res.sat_bind c) (fun d _ k v F1 H1 x1 r1 => by
    split at k
    · rename_i ds
      obtain ⟨a, kvs, rfl, h, r⟩ := r1.dict x1.s
      refine ⟨a, rfl, .inl ⟨kvs, h⟩, F0, H0, F1, ρ, S.mono x1, Res.sat_imp (Res.sat_bind k) (fun y _ k y' F2 H2 x2 r2 => ?_) fun x z => z.mono x1⟩
      obtain ⟨kk, hk, k⟩ := ofO_sat (Res.sat_bind k)
      rw [(r2.key hk).1]
      refine ⟨_, dget_rd kk (h.imp (x2.h _ _) fun ⟨o, q⟩ => ⟨o, x2.h _ _ q⟩), ?_⟩
      rcases (r.mono x2.f).val kk with ⟨h1, h2⟩ | ⟨v, d', h1, h2, r4⟩
      · rw [h2] at k; rw [h1]
        exact k _ F2 H2 (x1.trans x2) .non
      · rw [h2] at k; rw [h1]
        exact k _ F2 H2 (x1.trans x2) r4
    · exact k.elim) fun _ z => z⟩
/-! list(d) -/
def seqX : D → Res (List D)
  | .dict ds => .ok (ds.map (·.1))
  | d => seqD d
def mSeqX (m : Env → Res D) : Env → Res (List D) := fun ρ => (m ρ).bind seqX
def rListK : List V → Hp → VK → Prop := fun xs H Q => ∃ p kvs, xs = [.ref p] ∧ Rd H p (.dK kvs) ∧ ∀ q, H q = none → Q (.ref q) (upd H q (.lst (kvs.map fun kv => kV kv.1)))
theorem call_listK (hc : X.calm = true) : CallR X (.type "list") rListK := fun pins s σ H xs us Q I r ⟨p, kvs, e, hk, q⟩ => by
  subst e
  obtain ⟨u, eu, rx⟩ := vals1 r
  subst eu
  cases (show u = Value.ref p from rx)
  obtain ⟨z, lo, vs, rk, hd⟩ := dk_rd I.hok hk
  obtain ⟨ep, hat⟩ := hd.dictAt
  have hl : kvs.length = vs.length := Paired.length rk
  refine PySem.W.kdl_call (PySem.W.kdl_dict (knd := mixKind X.prog X.w) (kvs := vs) (ep := ep) lo) (I.ok.hd hc) hat (hl ▸ z) fun h2 tk acc c keep hS hacc => ?_
  have ha := hacc.1
  refine ⟨.ref s.heap.objs.size, _, I.laid (a := s.heap.objs.size) (o := .lst (kvs.map fun kv => kV kv.1)) (h' := h2) (t' := tk) keep (Nat.le_refl _) ⟨by rw [List.length_map]; exact z, acc.toList, c, vals_of_at (by rw [List.length_map, hl, ← ha]; exact (Array.length_toList).symm) fun j x w h1 h3 => ?_, by rw [Array.toArray_toList]; exact hS⟩, rfl, q _ (I.hok.fresh (Nat.le_refl _))⟩
  obtain ⟨k, y, hky, hi⟩ := hacc.2 j w ((Array.getElem?_toList).symm.trans h3)
  have e1 : (kvs.map (·.1))[j]? = some k := by rw [KV.keys rk, List.getElem?_map, hky]; rfl
  have e2 : (kvs.map fun kv => kV kv.1)[j]? = some (kV k) := by
    rw [List.getElem?_map] at e1 ⊢
    obtain ⟨kv, hkv, rfl⟩ := Option.map_eq_some_iff.mp e1
    rw [hkv]; rfl
  rw [e2] at h1
  cases h1
  exact keyIs_rel hi
theorem key_rp {K : Frag} {F : Hp} {k : Key} (h : KeyOk k) : Rp K F (kV k) (keyD k) := by
  cases k with
  | inl i => exact .int i
  | inr x => exact .str x h
theorem RpK.keysA {K : Frag} {F : Hp} : ∀ {kvs : List (Key × V)} {ds : List (D × D)}, RpK K F kvs ds → RpA K F (kvs.map fun kv => kV kv.1) (ds.map (·.1))
  | _, _, .nil => .nil
  | _, _, .cons (k := k) ko h a => .cons (key_rp ko) (RpK.keysA a)
theorem dn_listX {p : Pos} (hc : X.calm = true) (hg : Gl X "list") (hm : X.mg "list" = none) (ha : DB X κ E e ma) (hv : bootBuiltins "list" = some (.type "list") := by decide +kernel) (he : starEach [e] X.env = (false, eval e X.env) :: starEach [] X.env := by rfl) (hpl : (backTo pos (starEach [] X.env)).any (·.1) = false := by rfl) : DN X κ E (.Call (.Name "list" p) [e] [] pos) (mSeqX ma) :=
  (pe_or (dn_list hg hm ha hv he hpl) (pe_callTy (call_listK hc) hg hm hv (pa_cons ha pa_nil he) (by decide) (by decide) he hpl)).imp fun σ H Q ⟨F0, H0, F, ρ, S, c⟩ => by
    have cs : (∃ ds, ma ρ = .ok (.dict ds)) ∨ mSeqX ma ρ = mSeq1 ma ρ := by
      unfold mSeqX mSeq1
      cases ma ρ with
      | ok d => cases d <;> first | exact .inl ⟨_, rfl⟩ | exact .inr rfl
      | err x => exact .inr rfl
      | stk => exact .inr rfl
    rcases cs with ⟨ds, hd⟩ | e
    · have e : mSeqX ma ρ = .ok (ds.map (·.1)) := by unfold mSeqX; rw [hd]; rfl
      rw [e] at c
      refine .inr ⟨F0, H0, F, ρ, S, ?_⟩
      rw [hd]
      intro v F' H' x r
      obtain ⟨a, kvs, rfl, h, rk⟩ := r.dict x.s
      exact ⟨a, kvs, rfl, h, fun q hq => c q _ F' _ (x.trans (.newO x.s hq)) (fresh_back x.h hq) (none_of_ex x.s hq) upd_same rk.keysA⟩
    · rw [e] at c
      exact .inl ⟨F0, H0, F, ρ, S, c⟩
/-! a dict of lists of its own: the list at a key grows -/
def lstAt (ds : List (D × D)) (k : Key) : Res (List D) := match valD ds k with
  | some (.list xs) => .ok xs
  | _ => .stk
theorem putD_some {ds : List (D × D)} {k : Key} {d e : D} (h : valD ds k = some e) : putD ds k d = ds.map fun p => if keyOf p.1 = some k then (p.1, d) else p := by
  unfold putD
  rw [if_pos]
  unfold valD at h
  obtain ⟨p, hp, _⟩ := Option.map_eq_some_iff.mp h
  rw [List.any_eq_true]
  have q := List.find?_some hp
  exact ⟨p, List.mem_of_find?_eq_some hp, q⟩
theorem od_grow {K : Frag} {F0 H0 F H : Hp} {σ : L2.St} {ρ : Env} (S : Stt K κ F0 H0 F H σ ρ) {i : Nat} {ds : List (D × D)} {k : Key} {xs : List D} (hk : κ i = .od) (hd : ρ[i]? = some (some (.dict ds))) (hv : valD ds k = some (.list xs)) :
    ∃ a kvs b vs, σ[i]? = some (some (.ref a)) ∧ H a = some (.dK kvs) ∧ kvs.length = ds.length ∧ valV kvs k = some (.ref b) ∧ H b = some (.lst vs) ∧ RpA K F vs xs ∧ ∀ F' H' vs' xs', Ext F H F' H' → RpA K F' vs' xs' → Stt K κ F0 H0 F' (upd H' b (.lst vs')) σ (ρ.set i (some (.dict (putD ds k (.list xs'))))) := by
  obtain ⟨a, kvs, e1, a0, fa, g, ok, n1, n2⟩ := od_at S hk hd
  rcases ok.val k with ⟨_, h⟩ | ⟨b, vs, ys, hm, h1, h2, h3, h4, h5, h6⟩
  · rw [hv] at h; cases h
  · rw [hv] at h2
    cases h2
    refine ⟨a, kvs, b, vs, e1, g, ok.length.symm, h1, h5, h6, fun F' H' vs' xs' x r => ?_⟩
    have S' := S.mono x
    obtain ⟨a', kvs', e1', a0', fa', g', ok', n1', n2'⟩ := od_at S' hk hd
    rw [e1] at e1'
    cases e1'
    rw [x.h _ _ g] at g'
    cases g'
    have fb : F' b = none := x.o b h4 (some_ne h5)
    have own : Owns (κ i) H' (.ref a) b := by rw [hk]; exact .inr ⟨a, kvs, k, rfl, x.h _ _ g, hm⟩
    have ba : a ≠ b := fun z => by rw [z, h5] at g; cases g
    rw [putD_some hv]
    refine S'.chg hd e1 (Ex.refl F') (fun c u e => by rw [upd_ne (ne_of_none e fb)]; exact S'.sub c u e) S'.nf (fun _ h _ => h) (fun c y hy nb => ?_) ?_ fun c oc => .inl ?_
    · rw [upd_ne (fun z => nb (by rw [z]; exact own))]; exact hy
    · rw [hk]
      exact ⟨a, kvs, _, rfl, a0', fa', rfl, by rw [upd_ne ba]; exact x.h _ _ g, ok'.chg r n1' n2' hm, n1', n2'⟩
    · rw [hk] at oc ⊢
      rcases (show V.ref a = .ref c ∨ ∃ a2 k2 q, V.ref a = .ref a2 ∧ upd H' b (.lst vs') a2 = some (.dK k2) ∧ (q, V.ref c) ∈ k2 from oc) with z | ⟨a2, k2, q, e3, e4, e5⟩
      · exact .inl z
      · cases e3
        rw [upd_ne ba] at e4
        exact .inr ⟨a, k2, q, rfl, e4, e5⟩
/-- what is done to the list at k: append, extend -/
def finApp (i : Nat) (mv : Env → Res D) (k : Key) : Env → Out := fun ρ => (getDct i ρ).out fun ds => (lstAt ds k).out fun xs => (mv ρ).out fun d => if xs.length < sizeLine then .nx (ρ.set i (some (.dict (putD ds k (.list (xs ++ [d])))))) else .stk
def finExt (i : Nat) (mv : Env → Res D) (k : Key) : Env → Out := fun ρ => (getDct i ρ).out fun ds => (lstAt ds k).out fun xs => (mv ρ).out fun d => (seqD d).out fun es => if xs.length + es.length ≤ sizeLine then .nx (ρ.set i (some (.dict (putD ds k (.list (xs ++ es)))))) else .stk
theorem lstAt_sat {ds : List (D × D)} {k : Key} {P : List D → Prop} {R : Exn → Prop} (h : (lstAt ds k).sat P R) : ∃ xs, valD ds k = some (.list xs) ∧ P xs := by
  unfold lstAt at h
  split at h
  · rename_i xs e; exact ⟨xs, e, h⟩
  · exact h.elim
theorem fin_app {i : Nat} {mg : Mg} {K : Frag} {k : Key} {F0 H0 F H : Hp} {σ : L2.St} {ρ : Env} {Dn : Ends} (hk : κ i = .od) (S : Stt K κ F0 H0 F H σ ρ) (c : OutOk mg K κ E F0 H0 F H Dn (finApp i mv k ρ)) :
    ∃ a kvs b vs, σ[i]? = some (some (.ref a)) ∧ H a = some (.dK kvs) ∧ valV kvs k = some (.ref b) ∧ H b = some (.lst vs) ∧ tCons (rdE mg K κ E mv) tNil σ H fun zs H2 => rAppend (.ref b) zs H2 fun _ H3 => Dn.nx σ H3 := by
  obtain ⟨ds, hd, c⟩ := getDct_sat (out_sat c)
  obtain ⟨xs, hv, c⟩ := lstAt_sat (out_sat c)
  obtain ⟨a, kvs, b, vs, h1, h2, hlen, h3, h4, h5, gr⟩ := od_grow S hk hd hv
  refine ⟨a, kvs, b, vs, h1, h2, h3, h4, F0, H0, F, ρ, S, Res.sat_imp (out_sat c) (fun d _ c v F' H' x r => ?_) fun x z => err_back S z⟩
  by_cases z : xs.length < sizeLine
  · simp only [if_pos z] at c
    exact ⟨b, vs, v, rfl, rfl, x.h _ _ h4, by rw [h5.length]; exact z, c _ F' _ x.f (gr F' H' _ _ x ((h5.mono x.f).append (.cons r .nil)))⟩
  · simp only [if_neg z] at c; exact c.elim
theorem fin_ext {i : Nat} {mg : Mg} {K : Frag} {k : Key} {F0 H0 F H : Hp} {σ : L2.St} {ρ : Env} {Dn : Ends} (hk : κ i = .od) (S : Stt K κ F0 H0 F H σ ρ) (c : OutOk mg K κ E F0 H0 F H Dn (finExt i mv k ρ)) :
    ∃ a kvs b vs, σ[i]? = some (some (.ref a)) ∧ H a = some (.dK kvs) ∧ valV kvs k = some (.ref b) ∧ H b = some (.lst vs) ∧ tCons (rdE mg K κ E mv) tNil σ H fun zs H2 => rExtA K (.ref b) zs H2 fun _ H3 => Dn.nx σ H3 := by
  obtain ⟨ds, hd, c⟩ := getDct_sat (out_sat c)
  obtain ⟨xs, hv, c⟩ := lstAt_sat (out_sat c)
  obtain ⟨a, kvs, b, vs, h1, h2, hlen, h3, h4, h5, gr⟩ := od_grow S hk hd hv
  refine ⟨a, kvs, b, vs, h1, h2, h3, h4, F0, H0, F, ρ, S, Res.sat_imp (out_sat c) (fun d _ c v F' H' x r => ?_) fun x z => err_back S z⟩
  obtain ⟨es, hse, c⟩ := seqD_sat (out_sat c)
  obtain ⟨q, ws, rfl, hq, rs⟩ := r.seq hse
  by_cases z : xs.length + es.length ≤ sizeLine
  · simp only [if_pos z] at c
    exact ⟨b, q, vs, ws, rfl, rfl, x.h _ _ h4, ex_lt x.s hq, by rw [h5.length, rs.length]; exact z, c _ F' _ x.f (gr F' H' _ _ x ((h5.mono x.f).append rs))⟩
  · simp only [if_neg z] at c; exact c.elim
/-- d[k].append(v), d[k].extend(v) -/
def mDL (i : Nat) (mk : Env → Res D) (fin : Key → Env → Out) : Env → Out := fun ρ => (getDct i ρ).out fun _ => (mk ρ).out fun dk => (ofO (keyOf dk)).out fun k => fin k ρ
/-- d.setdefault(k, []).append(v), .. -/
def mDSet (i : Nat) (mk : Env → Res D) (fin : Key → Env → Out) : Env → Out := fun ρ => (getDct i ρ).out fun ds => (mk ρ).out fun dk => (ofO (keyOf dk)).out fun k => if ds.length < sizeLine then (match valD ds k with
  | none => fin k (ρ.set i (some (.dict (putD ds k (.list [])))))
  | some _ => fin k ρ) else .stk
/-- what the end of such a statement asks of the list at b -/
def FinR (X : Cx) (κ : Nat → Kd) (E : EX) (i : Nat) (r : V → List V → Hp → VK → Prop) (ta : TA) (fin : Key → Env → Out) : Prop := ∀ (k : Key) (F0 H0 F H : Hp) (σ : L2.St) (ρ : Env) (Dn : Ends), Stt X.K κ F0 H0 F H σ ρ → OutOk X.mg X.K κ E F0 H0 F H Dn (fin k ρ) →
  ∃ a kvs b vs, σ[i]? = some (some (.ref a)) ∧ H a = some (.dK kvs) ∧ valV kvs k = some (.ref b) ∧ H b = some (.lst vs) ∧ ta σ H fun zs H2 => r (.ref b) zs H2 fun _ H3 => Dn.nx σ H3
theorem ds_dl {i : Nat} {x m : Str} {n : Nat} {px p2 apos cpos : Pos} {r : V → List V → Hp → VK → Prop} {ta : TA} {fin : Key → Env → Out} (hr : Room n X.A) (hk : κ i = .od) (hN : X.N[i]? = some x) (hv : Vis X.env.scope x) (hb : DE X κ E b mk) (hfin : FinR X κ E i r ta fin)
    (hx : ∀ {to : TE}, PE X (.Subscript (.Name x px) b p2) to → PE X (.Call (.Attribute (.Subscript (.Name x px) b p2) m apos) [e] [] cpos) (tBM X.K "list" r to ta)) (hn : NoSl b := by exact fun _ _ => rfl)
    (hs : swapsWith (.Call (.Attribute (.Subscript (.Name x px) b p2) m apos) [e] [] cpos) none pos.line X.env = pure false := by rfl) (hdb : (x == ("__debug__" : Str)) = false := by decide) (hcd : (x == ("__classdict__" : Str)) = false := by decide) :
    DS X κ E (.Expr (.Call (.Attribute (.Subscript (.Name x px) b p2) m apos) [e] [] cpos) pos) (mDL i mk fin) :=
  (ps_expr (hx (pe_dget (hu_of hr) (pe_var hN hv hdb hcd) hb hn)) hs).imp fun Dn σ H ⟨F0, H0, F, ρ, S, c⟩ => by
    obtain ⟨ds, hd, c⟩ := getDct_sat (out_sat c)
    obtain ⟨a0, kvs0, s0, _⟩ := od_at S hk hd
    refine ⟨.ref a0, s0, F0, H0, F, ρ, S, Res.sat_imp (out_sat c) (fun dk _ c y F1 H1 x1 ry => ?_) fun x z => err_back S z⟩
    obtain ⟨k, hkk, c⟩ := ofO_sat (out_sat c)
    obtain ⟨a, kvs, b', vs, h1, h2, h3, h4, h5⟩ := hfin k F0 H0 F1 H1 σ ρ Dn (S.mono x1) (OutOk.mono (H := H) x1.f c)
    rw [s0] at h1
    cases h1
    rw [(ry.key hkk).1]
    exact ⟨a0, .ref b', rfl, by rw [← h3]; exact DGet.k h2, .inl ⟨rfl, vs, Evl.sq_of h4⟩, h5⟩
theorem ds_dset {i : Nat} {x m : Str} {px p3 apos apos2 cpos cpos2 : Pos} {r : V → List V → Hp → VK → Prop} {ta : TA} {fin : Key → Env → Out} (hk : κ i = .od) (hN : X.N[i]? = some x) (hv : Vis X.env.scope x) (hb : DE X κ E b mk) (hfin : FinR X κ E i r ta fin)
    (hx : ∀ {to : TE}, PE X (.Call (.Attribute (.Name x px) "setdefault" apos) [b, .List [] p3] [] cpos) to → PE X (.Call (.Attribute (.Call (.Attribute (.Name x px) "setdefault" apos) [b, .List [] p3] [] cpos) m apos2) [e] [] cpos2) (tBM X.K "list" r to ta))
    (m2 : M2 X (.Name x px) "setdefault" apos b (.List [] p3) cpos := by exact ⟨rfl, rfl, rfl, rfl⟩)
    (hs : swapsWith (.Call (.Attribute (.Call (.Attribute (.Name x px) "setdefault" apos) [b, .List [] p3] [] cpos) m apos2) [e] [] cpos2) none pos.line X.env = pure false := by rfl) (hdb : (x == ("__debug__" : Str)) = false := by decide) (hcd : (x == ("__classdict__" : Str)) = false := by decide) :
    DS X κ E (.Expr (.Call (.Attribute (.Call (.Attribute (.Name x px) "setdefault" apos) [b, .List [] p3] [] cpos) m apos2) [e] [] cpos2) pos) (mDSet i mk fin) :=
  (ps_expr (hx (pe_dsetd (pe_var hN hv hdb hcd) hb (dn_lst (κ := κ) (E := E) da_nil) m2)) hs).imp fun Dn σ H ⟨F0, H0, F, ρ, S, c⟩ => by
    obtain ⟨ds, hd, c⟩ := getDct_sat (out_sat c)
    obtain ⟨a, kvs, s0, a0, fa, g, ok, n1, n2⟩ := od_at S hk hd
    refine ⟨.ref a, s0, a, rfl, .inl ⟨kvs, .inl g⟩, F0, H0, F, ρ, S, Res.sat_imp (out_sat c) (fun dk _ c y F1 H1 x1 ry => ?_) fun x z => err_back S z⟩
    obtain ⟨k, hkk, c⟩ := ofO_sat (out_sat c)
    obtain ⟨ey, _, ko⟩ := ry.key hkk
    subst ey
    have S1 := S.mono x1
    by_cases z : ds.length < sizeLine
    · simp only [if_pos z] at c
      refine ⟨F0, H0, F1, ρ, S1, ?_⟩
      have em : mLst mNil ρ = .ok [] := by
        have h0 : ([] : List D).length ≤ sizeLine := Nat.zero_le _
        show (if ([] : List D).length ≤ sizeLine then Res.ok [] else .stk) = _
        rw [if_pos h0]
      rw [em]
      intro p vs F2 H2 x2 hp fp hv2 rv
      cases rv
      have S2 := S1.mono x2
      have g2 : H2 a = some (.dK kvs) := (x1.trans x2).h _ _ g
      refine ⟨kvs, k, g2, rfl, by rw [← ok.length]; exact z, fun v hv3 => ?_, fun hn => ?_⟩
      · rcases ok.val k with ⟨q, _⟩ | ⟨b', vs', xs', hm, h1, h2, _⟩
        · rw [hv3] at q; cases q
        · rw [hv3] at h1
          cases h1
          simp only [h2] at c
          obtain ⟨a', kvs', b2, vs2, e1, e2, e3, e4, e5⟩ := hfin k F0 H0 F2 H2 σ ρ Dn S2 (OutOk.mono (H := H) (x1.trans x2).f c)
          rw [s0] at e1; cases e1
          rw [g2] at e2; cases e2
          rw [hv3] at e3; cases e3
          exact ⟨.inl ⟨rfl, vs2, Evl.sq_of e4⟩, e5⟩
      · have hdn : valD ds k = none := by
          rcases ok.val k with h | ⟨b', vs', xs', _, h, _⟩
          · exact h.2
          · rw [hn] at h; cases h
        simp only [hdn] at c
        have hno : ∀ j dj w, ρ[j]? = some (some dj) → σ[j]? = some (some w) → ¬ Owns (κ j) H2 w p := fun j dj w hj ej ow =>
          ((S1.slotAt hj ej).owned (Owns.back (S1.slotAt hj ej) (fun a _ o q => x2.h a o q) (fun a o q => x2.s a o (x2.f a o q)) ow)).2.2 hp
        have S3 := od_new (vs := []) (xs := []) S2 hk hd s0 ko g2 hn (fresh_back S1.h0 hp) fp hv2 .nil hno
        obtain ⟨a', kvs', b2, vs2, e1, e2, e3, e4, e5⟩ := hfin k F0 H0 F2 _ σ _ Dn S3 (OutOk.mono (H := H) (x1.trans x2).f c)
        rw [s0] at e1; cases e1
        rw [upd_same] at e2; cases e2
        rw [valV_put, if_pos rfl] at e3
        cases e3
        exact ⟨.inl ⟨rfl, vs2, Evl.sq_of e4⟩, e5⟩
    · simp only [if_neg z] at c; exact c.elim
end
end WD

/-! glue for the generator -/
namespace WD
open PySem PySem.Spec PyProof.Rows L2
open Evl (Ex Ex.refl Ex.trans Ex.new Ex.mut ex_l ex_t fresh_back)
/-- kinds of slots by a list -/
def kdT (l : List (Nat × Kd)) : Nat → Kd := fun i => (l.lookup i).getD .im
theorem tkx {P : Program} {w : World} {K : PySem.W.Frag} {mg : Str → Option Value} {base : Heap} {N : List Str} {qual : Str} {scope : Scope} {f : Addr} {cd : Value} {A : Around} {outer : List PySem.Env} {s : Shared} {H : Hp} {E : XK} :
    L2N.Takes (cxOf (L2N.CX P w) P w K mg base N qual scope f cd A outer s H E) (fun cls d σ H => (eX K E).err σ cls d H)   := L2N.takes_of rfl rfl rfl rfl
section
variable {X : Cx} {κ : Nat → Kd} {E : EX} {e : Expr} {mv : Env → Res D}
theorem fr_app {i : Nat} (hk : κ i = .od := by rfl) : FinR X κ E i rAppend (tCons (rdE X.mg X.K κ E mv) tNil) (finApp i mv) := fun k F0 H0 F H σ ρ Dn S c => fin_app hk S c
theorem fr_ext {i : Nat} (hk : κ i = .od := by rfl) : FinR X κ E i (rExtA X.K) (tCons (rdE X.mg X.K κ E mv) tNil) (finExt i mv) := fun k F0 H0 F H σ ρ Dn S c => fin_ext hk S c
end
theorem sg_raiseX {x : Str} {fs : List Str} {ma : Env → Res (List D)} : Straight (mRaise x fs ma) := fun ρ => sg_out fun ds => by
  by_cases h : ds.length = fs.length
  · simp only [if_pos h]; exact sg_err
  · simp only [if_neg h]; exact sg_stk
theorem sg_raise0 {y : Exn} : Straight (fun _ => .err y) := fun _ => sg_err
theorem sg_setD0 {i : Nat} : Straight (fun ρ => .nx (ρ.set i (some (.dict [])))) := fun _ => sg_nx
theorem sg_ite {c : Prop} [Decidable c] {a b : Out} (ha : (∀ ρ', a ≠ .bk ρ') ∧ ∀ ρ', a ≠ .ct ρ') (hb : (∀ ρ', b ≠ .bk ρ') ∧ ∀ ρ', b ≠ .ct ρ') : (∀ ρ', (if c then a else b) ≠ .bk ρ') ∧ ∀ ρ', (if c then a else b) ≠ .ct ρ' := by
  split <;> assumption
theorem sg_dput {i : Nat} {mk mv : Env → Res D} : Straight (mDPut i mk mv) := fun ρ => sg_out fun _ => sg_out fun _ => sg_out fun _ => sg_out fun _ => sg_ite sg_nx sg_stk
theorem sg_finApp {i : Nat} {mv : Env → Res D} {k : Key} : Straight (finApp i mv k) := fun ρ => sg_out fun _ => sg_out fun _ => sg_out fun _ => sg_ite sg_nx sg_stk
theorem sg_finExt {i : Nat} {mv : Env → Res D} {k : Key} : Straight (finExt i mv k) := fun ρ => sg_out fun _ => sg_out fun _ => sg_out fun _ => sg_out fun _ => sg_ite sg_nx sg_stk
theorem sg_dl {i : Nat} {mk : Env → Res D} {fin : Key → Env → Out} (h : ∀ k, Straight (fin k)) : Straight (mDL i mk fin) := fun ρ => sg_out fun _ => sg_out fun _ => sg_out fun k => h k ρ
theorem sg_dset {i : Nat} {mk : Env → Res D} {fin : Key → Env → Out} (h : ∀ k, Straight (fin k)) : Straight (mDSet i mk fin) := fun ρ => sg_out fun ds => sg_out fun _ => sg_out fun k => sg_ite (by
  split <;> exact h k _) sg_stk
/-- __init__ in a class's text -/
def iniOf : Stmt → Stmt
  | .ClassDef (body := b) .. => b.headD (.Pass ⟨0, 0, 0, 0⟩)
  | s => s
/-! the tables -/
def tblOf (l : List ((Str × Str) × Bool)) : Tbl := fun x c => (l.find? fun p => p.1.1 == x && p.1.2 == c).map (·.2)
theorem tblOf_mem {l : List ((Str × Str) × Bool)} {x c : Str} {b : Bool} (h : tblOf l x c = some b) : ((x, c), b) ∈ l := by
  unfold tblOf at h
  obtain ⟨p, hp, rfl⟩ := Option.map_eq_some_iff.mp h
  have q := List.find?_some hp
  obtain ⟨q1, q2⟩ := Bool.and_eq_true_iff.mp q
  have e1 := eq_of_beq q1
  have e2 := eq_of_beq q2
  have := List.mem_of_find?_eq_some hp
  rw [← e1, ← e2]
  exact this
theorem tbl_ok {K : Frag} {mg : Mg} {l : List ((Str × Str) × Bool)} (h : ∀ p ∈ l, ∀ C, mg p.1.1 = some (.ref C) → ∃ cv, mg p.1.2 = some cv ∧ PySem.W.exmOne K (.ref C) cv = some p.2) : TblOk K mg (tblOf l) := fun x c b e C hC => h _ (tblOf_mem e) C hC
theorem is_ok {K : Frag} {mg : Mg} {l : List ((Str × Str) × Bool)}
    (h : ∀ p ∈ l, ∀ C, mg p.1.1 = some (.ref C) → ExcC K C ∧ ∃ c cv, ClsV c cv ∧ RelV c cv ∧ (mg p.1.2 = some cv ∨ (mg p.1.2 = none ∧ bootBuiltins p.1.2 = some cv ∧ p.1.2 ≠ "__name__")) ∧ PySem.W.kitOne K (.ref C) cv = some p.2) : IsOk K mg (tblOf l) := fun x c b e C hC => h _ (tblOf_mem e) C hC
section
variable {K : Frag} {mg : Mg}
theorem tbl_nil {Q : (Str × Str) × Bool → Prop} : ∀ p ∈ ([] : List ((Str × Str) × Bool)), Q p := fun _ h => by simp at h
theorem tbl_cons {c d : Str} {b : Bool} {l : List ((Str × Str) × Bool)} {Cc Cd : Addr} (h1 : mg c = some (.ref Cc)) (h2 : mg d = some (.ref Cd)) (e : PySem.W.exmOne K (.ref Cc) (.ref Cd) = some b)
    (r : ∀ p ∈ l, ∀ C, mg p.1.1 = some (.ref C) → ∃ cv, mg p.1.2 = some cv ∧ PySem.W.exmOne K (.ref C) cv = some p.2) : ∀ p ∈ ((c, d), b) :: l, ∀ C, mg p.1.1 = some (.ref C) → ∃ cv, mg p.1.2 = some cv ∧ PySem.W.exmOne K (.ref C) cv = some p.2 := fun p hp C hC => by
  rcases List.mem_cons.mp hp with rfl | hp
  · have e1 := h1.symm.trans hC
    cases e1
    exact ⟨_, h2, e⟩
  · exact r p hp C hC
theorem is_cons {c d : Str} {b : Bool} {l : List ((Str × Str) × Bool)} {Cc Cd : Addr} (T : ExcC K Cc) (h1 : mg c = some (.ref Cc)) (h2 : mg d = some (.ref Cd)) (e : PySem.W.kitOne K (.ref Cc) (.ref Cd) = some b)
    (r : ∀ p ∈ l, ∀ C, mg p.1.1 = some (.ref C) → ExcC K C ∧ ∃ c cv, ClsV c cv ∧ RelV c cv ∧ (mg p.1.2 = some cv ∨ (mg p.1.2 = none ∧ bootBuiltins p.1.2 = some cv ∧ p.1.2 ≠ "__name__")) ∧ PySem.W.kitOne K (.ref C) cv = some p.2) :
    ∀ p ∈ ((c, d), b) :: l, ∀ C, mg p.1.1 = some (.ref C) → ExcC K C ∧ ∃ c cv, ClsV c cv ∧ RelV c cv ∧ (mg p.1.2 = some cv ∨ (mg p.1.2 = none ∧ bootBuiltins p.1.2 = some cv ∧ p.1.2 ≠ "__name__")) ∧ PySem.W.kitOne K (.ref C) cv = some p.2 := fun p hp C hC => by
  rcases List.mem_cons.mp hp with rfl | hp
  · have e1 := h1.symm.trans hC
    cases e1
    exact ⟨T, _, _, .own Cd, rfl, .inl h2, e⟩
  · exact r p hp C hC
theorem is_consB {c d : Str} {T' : String} {b : Bool} {l : List ((Str × Str) × Bool)} {Cc : Addr} (T : ExcC K Cc) (h1 : mg c = some (.ref Cc)) (h2 : mg d = none) (hv : bootBuiltins d = some (.type T')) (hn : d ≠ "__name__") (e : PySem.W.kitOne K (.ref Cc) (.type T') = some b)
    (r : ∀ p ∈ l, ∀ C, mg p.1.1 = some (.ref C) → ExcC K C ∧ ∃ c cv, ClsV c cv ∧ RelV c cv ∧ (mg p.1.2 = some cv ∨ (mg p.1.2 = none ∧ bootBuiltins p.1.2 = some cv ∧ p.1.2 ≠ "__name__")) ∧ PySem.W.kitOne K (.ref C) cv = some p.2) :
    ∀ p ∈ ((c, d), b) :: l, ∀ C, mg p.1.1 = some (.ref C) → ExcC K C ∧ ∃ c cv, ClsV c cv ∧ RelV c cv ∧ (mg p.1.2 = some cv ∨ (mg p.1.2 = none ∧ bootBuiltins p.1.2 = some cv ∧ p.1.2 ≠ "__name__")) ∧ PySem.W.kitOne K (.ref C) cv = some p.2 := fun p hp C hC => by
  rcases List.mem_cons.mp hp with rfl | hp
  · have e1 := h1.symm.trans hC
    cases e1
    exact ⟨T, _, _, .ty T', rfl, .inr ⟨h2, hv, hn⟩, e⟩
  · exact r p hp C hC
theorem xf_nil {fs : List Str} : XfOk K mg [] fs := fun _ h => by simp at h
theorem xf_cons {c : Str} {cs fs : List Str} {Cc : Addr} (h1 : mg c = some (.ref Cc)) (T : XfC K Cc) (hf : ∀ f ∈ fs, PySem.W.findIn K (.ref Cc) f = some none) (r : XfOk K mg cs fs) : XfOk K mg (c :: cs) fs := fun x hx C hC => by
  rcases List.mem_cons.mp hx with rfl | hx
  · have e1 := h1.symm.trans hC
    cases e1
    exact ⟨T, hf⟩
  · exact r x hx C hC
theorem all_nil {P : Str → Prop} : ∀ f ∈ ([] : List Str), P f := fun _ h => by simp at h
theorem all_cons {P : Str → Prop} {f : Str} {fs : List Str} (h : P f) (r : ∀ g ∈ fs, P g) : ∀ g ∈ f :: fs, P g := fun g hg => by
  rcases List.mem_cons.mp hg with rfl | hg
  · exact h
  · exact r g hg
theorem hcl_nil : ∀ n ∈ ([] : List Sut), ∃ cv, mg n.cls = some cv := fun _ h => by simp at h
theorem hcl_cons {c : Str} {i : Nat} {m : Str → Env → Out} {l : List Sut} (h : ∃ cv, mg c = some cv) (r : ∀ n ∈ l, ∃ cv, mg n.cls = some cv) : ∀ n ∈ (⟨c, i, m⟩ : Sut) :: l, ∃ cv, mg n.cls = some cv := fun n hn => by
  rcases List.mem_cons.mp hn with rfl | hn
  · exact h
  · exact r n hn
end
def mXfc (cs : List Str) (cn : Str) (i : Nat) (f : Str) : Env → Res D := fun ρ => if cs.contains cn = true then mXf i f ρ else .stk
theorem de_xfc {X : Cx} {E : EX} {a : Addr} {oe : Obj} {C : Addr} {cn : Str} {d : Option Addr} {pn : List (Addr × Obj)} {i : Nat} {n f : Str} {p pos : Pos} {cs fs : List Str} {κ' : Nat → Kd} (T : XfOk X.K X.mg cs fs) (hm : X.mg cn = some (.ref C)) (hz : Zc (.ref C) d oe) (hf : ∃ vs, oe.data = .fields vs)
    (hk : κ' i = .xn a d) (hN : X.N[i]? = some n) (hv : Vis X.env.scope n) (hff : fs.contains f = true) (hdb : (n == ("__debug__" : Str)) = false := by decide) (hcd : (n == ("__classdict__" : Str)) = false := by decide)
    (hb : attributeBase (.Name n p) f X.env (eval (.Name n p) X.env) = eval (.Name n p) X.env := by rfl) :
    DE (X.suite a ((a, oe) :: pn)) κ' E (.Attribute (.Name n p) f pos) (mXfc cs cn i f) := de_xf T hm hz hf hk hN hv hff hdb hcd hb
section
variable {X : Cx} {κ : Nat → Kd} {E : EX} {a b e : Expr} {pos p : Pos} {ma mk : Env → Res D} {ms : Env → Res (List D)}
/-- k in d, d the dict of slot i -/
def mInS (w : Bool) (i : Nat) (mk : Env → Res D) : Env → Res D := fun ρ => (mk ρ).bind fun y => (getDct i ρ).bind fun ds => (ofO (keyOf y)).bind fun k => .ok (.bool (w == (valD ds k).isSome))
theorem inS_slot {i : Nat} {F0 H0 F H : Hp} {σ : L2.St} {ρ : Env} {y : V} {dy : D} {k : Key} {ds : List (D × D)} (S : Stt X.K κ F0 H0 F H σ ρ) (hk : κ i = .od) (hd : ρ[i]? = some (some (.dict ds))) (ry : Rb X.K F H y dy) (hkk : keyOf dy = some k) :
    ∃ a o, σ[i]? = some (some (.ref a)) ∧ DGet H a y o ∧ o.isSome = (valD ds k).isSome := by
  obtain ⟨a, kvs, s0, a0, fa, g, ok, n1, n2⟩ := od_at S hk hd
  refine ⟨a, _, s0, by rw [ry.key hkk]; exact DGet.k g, ?_⟩
  rcases ok.val k with ⟨h1, h2⟩ | ⟨b, vs, xs, _, h1, h2, _⟩ <;> rw [h1, h2] <;> rfl
theorem inS_read {w : Bool} {i : Nat} {r : R2} (hr : ∀ y a o H (Q : VK), DGet H a y o → Q (.bl (w == o.isSome)) H → r y (.ref a) H Q) (hk : κ i = .od) : ∀ σ H Q, rdE X.mg X.K κ E (mInS w i mk) σ H Q → tOp r (rdE X.mg X.K κ E mk) (tVar i) σ H Q :=
  fun σ H Q ⟨F0, H0, F, ρ, S, c⟩ => ⟨F0, H0, F, ρ, S, Res.sat_imp (Res.sat_bind c) (fun y _ c v F1 H1 x1 ry => by
    have S1 := S.mono x1
    cases hd : getDct i ρ with
    | ok ds =>
      rw [hd] at c
      obtain ⟨ds', hd', e⟩ := getDct_sat (P := fun z => z = ds) (R := fun _ => False) (by rw [hd]; exact rfl)
      subst e
      obtain ⟨k, hkk, c⟩ := ofO_sat (Res.sat_bind c)
      obtain ⟨a, o, s0, g, q⟩ := inS_slot S1 hk hd' (.inl ry) hkk
      refine ⟨.ref a, s0, hr v a o H1 Q g ?_⟩
      rw [q]
      exact c _ F1 H1 x1 (.bl _)
    | err x =>
      exfalso
      unfold getDct at hd
      split at hd <;> cases hd
    | stk => rw [hd] at c; exact c.elim) fun _ z => z⟩
theorem de_inS {n i : Nat} {x : Str} (hr : Room n X.A) (hk : κ i = .od) (hN : X.N[i]? = some x) (hv : Vis X.env.scope x) (ha : DE X κ E a mk) (hm : behindInMarks .In (.Name x p) = false := by rfl) (hdb : (x == ("__debug__" : Str)) = false := by decide) (hcd : (x == ("__classdict__" : Str)) = false := by decide) : DE X κ E (.Compare a [.In] [.Name x p] pos) (mInS true i mk) :=
  (pe_cmpR (op_inK (hu_of hr)) ha (pe_var hN hv hdb hcd) hm).imp (inS_read (fun y a o H Q g q => ⟨a, o, rfl, g, by simpa using q⟩) hk)
theorem de_notInS {n i : Nat} {x : Str} (hr : Room n X.A) (hk : κ i = .od) (hN : X.N[i]? = some x) (hv : Vis X.env.scope x) (ha : DE X κ E a mk) (hm : behindInMarks .NotIn (.Name x p) = false := by rfl) (hdb : (x == ("__debug__" : Str)) = false := by decide) (hcd : (x == ("__classdict__" : Str)) = false := by decide) : DE X κ E (.Compare a [.NotIn] [.Name x p] pos) (mInS false i mk) :=
  (pe_cmpR (op_notInK (hu_of hr)) ha (pe_var hN hv hdb hcd) hm).imp (inS_read (fun y a o H Q g q => ⟨a, o, rfl, g, by simpa using q⟩) hk)
theorem inS_t {w : Bool} {i : Nat} {r : R2} (hr : ∀ y a o H (Q : VK), DGet H a y o → Q (.bl (w == o.isSome)) H → r y (.ref a) H Q) (hk : κ i = .od) : ∀ σ H Q, rdT X.mg X.K κ E (mTru (mInS w i mk)) σ H Q → tOp r (rdE X.mg X.K κ E mk) (tVar i) σ H fun v H' => ∃ b, v = .bl b ∧ Q b H' :=
  fun σ H Q ⟨F0, H0, F, ρ, S, c⟩ => inS_read hr hk σ H _ ⟨F0, H0, F, ρ, S, Res.sat_imp (bool_of c fun d hd => by
    unfold mInS at hd
    obtain ⟨y, _, hd⟩ := bind_ok hd
    obtain ⟨ds, _, hd⟩ := bind_ok hd
    obtain ⟨k, _, hd⟩ := bind_ok hd
    cases hd; exact ⟨_, rfl⟩) (fun d _ ⟨b, e, k⟩ v F' H' x r => by
    subst e
    cases r
    exact ⟨b, rfl, k F' H' x⟩) fun _ z => z⟩
theorem dt_inS {n i : Nat} {x : Str} (hr : Room n X.A) (hk : κ i = .od) (hN : X.N[i]? = some x) (hv : Vis X.env.scope x) (ha : DE X κ E a mk) (hm : behindInMarks .In (.Name x p) = false := by rfl) (hdb : (x == ("__debug__" : Str)) = false := by decide) (hcd : (x == ("__classdict__" : Str)) = false := by decide) : DT X κ E (.Compare a [.In] [.Name x p] pos) (mTru (mInS true i mk)) :=
  (pt_cmpR (op_inK (hu_of hr)) ha (pe_var hN hv hdb hcd) hm).imp (inS_t (fun y a o H Q g q => ⟨a, o, rfl, g, by simpa using q⟩) hk)
theorem dt_notInS {n i : Nat} {x : Str} (hr : Room n X.A) (hk : κ i = .od) (hN : X.N[i]? = some x) (hv : Vis X.env.scope x) (ha : DE X κ E a mk) (hm : behindInMarks .NotIn (.Name x p) = false := by rfl) (hdb : (x == ("__debug__" : Str)) = false := by decide) (hcd : (x == ("__classdict__" : Str)) = false := by decide) : DT X κ E (.Compare a [.NotIn] [.Name x p] pos) (mTru (mInS false i mk)) :=
  (pt_cmpR (op_notInK (hu_of hr)) ha (pe_var hN hv hdb hcd) hm).imp (inS_t (fun y a o H Q g q => ⟨a, o, rfl, g, by simpa using q⟩) hk)
/-- d[k] = [..], d a dict of lists of its own, the key a new one -/
theorem ds_dputN {i : Nat} {x : Str} {n : Nat} {px p2 : Pos} {mv : Env → Res (List D)} (hr : Room n X.A) (hk : κ i = .od) (hN : X.N[i]? = some x) (hv : Vis X.env.scope x) (hb : DE X κ E b mk) (he : DN X κ E e mv) (hs : swapsWith e (some (.Subscript (.Name x px) b p2)) pos.line X.env = pure false := by rfl)
    (hdb : (x == ("__debug__" : Str)) = false := by decide) (hcd : (x == ("__classdict__" : Str)) = false := by decide) : DS X κ E (.Assign [.Subscript (.Name x px) b p2] e pos) (mDPutN i mk mv) :=
  (ps_dput (hu_of hr) (pe_var hN hv hdb hcd) hb he hs).imp fun Dn σ H ⟨F0, H0, F, ρ, S, k⟩ => ⟨F0, H0, F, ρ, S, Res.sat_imp (out_sat k) (fun vs0 _ k p vs F1 H1 x1 hp fp hv1 rv => by
    obtain ⟨ds, hd, k⟩ := getDct_sat (out_sat k)
    have S1 := S.mono x1
    obtain ⟨a, kvs, s0, a0, fa, g, ok, n1, n2⟩ := od_at S1 hk hd
    refine ⟨.ref a, s0, F0, H0, F1, ρ, S1, Res.sat_imp (out_sat k) (fun dk _ k y F2 H2 x2 ry => ?_) fun x z => err_back S1 z⟩
    have S2 := S1.mono x2
    obtain ⟨kk, hkk, k⟩ := ofO_sat (out_sat k)
    obtain ⟨e1, _, ko⟩ := ry.key hkk
    subst e1
    by_cases z : ds.length < sizeLine ∧ valD ds kk = none
    · simp only [if_pos z] at k
      have g2 := x2.h _ _ g
      have hn : valV kvs kk = none := by
        rcases ok.val kk with h | ⟨b', vs', xs', _, _, h, _⟩
        · exact h.1
        · rw [z.2] at h; cases h
      have hno : ∀ j dj w, ρ[j]? = some (some dj) → σ[j]? = some (some w) → ¬ Owns (κ j) H2 w p := fun j dj w hj ej ow => by
        have g0 := S.slotAt hj ej
        exact (g0.owned (Owns.back g0 (fun a _ o q => (x1.trans x2).h a o q) (fun a o q => (x1.trans x2).s a o ((x1.trans x2).f a o q)) ow)).2.2 hp
      exact ⟨a, _, rfl, DPut.k g2 (by rw [← ok.length]; exact z.1), k _ F2 _ (x1.trans x2).f (od_new S2 hk hd s0 ko g2 hn (fresh_back S.h0 hp) (x2.o p fp (some_ne hv1)) (x2.h _ _ hv1) (rv.mono x2.f) hno)⟩
    · simp only [if_neg z] at k; exact k.elim) fun x z => err_back S z⟩
theorem sg_dputN {i : Nat} {mk : Env → Res D} {mv : Env → Res (List D)} : Straight (mDPutN i mk mv) := fun ρ => sg_out fun _ => sg_out fun _ => sg_out fun _ => sg_out fun _ => sg_ite sg_nx sg_stk
/-- list(range(a, b)) -/
def rngL (i j : Int) : Res (List D) := if -(2 ^ 62) ≤ i ∧ i < 2 ^ 62 ∧ -(2 ^ 62) ≤ j ∧ j < 2 ^ 62 ∧ (j - i).toNat ≤ 2 ^ 24 then .ok (rngD i (j - i).toNat) else .stk
def mRgL2 (ma mb : Env → Res D) : Env → Res (List D) := fun ρ => (ma ρ).bind fun x => (mb ρ).bind fun y => match x, y with
  | .int i, .int j => rngL i j
  | _, _ => .stk
def mRgL1 (mb : Env → Res D) : Env → Res (List D) := fun ρ => (mb ρ).bind fun y => match y with
  | .int j => rngL 0 j
  | _ => .stk
theorem rgV_rp {K : Frag} {F : Hp} (i : Int) (n : Nat) : RpA K F ((List.range n).map fun k => V.int (i + (k : Nat))) (rngD i n) := by
  unfold rngD
  induction List.range n with
  | nil => exact .nil
  | cons k ks ih => exact .cons (.int _) ih
theorem rngL_fin {K : Frag} {mg : Mg} {E1 : XK} {F H F' H' : Hp} {i j : Int} {Q : VK} (x : Ext F H F' H') (k : (rngL i j).sat (fun ds => ∀ p vs F' H', Ext F H F' H' → H p = none → F' p = none → H' p = some (.lst vs) → RpA K F' vs ds → Q (.ref p) H') (ErrOk mg K E1 F H)) :
    RgOk i j ∧ ∀ q, H' q = none → Q (.ref q) (upd H' q (.lst (rgV i j))) := by
  unfold rngL at k
  split at k
  · rename_i h
    exact ⟨h, fun q hq => k q _ F' _ (x.trans (.newO x.s hq)) (fresh_back x.h hq) (none_of_ex x.s hq) upd_same (rgV_rp i _)⟩
  · exact k.elim
theorem dn_listRg2 {p q : Pos} {pos2 : Pos} (hc : X.calm = true) (hg : Gl X "list") (hm : X.mg "list" = none) (hg2 : Gl X "range") (hm2 : X.mg "range" = none) (ha : DE X κ E a ma) (hb : DE X κ E b mk)
    (hp : (backTo pos2 (starEach [b] X.env)).any (·.1) = false := by rfl) (na : starEach [a, b] X.env = (false, eval a X.env) :: starEach [b] X.env := by rfl) (nb : starEach [b] X.env = (false, eval b X.env) :: starEach [] X.env := by rfl)
    (ne : starEach [.Call (.Name "range" p) [a, b] [] pos2] X.env = (false, eval (.Call (.Name "range" p) [a, b] [] pos2) X.env) :: starEach [] X.env := by rfl) : DN X κ E (.Call (.Name "list" q) [.Call (.Name "range" p) [a, b] [] pos2] [] pos) (mRgL2 ma mk) :=
  (pe_listRg hc hg hm (prg_2 hg2 hm2 ha hb na nb hp) ne).imp fun σ H Q ⟨F0, H0, F, ρ, S, c⟩ => ⟨F0, H0, F, ρ, S, Res.sat_imp (Res.sat_bind c) (fun x _ c v F1 H1 x1 r1 => ⟨F0, H0, F1, ρ, S.mono x1, Res.sat_imp (Res.sat_bind c) (fun y _ c w F2 H2 x2 r2 => by
    cases r1 <;> try exact c.elim
    cases r2 <;> try exact c.elim
    exact ⟨_, _, rfl, rfl, rngL_fin (x1.trans x2) c⟩) fun _ z => z.mono x1⟩) fun _ z => z⟩
theorem dn_listRg1 {p q : Pos} {pos2 : Pos} (hc : X.calm = true) (hg : Gl X "list") (hm : X.mg "list" = none) (hg2 : Gl X "range") (hm2 : X.mg "range" = none) (hb : DE X κ E b mk)
    (nb : starEach [b] X.env = (false, eval b X.env) :: starEach [] X.env := by rfl)
    (ne : starEach [.Call (.Name "range" p) [b] [] pos2] X.env = (false, eval (.Call (.Name "range" p) [b] [] pos2) X.env) :: starEach [] X.env := by rfl) : DN X κ E (.Call (.Name "list" q) [.Call (.Name "range" p) [b] [] pos2] [] pos) (mRgL1 mk) :=
  (pe_listRg hc hg hm (prg_1 hg2 hm2 hb nb) ne).imp fun σ H Q ⟨F0, H0, F, ρ, S, c⟩ => ⟨F0, H0, F, ρ, S, Res.sat_imp (Res.sat_bind c) (fun y _ c w F2 H2 x2 r2 => by
    cases r2 <;> try exact c.elim
    exact ⟨_, rfl, rngL_fin x2 c⟩) fun _ z => z⟩
end
end WD

/-! x += e; lists by their methods -/
namespace WD
open PySem PySem.Spec PyProof.Rows L2
open Evl (Ex Ex.refl Ex.trans Ex.new Ex.mut ex_l ex_t fresh_back)
section
variable {X : Cx} {κ : Nat → Kd} {E : EX} {a b e o : Expr} {pos p : Pos} {ma mb mk me mv : Env → Res D} {ms : Env → Res (List D)}
def incD (x y : D) : Res D := match x, y with
  | .int i, .int j => .ok (.int (i + j))
  | _, _ => .stk
def decD (x y : D) : Res D := match x, y with
  | .int i, .int j => .ok (.int (i - j))
  | _, _ => .stk
def mAug (f : D → D → Res D) (i : Nat) (me : Env → Res D) : Env → Out := fun ρ => (ofO (ρ[i]?).join).out fun x => (me ρ).out fun y => (f x y).out fun z => .nx (ρ.set i (some z))
theorem ds_aug {f : D → D → Res D} {g : Int → Int → Int} {i : Nat} {x : Str} {op : Operator} {pos' : Pos} (ho : PIp X op (ipI g)) (hf0 : ∀ x y, f x y = match x, y with | .int i, .int j => .ok (.int (g i j)) | _, _ => .stk) (hk : κ i = .im) (hN : X.N.Nodup) (hi : X.N[i]? = some x) (hx : Loc X.env.scope x) (he : DE X κ E e me)
    (hf : X.fn x = true ∨ X.env.scope.names.lookup x = some .local := by first | exact .inl rfl | exact .inr rfl | assumption) : DS X κ E (.AugAssign (.Name x pos') op e pos) (mAug f i me) :=
  (ps_aug (i := i) hN hi hx he ho hf).imp fun Dn σ H ⟨F0, H0, F, ρ, S, k⟩ => by
    obtain ⟨d, hd, k⟩ := ofO_sat (out_sat k)
    obtain ⟨v, h1, h2⟩ := S.slot i d (join_some hd)
    rw [hk] at h2
    refine ⟨v, h1, F0, H0, F, ρ, S, Res.sat_imp (out_sat k) (fun y _ k w F' H' x r => ?_) fun x z => err_back S z⟩
    have k := out_sat k
    rw [hf0] at k
    have h2 : Rp X.K F v d := h2
    cases h2 <;> try exact k.elim
    cases r <;> try exact k.elim
    exact ⟨_, _, rfl, rfl, k _ F' H' x.f ((S.mono x).set hk (.int _))⟩
theorem ds_inc {i : Nat} {x : Str} {pos' : Pos} (hk : κ i = .im) (hN : X.N.Nodup) (hi : X.N[i]? = some x) (hx : Loc X.env.scope x) (he : DE X κ E e me)
    (hf : X.fn x = true ∨ X.env.scope.names.lookup x = some .local := by first | exact .inl rfl | exact .inr rfl | assumption) : DS X κ E (.AugAssign (.Name x pos') .Add e pos) (mAug incD i me) := ds_aug ip_add (fun x y => by cases x <;> cases y <;> rfl) hk hN hi hx he hf
theorem ds_dec {i : Nat} {x : Str} {pos' : Pos} (hk : κ i = .im) (hN : X.N.Nodup) (hi : X.N[i]? = some x) (hx : Loc X.env.scope x) (he : DE X κ E e me)
    (hf : X.fn x = true ∨ X.env.scope.names.lookup x = some .local := by first | exact .inl rfl | exact .inr rfl | assumption) : DS X κ E (.AugAssign (.Name x pos') .Sub e pos) (mAug decD i me) := ds_aug ip_sub (fun x y => by cases x <;> cases y <;> rfl) hk hN hi hx he hf
theorem sg_aug {f : D → D → Res D} {i : Nat} {me : Env → Res D} : Straight (mAug f i me) := fun ρ => sg_out fun _ => sg_out fun _ => sg_out fun _ => sg_nx
end
end WD

namespace WD
open PySem PySem.Spec PyProof.Rows L2
open Evl (Ex Ex.refl Ex.trans Ex.new Ex.mut ex_l ex_t fresh_back)

/-! ### defs that change what one of their parameters names -/
def delH (H : Hp) (a : Addr) : Hp := fun b => if b = a then none else H b
theorem delH_ex (H : Hp) (a : Addr) : Ex (delH H a) H := fun b u e => by
  unfold delH at e
  split at e
  · cases e
  · exact e
theorem delH_ne {H : Hp} {a b : Addr} (h : b ≠ a) : delH H a b = H b := if_neg h
theorem delH_self {H : Hp} {a : Addr} : delH H a a = none := if_pos rfl
/-- the mirror gives (what is returned, what the parameter j names then) -/
def spW (mg : Mg) (K : Frag) (n j : Nat) (m : List D → Res D) : Sp := fun vs H Q E => vs.length = n ∧ ∃ F a ds, Ex F H ∧ NF F ∧ F a = none ∧ vs[j]? = some (.ref a) ∧ ds.length = n ∧ (∀ d, ds[j]? = some d → OwnAt K F H a d) ∧ (∀ i d, i ≠ j → ds[i]? = some d → ∃ v, vs[i]? = some v ∧ Rp K F v d) ∧
  (m ds).sat (fun r => ∀ d d' v F' H', r = .tuple [d, d'] → Ext F (delH H a) F' H' → Rp K F' v d → F' a = none → OwnAt K F' H' a d' → Q v H') (fun _ => False)
abbrev eXW (K : Frag) (a : Addr) (E : XK) : EX := ⟨fun _ => E, fun _ r v F H => ∃ d d', r = .tuple [d, d'] ∧ Rp K F v d ∧ F a = none ∧ OwnAt K F H a d'⟩
def kdW (κ : Nat → Kd) (j : Nat) (a : Addr) : Nat → Kd := fun i => if i = j then .pw a else κ i
theorem kdW_self {κ : Nat → Kd} {j : Nat} {a : Addr} : kdW κ j a j = .pw a := if_pos rfl
theorem kdW_ne {κ : Nat → Kd} {j i : Nat} {a : Addr} (h : i ≠ j) : kdW κ j a i = κ i := if_neg h
def fnOutW (j : Nat) (o : Out) : Res D :=
  match o with
  | .nx ρ => (ofO (ρ[j]?).join).bind fun d' => .ok (.tuple [.none, d'])
  | .rt d => .ok d
  | .err x => .err x
  | _ => .stk
def mkFnW (n j : Nat) (body : Env → Out) : List D → Res D := fun ds => fnOutW j (body (ds.map some ++ List.replicate (n - ds.length) none))
section
variable {X : Cx} {κ κe : Nat → Kd} {E : EX} {a b c e : Expr} {es : List Expr} {pos : Pos} {st : Stmt} {sts : List Stmt}
def mRetW (j : Nat) (m : Env → Res D) : Env → Out := fun ρ => (m ρ).out fun d => (ofO (ρ[j]?).join).out fun d' => .rt (.tuple [d, d'])
theorem ds_retW {m : Env → Res D} {j : Nat} {p : Addr} (hk : κ j = .pw p) (h : DE X κ E e m) (hR : ∀ H0 d d' v F H, Rp X.K F v d → F p = none → OwnAt X.K F H p d' → E.ret H0 (.tuple [d, d']) v F H := by exact fun _ _ _ _ _ _ h1 h2 h3 => ⟨_, _, rfl, h1, h2, h3⟩) : DS X κ E (.Return (some e) pos) (mRetW j m) :=
  (ps_ret h).imp fun Dn σ H ⟨F0, H0, F, ρ, S, k⟩ => ⟨F0, H0, F, ρ, S, Res.sat_imp (out_sat k) (fun d _ k v F' H' x r => by
    obtain ⟨d', hd, k⟩ := ofO_sat (out_sat k)
    obtain ⟨u, hu, so⟩ := (S.mono x).slot j d' (join_some hd)
    rw [hk] at so
    obtain ⟨e, h0, f0, o⟩ := so
    exact k v F' H' (S.ext.trans x) (hR _ _ _ _ _ _ r f0 o)) fun x z => err_back S z⟩
theorem fn_startW {K : Frag} {F H : Hp} {vs : List V} {ds : List D} {N : List Str} {np j : Nat} {p : Addr} (s : Ex F H) (nf : NF F) (hl : vs.length = np) (hd : ds.length = np) (fa : F p = none) (hj : vs[j]? = some (.ref p)) (ho : ∀ d, ds[j]? = some d → OwnAt K F H p d)
    (hr : ∀ i d, i ≠ j → ds[i]? = some d → ∃ v, vs[i]? = some v ∧ Rp K F v d) (hk : ∀ i, i < np → i ≠ j → κ i = .im) :
    Stt K (kdW κ j p) F (delH H p) F H (L2.start N vs) (ds.map some ++ List.replicate (N.length - ds.length) none) := by
  have known : ∀ i d, (ds.map some ++ List.replicate (N.length - ds.length) none)[i]? = some (some d) → ds[i]? = some d ∧ i < np := fun i d h => by
    by_cases hi : i < ds.length
    · rw [List.getElem?_append_left (by simpa using hi), List.getElem?_map, List.getElem?_eq_getElem hi] at h
      have : ds[i] = d := by simpa using h
      rw [List.getElem?_eq_getElem hi, this]
      exact ⟨rfl, by omega⟩
    · rw [List.getElem?_append_right (by simpa using hi), List.getElem?_replicate] at h
      split at h <;> cases h
  have own : ∀ i b d u, (ds.map some ++ List.replicate (N.length - ds.length) none)[i]? = some (some d) → Owns (kdW κ j p i) H u b → i = j := fun i b d u h o => Classical.byContradiction fun z => by
    rw [kdW_ne z, hk i (known i d h).2 z] at o
    exact o
  refine ⟨Ex.refl F, delH_ex H p, fun _ h _ => h, s, nf, ?_, fun i d h => ?_, fun i l b di dl u w hn hi hl' _ _ ki kl => hn ((own i b di u hi ki).trans (own l b dl w hl' kl).symm)⟩
  · unfold L2.start
    simp [hd, hl]
  · obtain ⟨h1, h2⟩ := known i d h
    have st : ∀ v, vs[i]? = some v → (L2.start N vs)[i]? = some (some v) := fun v g => by
      unfold L2.start
      rw [List.getElem?_append_left (by rw [List.length_map]; omega), List.getElem?_map, g]
      rfl
    by_cases z : i = j
    · subst z
      refine ⟨_, st _ hj, ?_⟩
      rw [kdW_self]
      exact ⟨rfl, delH_self, fa, ho d h1⟩
    · obtain ⟨v, g1, g2⟩ := hr i d z h1
      refine ⟨v, st v g1, ?_⟩
      rw [kdW_ne z, hk i h2 z]
      exact g2
theorem fn_okW {κe : Addr → Nat → Kd} {P : Program} {w : World} {K : Frag} {mg : Mg} {base : Heap} {x qual : Str} {st : Stmt} {f : Addr} {fd : FuncData} {N ps : List Str} {k n j : Nat} {body : Env → Out} (F : Fun K x qual st f fd) (S : FnScope N ps (defScope st)) (hn : N.length = n)
    (hk : ∀ i, i < ps.length → i ≠ j → κ i = .im)
    (hbody : ∀ (p : Addr) (cdv : Value) (A : Around) (outer : List PySem.Env) (s : Shared) (H : Hp) (E : XK), Room k (A.deeper (envOfC qual (defScope st) s.heap.objs.size f cdv)) →
      DSs2 (cxOf (L2N.CX P w) P w K mg base N qual (defScope st) f cdv A outer s H E) (kdW κ j p) (κe p) (eXW K p E) (defBody st) body)
    (hj : ∀ p, κe p j = .pw p := by intro _; rfl) : FnOk P w K mg base (L2N.CX P w) (k + 1) f fd ps (spW mg K ps.length j (mkFnW n j body)) := by
  subst hn
  refine F.okQ S (fun vs H Q E h => h.1) fun cdv A outer s H vs Q E hr h => ?_
  obtain ⟨hl, F, p, ds, e, nf, fa, hjv, hd, ho, hrp, c⟩ := h
  refine ⟨_, hbody p cdv A outer s H E hr, ?_⟩
  refine ⟨F, delH H p, F, _, fn_startW e nf hl hd fa hjv ho hrp hk, ?_⟩
  unfold mkFnW at c
  generalize hob : body (ds.map some ++ List.replicate (N.length - ds.length) none) = o at c ⊢
  cases o with
  | nx ρ =>
    intro σ' F' H' _ S'
    unfold fnOutW at c
    obtain ⟨d', hd', c⟩ := ofO_sat (Res.sat_bind c)
    obtain ⟨u, hu, so⟩ := S'.slot j d' (join_some hd')
    rw [hj p] at so
    obtain ⟨e, h0, f0, o⟩ := so
    exact c .none d' .non F' H' rfl S'.ext .non f0 o
  | bk ρ => exact c.elim
  | ct ρ => exact c.elim
  | rt d =>
    intro v F' H' x ⟨d1, d2, hd, r, f0, o⟩
    exact c d1 d2 v F' H' hd x r f0 o
  | err x => exact c.elim
  | stk => exact c.elim

/-! ### expressions that change a slot -/
def rdW (mg : Mg) (K : Frag) (κ : Nat → Kd) (E : EX) (m : Env → Res (D × Env)) : TE := fun σ H Q => ∃ F0 H0 F ρ, Stt K κ F0 H0 F H σ ρ ∧
  (m ρ).sat (fun p => ∀ v F' H', Ex F F' → Stt K κ F0 H0 F' H' σ p.2 → Rp K F' v p.1 → Q v H') (ErrOk mg K (E.err σ) F H)
def DWE (X : Cx) (κ : Nat → Kd) (E : EX) (e : Expr) (m : Env → Res (D × Env)) : Prop := PE X e (rdW X.mg X.K κ E m)
structure FnW (P : Program) (w : World) (K : Frag) (mg : Mg) (base : Heap) (k : Nat) (x : Str) (ps : List Str) (j : Nat) (m : List D → Res D) : Prop where
  ex : ∃ f fd, mg x = some (.ref f) ∧ PySem.W.keepIn K (.ref f) = true ∧ Binds K fd ps [] ∧ FnOk P w K mg base (L2N.CX P w) k f fd ps (spW mg K ps.length j m)
/-- arguments, one of them the name of slot i -/
def rdAW (mg : Mg) (K : Frag) (κ : Nat → Kd) (E : EX) (i : Nat) (ma mb : Env → Res (List D)) : TA := fun σ H Q => ∃ F0 H0 F ρ, Stt K κ F0 H0 F H σ ρ ∧ (∃ d, ρ[i]? = some (some d)) ∧
  (ma ρ).sat (fun ds1 => (mb ρ).sat (fun ds2 => ∀ vs1 w vs2 F' H', Ext F H F' H' → σ[i]? = some (some w) → RpA K F' vs1 ds1 → RpA K F' vs2 ds2 → Q (vs1 ++ w :: vs2) H') (ErrOk mg K (E.err σ) F H)) (ErrOk mg K (E.err σ) F H)
def DAW (X : Cx) (κ : Nat → Kd) (E : EX) (i : Nat) (es : List Expr) (ma mb : Env → Res (List D)) : Prop := PA X es (rdAW X.mg X.K κ E i ma mb)
theorem daw_own {i : Nat} {x : Str} {mb : Env → Res (List D)} (hN : X.N[i]? = some x) (hv : Vis X.env.scope x) (hs : DA X κ E es mb) (hst : starEach (.Name x pos :: es) X.env = (false, eval (.Name x pos) X.env) :: starEach es X.env := by rfl)
    (hd : (x == ("__debug__" : Str)) = false := by decide) (hcd : (x == ("__classdict__" : Str)) = false := by decide) : DAW X κ E i (.Name x pos :: es) mNil mb :=
  (pa_cons (pe_var hN hv hd hcd) hs hst).imp fun σ H Q ⟨F0, H0, F, ρ, S, ⟨d, hd⟩, c⟩ => by
    obtain ⟨v, h1, h2⟩ := S.slot i d hd
    exact ⟨v, h1, F0, H0, F, ρ, S, Res.sat_imp c (fun ds2 _ k vs F' H' x r => k [] v vs F' H' x h1 .nil r) fun _ z => z⟩
theorem daw_cons {i : Nat} {m : Env → Res D} {ma mb : Env → Res (List D)} (h : DE X κ E e m) (hs : DAW X κ E i es ma mb) (hst : starEach (e :: es) X.env = (false, eval e X.env) :: starEach es X.env := by rfl) : DAW X κ E i (e :: es) (mCons m ma) mb :=
  (pa_cons h hs hst).imp fun σ H Q ⟨F0, H0, F, ρ, S, hd, c⟩ => ⟨F0, H0, F, ρ, S, Res.sat_imp (Res.sat_bind c) (fun d _ k v F' H' x r =>
    ⟨F0, H0, F', ρ, S.mono x, hd, Res.sat_imp (Res.sat_bind k) (fun ds1 _ k => Res.sat_imp k (fun ds2 _ k vs1 w vs2 F2 H2 x2 hw r1 r2 => k (v :: vs1) w vs2 F2 H2 (x.trans x2) hw (.cons (r.mono x2.f) r1) r2) fun y z => z.mono x) fun y z => z.mono x⟩) fun _ z => z⟩
def mCallW (i : Nat) (m : List D → Res D) (ma mb : Env → Res (List D)) : Env → Res (D × Env) := fun ρ => (ofO (ρ[i]?).join).bind fun dO => (ma ρ).bind fun ds1 => (mb ρ).bind fun ds2 => (noErr (m (ds1 ++ dO :: ds2))).bind fun r => match r with
  | .tuple [d, d'] => .ok (d, ρ.set i (some d'))
  | _ => .stk
theorem callW_sat {r : D} {ρ : Env} {i : Nat} {P : D × Env → Prop} {R : Exn → Prop} {d d' : D} (e : r = .tuple [d, d']) (h : (match r with
  | .tuple [d, d'] => Res.ok (d, ρ.set i (some d'))
  | _ => .stk).sat P R) : P (d, ρ.set i (some d')) := by
  subst e
  exact h
theorem Stt.chgM {K : Frag} {F0 H0 F H F' H' : Hp} {σ : L2.St} {ρ : Env} {i : Nat} {p : Addr} {d d' : D} (S : Stt K κ F0 H0 F H σ ρ) (hk : (κ i).mutb = true) (hd : ρ[i]? = some (some d)) (hs : σ[i]? = some (some (.ref p))) (x : Ext F (delH H p) F' H') (fa : F' p = none) (o : OwnAt K F' H' p d') :
    Stt K κ F0 H0 F' H' σ (ρ.set i (some d')) := by
  have si := S.slotAt hd hs
  obtain ⟨a', e, ha0, fa0, oa, mk⟩ := si.mutb hk
  cases e
  refine S.chg hd hs x.f x.s (x.n S.nf) (fun b h1 h2 => ?_) (fun b u hu nb => ?_) (mk _ _ _ fa o) fun b ob => .inl ((mutb_owns hk).mpr ((mutb_owns hk).mp ob))
  · by_cases z : b = p
    · rw [z]; exact fa
    · exact x.o b h1 (by rw [delH_ne z]; exact h2)
  · exact x.h b u (by rw [delH_ne fun z => nb ((mutb_owns hk).mpr (by rw [z]))]; exact hu)
theorem de_callW {k i j : Nat} {x : Str} {p : Pos} {ps : List Str} {m : List D → Res D} {ma mb : Env → Res (List D)} (G : FnW X.prog X.w X.K X.mg X.base k x ps j m) (hr : Room k X.A) (hx : ∀ σ, PassesAt (L2N.CX X.prog X.w) X σ (E.err σ)) (hg : Gl X x) (hk : (κ i).mutb = true) (ha : DAW X κ E i (e :: es) ma mb)
    (hma : ∀ ρ ds, ma ρ = .ok ds → ds.length = j) (hmb : ∀ ρ ds, mb ρ = .ok ds → ds.length + j + 1 = ps.length)
    (hdb : (x == ("__debug__" : Str)) = false := by decide) (he : starEach (e :: es) X.env = (false, eval e X.env) :: starEach es X.env := by rfl) (hpl : (backTo pos (starEach es X.env)).any (·.1) = false := by rfl) :
    DWE X κ E (.Call (.Name x p) (e :: es) [] pos) (mCallW i m ma mb) := by
  obtain ⟨f, fd, hm, hkp, hb, hF⟩ := G.ex
  refine (pe_callS hF hr hg hm hkp hb hx ha hdb he hpl).imp fun σ H Q ⟨F0, H0, F, ρ, S, c⟩ => ?_
  obtain ⟨dO, hd, c⟩ := ofO_sat (Res.sat_bind c)
  have hd := join_some hd
  refine ⟨F0, H0, F, ρ, S, ⟨dO, hd⟩, Res.sat_imp (Res.sat_bind c) (fun ds1 q1 c => Res.sat_imp (Res.sat_bind c) (fun ds2 q2 c vs1 w vs2 F' H' x hw r1 r2 => ?_) fun _ z => z) fun _ z => z⟩
  have S1 := S.mono x
  obtain ⟨p, hs, fa, oa⟩ := own_at S1 hk hd
  have hs0 := hs
  rw [hw] at hs
  cases hs
  have l1 := hma ρ ds1 q1
  have l2 := hmb ρ ds2 q2
  have e1 := r1.length
  have e2 := r2.length
  have c := noErr_sat (R' := fun _ => False) (Res.sat_bind c)
  have hj : (ds1 ++ dO :: ds2)[j]? = some dO := by rw [List.getElem?_append_right (by omega), show j - ds1.length = 0 by omega]; rfl
  refine ⟨by rw [List.length_append, List.length_cons]; omega, F', p, ds1 ++ dO :: ds2, x.s, x.n S.nf, fa, by rw [List.getElem?_append_right (by omega), show j - vs1.length = 0 by omega]; rfl, by rw [List.length_append, List.length_cons]; omega, fun d q => ?_, fun l d nl q => ?_, Res.sat_imp c (fun r _ k d d' v F2 H2 er x2 rv fa2 o2 => ?_) fun _ z => z⟩
  · rw [hj] at q
    cases q
    exact oa
  · by_cases z : l < j
    · rw [List.getElem?_append_left (by omega)] at q
      obtain ⟨v, g1, g2⟩ := r1.get q
      exact ⟨v, by rw [List.getElem?_append_left (by omega)]; exact g1, g2⟩
    · have hl : l - ds1.length = (l - j - 1) + 1 := by omega
      rw [List.getElem?_append_right (by omega), hl, List.getElem?_cons_succ] at q
      obtain ⟨v, g1, g2⟩ := r2.get q
      refine ⟨v, ?_, g2⟩
      rw [List.getElem?_append_right (by omega), show l - vs1.length = (l - j - 1) + 1 by omega, List.getElem?_cons_succ]
      exact g1
  · exact callW_sat er k v F2 H2 (x.f.trans x2.f) (S1.chgM hk hd hs0 x2 fa2 o2) rv
/-! what is done with them -/
def mAsgW (l : Nat) (m : Env → Res (D × Env)) : Env → Out := fun ρ => (m ρ).out fun p => .nx (p.2.set l (some p.1))
theorem ds_setW {i : Nat} {x : Str} {pos' : Pos} {m : Env → Res (D × Env)} (hk : κ i = .im) (hN : X.N.Nodup) (hi : X.N[i]? = some x) (hx : Loc X.env.scope x) (h : DWE X κ E e m) (hs : swapsWith e (some (.Name x pos')) pos.line X.env = pure false := by rfl)
    (hf : X.fn x = true ∨ X.env.scope.names.lookup x = some .local := by first | exact .inl rfl | exact .inr rfl | assumption) : DS X κ E (.Assign [.Name x pos'] e pos) (mAsgW i m) :=
  (ps_set (i := i) hN hi hx h hs hf).imp fun Dn σ H ⟨F0, H0, F, ρ, S, k⟩ => ⟨F0, H0, F, ρ, S, Res.sat_imp (out_sat k) (fun p _ k v F' H' x S' r => k _ F' H' x (S'.set hk r)) fun x z => err_back S z⟩
def mExprW (m : Env → Res (D × Env)) : Env → Out := fun ρ => (m ρ).out fun p => .nx p.2
theorem ds_exprW {m : Env → Res (D × Env)} (h : DWE X κ E e m) (hs : swapsWith e none pos.line X.env = pure false := by rfl) : DS X κ E (.Expr e pos) (mExprW m) :=
  (ps_expr h hs).imp fun Dn σ H ⟨F0, H0, F, ρ, S, k⟩ => ⟨F0, H0, F, ρ, S, Res.sat_imp (out_sat k) (fun p _ k v F' H' x S' r => k σ F' H' x S') fun x z => err_back S z⟩
def mAsgGW (g : D → Env → Option Env) (m : Env → Res (D × Env)) : Env → Out := fun ρ => (m ρ).out fun p => (ofO (g p.1 p.2)).out .nx
theorem ds_asgW {tg : Expr} {is : List Nat} {g : D → Env → Option Env} {m : Env → Res (D × Env)} (h : DWE X κ E e m) (hg : DG X κ tg is g) (hs : swapsWithSole [tg] e pos.line X.env = pure false := by rfl) (hw : swappedStores [tg] e X.env = pure none := by rfl)
    (h1 : (assignEach [tg] X.env).map (·.2) = [assign tg X.env] := by rfl) : DS X κ E (.Assign [tg] e pos) (mAsgGW g m) :=
  (ps_asg h hg hs hw h1).imp fun Dn σ H ⟨F0, H0, F, ρ, S, k⟩ => ⟨F0, H0, F, ρ, S, Res.sat_imp (out_sat k) (fun p _ k v F' H' x S' r => by
    obtain ⟨ρ', e, k⟩ := ofO_sat (out_sat k)
    exact ⟨F0, H0, F', p.2, p.1, ρ', S', r, e, fun σ' F2 H2 x2 S2 _ _ => k σ' F2 H2 (x.trans x2.f) S2⟩) fun x z => err_back S z⟩
/-- a op e, e changing a slot -/
def mBinW (f : D → D → Res D) (ma : Env → Res D) (mb : Env → Res (D × Env)) : Env → Res (D × Env) := fun ρ => (ma ρ).bind fun x => (mb ρ).bind fun p => (f x p.1).bind fun d => .ok (d, p.2)
theorem de_opW {op : Operator} {r : R2} {f : D → D → Res D} (ho : OpR X (binaryOp op) r) (hf : Op2 X.K r f) (ne : ∀ x y z, f x y ≠ .err z) {ma : Env → Res D} {mb : Env → Res (D × Env)} (ha : DE X κ E a ma) (hb : DWE X κ E b mb) : DWE X κ E (.BinOp a op b pos) (mBinW f ma mb) :=
  (pe_op ho ha hb).imp fun σ H Q ⟨F0, H0, F, ρ, S, c⟩ => ⟨F0, H0, F, ρ, S, Res.sat_imp (Res.sat_bind c) (fun dx _ c1 x F1 H1 e1 r1 =>
    ⟨F0, H0, F1, ρ, S.mono e1, Res.sat_imp (Res.sat_bind c1) (fun p _ c2 y F2 H2 f2 S2 r2 => hf F2 H2 x y dx p.1 S2.sub (.inl (r1.mono f2)) (.inl r2) Q (by
      have c3 := Res.sat_bind c2
      cases q : f dx p.1 with
      | ok d => rw [q] at c3; exact fun v F' H' x3 rv => c3 v F' H' ((e1.f.trans f2).trans x3.f) (S2.mono x3) rv
      | err z => exact absurd q (ne _ _ _)
      | stk => rw [q] at c3; exact c3)) fun x z => z.mono e1⟩) fun _ z => z⟩
/-! ### x.pop() -/
def mPop (i : Nat) : Env → Res (D × Env) := fun ρ => (getL i ρ).bind fun ds => (ofO ds.getLast?).bind fun d => .ok (d, ρ.set i (some (.list ds.dropLast)))
theorem de_pop {i : Nat} {x : Str} {px : Pos} {apos cpos : Pos} (hk : (κ i).mutb = true) (hN : X.N[i]? = some x) (hv : Vis X.env.scope x)
    (hx : PE X (.Call (.Attribute (.Name x px) "pop" apos) [] [] cpos) (tBM0 X.K "list" rPop (tVar i)) := by exact pe_bm0 PySem.F.plainAttrs_list PySem.F.slot_list_pop PySem.F.type_list_pop mt_pop (pe_var (by assumption) (by assumption))) :
    DWE X κ E (.Call (.Attribute (.Name x px) "pop" apos) [] [] cpos) (mPop i) :=
  hx.imp fun σ H Q ⟨F0, H0, F, ρ, S, c⟩ => by
    obtain ⟨ds, hd, c⟩ := getL_sat (Res.sat_bind c)
    obtain ⟨d, hl, c⟩ := ofO_sat (Res.sat_bind c)
    obtain ⟨a, hs', fa, o⟩ := own_at S hk hd
    obtain ⟨vs, g, r⟩ := own_list o
    rw [List.getLast?_eq_getElem?] at hl
    obtain ⟨y, hy, ry⟩ := r.get hl
    refine ⟨.ref a, hs', .inl ⟨rfl, vs, Evl.sq_of g⟩, a, vs, y, rfl, rfl, g, by rw [r.length]; exact hy, c y F _ (Ex.refl F) ?_ ry⟩
    exact S.mut hk hd hs' (.inl ⟨vs.dropLast, ds.dropLast, rfl, upd_same, r.dropLast⟩)
end
end WD

/-! places in lists; dicts made at once; walks over dicts -/
namespace WD
open PySem PySem.Spec PyProof.Rows L2
open Evl (Ex Ex.refl Ex.trans Ex.new Ex.mut ex_l ex_t fresh_back)
section
variable {X : Cx} {κ : Nat → Kd} {E : EX} {a b c e o : Expr} {es : List Expr} {pos : Pos} {ma mb mk mv me : Env → Res D}
/-! x[k] += e -/
theorem get_listP : PGet X (rIxL X.K) := by
  intro pins s σ H x y v u Q I rx ry h
  obtain ⟨p, xs, i, z, rfl, rfl, hq, he, q⟩ := h
  cases rx
  obtain ⟨t, rfl⟩ := ry
  obtain ⟨its, r, pl, hz⟩ := I.list hq
  obtain ⟨j, h1, h2, h3, h4, h5⟩ := atI_get he
  obtain ⟨w, ew, rw'⟩ := r.get h2
  have hl := r.length
  have hn := line63
  have fin : EP X pins σ Q w s := ⟨z, H, I, rw', q⟩
  by_cases h0 : 0 ≤ i
  · have hj : i.toNat = j := by
      rw [seqIndex_of h0 h5] at h1
      exact Option.some.inj h1
    exact wpAny_getItem_list pl.isList h0 (by omega) (by rw [hj]; simpa using ew) fin
  · have hj : (i + (its.toArray.size : Int)).toNat = j := by
      rw [seqIndex_neg (by omega) h4] at h1
      rw [List.size_toArray, ← hl]
      exact Option.some.inj h1
    exact wpAny_getItem_list_neg pl.isList (by omega) (by rw [List.size_toArray] <;> omega) (by omega) (by rw [hj]; simpa using ew) fin
def mAugI (f : D → D → Res D) (i : Nat) (mk me : Env → Res D) : Env → Out := fun ρ => (getL i ρ).out fun ds => (mk ρ).out fun dk => match dk with
  | .int k => (ofO (ixN ds.length k)).out fun j => (ofO ds[j]?).out fun old => (me ρ).out fun y => (f old y).out fun z => .nx (ρ.set i (some (.list (ds.set j z))))
  | _ => .stk
theorem ds_augI {f : D → D → Res D} {g : Int → Int → Int} {i : Nat} {x : Str} {op : Operator} {px p2 : Pos} (ho : PIp X op (ipI g)) (hf0 : ∀ x y, f x y = match x, y with | .int i, .int j => .ok (.int (g i j)) | _, _ => .stk) (hk : (κ i).mutb = true) (hN : X.N[i]? = some x) (hv : Vis X.env.scope x) (hb : DE X κ E b mk) (he : DE X κ E e me)
    (ha : ∀ ov iv new, augStore b ov iv new = (do holding [new, ov, iv] (setItem ov iv new); release [new, ov, iv] []; pure .next) := by intros; rfl)
    (hdb : (x == ("__debug__" : Str)) = false := by decide) (hcd : (x == ("__classdict__" : Str)) = false := by decide) : DS X κ E (.AugAssign (.Subscript (.Name x px) b p2) op e pos) (mAugI f i mk me) :=
  (ps_augS (pe_var hN hv hdb hcd) hb get_listP he ho set_list ha).imp fun Dn σ H ⟨F0, H0, F, ρ, S, k⟩ => by
    obtain ⟨ds, hd, k⟩ := getL_sat (out_sat k)
    obtain ⟨p, hs, fa, oa⟩ := own_at S hk hd
    refine ⟨.ref p, hs, F0, H0, F, ρ, S, Res.sat_imp (out_sat k) (fun dk _ k iv F1 H1 x1 r1 => ?_) fun x z => err_back S z⟩
    have S1 := S.mono x1
    cases r1 <;> try exact k.elim
    rename_i kk hq
    obtain ⟨j, hj, k⟩ := ofO_sat (out_sat k)
    obtain ⟨old, hold, k⟩ := ofO_sat (out_sat k)
    obtain ⟨vs, g1, r1⟩ := own_list (oa.keep x1.f fun o q => x1.h p o q)
    obtain ⟨vo, hvo, ro⟩ := r1.get hold
    refine ⟨p, vs, kk, vo, rfl, rfl, Evl.sq_of g1, by unfold atI; rw [r1.length, hj]; exact hvo, F0, H0, F1, ρ, S1, Res.sat_imp (out_sat k) (fun y _ k w F2 H2 x2 r2 => ?_) fun x z => err_back S1 z⟩
    have k := out_sat k
    rw [hf0] at k
    cases ro <;> try exact k.elim
    cases r2 <;> try exact k.elim
    obtain ⟨vs2, g2, rr2⟩ := own_list ((oa.keep x1.f fun o q => x1.h p o q).keep x2.f fun o q => x2.h p o q)
    have gg := x2.h _ _ g1
    rw [g2] at gg
    cases gg
    refine ⟨_, _, rfl, rfl, p, vs, kk, j, rfl, rfl, g2, by rw [rr2.length]; exact hj, k _ F2 _ (x1.f.trans x2.f) ?_⟩
    exact (S1.mono x2).mut hk hd hs (.inl ⟨_, _, rfl, upd_same, rr2.set (.int _) j⟩)
theorem ds_incI {i : Nat} {x : Str} {px p2 : Pos} (hk : (κ i).mutb = true) (hN : X.N[i]? = some x) (hv : Vis X.env.scope x) (hb : DE X κ E b mk) (he : DE X κ E e me)
    (ha : ∀ ov iv new, augStore b ov iv new = (do holding [new, ov, iv] (setItem ov iv new); release [new, ov, iv] []; pure .next) := by intros; rfl)
    (hdb : (x == ("__debug__" : Str)) = false := by decide) (hcd : (x == ("__classdict__" : Str)) = false := by decide) : DS X κ E (.AugAssign (.Subscript (.Name x px) b p2) .Add e pos) (mAugI incD i mk me) := ds_augI ip_add (fun x y => by cases x <;> cases y <;> rfl) hk hN hv hb he ha hdb hcd
/-! x.index(e) -/
def idxD (x y : D) : Res D := match x with
  | .list ds => if flatD y = true ∧ ds.all flatD = true then (ofO ((ds.map vOf).findIdx? fun z => eqV z (vOf y))).bind fun j => .ok (.int (j : Nat)) else .stk
  | _ => .stk
theorem idxD_ne : ∀ x y z, idxD x y ≠ .err z := fun x y z h => by
  unfold idxD at h
  split at h
  · split at h
    · exact bind_ne h ofO_ne fun _ h => nomatch h
    · cases h
  · cases h
def mIdx (ma mb : Env → Res D) : Env → Res D := fun ρ => (ma ρ).bind fun x => match x with
  | .list ds => (mb ρ).bind fun y => idxD (.list ds) y
  | _ => .stk
theorem de_index {apos cpos : Pos} (ha : DB X κ E a ma) (hb : DB X κ E b mb)
    (hx : PE X (.Call (.Attribute a "index" apos) [b] [] cpos) (tBM X.K "list" (rIndex X.K) (rdB X.mg X.K κ E ma) (tCons (rdB X.mg X.K κ E mb) tNil)) := by exact pe_bm PySem.F.plainAttrs_list PySem.F.slot_list_index PySem.F.type_list_index mt_index (by assumption) (pa_cons (by assumption) pa_nil)) :
    DE X κ E (.Call (.Attribute a "index" apos) [b] [] cpos) (mIdx ma mb) :=
  hx.imp fun σ H Q ⟨F0, H0, F, ρ, S, c⟩ => by
    refine ⟨F0, H0, F, ρ, S, Res.sat_imp (Res.sat_bind c) (fun dx _ c1 x F1 H1 e1 r1 => ?_) fun _ z => z⟩
    cases dx with
    | list ds =>
      obtain ⟨p, vs, rfl, h1, rr1⟩ := r1.list e1.s
      refine ⟨.inl ⟨rfl, vs, h1⟩, F0, H0, F1, ρ, S.mono e1, Res.sat_imp (Res.sat_bind c1) (fun dy _ c2 y F2 H2 e2 r2 => ?_) fun x z => z.mono e1⟩
      unfold idxD at c2
      simp only at c2
      split at c2
      · rename_i fl
        obtain ⟨f1, f2⟩ := fl
        obtain ⟨j, hj, c2⟩ := ofO_sat (Res.sat_bind c2)
        obtain ⟨ev, fv⟩ := flat_vs rr1 f2
        obtain ⟨ey, fy⟩ : y = vOf dy ∧ flatV y = true := by
          have w := r2.whole e2.s
          exact flat_v w f1
        subst ey
        rw [← ev] at hj
        rw [List.findIdx?_eq_some_iff_getElem] at hj
        obtain ⟨hlt, p1, p2⟩ := hj
        refine ⟨p, vs, _, j, vs[j], rfl, rfl, ex_l e2.h h1, fy, fv, List.getElem?_eq_getElem hlt, p1, fun m z' hm hz => ?_, c2 _ F2 H2 (e1.trans e2) (.int _)⟩
        rw [List.getElem?_eq_getElem (by omega)] at hz
        cases hz
        exact Bool.eq_false_iff.mpr (p2 m hm)
      · exact c2.elim
    | _ => exact c1.elim
/-! x = {k: v} -/
theorem Ext.newAt {F H F' H' : Hp} {p : Addr} {o1 o2 : HO} (x : Ext F (upd H p o1) F' H') (hp : H p = none) (fp : F' p = none) : Ext F H F' (upd H' p o2) :=
  ⟨x.f, fun b u q => by
    have nb : b ≠ p := fun z => by rw [z, hp] at q; cases q
    rw [upd_ne nb]
    exact x.h b u (by rw [upd_ne nb]; exact q), fun b h1 h2 => x.o b h1 (by
    by_cases z : b = p
    · rw [z]; exact fun w => h2 (by rw [z]; exact hp)
    · rw [upd_ne z]; exact h2), fun b u q => by rw [upd_ne (ne_of_none q fp)]; exact x.s b u q, x.n⟩
/-- a new dict, owned by slot i -/
theorem Stt.setD {K : Frag} {F0 H0 F H F' H' : Hp} {σ : L2.St} {ρ : Env} (S : Stt K κ F0 H0 F H σ ρ) {i : Nat} {p : Addr} {kvs : List (Key × V)} {ds : List (D × D)} (hk : κ i = .ow) (hp : H p = none) (x : Ext F H F' H') (fp : F' p = none) (g : H' p = some (.dK kvs)) (r : RpK K F' kvs ds) :
    Stt K κ F0 H0 F' H' (σ.set i (some (.ref p))) (ρ.set i (some (.dict ds))) :=
  (S.mono x).setO hk (fresh_back S.h0 hp) fp (.inr ⟨kvs, ds, rfl, g, r⟩) fun j d w hj _ ej ow => ((S.slotAt hj ej).owned (Owns.back (S.slotAt hj ej) (fun a _ o q => x.h a o q) (fun a o q => x.s a o (x.f a o q)) ow)).2.2 hp
def mSetD1 (i : Nat) (mk mv : Env → Res D) : Env → Out := fun ρ => (mk ρ).out fun k => (mv ρ).out fun v => (ofO (keyOf k)).out fun _ => .nx (ρ.set i (some (.dict [(k, v)])))
theorem ds_setD1 {i : Nat} {x : Str} {kx vx : Expr} {pos' p2 : Pos} (hk : κ i = .ow) (hN : X.N.Nodup) (hi : X.N[i]? = some x) (hx : Loc X.env.scope x) (h1 : DE X κ E kx mk) (h2 : DE X κ E vx mv) (hs : swapsWith (.Dict [some kx] [vx] p2) (some (.Name x pos')) pos.line X.env = pure false := by rfl)
    (hf : X.fn x = true ∨ X.env.scope.names.lookup x = some .local := by first | exact .inl rfl | exact .inr rfl | assumption) : DS X κ E (.Assign [.Name x pos'] (.Dict [some kx] [vx] p2) pos) (mSetD1 i mk mv) :=
  (ps_set (i := i) hN hi hx (pe_disp (pps_cons h1 h2 pps_nil) rfl rfl (by simp) (by show 1 ≤ 15; decide)) hs hf).imp fun Dn σ H ⟨F0, H0, F, ρ, S, k⟩ => fun p hp => by
    have x0 := Ext.newO (o := .dK []) S.sub hp
    have S0 := S.mono x0
    refine ⟨F0, H0, F, ρ, S0, Res.sat_imp (out_sat k) (fun dk _ k y F1 H1 x1 r1 => ?_) fun x z => err_back S0 z⟩
    have S1 := S0.mono x1
    refine ⟨F0, H0, F1, ρ, S1, Res.sat_imp (out_sat k) (fun dv _ k v F2 H2 x2 r2 => ?_) fun x z => err_back S1 z⟩
    obtain ⟨kk, hkk, k⟩ := ofO_sat (out_sat k)
    obtain ⟨e1, e2, ko⟩ := r1.key hkk
    subst e1 e2
    have x02 := (x1.trans x2)
    have fp : F2 p = none := x02.o p (none_of_ex S.sub hp) (by rw [upd_same]; exact fun z => nomatch z)
    refine ⟨x02.h _ _ upd_same, [(kk, v)], rfl, by show 1 ≤ 15; decide, ?_⟩
    have e0 : mergeK [] [(kk, v)] = [(kk, v)] := rfl
    rw [e0]
    exact k _ F2 _ ((x0.trans x02).f) (S.setD hk hp (Ext.newAt x02 hp fp) fp upd_same (.cons ko r2 .nil))
/-! for k in d -/
def mKeysX (m : Env → Res D) : Env → Res (List D) := fun ρ => (m ρ).bind fun d => match d with
  | .dict ds => .ok (ds.map (·.1))
  | _ => .stk
theorem walk_keys {K : Frag} {F : Hp} {d : Addr} {ob : Obj} {kvs : List (Key × V)} {ds : List (D × D)} (h : F d = some (.frz ob (.dK kvs))) (r : RpK K F kvs ds) : WalkD K (fun F2 H2 => Ex F F2) (Itk d ob kvs) (ds.map (·.1)) := fun i F2 H2 g s hi => by
  have hl := r.keysA.length
  rw [List.length_map] at hl
  have hd : H2 d = some (.frz ob (.dK kvs)) := s _ _ (g _ _ h)
  refine ⟨fun hlt => ⟨⟨hd, by omega⟩, fun x H3 ⟨e, k, v, hk, ex⟩ => ?_⟩, fun e => ⟨hd, by omega⟩⟩
  subst e ex
  have hg : (kvs.map fun kv => kV kv.1)[i]? = some (kV k) := by rw [List.getElem?_map, hk]; rfl
  obtain ⟨dd, h1, h2⟩ := (r.mono g).keysA.getV hg
  exact ⟨dd, F2, h1, Ext.refl s, h2⟩
theorem di_keys {tg : Expr} (ha : DE X κ E e ma) : DI X κ E tg e (mKeysX ma) :=
  (pi_keys ha).imp fun σ H R ⟨F0, H0, F, ρ, S, k⟩ => ⟨F0, H0, F, ρ, S, Res.sat_imp (Res.sat_bind k) (fun d _ k v F' H' x r => by
    cases r with
    | @dct p kvs ds h a =>
      rcases h with h | ⟨ob, h⟩
      · exact absurd h ((x.n S.nf) p kvs)
      · exact ⟨p, ob, rfl, .inl ⟨kvs, x.s _ _ h, k _ F' H' x (walk_keys h a)⟩⟩
    | _ => exact k.elim) fun _ z => z⟩
/-! x = {k: v for t in it} -/
def compDL (g : D → Env → Option Env) (t : Env → Res Bool) (mk mv : Env → Res D) (ρ : Env) : List D → List (D × D) → Res (List (D × D))
  | [], acc => .ok acc
  | d :: ds, acc =>
    match g d ρ with
    | none => .stk
    | some ρ1 => (noErr (t ρ1)).bind fun b => if b = true then (noErr (mk ρ1)).bind fun k => (ofO (keyOf k)).bind fun kk => (noErr (mv ρ1)).bind fun v => if acc.length < sizeLine then compDL g t mk mv ρ ds (putD acc kk v) else .stk else compDL g t mk mv ρ ds acc
def mDc (it : Env → Res (List D)) (g : D → Env → Option Env) (t : Env → Res Bool) (mk mv : Env → Res D) (vs : List Nat) : Env → Res (List (D × D)) := fun ρ =>
  (it ρ).bind fun ds => noErr (compDL g t mk mv (forget vs ρ) ds [])
/-- a new dict, owned by whoever takes it -/
def rdND (mg : Mg) (K : Frag) (κ : Nat → Kd) (E : EX) (m : Env → Res (List (D × D))) : TE := fun σ H Q => ∃ F0 H0 F ρ, Stt K κ F0 H0 F H σ ρ ∧
  (m ρ).sat (fun ds => ∀ p vs F' H', Ext F H F' H' → H p = none → F' p = none → H' p = some (.dK vs) → RpK K F' vs ds → Q (.ref p) H') (ErrOk mg K (E.err σ) F H)
theorem dc_read {mg : Mg} {K : Frag} {mi : Env → Res (List D)} {is vs : List Nat} {g : D → Env → Option Env} {mt : Env → Res Bool} {mk me : Env → Res D} (his : ∀ i ∈ is, i ∈ vs) : ∀ σ H Q, rdND mg K κ E (mDc mi g mt mk me vs) σ H Q →
    tDc (rdIp mg K κ E mi) (rdG K κ is g) (rdT mg K κ EX0 mt) (rdE mg K κ EX0 mk) (rdE mg K κ EX0 me) vs σ H Q :=
  fun σ H Q ⟨F0, H0, F, ρ, S, k⟩ => ⟨F0, H0, F, ρ, S, Res.sat_imp (Res.sat_bind k) (fun ds _ k J F1 H1 x1 w Dl hD => by
    have k := noErr_sat (R' := fun _ => False) k
    cases hc : compDL g mt mk me (forget vs ρ) ds [] with
    | err x => rw [hc] at k; exact k.elim
    | stk => rw [hc] at k; exact k.elim
    | ok out =>
      rw [hc] at k
      have fD : F1 Dl = none := none_of_ex x1.s hD
      have SW := (S.mono x1).wipe vs
      refine ⟨fun i m H2 => m = ds.length - i ∧ i ≤ ds.length ∧ ∃ F2 acc ads, Ext F1 H1 F2 H2 ∧ F2 Dl = none ∧ H2 Dl = some (.dK acc) ∧ RpK K F2 acc ads ∧ compDL g mt mk me (forget vs ρ) (ds.drop i) ads = .ok out,
        ⟨ds.length, rfl, Nat.zero_le _, F1, [], [], .newO x1.s hD, fD, upd_same, .nil, hc⟩, ?_⟩
      rintro i m H2 ⟨rfl, hi, F2, acc, ads, x2, f2, h2, r2, c2⟩
      obtain ⟨w1, w2⟩ := w i F2 H2 x2 x2.s hi
      by_cases hlt : i < ds.length
      · obtain ⟨go, yl⟩ := w1 hlt
        have ed : ds.drop i = ds[i] :: ds.drop (i + 1) := List.drop_eq_getElem_cons hlt
        refine .inr ⟨go, fun H3 => ∃ F3 acc ads, Ext F1 H1 F3 H3 ∧ F3 Dl = none ∧ H3 Dl = some (.dK acc) ∧ RpK K F3 acc ads ∧ compDL g mt mk me (forget vs ρ) (ds.drop (i + 1)) ads = .ok out,
          fun H3 ⟨F3, acc, ads, z⟩ => ⟨ds.length - (i + 1), by omega, rfl, hlt, F3, acc, ads, z⟩, fun x H3 y => ?_⟩
        obtain ⟨d, F3, ed2, x3, r3⟩ := yl x H3 y
        have hd : ds[i] = d := by
          have := List.getElem?_eq_getElem hlt
          rw [this] at ed2
          exact Option.some.inj ed2
        rw [ed, hd] at c2
        unfold compDL at c2
        cases q : g d (forget vs ρ) with
        | none => rw [q] at c2; cases c2
        | some ρ1 =>
          simp only [q] at c2
          obtain ⟨b, hb, c2⟩ := bind_ok c2
          have hb := noErr_ok hb
          have x13 := x2.trans x3
          refine ⟨F0, H0, F3, forget vs ρ, d, ρ1, SW.mono x13, r3, q, fun σ4 F4 H4 x4 S4 l4 o4 => ⟨wipe_eq (by rw [l4, wipe_length]) o4 his, F0, H0, F4, ρ1, S4, ?_⟩⟩
          rw [hb]
          intro F5 H5 x5
          have x15 := (x13.trans x4).trans x5
          have nD : H2 Dl ≠ none := by rw [h2]; exact fun z => nomatch z
          have x25 := (x3.trans x4).trans x5
          have f5 : F5 Dl = none := x25.o Dl f2 nD
          cases b with
          | false =>
            exact ⟨F5, acc, ads, x15, f5, x25.h _ _ h2, r2.mono x25.f, c2⟩
          | true =>
            obtain ⟨dk, hdk, c2⟩ := bind_ok c2
            have hdk := noErr_ok hdk
            obtain ⟨kk, hkk, c2⟩ := bind_ok c2
            have hkk : keyOf dk = some kk := by
              cases z : keyOf dk with
              | none => rw [z] at hkk; cases hkk
              | some y => rw [z] at hkk; cases hkk; rfl
            obtain ⟨y, hy, c2⟩ := bind_ok c2
            have hy := noErr_ok hy
            by_cases hsz : ads.length < sizeLine
            case neg => rw [if_neg hsz] at c2; cases c2
            rw [if_pos hsz] at c2
            have S5 := S4.mono x5
            refine ⟨F0, H0, F5, ρ1, S5, ?_⟩
            rw [hdk]
            intro kv F6 H6 x6 r6
            refine ⟨F0, H0, F6, ρ1, S5.mono x6, ?_⟩
            rw [hy]
            intro yv F7 H7 x7 r7
            obtain ⟨e1, e2, ko⟩ := r6.key hkk
            have x27 := (x25.trans x6).trans x7
            have f7 : F7 Dl = none := x27.o Dl f2 nD
            have sub7 : Ex F7 (upd H7 Dl (.dK (putK acc kk yv))) := fun b u q => by rw [upd_ne (ne_of_none q f7)]; exact x27.s b u q
            have x17 := (x15.trans x6).trans x7
            refine ⟨acc, kk, e1, x27.h _ _ h2, by rw [r2.length]; exact hsz, F7, putK acc kk yv, putD ads kk y, ⟨x17.f, Ex.mut x17.h hD, x17.o, sub7, x17.n⟩, f7, upd_same, (r2.mono x27.f).put ko r7, c2⟩
      · have e : i = ds.length := by omega
        have ed : ds.drop i = [] := by rw [e, List.drop_length]
        rw [ed] at c2
        cases c2
        exact .inl ⟨w2 e, k Dl acc F2 H2 (x1.trans x2) (fresh_back x1.h hD) f2 h2 r2⟩) fun _ z => z⟩
theorem dnd_dc {kx vx tg iter : Expr} {ifs : List Expr} {scope : Scope} {own : List (Str × Nat)} {mi : Env → Res (List D)} {is : List Nat} {g : D → Env → Option Env} {mt : Env → Res Bool} (hc : X.calm = true) (hN : X.N.Nodup) (hi : DIp X κ E tg iter mi) (ok : BlkOk X.N X.env.scope scope own) (his : ∀ i ∈ is, i ∈ own.map (·.2))
    (hg : ∀ (s : Shared) (H : Hp) (C : Addr) (cl : List (Str × Addr)) (fp : List Addr), DG (X.blk s H scope (compEnvC scope cl C X.env) fp) κ tg is g) (ht : ∀ (s : Shared) (H : Hp) (C : Addr) (cl : List (Str × Addr)) (fp : List Addr), DTs (X.blk s H scope (compEnvC scope cl C X.env) fp) κ EX0 ifs mt)
    (hk : ∀ (s : Shared) (H : Hp) (C : Addr) (cl : List (Str × Addr)) (fp : List Addr), DE (X.blk s H scope (compEnvC scope cl C X.env) fp) κ EX0 kx mk)
    (he : ∀ (s : Shared) (H : Hp) (C : Addr) (cl : List (Str × Addr)) (fp : List Addr), DE (X.blk s H scope (compEnvC scope cl C X.env) fp) κ EX0 vx mv) (hs : ∀ x, foldedSetIterable iter X.env x = pure x := by intro _; rfl) :
    PE X (.DictComp kx vx [⟨tg, iter, ifs, 0⟩] scope pos) (rdND X.mg X.K κ E (mDc mi g mt mk mv (own.map (·.2)))) :=
  (pe_dc (wi := rdIp X.mg X.K κ E mi) (g := rdG X.K κ is g) (tt := rdT X.mg X.K κ EX0 mt) (tk := rdE X.mg X.K κ EX0 mk) (tv := rdE X.mg X.K κ EX0 mv) hc hN hi ok hg ht hk he hs).imp (dc_read his)
def mAsgD (i : Nat) (m : Env → Res (List (D × D))) : Env → Out := fun ρ => (m ρ).out fun ds => .nx (ρ.set i (some (.dict ds)))
theorem ds_setND {i : Nat} {x : Str} {pos' : Pos} {m : Env → Res (List (D × D))} (hk : κ i = .ow) (hN : X.N.Nodup) (hi : X.N[i]? = some x) (hx : Loc X.env.scope x) (h : PE X e (rdND X.mg X.K κ E m)) (hs : swapsWith e (some (.Name x pos')) pos.line X.env = pure false := by rfl)
    (hf : X.fn x = true ∨ X.env.scope.names.lookup x = some .local := by first | exact .inl rfl | exact .inr rfl | assumption) : DS X κ E (.Assign [.Name x pos'] e pos) (mAsgD i m) :=
  (ps_set (i := i) hN hi hx h hs hf).imp fun Dn σ H ⟨F0, H0, F, ρ, S, k⟩ => ⟨F0, H0, F, ρ, S, Res.sat_imp (out_sat k) (fun ds _ k p vs F' H' x hp fp hv r => k _ F' H' x.f (S.setD hk hp x fp hv r)) fun x z => err_back S z⟩
/-! y = {k: v for ..} on one row: the name is stored within the walk's own step -/
theorem sw_dc {kx vx : Expr} {cs : List Comprehension} {sc : Scope} {q qy : Pos} {z : Str} {row : Nat} {en : PySem.Env} (h1 : en.scope.kind = .function) (h2 : en.scope.names.lookup z = some .local) (h3 : (qy.line == q.line) = true)
    (h4 : (sc.names.any fun (n, k) => n == z && (k == .local || k == .cell)) = false) : swapsWith (.DictComp kx vx cs sc q) (some (.Name z qy)) row en = pure true := by
  have w1 : en.kindOf z = some .local := h2
  have w2 : en.blockKind = .function := by unfold Env.blockKind; rw [h1]; rfl
  unfold swapsWith
  simp only [w2, w1, h4, Expr.pos, h3]; rfl
theorem ds_setDc {i : Nat} {y : Str} {py spos : Pos} {kx vx tg iter : Expr} {ifs : List Expr} {scope : Scope} {own : List (Str × Nat)} {mi : Env → Res (List D)} {is : List Nat} {g : D → Env → Option Env} {mt : Env → Res Bool} (hk' : κ i = .ow) (hc : X.calm = true) (hN : X.N.Nodup) (hy : X.N[i]? = some y) (hyl : X.env.scope.names.lookup y = some .local)
    (hsw : swapsWith (.DictComp kx vx [⟨tg, iter, ifs, 0⟩] scope pos) (some (.Name y py)) spos.line X.env = pure true) (hi : DIp X κ E tg iter mi) (ok : BlkOk X.N X.env.scope scope own) (his : ∀ i ∈ is, i ∈ own.map (·.2))
    (hg : ∀ (s : Shared) (H : Hp) (C : Addr) (cl : List (Str × Addr)) (fp : List Addr), DG (X.blk s H scope (compEnvC scope cl C X.env) fp) κ tg is g) (ht : ∀ (s : Shared) (H : Hp) (C : Addr) (cl : List (Str × Addr)) (fp : List Addr), DTs (X.blk s H scope (compEnvC scope cl C X.env) fp) κ EX0 ifs mt)
    (hk : ∀ (s : Shared) (H : Hp) (C : Addr) (cl : List (Str × Addr)) (fp : List Addr), DE (X.blk s H scope (compEnvC scope cl C X.env) fp) κ EX0 kx mk)
    (he : ∀ (s : Shared) (H : Hp) (C : Addr) (cl : List (Str × Addr)) (fp : List Addr), DE (X.blk s H scope (compEnvC scope cl C X.env) fp) κ EX0 vx mv) (hs : ∀ x, foldedSetIterable iter X.env x = pure x := by intro _; rfl) :
    DS X κ E (.Assign [.Name y py] (.DictComp kx vx [⟨tg, iter, ifs, 0⟩] scope pos) spos) (mAsgD i (mDc mi g mt mk mv (own.map (·.2)))) := by
  refine ⟨fun pins s σ H D I hh => ?_⟩
  obtain ⟨F0, H0, F, ρ, S, k⟩ := hh
  have hyp : tDc (rdIp X.mg X.K κ E mi) (rdG X.K κ is g) (rdT X.mg X.K κ EX0 mt) (rdE X.mg X.K κ EX0 mk) (rdE X.mg X.K κ EX0 mv) (own.map (·.2)) σ H (fun u J => D.nx (σ.set i (some u)) J) :=
    dc_read (mg := X.mg) (K := X.K) (E := E) his σ H _ ⟨F0, H0, F, ρ, S, Res.sat_imp (out_sat k) (fun ds _ k p vs F' H' x hp fp hv r => k _ F' H' x.f (S.setD hk' hp x fp hv r)) fun x z => err_back S z⟩
  rw [exec_Assign_Name_used _ _ _ _ hsw]
  refine wpAny_bind (wpAny_standAt (wpAny_bind ?_))
  show wpAny _ X.A (do let _ ← comprehension (.DictComp kx vx [⟨tg, iter, ifs, 0⟩] scope pos) scope X.env (firstIterPos [⟨tg, iter, ifs, 0⟩] pos) newDict false (eval iter X.env) (some (assign (.Name y py) X.env))) _ _ s
  refine wpAny_bind (thn (dc_core (Qf := fun _ t => SP X pins D .next t) (wi := rdIp X.mg X.K κ E mi) (g := rdG X.K κ is g) (tt := rdT X.mg X.K κ EX0 mt) (tk := rdE X.mg X.K κ EX0 mk) (tv := rdE X.mg X.K κ EX0 mv) hc hN I hi ok hg ht hk he hs hyp fun L C t m J I1 q1 nC fC => ?_) fun _ t ht => wpAny_pure (wpAny_pure ht))
  show wpAny _ _ (assign (.Name y py) X.env (.ref L)) _ _ _
  obtain ⟨p0, p1, p2, p3, p4, p5⟩ := fC
  refine wpAny_assign_Name (store_ok2 (v := V.ref L) I1 hN hy (.inl hyl) rfl (fun t2 I2 w => ?_) (.inr hyl))
  obtain ⟨l, same, hl⟩ := w
  have nl : C ≠ l := by
    rcases hl with z | z
    · rw [z]; exact p1
    · exact Ne.symm fun e => p4 y l z e
  refine ⟨m, nC.sameBut same nl, fun t3 same3 => ⟨_, J, I2.turned (t' := t2.toks) (fun b o hb e => ?_) p0 p1 p3 p4 p5, q1⟩⟩
  exact (same3.2 b hb).trans e
theorem de_addW {mb : Env → Res (D × Env)} (ha : DE X κ E a ma) (hb : DWE X κ E b mb) : DWE X κ E (.BinOp a .Add b pos) (mBinW addD ma mb) := de_opW op_addA op2_add addD_ne ha hb
/-! what goes straight on -/
theorem sg_retW {j : Nat} {m : Env → Res D} : Straight (mRetW j m) := fun ρ => sg_out fun _ => sg_out fun _ => sg_rt
theorem sg_asgW {i : Nat} {m : Env → Res (D × Env)} : Straight (mAsgW i m) := fun ρ => sg_out fun _ => sg_nx
theorem sg_exprW {m : Env → Res (D × Env)} : Straight (mExprW m) := fun ρ => sg_out fun _ => sg_nx
theorem sg_asgGW {g : D → Env → Option Env} {m : Env → Res (D × Env)} : Straight (mAsgGW g m) := fun ρ => sg_out fun _ => sg_out fun _ => sg_nx
theorem sg_asgD {i : Nat} {m : Env → Res (List (D × D))} : Straight (mAsgD i m) := fun ρ => sg_out fun _ => sg_nx
theorem sg_setD1 {i : Nat} {mk mv : Env → Res D} : Straight (mSetD1 i mk mv) := fun ρ => sg_out fun _ => sg_out fun _ => sg_out fun _ => sg_nx
theorem sg_augI {f : D → D → Res D} {i : Nat} {mk me : Env → Res D} : Straight (mAugI f i mk me) := fun ρ => sg_out fun ds => sg_out fun dk => by
  cases dk <;> first | exact sg_stk | exact sg_out fun _ => sg_out fun _ => sg_out fun _ => sg_out fun _ => sg_nx
theorem fn_stuckW {P : Program} {w : World} {K : Frag} {mg : Mg} {base : Heap} {f : Addr} {fd : FuncData} {ps : List Str} {j : Nat} (k : Nat) : FnOk P w K mg base (L2N.CX P w) k f fd ps (spW mg K ps.length j (fun _ => .stk)) :=
  ⟨fun vs H Q E h => h.1, fun A outer s H args us vs Q E _ _ _ _ h => by
    obtain ⟨_, F, a, ds, _, _, _, _, _, _, _, c⟩ := h
    exact c.elim⟩
end
end WD

/-! walks from behind -/
namespace WD
open PySem PySem.Spec PyProof.Rows L2
open Evl (Ex Ex.refl Ex.trans Ex.new Ex.mut ex_l ex_t fresh_back)
section
variable {X : Cx} {κ : Nat → Kd} {E : EX} {a b c e o : Expr} {es : List Expr} {pos p : Pos} {ma mb mk mv me : Env → Res D}
theorem rev_get {α : Type} {ds : List α} {i : Nat} (h : i < ds.length) : ds.reverse[i]? = ds[ds.length - 1 - i]? := List.getElem?_reverse h
theorem walk_revL {K : Frag} {F : Hp} {q : Addr} {vs : List V} {ds : List D} (h : SqL K F q vs) (r : RpA K F vs ds) : WalkD K (fun F2 H2 => Ex F F2) (Itv K q vs.length) ds.reverse := fun i F2 H2 g s hi => by
  have hl := r.length
  rw [List.length_reverse] at hi ⊢
  have hd : SqL K H2 q vs := ex_l s (ex_l g h)
  refine ⟨fun hlt => ?_, fun e => by show vs.length ≤ i; omega⟩
  have hv : vs[vs.length - 1 - i]? = some vs[vs.length - 1 - i] := List.getElem?_eq_getElem (by omega)
  obtain ⟨d, h1, h2⟩ := (r.mono g).getV hv
  refine ⟨⟨by omega, vs, _, hd, hv⟩, fun x H3 ⟨e, hx⟩ => ?_⟩
  subst e
  have ex := hx vs hd
  rw [hv] at ex
  cases ex
  exact ⟨d, F2, by rw [rev_get hlt, ← hl]; exact h1, Ext.refl s, h2⟩
theorem walk_revT {K : Frag} {F : Hp} {q : Addr} {vs : List V} {ds : List D} (h : SqT K F q vs) (r : RpA K F vs ds) : WalkD K (fun F2 H2 => Ex F F2) (RT.ItvT K q vs.length) ds.reverse := fun i F2 H2 g s hi => by
  have hl := r.length
  rw [List.length_reverse] at hi ⊢
  have hd : SqT K H2 q vs := ex_t s (ex_t g h)
  refine ⟨fun hlt => ?_, fun e => by show vs.length ≤ i; omega⟩
  have hv : vs[vs.length - 1 - i]? = some vs[vs.length - 1 - i] := List.getElem?_eq_getElem (by omega)
  obtain ⟨d, h1, h2⟩ := (r.mono g).getV hv
  refine ⟨⟨by omega, vs, _, hd, hv⟩, fun x H3 ⟨e, hx⟩ => ?_⟩
  subst e
  have ex := hx vs hd
  rw [hv] at ex
  cases ex
  exact ⟨d, F2, by rw [rev_get hlt, ← hl]; exact h1, Ext.refl s, h2⟩
def mRev (m : Env → Res D) : Env → Res (List D) := fun ρ => (m ρ).bind fun d => (seqD d).bind fun ds => .ok ds.reverse
theorem di_rev {tg : Expr} (hg : Gl X "reversed") (hm : X.mg "reversed" = none) (ha : DE X κ E e ma) (hs : starEach [e] X.env = (false, eval e X.env) :: starEach [] X.env := by rfl) : DI X κ E tg (.Call (.Name "reversed" p) [e] [] pos) (mRev ma) :=
  (RT.pi_revA hg hm ha hs).imp fun σ H R ⟨F0, H0, F, ρ, S, k⟩ => ⟨F0, H0, F, ρ, S, Res.sat_imp (Res.sat_bind k) (fun d _ k v F' H' x r => by
    cases r with
    | @lst q vs ds h a => exact ⟨q, vs, rfl, .inl ⟨ex_l x.s h, k _ F' H' x (walk_revL h a)⟩⟩
    | @tup q vs ds h a => exact ⟨q, vs, rfl, .inr ⟨ex_t x.s h, k _ F' H' x (walk_revT h a)⟩⟩
    | _ => exact k.elim) fun _ z => z⟩
end
end WD

namespace PySem
open Sem (wp)
/-- what is left of a list behind `del xs[a:b]` -/
def cutOut (a b : Int) (xs : Array Value) : Array Value := (xs.toList.zipIdx.filterMap fun p => if (decide (a ≤ (p.2 : Int)) && decide ((p.2 : Int) < b) && (((p.2 : Int) - a) % 1 == 0)) = true then none else some p.1).toArray
theorem cutOut_size (a b : Int) (xs : Array Value) : (cutOut a b xs).size ≤ xs.size := by
  unfold cutOut
  rw [List.size_toArray]
  refine Nat.le_trans (List.length_filterMap_le _ _) ?_
  simp
theorem cut_tail {α : Type} (k : Nat) : ∀ (xs : List α) (j : Nat), (xs.zipIdx j).filterMap (fun p => if (decide ((k : Int) ≤ (p.2 : Int)) && decide ((p.2 : Int) < ((j + xs.length : Nat) : Int)) && (((p.2 : Int) - (k : Int)) % 1 == 0)) = true then none else some p.1) = xs.take (k - j)
  | [], j => by simp
  | x :: xs, j => by
    have ih := cut_tail k xs (j + 1)
    have e : (j + (x :: xs).length) = (j + 1 + xs.length) := by simp; omega
    rw [List.zipIdx_cons, List.filterMap_cons, e, ih]
    have m : ∀ z : Int, z % 1 = 0 := fun z => Int.emod_one z
    by_cases h : k ≤ j
    · have c : (decide ((k : Int) ≤ (j : Int)) && decide ((j : Int) < ((j + 1 + xs.length : Nat) : Int)) && (((j : Int) - (k : Int)) % 1 == 0)) = true := by
        rw [m]; simp; omega
      simp only [c, if_true]
      rw [show k - (j + 1) = 0 by omega, show k - j = 0 by omega]; simp
    · have c : (decide ((k : Int) ≤ (j : Int)) && decide ((j : Int) < ((j + 1 + xs.length : Nat) : Int)) && (((j : Int) - (k : Int)) % 1 == 0)) = false := by
        have : ¬ ((k : Int) ≤ (j : Int)) := by omega
        simp [this]
      simp only [c, Bool.false_eq_true, if_false]
      rw [show k - j = (k - (j + 1)) + 1 by omega, List.take_succ_cons]
section
variable {prog : Program} {w : World} {A : Around} {E : Value → Shared → Prop} {s : Shared}
theorem wd_delSlice {q z : Addr} {its : Array Value} {n : Nat} {v1 v2 : Value} {b1 b2 : Option Int} {Q : Unit → Shared → Prop} (hq : s.heap.get? q = some { cls := .type "list", data := .seq its n })
    (hz : s.heap.IsSliceOf z v1 v2 .none) (p1 : IsPart v1 b1) (p2 : IsPart v2 b2) (hsz : its.size ≤ sizeLine)
    (h : ∀ f : Array Value → Array Value, (∀ xs, f xs = cutOut (sliceBounds b1 b2 none its.size).1 (sliceBounds b1 b2 none its.size).2.1 xs) → Q () { s with heap := s.heap.update q (Obj.mapSeq f) }) : wpAny (model prog w) A (delItem (.ref q) (.ref z)) Q E s := by
  obtain ⟨oz, hoz, hcz, hdz⟩ := id hz
  have tz : s.TypeIs (.ref z) "slice" := ⟨oz, hoz, hcz⟩
  refine wpAny_delItem_slot ⟨_, hq, rfl⟩ (by decide) F.slot_list_delitem (wpAny_call_entry F.slot_list_delitem ⟨_, hq, rfl⟩ F.entry_list_delitem ?_ (F.args_list_delitem_2 _ _))
  show wpAny _ _ (Builtin.List.listSubscript? (.ref z) >>= _) _ _ s
  refine wpAny_bind ?_; unfold Builtin.List.listSubscript?
  refine wpAny_bind (wpAny_specialOf tz slice_no_index ?_)
  simp only [if_true, Option.isNone_none]
  refine wpAny_pure ?_
  show wpAny _ _ (typeOf (.ref z) >>= _) _ _ s
  refine wpAny_bind (wpAny_typeOf tz ?_)
  rw [if_neg (by decide)]
  rw [listSliceParts_eq]
  refine wpAny_bind (wpAny_bind (wpAny_field hoz hdz (x := .none) rfl (wpAny_bind (wpAny_listPart .none ?_))))
  rw [if_neg (show ¬ ((rawPart none == rawInt 0) = true) from Bool.false_ne_true)]
  refine wpAny_bind (wpAny_field hoz hdz (x := v1) rfl (wpAny_bind (wpAny_listPart p1 ?_)))
  refine wpAny_bind (wpAny_field hoz hdz (x := v2) rfl (wpAny_bind (wpAny_listPart p2 (wpAny_pure ?_))))
  refine wpAny_bind (m := Builtin.List.listItems (.ref q)) ?_; unfold Builtin.List.listItems
  refine wpAny_bind (wpAny_seqItems hq rfl (wpAny_pure ?_))
  refine wpAny_bind (wpAny_of_eq (sliceIndices_raw b1 b2 none its.size (by simp)) ?_)
  refine wpAny_bind (m := Builtin.List.listUpdate (.ref q) _) ?_
  unfold Builtin.List.listUpdate
  refine wpAny_updateSeq hq rfl ?_ (hz := hsz) (_hz' := ?_)
  · refine wpAny_bind (wpAny_letGo ?_)
    exact wpAny_pure ⟨_, rfl, h _ fun xs => rfl⟩
  · exact Nat.le_trans (cutOut_size (sliceBounds b1 b2 none its.size).1 (sliceBounds b1 b2 none its.size).2.1 its) (Nat.le_succ_of_le hsz)
end
end PySem
namespace WD
open PySem PySem.Spec PyProof.Rows L2
open Evl (Ex Ex.refl Ex.trans Ex.new Ex.mut ex_l ex_t fresh_back)
section
variable {X : Cx} {κ : Nat → Kd} {E : EX} {a b c e o : Expr} {es : List Expr} {pos p : Pos} {ma mb mk mv me : Env → Res D}
def tDelT (to ti : TE) : TS := fun D σ H => to σ H fun x H1 => ti σ H1 fun y H2 => ∃ (l : Addr) (xs : List V) (k : Nat), x = .ref l ∧ y = .int (k : Nat) ∧ H2 l = some (.lst xs) ∧ D.nx σ (upd H2 l (.lst (xs.take k)))
theorem ps_delTail {o e : Expr} {to ti : TE} {tpos sp : Pos} (ho : PE X o to) (he : PE X e ti) : PS X (.Delete [.Subscript o (.Slice (some e) none none sp) tpos] pos) (tDelT to ti) := by
  refine ⟨fun pins s σ H D I h => ?_⟩
  refine wpAny_Delete (wpAny_deleteEach_cons (wpAny_delete_Subscript (thn (ho.run pins s σ H _ I h) fun u s1 ⟨x, H1, I1, rx, q1⟩ => wpAny_Slice ?_)))
  refine thn (he.run pins s1 σ H1 _ I1 q1) fun iv s2 w => ?_
  obtain ⟨y, H2, I2, ry, l, xs, k, ex, ey, hH, q2⟩ := w
  subst ex ey
  cases (show u = Value.ref l from rx)
  obtain ⟨t, rfl⟩ := (show ∃ t, iv = Value.int (k : Int) t from ry)
  refine wpAny_pure (wpAny_pure ?_)
  have I3 : Inv X pins σ H2 { s2 with heap := s2.heap.push { cls := .type "slice", data := .fields #[.int (k : Int) t, .none, .none] }, toks := s2.toks } := I2.kept fun b u q => Heap.get?_push_of_some _ q
  obtain ⟨z, its, n, r, hl, eo⟩ := I3.lstM hH
  refine wd_delSlice eo (Heap.IsSliceOf.new ..) (.int _ _) .none (by rw [List.size_toArray]; omega) fun f hf => ?_
  refine wpAny_deleteEach_nil ⟨σ, _, I3.lset (its' := its.take k) (t' := s2.toks) hH eo ?_ (r.take k) ?_, q2⟩
  · rw [hf]
    unfold cutOut sliceBounds
    simp only [Option.getD_none, List.size_toArray]
    have e1 : max (0 : Int) (min (if (k : Int) < 0 then (k : Int) + (its.length : Int) else (k : Int)) (its.length : Int)) = ((min k its.length : Nat) : Int) := by
      rw [if_neg (by omega)]; omega
    have e2 := cut_tail (min k its.length) its 0
    rw [Nat.zero_add, Nat.sub_zero] at e2
    simp only [show (1 : Int) > 0 from by decide, if_true, e1]
    rw [e2]
    congr 1
    exact (List.take_eq_take_min ..).symm
  · rw [List.length_take]; omega
/-- del x[k:] -/
def mDelT (i : Nat) (mk : Env → Res D) : Env → Out := fun ρ => (getL i ρ).out fun ds => (mk ρ).out fun dk => match dk with
  | .int k => if 0 ≤ k then .nx (ρ.set i (some (.list (ds.take k.toNat)))) else .stk
  | _ => .stk
theorem ds_delTail {i : Nat} {x : Str} {px tpos sp : Pos} (hk : (κ i).mutb = true) (hN : X.N[i]? = some x) (hv : Vis X.env.scope x) (hb : DE X κ E b mk)
    (hdb : (x == ("__debug__" : Str)) = false := by decide) (hcd : (x == ("__classdict__" : Str)) = false := by decide) : DS X κ E (.Delete [.Subscript (.Name x px) (.Slice (some b) none none sp) tpos] pos) (mDelT i mk) :=
  (ps_delTail (pe_var hN hv hdb hcd) hb).imp fun Dn σ H ⟨F0, H0, F, ρ, S, k⟩ => by
    obtain ⟨ds, hd, k⟩ := getL_sat (out_sat k)
    obtain ⟨p, hs, fa, oa⟩ := own_at S hk hd
    refine ⟨.ref p, hs, F0, H0, F, ρ, S, Res.sat_imp (out_sat k) (fun dk _ k iv F1 H1 x1 r1 => ?_) fun x z => err_back S z⟩
    cases r1 with
    | int kk =>
      simp only at k
      by_cases h0 : 0 ≤ kk
      · rw [if_pos h0] at k
        obtain ⟨vs, g1, r2⟩ := own_list (oa.keep x1.f fun o q => x1.h p o q)
        refine ⟨p, vs, kk.toNat, rfl, by rw [Int.toNat_of_nonneg h0], g1, k _ F1 _ x1.f ?_⟩
        exact (S.mono x1).mut hk hd hs (.inl ⟨_, _, rfl, upd_same, r2.take kk.toNat⟩)
      · rw [if_neg h0] at k; exact k.elim
    | _ => exact k.elim
theorem sg_delT {i : Nat} {mk : Env → Res D} : Straight (mDelT i mk) := fun ρ => sg_out fun ds => sg_out fun dk => by
  cases dk <;> first | exact sg_stk | exact sg_ite sg_nx sg_stk
end
end WD

/-! a def that changes a parameter, called with something new there that nobody else has -/
namespace WD
open PySem PySem.Spec PyProof.Rows L2
open Evl (Ex Ex.refl Ex.trans Ex.new Ex.mut ex_l ex_t fresh_back)
section
variable {X : Cx} {κ : Nat → Kd} {E : EX} {a b c e o : Expr} {es : List Expr} {pos p : Pos} {ma mb mk mv me mf : Env → Res D}
def rdF (mg : Mg) (K : Frag) (κ : Nat → Kd) (E : EX) (m : Env → Res D) : TE := fun σ H Q => ∃ F0 H0 F ρ, Stt K κ F0 H0 F H σ ρ ∧
  (m ρ).sat (fun d => ∀ q F' H', Ext F H F' H' → H q = none → F' q = none → OwnAt K F' H' q d → Q (.ref q) H') (ErrOk mg K (E.err σ) F H)
def DF (X : Cx) (κ : Nat → Kd) (E : EX) (e : Expr) (m : Env → Res D) : Prop := PE X e (rdF X.mg X.K κ E m)
theorem df_list {m : Env → Res (List D)} (h : DN X κ E e m) : DF X κ E e (mList m) := h.imp fun σ H Q ⟨F0, H0, F, ρ, S, c⟩ =>
  ⟨F0, H0, F, ρ, S, Res.sat_imp (Res.sat_bind c) (fun ds _ k q vs F' H' x hq fq hv r => k q F' H' x hq fq (.inl ⟨vs, ds, rfl, hv, r⟩)) fun _ z => z⟩
theorem df_dict : DF X κ E (.Dict [] [] pos) (mC (.dict [])) := (pe_dnewK).imp fun σ H Q ⟨F0, H0, F, ρ, S, c⟩ => fun q hq =>
  c q F _ (Ext.newO S.sub hq) hq (none_of_ex S.sub hq) (.inr ⟨[], [], rfl, upd_same, .nil⟩)
def rdAF (mg : Mg) (K : Frag) (κ : Nat → Kd) (E : EX) (ma : Env → Res (List D)) (mf : Env → Res D) : TA := fun σ H Q => ∃ F0 H0 F ρ, Stt K κ F0 H0 F H σ ρ ∧
  (ma ρ).sat (fun ds => (mf ρ).sat (fun d => ∀ vs q F' H', Ext F H F' H' → H q = none → F' q = none → OwnAt K F' H' q d → RpA K F' vs ds → Q (vs ++ [.ref q]) H') (ErrOk mg K (E.err σ) F H)) (ErrOk mg K (E.err σ) F H)
def DAF (X : Cx) (κ : Nat → Kd) (E : EX) (es : List Expr) (ma : Env → Res (List D)) (mf : Env → Res D) : Prop := PA X es (rdAF X.mg X.K κ E ma mf)
theorem daf_one (h : DF X κ E e mf) (hst : starEach [e] X.env = (false, eval e X.env) :: starEach [] X.env := by rfl) : DAF X κ E [e] mNil mf :=
  (pa_cons h pa_nil hst).imp fun σ H Q ⟨F0, H0, F, ρ, S, c⟩ => ⟨F0, H0, F, ρ, S, Res.sat_imp c (fun d _ k q F' H' x hq fq o => k [] q F' H' x hq fq o .nil) fun _ z => z⟩
theorem daf_cons {m : Env → Res D} {ma : Env → Res (List D)} (h : DE X κ E e m) (hs : DAF X κ E es ma mf) (hst : starEach (e :: es) X.env = (false, eval e X.env) :: starEach es X.env := by rfl) : DAF X κ E (e :: es) (mCons m ma) mf :=
  (pa_cons h hs hst).imp fun σ H Q ⟨F0, H0, F, ρ, S, c⟩ => ⟨F0, H0, F, ρ, S, Res.sat_imp (Res.sat_bind c) (fun d _ k v F' H' x r =>
    ⟨F0, H0, F', ρ, S.mono x, Res.sat_imp (Res.sat_bind k) (fun ds _ k => Res.sat_imp k (fun df _ k vs q F2 H2 x2 hq fq o r2 => k (v :: vs) q F2 H2 (x.trans x2) (fresh_back x.h hq) fq o (.cons (r.mono x2.f) r2)) fun y z => z.mono x) fun y z => z.mono x⟩) fun _ z => z⟩
def fstD : D → Res D
  | .tuple [x, _] => .ok x
  | _ => .stk
def mCallF (m : List D → Res D) (ma : Env → Res (List D)) (mf : Env → Res D) : Env → Res D := fun ρ => (ma ρ).bind fun ds => (mf ρ).bind fun d => (noErr (m (ds ++ [d]))).bind fstD
theorem de_callF {k j : Nat} {x : Str} {ps : List Str} {m : List D → Res D} {ma : Env → Res (List D)} (G : FnW X.prog X.w X.K X.mg X.base k x ps j m) (hr : Room k X.A) (hx : ∀ σ, PassesAt (L2N.CX X.prog X.w) X σ (E.err σ)) (hg : Gl X x) (ha : DAF X κ E (e :: es) ma mf)
    (hma : ∀ ρ ds, ma ρ = .ok ds → ds.length = j) (hj : j + 1 = ps.length)
    (hdb : (x == ("__debug__" : Str)) = false := by decide) (he : starEach (e :: es) X.env = (false, eval e X.env) :: starEach es X.env := by rfl) (hpl : (backTo pos (starEach es X.env)).any (·.1) = false := by rfl) :
    DE X κ E (.Call (.Name x p) (e :: es) [] pos) (mCallF m ma mf) := by
  obtain ⟨f, fd, hm, hkp, hb, hF⟩ := G.ex
  refine (pe_callS hF hr hg hm hkp hb hx ha hdb he hpl).imp fun σ H Q ⟨F0, H0, F, ρ, S, c⟩ => ⟨F0, H0, F, ρ, S, Res.sat_imp (Res.sat_bind c) (fun ds q1 c => Res.sat_imp (Res.sat_bind c) (fun d _ c vs q F' H' x hq fq o r => ?_) fun _ z => z) fun _ z => z⟩
  have l1 := hma ρ ds q1
  have e1 := r.length
  have c := noErr_sat (R' := fun _ => False) (Res.sat_bind c)
  refine ⟨by rw [List.length_append, List.length_singleton]; omega, F', q, ds ++ [d], x.s, x.n S.nf, fq, by rw [List.getElem?_append_right (by omega), show j - vs.length = 0 by omega]; rfl, by rw [List.length_append, List.length_singleton]; omega, fun d' hd => ?_, fun i d' ni hd => ?_, Res.sat_imp c (fun rr _ k x1 x2 v F2 H2 er y2 rv fa2 o2 => ?_) fun _ z => z⟩
  · rw [List.getElem?_append_right (by omega), show j - ds.length = 0 by omega] at hd
    cases hd
    exact o
  · have hi : i < ds.length := by
      refine Classical.byContradiction fun z => ?_
      rw [List.getElem?_append_right (by omega), show i - ds.length = (i - ds.length - 1) + 1 by omega] at hd
      simp at hd
    rw [List.getElem?_append_left hi] at hd
    obtain ⟨v, g1, g2⟩ := r.get hd
    exact ⟨v, by rw [List.getElem?_append_left (by omega)]; exact g1, g2⟩
  · subst er
    refine k v F2 H2 ⟨x.f.trans y2.f, fun b u hu => ?_, fun b h1 h2 => ?_, y2.s, fun n => y2.n (x.n n)⟩ rv
    · have nb : b ≠ q := fun z => by rw [z, hq] at hu; cases hu
      exact y2.h b u (by rw [delH_ne nb]; exact x.h b u hu)
    · have nb : b ≠ q := fun z => h2 (by rw [z]; exact hq)
      have h3 := x.o b h1 h2
      refine y2.o b h3 ?_
      rw [delH_ne nb]
      obtain ⟨u, hu⟩ := Option.ne_none_iff_exists'.mp h2
      rw [x.h b u hu]
      simp
end
end WD

/-! sorted(d), the keys whole numbers -/
namespace WD
open PySem PySem.Spec PyProof.Rows L2
open Evl (Ex Ex.refl Ex.trans Ex.new Ex.mut ex_l ex_t fresh_back)
section
variable {X : Cx} {κ : Nat → Kd} {E : EX} {a b c e o : Expr} {es : List Expr} {pos p : Pos} {ma mb mk mv me : Env → Res D}
def keyIs : List (D × D) → Option (List Int)
  | [] => some []
  | (.int i, _) :: ds => (keyIs ds).map (i :: ·)
  | _ => none
def srtI (ks : List Int) : List Int := ks.mergeSort fun i j => decide (i ≤ j)
theorem srtI_perm (ks : List Int) : (srtI ks).Perm ks := List.mergeSort_perm _ _
theorem srtI_pair (ks : List Int) : (srtI ks).Pairwise (· ≤ ·) := by
  have := List.pairwise_mergeSort (le := fun i j : Int => decide (i ≤ j)) (fun a b c h1 h2 => by simp at *; omega) (fun a b => by simp; omega) ks
  exact this.imp fun h => by simpa using h
theorem pair_uniq : ∀ {xs ys : List Int}, xs.Perm ys → xs.Pairwise (· ≤ ·) → ys.Pairwise (· ≤ ·) → xs = ys
  | [], ys, h, _, _ => by rw [List.nil_perm.mp h]
  | x :: xs, [], h, _, _ => by have := h.length_eq; simp at this
  | x :: xs, y :: ys, h, h1, h2 => by
    obtain ⟨a1, a2⟩ := List.pairwise_cons.mp h1
    obtain ⟨b1, b2⟩ := List.pairwise_cons.mp h2
    have hx : x ∈ y :: ys := h.mem_iff.mp (by simp)
    have hy : y ∈ x :: xs := h.mem_iff.mpr (by simp)
    have e : x = y := by
      rcases List.mem_cons.mp hx with z | z
      · exact z
      · rcases List.mem_cons.mp hy with w | w
        · exact w.symm
        · have := b1 x z
          have := a1 y w
          omega
    subst e
    rw [pair_uniq ((List.perm_cons x).mp h) a2 b2]
theorem keyIs_v {K : Frag} {F : Hp} : ∀ {kvs : List (Key × V)} {ds : List (D × D)} {ks : List Int}, RpK K F kvs ds → keyIs ds = some ks → kvs.map (·.1) = ks.map Sum.inl
  | _, _, ks, .nil, h => by cases h; rfl
  | _, _, ks, .cons (k := k) ko r a, h => by
    cases k with
    | inl i =>
      obtain ⟨rs, h1, h2⟩ := Option.map_eq_some_iff.mp (show (keyIs _).map (i :: ·) = some ks from h)
      subst h2
      rw [List.map_cons, List.map_cons, keyIs_v a h1]
    | inr x => cases h
def mSortD (m : Env → Res D) : Env → Res (List D) := fun ρ => (m ρ).bind fun d => match d with
  | .dict ds => (ofO (keyIs ds)).bind fun ks => if ks.length < 64 then .ok ((srtI ks).map PyData.int) else .stk
  | _ => .stk
theorem ints_rpA {K : Frag} {F : Hp} : ∀ ns : List Int, RpA K F (ns.map V.int) (ns.map PyData.int)
  | [] => .nil
  | n :: ns => .cons (.int n) (ints_rpA ns)
theorem dn_sortD (hc : X.calm = true) (hg : Gl X "sorted") (hm : X.mg "sorted" = none) (ha : DB X κ E e ma) (hv : bootBuiltins "sorted" = some (.builtin "sorted") := by decide +kernel) (he : starEach [e] X.env = (false, eval e X.env) :: starEach [] X.env := by rfl) (hpl : (backTo pos (starEach [] X.env)).any (·.1) = false := by rfl) : DN X κ E (.Call (.Name "sorted" p) [e] [] pos) (mSortD ma) :=
  (pe_callB (call_sortedDI hc) hg hm hv (pa_cons ha pa_nil he) (by decide) (by decide) he hpl).imp fun σ H Q ⟨F0, H0, F, ρ, S, c⟩ => ⟨F0, H0, F, ρ, S, Res.sat_imp (Res.sat_bind c) (fun d _ k v F' H' x r => by
    cases d with
    | dict ds =>
      obtain ⟨ks, hk, k⟩ := ofO_sat (Res.sat_bind k)
      by_cases z : ks.length < 64
      · simp only [if_pos z] at k
        obtain ⟨q, kvs, rfl, h, rk⟩ := r.dict x.s
        refine ⟨q, kvs, ks, rfl, h, keyIs_v rk hk, z, fun ys q2 hp hs hq => ?_⟩
        have e : ys = srtI ks := pair_uniq (hp.trans (srtI_perm ks).symm) hs (srtI_pair ks)
        subst e
        exact k q2 _ F' _ (x.trans (.newO x.s hq)) (fresh_back x.h hq) (none_of_ex x.s hq) upd_same (ints_rpA _)
      · simp only [if_neg z] at k; exact k.elim
    | _ => exact k.elim) fun _ z => z⟩
end
end WD

/-! x[k] = e, x a list that is owned -/
namespace WD
open PySem PySem.Spec PyProof.Rows L2
open Evl (Ex Ex.refl Ex.trans Ex.new Ex.mut ex_l ex_t fresh_back)
section
variable {X : Cx} {κ : Nat → Kd} {E : EX} {a b c e o : Expr} {es : List Expr} {pos p : Pos} {ma mb mk mv me : Env → Res D}
def mLPut (i : Nat) (mk mv : Env → Res D) : Env → Out := fun ρ => (mv ρ).out fun v => (getL i ρ).out fun ds => (mk ρ).out fun dk => match dk with
  | .int k => (ofO (ixN ds.length k)).out fun j => .nx (ρ.set i (some (.list (ds.set j v))))
  | _ => .stk
theorem ds_lput {i : Nat} {x : Str} {px p2 : Pos} (hk : (κ i).mutb = true) (hN : X.N[i]? = some x) (hv : Vis X.env.scope x) (hb : DE X κ E b mk) (he : DE X κ E e mv) (hs : swapsWithSole [.Subscript (.Name x px) b p2] e pos.line X.env = pure false := by rfl) (hw : swappedStores [.Subscript (.Name x px) b p2] e X.env = pure none := by rfl)
    (h1 : (assignEach [.Subscript (.Name x px) b p2] X.env).map (·.2) = [assign (.Subscript (.Name x px) b p2) X.env] := by rfl)
    (ha : ∀ w, assign (.Subscript (.Name x px) b p2) X.env w = (do let o1 ← holding [w] (eval (.Name x px) X.env); let i1 ← holding [w, o1] (eval b X.env); standAt p2; holding [w, o1, i1] (setItem o1 i1 w); release [w, o1, i1] []) := by intro _; rfl)
    (hdb : (x == ("__debug__" : Str)) = false := by decide) (hcd : (x == ("__classdict__" : Str)) = false := by decide) : DS X κ E (.Assign [.Subscript (.Name x px) b p2] e pos) (mLPut i mk mv) :=
  (ps_asg he (pg_sub (pe_var hN hv hdb hcd) hb set_list ha) hs hw h1).imp fun Dn σ H ⟨F0, H0, F, ρ, S, k⟩ => ⟨F0, H0, F, ρ, S, Res.sat_imp (out_sat k) (fun dv _ k v F1 H1 x1 rv => by
    obtain ⟨ds, hd, k⟩ := getL_sat (out_sat k)
    have S1 := S.mono x1
    obtain ⟨q, hs', fa, o⟩ := own_at S1 hk hd
    refine ⟨.ref q, hs', F0, H0, F1, ρ, S1, Res.sat_imp (out_sat k) (fun dk _ k y F2 H2 x2 ry => ?_) fun x z => err_back S1 z⟩
    cases ry with
    | int kk =>
      simp only at k
      obtain ⟨j, hj, k⟩ := ofO_sat (out_sat k)
      obtain ⟨vs, g, r⟩ := own_list (o.keep x2.f fun u w => x2.h q u w)
      exact ⟨q, vs, kk, j, rfl, rfl, g, by rw [r.length]; exact hj, k _ F2 _ (x1.trans x2).f ((S1.mono x2).mut hk hd hs' (.inl ⟨_, _, rfl, upd_same, r.set (rv.mono x2.f) j⟩))⟩
    | _ => exact k.elim) fun x z => err_back S z⟩
theorem sg_lput {i : Nat} {mk mv : Env → Res D} : Straight (mLPut i mk mv) := fun ρ => sg_out fun _ => sg_out fun _ => sg_out fun dk => by
  cases dk <;> first | exact sg_stk | exact sg_out fun _ => sg_nx
end
end WD

/-! == of dicts with plain values -/
namespace WD
open PySem PySem.Spec PyProof.Rows L2
open Evl (Ex Ex.refl Ex.trans Ex.new Ex.mut ex_l ex_t fresh_back)
/-- how deep the values of compared dicts go at most -/
abbrev vdeep : Nat := 30
def plainK (ds : List (D × D)) : Bool := ds.all fun p => plainD vdeep p.2
def eqK (es : List (D × D)) : List (D × D) → Bool
  | [] => true
  | p :: ds => (match keyOf p.1 with
    | some k => (match valD es k with
      | some d => PyData.eqv p.2 d && eqK es ds
      | none => false)
    | none => false)
def eqKL (ds es : List (D × D)) : Bool := ds.length == es.length && eqK es ds
section
variable {K : PySem.W.Frag} {H : Hp}
theorem plainK_cons {p : D × D} {ds : List (D × D)} : plainK (p :: ds) = true ↔ plainD vdeep p.2 = true ∧ plainK ds = true := by
  unfold plainK
  rw [List.all_cons, Bool.and_eq_true]
theorem plain_val {es : List (D × D)} {k : Key} {d : D} (hp : plainK es = true) (h : valD es k = some d) : plainD vdeep d = true := by
  unfold valD at h
  obtain ⟨p, hp2, rfl⟩ := Option.map_eq_some_iff.mp h
  exact List.all_eq_true.mp hp p (List.mem_of_find?_eq_some hp2)
end
section
variable {X : Cx} {pins : List (Addr × Obj)} {σ : L2.St} {H : Hp} {s : Shared}
theorem eq_at_plain (I : Inv X pins σ H s) {A : Around} (hu : A.units + 40 < cLine) {x y : V} {d e : D} {v u : Value} (rx : Rp X.K H x d) (ry : Rp X.K H y e) (px : plainD vdeep d = true) (py : plainD vdeep e = true) (r1 : RelV x v) (r2 : RelV y u) : SeqAt.EqAt A s v u (PyData.eqv d e) := by
  have a := Rp.dp vdeep d x rx px
  have b := Rp.dp vdeep e y ry py
  obtain ⟨as, w1⟩ := Dp.reads I d x v a.1 r1
  obtain ⟨bs, w2⟩ := Dp.reads I e y u b.1 r2
  have l1 : d.depth ≤ 30 := plain_depth vdeep d px
  have l2 : min d.depth e.depth ≤ d.depth := Nat.min_le_left _ _
  exact SeqAt.eqAt_reads d e A s v u as bs w1 w2 a.2 b.2 (by omega)
theorem hits_plain (I : Inv X pins σ H s) {A : Around} (hu : A.units + 40 < cLine) {ls : List (Key × V)} {es : List (D × D)} (re : RpK X.K H ls es) (pe : plainK es = true) {vb : List (Key × Value)} (rb : KV ls vb) : ∀ {ks : List (Key × V)} {ds : List (D × D)} {va : List (Key × Value)}, RpK X.K H ks ds → plainK ds = true → KV ks va → PySem.W.KeqHits A s vb va (eqK es ds) := by
  intro ks ds va rd
  induction ks generalizing ds va with
  | nil =>
    cases rd
    intro _ ra
    cases ra
    exact .nil
  | cons p ks ih =>
    intro pd ra
    cases rd with
    | @cons k v _ d ds hk h1 h2 =>
      obtain ⟨p1, p2⟩ := plainK_cons.mp pd
      cases ra with
      | @cons _ q _ qs h t =>
        obtain ⟨e1, e2⟩ := h
        obtain ⟨kq, vq⟩ := q
        have e1 : k = kq := e1
        subst e1
        have e2 : RelV v vq := e2
        have rest := ih h2 p2 t
        have hv := rb.val k
        have he : eqK es ((keyD k, d) :: ds) = (match valD es k with
          | some e => PyData.eqv d e && eqK es ds
          | none => false) := by
          show (match keyOf (keyD k) with | some k => _ | none => false) = _
          rw [keyOf_keyD]
        rw [he]
        rcases re.val k with ⟨n1, n2⟩ | ⟨u, e, n1, n2, r⟩
        · rw [n1] at hv
          rw [n2]
          refine .miss ?_
          cases q : valueAt vb k with
          | none => rfl
          | some z => rw [q] at hv; cases hv
        · rw [n1] at hv
          rw [n2]
          obtain ⟨z, hz, rz⟩ := hv.some_of
          exact .hit hz (eq_at_plain I hu h1 r p1 (plain_val pe n2) e2 rz) rest
end
def rEqKd (K : PySem.W.Frag) (f : Bool → Bool) : R2 := fun x y H Q => ∃ a b ks ls ds es, x = .ref a ∧ y = .ref b ∧ Rd H a (.dK ks) ∧ Rd H b (.dK ls) ∧ RpK K H ks ds ∧ RpK K H ls es ∧ plainK ds = true ∧ plainK es = true ∧ Q (.bl (f (eqKL ds es))) H
theorem RpK.len2 {K : PySem.W.Frag} {F : Hp} : ∀ {kvs : List (Key × V)} {ds : List (D × D)}, RpK K F kvs ds → kvs.length = ds.length
  | [], _, h => by cases h; rfl
  | _ :: kvs, _, h => by
    cases h with
    | cons _ _ r => rw [List.length_cons, List.length_cons, RpK.len2 r]
section
variable {X : Cx}
theorem op_eqKd (hu : X.A.units + 64 < cLine) : OpR X (compareOp .Eq) (rEqKd X.K id) := by
  intro pins s σ H x y v u Q I rx ry h
  obtain ⟨a, b, ks, ls, ds, es, rfl, rfl, ha, hb, r1, r2, p1, p2, q⟩ := h
  obtain rfl : v = Value.ref a := rx
  obtain rfl : u = Value.ref b := ry
  obtain ⟨_, ya, va, ra, da⟩ := dk_rd I.hok ha
  obtain ⟨_, yb, vb, rb, db⟩ := dk_rd I.hok hb
  have la : va.length = ds.length := by rw [← ra.length]; exact RpK.len2 r1
  have lb : vb.length = es.length := by rw [← rb.length]; exact RpK.len2 r2
  refine PySem.W.keq_eq (knd := mixKind X.prog X.w) ya yb da db (by omega) (fun _ => hits_plain I (A := X.A.in1) (by show X.A.units + 1 + 40 < cLine; omega) r2 p2 rb r1 p1 ra) (fin_bl I q ?_)
  rw [la, lb]
  rfl
theorem op_neKd (hu : X.A.units + 64 < cLine) : OpR X (compareOp .NotEq) (rEqKd X.K not) := by
  intro pins s σ H x y v u Q I rx ry h
  obtain ⟨a, b, ks, ls, ds, es, rfl, rfl, ha, hb, r1, r2, p1, p2, q⟩ := h
  obtain rfl : v = Value.ref a := rx
  obtain rfl : u = Value.ref b := ry
  obtain ⟨_, ya, va, ra, da⟩ := dk_rd I.hok ha
  obtain ⟨_, yb, vb, rb, db⟩ := dk_rd I.hok hb
  have la : va.length = ds.length := by rw [← ra.length]; exact RpK.len2 r1
  have lb : vb.length = es.length := by rw [← rb.length]; exact RpK.len2 r2
  refine PySem.W.keq_ne (knd := mixKind X.prog X.w) ya yb da db (by omega) (fun _ => hits_plain I (A := X.A.in1) (by show X.A.units + 1 + 40 < cLine; omega) r2 p2 rb r1 p1 ra) (fin_bl I q ?_)
  rw [la, lb]
  rfl
end
def eqX (x y : D) : Res D := match x, y with
  | .dict ds, .dict es => if plainK ds = true ∧ plainK es = true then .ok (.bool (eqKL ds es)) else .stk
  | x, y => eqD x y
def neX (x y : D) : Res D := match x, y with
  | .dict ds, .dict es => if plainK ds = true ∧ plainK es = true then .ok (.bool (!eqKL ds es)) else .stk
  | x, y => neD x y
theorem eqX_ne : ∀ x y z, eqX x y ≠ .err z := fun x y z h => by
  unfold eqX at h
  split at h
  · split at h <;> cases h
  · exact eqD_ne _ _ _ h
theorem neX_ne : ∀ x y z, neX x y ≠ .err z := fun x y z h => by
  unfold neX at h
  split at h
  · split at h <;> cases h
  · exact neD_ne _ _ _ h
theorem eqX_b : ∀ x y d, eqX x y = .ok d → ∃ b, d = .bool b := fun x y d h => by
  unfold eqX at h
  split at h
  · split at h <;> cases h; exact ⟨_, rfl⟩
  · exact eqD_b _ _ _ h
theorem neX_b : ∀ x y d, neX x y = .ok d → ∃ b, d = .bool b := fun x y d h => by
  unfold neX at h
  split at h
  · split at h <;> cases h; exact ⟨_, rfl⟩
  · exact neD_b _ _ _ h
theorem op2_eqX {K : PySem.W.Frag} : Op2 K (fun x y H Q => rEqD K x y H Q ∨ rEqKd K id x y H Q) eqX := fun F H x y dx dy s rx ry Q k => by
  unfold eqX at k
  split at k
  · rename_i ds es
    split at k
    · rename_i h
      obtain ⟨a, ks, rfl, ha, r1⟩ := rx.dict s
      obtain ⟨b, ls, rfl, hb, r2⟩ := ry.dict s
      exact .inr ⟨a, b, ks, ls, ds, es, rfl, rfl, ha, hb, r1.mono s, r2.mono s, h.1, h.2, k _ F H (Ext.refl s) (.bl _)⟩
    · exact k.elim
  · exact .inl (op2_eq F H x y _ _ s rx ry Q k)
theorem op2_neX {K : PySem.W.Frag} : Op2 K (fun x y H Q => rNeD K x y H Q ∨ rEqKd K not x y H Q) neX := fun F H x y dx dy s rx ry Q k => by
  unfold neX at k
  split at k
  · rename_i ds es
    split at k
    · rename_i h
      obtain ⟨a, ks, rfl, ha, r1⟩ := rx.dict s
      obtain ⟨b, ls, rfl, hb, r2⟩ := ry.dict s
      exact .inr ⟨a, b, ks, ls, ds, es, rfl, rfl, ha, hb, r1.mono s, r2.mono s, h.1, h.2, k _ F H (Ext.refl s) (.bl _)⟩
    · exact k.elim
  · exact .inl (op2_ne F H x y _ _ s rx ry Q k)
section
variable {X : Cx} {κ κe : Nat → Kd} {E : EX} {a b : Expr} {pos : Pos} {ma mb : Env → Res D}
theorem de_eqX {k : Nat} (hr : Room k X.A) (ha : DB X κ E a ma) (hb : DB X κ E b mb) : DE X κ E (.Compare a [.Eq] [b] pos) (mBin eqX ma mb) := de_cmp ((op_eqD hr.units).or (op_eqKd hr.units)) op2_eqX eqX_ne ha hb (nomark _)
theorem de_neX {k : Nat} (hr : Room k X.A) (ha : DB X κ E a ma) (hb : DB X κ E b mb) : DE X κ E (.Compare a [.NotEq] [b] pos) (mBin neX ma mb) := de_cmp ((op_neD hr.units).or (op_neKd hr.units)) op2_neX neX_ne ha hb (nomark _)
theorem dt_eqX {k : Nat} (hr : Room k X.A) (ha : DB X κ E a ma) (hb : DB X κ E b mb) : DT X κ E (.Compare a [.Eq] [b] pos) (mTru (mBin eqX ma mb)) := dt_cmp ((op_eqD hr.units).or (op_eqKd hr.units)) op2_eqX eqX_ne eqX_b ha hb (nomark _)
theorem dt_neX {k : Nat} (hr : Room k X.A) (ha : DB X κ E a ma) (hb : DB X κ E b mb) : DT X κ E (.Compare a [.NotEq] [b] pos) (mTru (mBin neX ma mb)) := dt_cmp ((op_neD hr.units).or (op_neKd hr.units)) op2_neX neX_ne neX_b ha hb (nomark _)
end
end WD

/-! zip of two, a list or a tuple each -/
namespace WD
open PySem PySem.Spec PyProof.Rows L2
open Evl (Ex Ex.refl Ex.trans Ex.new Ex.mut ex_l ex_t fresh_back)
/-- pairs of what g1 and g2 give -/
def ItZ (n : Nat) (g1 g2 : Nat → Option V) (G : Hp → Prop) : It :=
  ⟨fun i H => G H ∧ i < n, fun i H v H' => ∃ T x y, v = .ref T ∧ H T = none ∧ H' = upd H T (.tup [x, y]) ∧ g1 i = some x ∧ g2 i = some y, fun i H => G H ∧ i = n⟩
/-- one side of a zip: its iterator stands at it; its cells keep away from av -/
structure Src (P : Program) (w : World) (K : PySem.W.Frag) (av : List Addr) (it : Addr) (n : Nat) (g : Nat → Option V) (G : Hp → Prop) (inn : Nat → Heap → Prop) : Prop where
  obj : ∀ i h, inn i h → ∃ o, h.get? it = some o ∧ ∀ v, o.data ≠ .cell v
  keep : ∀ i (h h' : Heap), inn i h → (∀ o, h.get? it = some o → h'.get? it = some o) → inn i h'
  draw : ∀ (X : Cx), X.prog = P → X.w = w → X.K = K → X.calm = true → ∀ (i : Nat) (pins : List (Addr × Obj)) (s : Shared) (σ : L2.St) (H : Hp), Inv X pins σ H s → G H → inn i s.heap →
    ∃ fp Pv S, Draws P w X.A.in1 it fp n Pv S ∧ S i s.heap ∧ it ∈ fp ∧ (∀ b ∈ fp, b = it ∨ b ∉ av) ∧ (∀ j x, Pv j x → ∃ v, g j = some v ∧ RelV v x) ∧ ∀ j h, S j h → inn j h
theorem src_tuple {P : Program} {w : World} {K : PySem.W.Frag} {av : List Addr} {it a : Addr} {xs : List V} (ha : a ∉ av) : Src P w K av it xs.length (fun i => xs[i]?) (fun H => SqT K H a xs) (fun i h => h.IsTupleIter it a i) where
  obj := fun i h st => by
    obtain ⟨o, ho, hc, hd⟩ := st
    exact ⟨o, ho, fun v q => by rw [hd] at q; cases q⟩
  keep := fun i h h' st k => st.at fun o q => k o q
  draw := by
    intro X hP hw hK hc i pins s σ H I hG hit
    subst hP hw hK
    obtain ⟨its, rv, p, hz⟩ := I.tuple hG
    obtain ⟨o, ho, hcls, n, hd⟩ := id p
    have ne1 : a ≠ it := fun z => by
      obtain ⟨o2, ho2, hc2, hd2⟩ := hit
      rw [z] at ho
      rw [ho] at ho2; cases ho2
      rw [hc2] at hcls; simp at hcls
    have hn : its.toArray.size = xs.length := by simpa using rv.length.symm
    have D := Draws.tuple (A := X.A.in1) (prog := X.prog) (w := X.w) (I.ok.hd hc) it a ne1 its.toArray
    rw [hn] at D
    refine ⟨_, _, _, D, ⟨hit, ⟨o, ho, hcls, n, hd⟩⟩, by simp, fun b hb => ?_, fun j x hx => ?_, fun j h st => st.1⟩
    · have hb' : b = it ∨ b = a := by simpa using hb
      rcases hb' with z | z
      · exact .inl z
      · exact .inr (by rw [z]; exact ha)
    · have hx : its[j]? = some x := by simpa using hx
      have hj : j < xs.length := by
        rw [← hn]
        have := (List.getElem?_eq_some_iff.mp hx).1
        simpa using this
      obtain ⟨u, hu, ru⟩ := rv.get (List.getElem?_eq_getElem hj)
      rw [hx] at hu; cases hu
      exact ⟨_, List.getElem?_eq_getElem hj, ru⟩
theorem src_list {P : Program} {w : World} {K : PySem.W.Frag} {av : List Addr} {it a : Addr} {xs : List V} (ha : a ∉ av) : Src P w K av it xs.length (fun i => xs[i]?) (fun H => SqL K H a xs) (fun i h => h.IsListIter it a i) where
  obj := fun i h st => by
    obtain ⟨o, ho, hc, hd⟩ := st
    exact ⟨o, ho, fun v q => by rw [hd] at q; cases q⟩
  keep := fun i h h' st k => st.at fun o q => k o q
  draw := by
    intro X hP hw hK hc i pins s σ H I hG hit
    subst hP hw hK
    obtain ⟨its, rv, p, hz⟩ := I.list hG
    obtain ⟨o, ho, hcls, n, hd⟩ := id p.isList
    have ne1 : a ≠ it := fun z => by
      obtain ⟨o2, ho2, hc2, hd2⟩ := hit
      rw [z] at ho
      rw [ho] at ho2; cases ho2
      rw [hc2] at hcls; simp at hcls
    have hn : its.toArray.size = xs.length := by simpa using rv.length.symm
    have D := Draws.list (A := X.A.in1) (prog := X.prog) (w := X.w) (I.ok.hd hc) it a ne1 its.toArray
    rw [hn] at D
    refine ⟨_, _, _, D, ⟨hit, p.isList⟩, by simp, fun b hb => ?_, fun j x hx => ?_, fun j h st => st.1⟩
    · have hb' : b = it ∨ b = a := by simpa using hb
      rcases hb' with z | z
      · exact .inl z
      · exact .inr (by rw [z]; exact ha)
    · have hx : its[j]? = some x := by simpa using hx
      have hj : j < xs.length := by
        rw [← hn]
        have := (List.getElem?_eq_some_iff.mp hx).1
        simpa using this
      obtain ⟨u, hu, ru⟩ := rv.get (List.getElem?_eq_getElem hj)
      rw [hx] at hu; cases hu
      exact ⟨_, List.getElem?_eq_getElem hj, ru⟩
theorem sep_of {z TI TO i1 i2 : Addr} {fp1 fp2 : List Addr} (N : [z, TI, TO, i1, i2].Nodup) (m1 : i1 ∈ fp1) (m2 : i2 ∈ fp2) (a1 : ∀ b ∈ fp1, b = i1 ∨ b ∉ [z, TI, TO, i1, i2]) (a2 : ∀ b ∈ fp2, b = i2 ∨ b ∉ [z, TI, TO, i1, i2]) : ZipSep2 z TI TO i1 i2 fp1 fp2 := by
  simp only [List.nodup_cons, List.mem_cons, List.not_mem_nil, or_false, not_or] at N
  obtain ⟨⟨n1, n2, n3, n4⟩, ⟨n5, n6, n7⟩, ⟨n8, n9⟩, n10, -⟩ := N
  refine ⟨Ne.symm n1, Ne.symm n2, n5, n6, m1, fun h => ?_, fun h => ?_, n7, m2, fun h => ?_, fun h => ?_, fun h => ?_, fun h => ?_⟩
  · rcases a1 _ h with q | q
    · exact n3 q
    · exact q (by simp)
  · rcases a1 _ h with q | q
    · exact n8 q
    · exact q (by simp)
  · rcases a2 _ h with q | q
    · exact n4 q
    · exact q (by simp)
  · rcases a2 _ h with q | q
    · exact n9 q
    · exact q (by simp)
  · rcases a2 _ h with q | q
    · exact n10 q
    · exact q (by simp)
  · rcases a1 _ h with q | q
    · exact n10 q.symm
    · exact q (by simp)
theorem turn_zipG {P : Program} {w : World} {K : PySem.W.Frag} {elts : List Expr} {kk : Nat} {tpos : Pos} {z TI TO i1 i2 : Addr} {n1 n2 : Nat} {g1 g2 : Nat → Option V} {G1 G2 : Hp → Prop} {inn1 inn2 : Nat → Heap → Prop} (N : [z, TI, TO, i1, i2].Nodup)
    (S1 : Src P w K [z, TI, TO, i1, i2] i1 n1 g1 G1 inn1) (S2 : Src P w K [z, TI, TO, i1, i2] i2 n2 g2 G2 inn2) :
    Turn P w K (.Tuple elts kk tpos) (ItZ (min n1 n2) g1 g2 fun H => G1 H ∧ G2 H) [z, TI, TO, i1, i2] z (fun i h => IsZip h z TI TO .none ∧ IsTupOf2 h TI (.ref i1) (.ref i2) ∧ (∃ a b, IsTupOf2 h TO a b) ∧ inn1 i h ∧ inn2 i h) where
  mem := by simp
  obj := fun i h st c hc => by
    obtain ⟨st1, st2, ⟨a, b, st3⟩, st4, st5⟩ := st
    have e : c = z ∨ c = TI ∨ c = TO ∨ c = i1 ∨ c = i2 := by simpa using hc
    rcases e with q | q | q | q | q
    · rw [q]; exact ⟨_, st1, fun v y => nomatch y⟩
    · rw [q]; exact ⟨_, st2, fun v y => nomatch y⟩
    · rw [q]; exact ⟨_, st3, fun v y => nomatch y⟩
    · rw [q]; exact S1.obj i h st4
    · rw [q]; exact S2.obj i h st5
  keep := fun i h h' st k => by
    obtain ⟨st1, st2, ⟨a, b, st3⟩, st4, st5⟩ := st
    exact ⟨k z (by simp) _ st1, k TI (by simp) _ st2, ⟨a, b, k TO (by simp) _ st3⟩, S1.keep i h h' st4 fun o q => k i1 (by simp) o q, S2.keep i h h' st5 fun o q => k i2 (by simp) o q⟩
  item := by
    intro X hP hw hK hc i pins s σ H E I hf st hg
    obtain ⟨st1, st2, ⟨a0, b0, st3⟩, st4, st5⟩ := st
    obtain ⟨⟨gA, gB⟩, hi⟩ := hg
    obtain ⟨fp1, Pv1, T1, D1, hT1, m1, av1, v1, in1⟩ := S1.draw X hP hw hK hc i pins s σ H I gA st4
    obtain ⟨fp2, Pv2, T2, D2, hT2, m2, av2, v2, in2⟩ := S2.draw X hP hw hK hc i pins s σ H I gB st5
    have sep := sep_of N m1 m2 av1 av2
    subst hP hw hK
    have zlt : z < s.heap.objs.size := Heap.lt_size st1
    refine wpAny_pyNext_zipD2_item sep D1 D2 st1 st2 st3 hT1 hT2 (by omega) (by omega) fun x1 x2 h' tk p1 p2 zz to1 t1 t2 nt hsz hk => ?_
    obtain ⟨u1, e1, r1⟩ := v1 i x1 p1
    obtain ⟨u2, e2, r2⟩ := v2 i x2 p2
    refine ⟨_, rfl, wpAny_letOwnedTupleGo_zip (s := { s with heap := h', toks := tk }) zz fun h2 zz2 sb => ?_⟩
    have own : h2.get? s.heap.objs.size = some { cls := .type "tuple", data := .seq #[x1, x2] } := (sb.2 _ (Nat.ne_of_gt zlt)).trans nt
    have newO : ObjOk X.prog X.w (upd H s.heap.objs.size (.tup [u1, u2])) h2 s.heap.objs.size (.tup [u1, u2]) := ⟨by show 2 ≤ sizeLine; decide, [x1, x2], .cons r1 (.cons r2 .nil), ⟨_, own, rfl, _, rfl⟩⟩
    have I1 : Inv X pins σ (upd H s.heap.objs.size (.tup [u1, u2])) { s with heap := h2, toks := tk } := by
      refine I.turnedNew (ch := [z, TI, TO, i1, i2]) (fun c o hb q => ?_) hf (Nat.le_refl _) newO
      have h1 : c ≠ z := fun y => hb (by simp [y])
      exact (sb.2 c h1).trans (hk c o h1 (fun y => hb (by simp [y])) (fun y => hb (by simp [y])) (fun y => hb (by simp [y])) q)
    have lt : ∀ c ∈ [z, TI, TO, i1, i2], c < s.heap.objs.size := fun c hc2 => by
      have e : c = z ∨ c = TI ∨ c = TO ∨ c = i1 ∨ c = i2 := by simpa using hc2
      rcases e with q | q | q | q | q
      · rw [q]; exact zlt
      · rw [q]; exact Heap.lt_size st2
      · rw [q]; exact Heap.lt_size st3
      · rw [q]; obtain ⟨o, y, _⟩ := S1.obj i _ st4; exact Heap.lt_size y
      · rw [q]; obtain ⟨o, y, _⟩ := S2.obj i _ st5; exact Heap.lt_size y
    refine ⟨.ref s.heap.objs.size, _, I1, rfl, ⟨_, u1, u2, rfl, I.hok.fresh (Nat.le_refl _), rfl, e1, e2⟩, ⟨zz2, ?_, ⟨x1, x2, ?_⟩, ?_, ?_⟩, fun c hcm => ?_⟩
    · exact (sb.2 _ sep.TIz).trans (hk _ _ sep.TIz sep.TITO sep.TIi1 sep.TIi2 st2)
    · exact (sb.2 _ sep.TOz).trans to1
    · exact S1.keep _ _ _ (in1 _ _ t1) fun o q => (sb.2 _ (Ne.symm sep.zi1)).trans q
    · exact S2.keep _ _ _ (in2 _ _ t2) fun o q => (sb.2 _ (Ne.symm sep.zi2)).trans q
    · rw [upd_ne (Nat.ne_of_lt (lt c hcm))]
      exact (hf c hcm).1
  done := by
    intro X hP hw hK hc i pins s σ H E I hf st hg
    obtain ⟨st1, st2, ⟨a0, b0, st3⟩, st4, st5⟩ := st
    obtain ⟨⟨gA, gB⟩, hi⟩ := hg
    obtain ⟨fp1, Pv1, T1, D1, hT1, m1, av1, v1, in1⟩ := S1.draw X hP hw hK hc i pins s σ H I gA st4
    obtain ⟨fp2, Pv2, T2, D2, hT2, m2, av2, v2, in2⟩ := S2.draw X hP hw hK hc i pins s σ H I gB st5
    have sep := sep_of N m1 m2 av1 av2
    subst hP hw hK
    refine wpAny_pyNext_zipD2_end sep D1 D2 st1 st2 st3 hT1 hT2 (by omega) (by omega) (by omega) fun h' tk hk => ⟨rfl, I.turnedL (t' := tk) (ch := [z, TI, TO, i1, i2]) (fun c o hb q => ?_) hf⟩
    exact hk c o (fun y => hb (by simp [y])) (fun y => hb (by simp [y])) (fun y => hb (by simp [y])) (fun y => hb (by simp [y])) q
  self := fun A i s Q E st h => wpAny_pyIter_zip st.1 h

theorem walk_zipG {n : Nat} {g1 g2 : Nat → Option V} {G : Hp → Prop} : Walk (ItZ n g1 g2 G) n G (YPair g1 g2) := by
  refine ⟨fun i _ hi q => ⟨q, hi⟩, fun _ q => ⟨q, rfl⟩, fun i H v H' _ q y => ?_⟩
  obtain ⟨T, x, y, h1, h2, h3, h4, h5⟩ := y
  exact ⟨T, x, y, h1, h2, h3, h4, h5⟩
/-- a list, or a tuple -/
def SqA (k : Bool) (K : PySem.W.Frag) (H : Hp) (a : Addr) (xs : List V) : Prop := match k with
  | true => SqT K H a xs
  | false => SqL K H a xs
def iZipG (K : PySem.W.Frag) (ta : TA) : TI := fun σ H R => ta σ H fun vs H1 => ∃ k1 k2 a b xs ys, vs = [.ref a, .ref b] ∧ SqA k1 K H1 a xs ∧ SqA k2 K H1 b ys ∧ R (ItZ (min xs.length ys.length) (fun i => xs[i]?) (fun i => ys[i]?) fun H => SqA k1 K H a xs ∧ SqA k2 K H b ys) H1
/-- how such an object begins to be walked through -/
theorem begins_of {X : Cx} {pins : List (Addr × Obj)} {σ : L2.St} {H : Hp} {s : Shared} (I : Inv X pins σ H s) {k : Bool} {a : Addr} {xs : List V} (h : SqA k X.K H a xs) :
    ∃ o Hb, Begins (.ref a) o Hb ∧ Hb s.heap ∧ a < s.heap.objs.size ∧ ∃ inn : Addr → Nat → Heap → Prop, (∀ (it : Addr) (h' : Heap), h'.get? it = some o → inn it 0 h') ∧ ∀ (it : Addr) (av : List Addr), a ∉ av → Src X.prog X.w X.K av it xs.length (fun i => xs[i]?) (fun H => SqA k X.K H a xs) (inn it) := by
  cases k with
  | true =>
    obtain ⟨its, rv, p, _⟩ := I.tuple h
    refine ⟨_, _, begins_tuple a its.toArray, p, by obtain ⟨o, q, _⟩ := id p; exact Heap.lt_size q, fun it i h => h.IsTupleIter it a i, fun it h' q => ⟨_, q, rfl, rfl⟩, fun it av ha => src_tuple ha⟩
  | false =>
    obtain ⟨its, rv, p, _⟩ := I.list h
    refine ⟨_, _, begins_list a its.toArray, p.isList, p.lt, fun it i h => h.IsListIter it a i, fun it h' q => ⟨_, q, rfl, rfl⟩, fun it av ha => src_list ha⟩
theorem pi_zipG {X : Cx} {e e2 : Expr} {ta : TA} {p pos tpos : Pos} {elts : List Expr} {kk : Nat} (hg : Gl X "zip") (hm : X.mg "zip" = none) (ha : PA X [e, e2] ta)
    (hs : starEach [e, e2] X.env = (false, eval e X.env) :: starEach [e2] X.env := by rfl) (hpl : (backTo pos (starEach [e2] X.env)).any (·.1) = false := by rfl) :
    PI X (.Tuple elts kk tpos) (.Call (.Name "zip" p) [e, e2] [] pos) (iZipG X.K ta) := by
  refine ⟨fun pins s σ H R I h => Call_ (ld_blt I hg hm boot_zip (PyProof.Rows.callWith_type1 (thn (ha.run pos pins s σ H _ I h) fun us s1 ⟨vs, H1, I1, rel, q1⟩ => ?_) hs hpl))⟩
  obtain ⟨k1, k2, a, b, xs, ys, rfl, hx, hy, q⟩ := q1
  cases rel with
  | cons ra rest =>
    cases rest with
    | cons rb rest =>
      cases rest
      cases ra
      cases rb
      obtain ⟨o1, P1, B1, b1, lt1, inn1, st1, src1⟩ := begins_of I1 hx
      obtain ⟨o2, P2, B2, b2, lt2, inn2, st2, src2⟩ := begins_of I1 hy
      refine zip_begins2 B1 B2 b1 b2 fun h' zz zTI zTO g1 g2 hsz hk => wpAny_pyIter_zip zz ?_
      have I2 : Inv X pins σ H1 { s1 with heap := h' } := I1.kept (t' := s1.toks) hk
      have fresh : ∀ c, s1.heap.objs.size ≤ c → FpOk X pins H1 c := fun c hle => I1.fpOk hle (I1.hok.fresh hle)
      generalize s1.heap.objs.size = n at *
      have N : [n + 4, n + 2, n + 3, n, n + 1].Nodup := by simp
      have av : ∀ c, c < n → c ∉ [n + 4, n + 2, n + 3, n, n + 1] := fun c hc y => by
        simp only [List.mem_cons, List.not_mem_nil, or_false] at y
        omega
      refine ⟨n + 4, [n + 4, n + 2, n + 3, n, n + 1], _, _, H1, rfl, I2, turn_zipG N (src1 n _ (av a lt1)) (src2 (n + 1) _ (av b lt2)), ⟨zz, zTI, ⟨_, _, zTO⟩, st1 _ _ g1, st2 _ _ g2⟩, fun c hc => ?_, q⟩
      have hc' : c = n + 4 ∨ c = n + 2 ∨ c = n + 3 ∨ c = n ∨ c = n + 1 := by simpa using hc
      have low : n ≤ c := by rcases hc' with y | y | y | y | y <;> rw [y] <;> first | exact Nat.le_refl _ | exact Nat.le_add_right _ _
      exact fresh c low
section
variable {X : Cx} {κ : Nat → Kd} {E : EX} {a b : Expr} {pos : Pos} {ms : Env → Res (List D)}
def sqX : D → Option (Bool × List D)
  | .list xs => some (false, xs)
  | .tuple xs => some (true, xs)
  | _ => none
def zipXD : List D → Res (List D)
  | [x, y] => (ofO (sqX x)).bind fun p => (ofO (sqX y)).bind fun q => .ok (zipD p.2 q.2)
  | _ => .stk
theorem Rp.sqA {K : PySem.W.Frag} {F : Hp} {v : V} {d : D} {k : Bool} {ds : List D} (r : Rp K F v d) (h : sqX d = some (k, ds)) : ∃ a vs, v = .ref a ∧ SqA k K F a vs ∧ RpA K F vs ds := by
  cases d with
  | list xs =>
    cases h
    cases r with
    | lst h1 h2 => exact ⟨_, _, rfl, h1, h2⟩
  | tuple xs =>
    cases h
    cases r with
    | tup h1 h2 => exact ⟨_, _, rfl, h1, h2⟩
  | _ => cases h
theorem SqA.ex {k : Bool} {K : PySem.W.Frag} {F F' : Hp} {a : Addr} {vs : List V} (e : Ex F F') (h : SqA k K F a vs) : SqA k K F' a vs := by
  cases k with
  | true => exact ex_t e h
  | false => exact ex_l e h
theorem di_zipX {p tpos : Pos} {elts : List Expr} {kk : Nat}
    (h : PI X (.Tuple elts kk tpos) (.Call (.Name "zip" p) [a, b] [] pos) (iZipG X.K (rdA X.mg X.K κ E ms))) : DI X κ E (.Tuple elts kk tpos) (.Call (.Name "zip" p) [a, b] [] pos) (mBindA zipXD ms) :=
  h.imp fun σ H R ⟨F0, H0, F, ρ, S, c⟩ => ⟨F0, H0, F, ρ, S, Res.sat_imp (Res.sat_bind c) (fun ds _ k vs F' H' x r => by
    unfold zipXD at k
    split at k
    · rename_i dx dy
      obtain ⟨⟨kx, xs⟩, hx, k⟩ := ofO_sat (Res.sat_bind k)
      obtain ⟨⟨ky, ys⟩, hy, k⟩ := ofO_sat (Res.sat_bind k)
      cases r with
      | cons r1 r2 =>
        cases r2 with
        | cons r2 r3 =>
          cases r3
          obtain ⟨a, vs, rfl, h1, h2⟩ := r1.sqA hx
          obtain ⟨b, ws, rfl, h3, h4⟩ := r2.sqA hy
          refine ⟨kx, ky, a, b, vs, ws, rfl, h1.ex x.s, h3.ex x.s, k _ F' H' x (walkd_pair walk_zipG (by rw [zipD_len, h2.length, h4.length]) (fun F2 H2 p s => ⟨h1.ex (p.trans s), h3.ex (p.trans s)⟩) fun i F2 H2 x y p hi e1 e2 => ?_)⟩
          obtain ⟨d, hd, rd⟩ := h2.getV e1
          obtain ⟨d', hd', rd'⟩ := h4.getV e2
          exact ⟨d, d', zipD_get _ _ _ _ _ hd hd', rd.mono p, rd'.mono p⟩
    · exact k.elim) fun _ z => z⟩
end
end WD

/-! lists of pairs, each with a list of its own behind: x = [], x.append((v, [])), x[-1][1].append(v), x == [] -/
namespace WD
open PySem PySem.Spec PyProof.Rows L2
open Evl (Ex Ex.refl Ex.trans Ex.new Ex.mut ex_l ex_t fresh_back)
section
variable {K : Frag} {κ : Nat → Kd} {F0 H0 F H : Hp} {σ : L2.St} {ρ : Env}
theorem OpK.app : ∀ {bs bs' : List Addr} {ws ws' : List V} {ds ds' : List D}, OpK K H0 F H bs ws ds → OpK K H0 F H bs' ws' ds' → OpK K H0 F H (bs ++ bs') (ws ++ ws') (ds ++ ds')
  | _, _, _, _, _, _, .nil, h => h
  | _, _, _, _, _, _, .cons f1 h1 r h2 h3 h4 h5 h6, h => .cons f1 h1 r h2 h3 h4 h5 (h6.app h)
/-- the last pair -/
theorem OpK.last : ∀ {ds0 : List D} {x : D} {bs : List Addr} {ws : List V}, OpK K H0 F H bs ws (ds0 ++ [x]) → ∃ bs0 b ws0 t v vs d xs, bs = bs0 ++ [b] ∧ ws = ws0 ++ [.ref t] ∧ x = .tuple [d, .list xs] ∧ OpK K H0 F H bs0 ws0 ds0 ∧
    F t = some (.tup [v, .ref b]) ∧ H t = some (.tup [v, .ref b]) ∧ Rp K F v d ∧ H0 b = none ∧ F b = none ∧ H b = some (.lst vs) ∧ RpA K F vs xs
  | [], x, bs, ws, h => by
    rw [List.nil_append] at h
    cases h with
    | @cons t b v vs d xs bs ws ds f1 h1 r h2 h3 h4 h5 h6 =>
      cases h6
      exact ⟨[], b, [], t, v, vs, d, xs, rfl, rfl, rfl, .nil, f1, h1, r, h2, h3, h4, h5⟩
  | y :: ds0, x, bs, ws, h => by
    rw [List.cons_append] at h
    cases h with
    | @cons t b v vs d xs bs ws ds f1 h1 r h2 h3 h4 h5 h6 =>
      obtain ⟨bs0, b', ws0, t', v', vs', d', xs', e1, e2, e3, g, g1⟩ := h6.last
      subst e1 e2
      exact ⟨b :: bs0, b', .ref t :: ws0, t', v', vs', d', xs', rfl, rfl, e3, .cons f1 h1 r h2 h3 h4 h5 g, g1⟩
theorem op_at (S : Stt K κ F0 H0 F H σ ρ) {i : Nat} {d : D} (hk : κ i = .op) (h : ρ[i]? = some (some d)) :
    ∃ a bs ws ds, d = .list ds ∧ σ[i]? = some (some (.ref a)) ∧ H0 a = none ∧ F a = none ∧ H a = some (.lst ws) ∧ OpK K H0 F H bs ws ds ∧ bs.Nodup ∧ a ∉ bs := by
  obtain ⟨v, h1, h2⟩ := S.slot i _ h
  rw [hk] at h2
  obtain ⟨a, bs, ws, ds, e, h0, f0, e2, g, ok, n1, n2⟩ := h2
  exact ⟨a, bs, ws, ds, e2, by rw [h1, e], h0, f0, g, ok, n1, n2⟩
/-- a new pair is laid behind -/
theorem op_new (S : Stt K κ F0 H0 F H σ ρ) {i : Nat} {a p t : Addr} {ws : List V} {ds : List D} {v : V} {vs : List V} {d : D} {xs : List D} (hk : κ i = .op) (hd : ρ[i]? = some (some (.list ds))) (hs : σ[i]? = some (some (.ref a)))
    (g : H a = some (.lst ws)) (hp0 : H0 p = none) (fp : F p = none) (hp : H p = some (.lst vs)) (ft : F t = some (.tup [v, .ref p])) (rv : Rp K F v d) (r : RpA K F vs xs) (hno : ∀ j dj w, ρ[j]? = some (some dj) → σ[j]? = some (some w) → ¬ Owns (κ j) H w p) :
    Stt K κ F0 H0 F (upd H a (.lst (ws ++ [.ref t]))) σ (ρ.set i (some (.list (ds ++ [.tuple [d, .list xs]])))) := by
  obtain ⟨a', bs, ws', ds', e0, e1, a0, fa, g', ok, n1, n2⟩ := op_at S hk hd
  cases e0
  rw [hs] at e1
  cases e1
  rw [g] at g'
  cases g'
  have ht : H t = some (.tup [v, .ref p]) := S.sub t _ ft
  have pa : p ≠ a := fun z => hno i _ _ hd hs (by rw [hk, z]; exact .inl rfl)
  have pb : p ∉ bs := fun z => hno i _ _ hd hs (by
    rw [hk]
    obtain ⟨_, t2, x, m, q⟩ := ok.at z
    exact .inr ⟨a, ws, t2, x, rfl, g, m, q⟩)
  have ta : t ≠ a := fun z => by rw [z, fa] at ft; cases ft
  have inF : ∀ c o, F c = some o → upd H a (.lst (ws ++ [.ref t])) c = some o := fun c o e => by rw [upd_ne (ne_of_none e fa)]; exact S.sub c o e
  refine S.chg hd hs (Ex.refl F) inF S.nf (fun _ h _ => h) (fun b x hx nb => ?_) ?_ fun b ob => ?_
  · rw [upd_ne (fun z => nb (by rw [hk, z]; exact .inl rfl))]; exact hx
  · rw [hk]
    refine ⟨a, bs ++ [p], _, _, rfl, a0, fa, rfl, upd_same, ?_, ?_, ?_⟩
    · refine (ok.mono (Ex.refl F) inF (fun b hb => (ok.at hb).1.2.1) fun b hb o ho => by rw [upd_ne fun z => n2 (by rw [← z]; exact hb)]; exact ho).app ?_
      exact .cons ft (by rw [upd_ne ta]; exact ht) rv hp0 fp (by rw [upd_ne pa]; exact hp) r .nil
    · rw [List.nodup_append]
      exact ⟨n1, by simp, fun x hx y hy => by rw [List.mem_singleton] at hy; rw [hy]; exact fun z => pb (by rw [← z]; exact hx)⟩
    · intro hm
      rcases List.mem_append.mp hm with hm | hm
      · exact n2 hm
      · exact pa (List.mem_singleton.mp hm).symm
  · rw [hk] at ob ⊢
    rcases (show V.ref a = .ref b ∨ ∃ a2 w2 t2 x, V.ref a = .ref a2 ∧ upd H a (.lst (ws ++ [.ref t])) a2 = some (.lst w2) ∧ V.ref t2 ∈ w2 ∧ upd H a (.lst (ws ++ [.ref t])) t2 = some (.tup [x, .ref b]) from ob) with z | ⟨a2, w2, t2, x, e1, e2, e3, e4⟩
    · exact .inl (.inl z)
    · cases e1
      rw [upd_same] at e2
      cases e2
      have t2a : t2 ≠ a := fun z => by rw [z, upd_same] at e4; cases e4
      rw [upd_ne t2a] at e4
      rcases List.mem_append.mp e3 with e3 | e3
      · exact .inl (.inr ⟨a, ws, t2, x, rfl, g, e3, e4⟩)
      · refine .inr fun j dj w nj hj ej => ?_
        have e5 := V.ref.inj (List.mem_singleton.mp e3)
        subst e5
        rw [ht] at e4
        have e6 := HO.tup.inj (Option.some.inj e4)
        simp only [List.cons.injEq, V.ref.injEq, and_true] at e6
        rw [← e6.2]
        exact hno j dj w hj ej
/-- the list behind the last pair grows -/
theorem op_grow (S : Stt K κ F0 H0 F H σ ρ) {i : Nat} {ds0 : List D} {d : D} {xs : List D} (hk : κ i = .op) (hd : ρ[i]? = some (some (.list (ds0 ++ [.tuple [d, .list xs]])))) :
    ∃ a ws0 t b v vs, σ[i]? = some (some (.ref a)) ∧ H a = some (.lst (ws0 ++ [.ref t])) ∧ H t = some (.tup [v, .ref b]) ∧ H b = some (.lst vs) ∧ RpA K F vs xs ∧ ∀ F' H' vs' xs', Ext F H F' H' → RpA K F' vs' xs' → Stt K κ F0 H0 F' (upd H' b (.lst vs')) σ (ρ.set i (some (.list (ds0 ++ [.tuple [d, .list xs']])))) := by
  obtain ⟨a, bs, ws, ds, e0, e1, a0, fa, g, ok, n1, n2⟩ := op_at S hk hd
  cases e0
  obtain ⟨bs0, b, ws0, t, v, vs, d', xs0, e2, e3, e4, ok0, ft, ht, rv, hb0, fb, hb, rx⟩ := ok.last
  have e5 := PyData.tuple.inj e4
  simp only [List.cons.injEq, PyData.list.injEq, and_true] at e5
  obtain ⟨e5, e6⟩ := e5
  subst e5 e6 e2 e3
  refine ⟨a, ws0, t, b, v, vs, e1, g, ht, hb, rx, fun F' H' vs' xs' x r => ?_⟩
  have S' := S.mono x
  have fb' : F' b = none := x.o b fb (some_ne hb)
  have fa' : F' a = none := x.o a fa (some_ne g)
  have ab : a ≠ b := fun z => n2 (by rw [z]; simp)
  have b0 : b ∉ bs0 := fun z => by
    rw [List.nodup_append] at n1
    exact n1.2.2 b z b (by simp) rfl
  have tb : t ≠ b := fun z => by rw [z, fb] at ft; cases ft
  have own : Owns (κ i) H' (.ref a) b := by rw [hk]; exact .inr ⟨a, ws0 ++ [.ref t], t, v, rfl, x.h _ _ g, by simp, x.h _ _ ht⟩
  have inF : ∀ c o, F' c = some o → upd H' b (.lst vs') c = some o := fun c o e => by rw [upd_ne (ne_of_none e fb')]; exact x.s c o e
  refine S'.chg hd e1 (Ex.refl F') inF S'.nf (fun _ h _ => h) (fun c y hy nb => ?_) ?_ fun c oc => .inl ?_
  · rw [upd_ne (fun z => nb (by rw [z]; exact own))]; exact hy
  · rw [hk]
    refine ⟨a, bs0 ++ [b], ws0 ++ [.ref t], _, rfl, a0, fa', rfl, by rw [upd_ne ab]; exact x.h _ _ g, ?_, n1, n2⟩
    refine (ok0.mono x.f (fun c o e => inF c o (x.f c o e)) (fun c hc => x.o c (ok0.at hc).1.2.1 (some_ne (ok0.at hc).1.2.2.choose_spec)) fun c hc o ho => by rw [upd_ne fun z => b0 (by rw [← z]; exact hc)]; exact x.h _ _ ho).app ?_
    exact .cons (x.f _ _ ft) (by rw [upd_ne tb]; exact x.h _ _ ht) (rv.mono x.f) hb0 fb' upd_same r .nil
  · rw [hk] at oc ⊢
    rcases (show V.ref a = .ref c ∨ ∃ a2 w2 t2 y, V.ref a = .ref a2 ∧ upd H' b (.lst vs') a2 = some (.lst w2) ∧ V.ref t2 ∈ w2 ∧ upd H' b (.lst vs') t2 = some (.tup [y, .ref c]) from oc) with z | ⟨a2, w2, t2, y, e3, e4, e5, e6⟩
    · exact .inl z
    · cases e3
      rw [upd_ne ab] at e4
      have t2b : t2 ≠ b := fun z => by rw [z, upd_same] at e6; cases e6
      rw [upd_ne t2b] at e6
      exact .inr ⟨a, w2, t2, y, rfl, e4, e5, e6⟩
end
section
variable {X : Cx} {κ : Nat → Kd} {E : EX} {a b c e o : Expr} {es : List Expr} {pos : Pos} {ma mb mk mv me m : Env → Res D}
/-- x = [] -/
def mNewP (i : Nat) : Env → Out := fun ρ => .nx (ρ.set i (some (.list [])))
theorem ds_setP0 {i : Nat} {x : Str} {pos' p2 : Pos} (hk : κ i = .op) (hN : X.N.Nodup) (hi : X.N[i]? = some x) (hx : Loc X.env.scope x) (hs : swapsWith (.List [] p2) (some (.Name x pos')) pos.line X.env = pure false := by rfl)
    (hf : X.fn x = true ∨ X.env.scope.names.lookup x = some .local := by first | exact .inl rfl | exact .inr rfl | assumption) : DS X κ E (.Assign [.Name x pos'] (.List [] p2) pos) (mNewP i) :=
  (ps_set (i := i) hN hi hx (pe_lst pa_nil) hs hf).imp fun Dn σ H ⟨F0, H0, F, ρ, S, k⟩ => ⟨Nat.zero_le _, fun p hp => by
    have x := Ext.newO (o := .lst []) S.sub hp
    refine k _ F _ (Ex.refl F) ((S.mono x).setW ?_ fun j c dj w hj ej nj oi oj => ?_)
    · rw [hk]
      exact ⟨p, [], [], [], rfl, fresh_back S.h0 hp, none_of_ex S.sub hp, rfl, upd_same, .nil, .nil, by simp⟩
    · have hc : c = p := by
        rw [hk] at oi
        rcases (show V.ref p = .ref c ∨ ∃ a ws t y, V.ref p = .ref a ∧ upd H p (.lst []) a = some (.lst ws) ∧ V.ref t ∈ ws ∧ upd H p (.lst []) t = some (.tup [y, .ref c]) from oi) with z | ⟨a, ws, t, y, e1, e2, e3, _⟩
        · cases z; rfl
        · cases e1; rw [upd_same] at e2; cases e2; simp at e3
      subst hc
      have g := S.slotAt hj ej
      exact (g.owned (Owns.back g (fun a _ o q => x.h a o q) (fun a o q => x.s a o (x.f a o q)) oj)).2.2 hp⟩
/-- x.append((v, [])) -/
def mAppP (i : Nat) (m : Env → Res D) : Env → Out := fun ρ => (getL i ρ).out fun ds => (m ρ).out fun d => if ds.length < sizeLine then .nx (ρ.set i (some (.list (ds ++ [.tuple [d, .list []]])))) else .stk
theorem ds_appP {i : Nat} {x : Str} {px : Pos} {apos cpos pos p3 tpos : Pos} {x1} (hk : κ i = .op) (hN : X.N[i]? = some x) (hv : Vis X.env.scope x)
    (hx : PE X (.Call (.Attribute (.Name x px) "append" apos) [.Tuple [e, .List [] p3] x1 tpos] [] cpos) (tBM X.K "list" rAppend (tVar i) (tCons (tTup (tCons (rdE X.mg X.K κ E m) (tCons (tLst tNil) tNil))) tNil)))
    (hs : swapsWith (.Call (.Attribute (.Name x px) "append" apos) [.Tuple [e, .List [] p3] x1 tpos] [] cpos) none pos.line X.env = pure false := by rfl) : DS X κ E (.Expr (.Call (.Attribute (.Name x px) "append" apos) [.Tuple [e, .List [] p3] x1 tpos] [] cpos) pos) (mAppP i m) :=
  (ps_expr hx hs).imp fun Dn σ H ⟨F0, H0, F, ρ, S, k⟩ => by
    obtain ⟨ds, hd, k⟩ := getL_sat (out_sat k)
    obtain ⟨a, bs, ws, ds', e0, hs', a0, fa, g, ok, n1, n2⟩ := op_at S hk hd
    cases e0
    refine ⟨.ref a, hs', .inl ⟨rfl, ws, Evl.sq_of g⟩, F0, H0, F, ρ, S, Res.sat_imp (out_sat k) (fun d _ k v F1 H1 x1 rv => ?_) fun x z => err_back S z⟩
    by_cases z : ds.length < sizeLine
    · simp only [if_pos z] at k
      refine ⟨Nat.zero_le _, fun p hp => ⟨by rw [sizeLine_eq]; show 2 ≤ _; omega, fun t ht => ?_⟩⟩
      have S1 := S.mono x1
      have y1 := Ext.newO (o := .lst []) x1.s hp
      have y2 := Ext.new (o := .tup [v, .ref p]) y1.s ht
      have y3 := y1.trans y2
      have S3 := S1.mono y3
      have fp1 : F1 p = none := none_of_ex x1.s hp
      have tp : t ≠ p := fun q => by rw [q, upd_same] at ht; cases ht
      have g3 : upd (upd H1 p (.lst [])) t (.tup [v, .ref p]) a = some (.lst ws) := (x1.trans y3).h _ _ g
      refine ⟨a, ws, .ref t, rfl, rfl, g3, by rw [ok.len]; exact z, k _ (upd F1 t (.tup [v, .ref p])) _ (x1.trans y3).f ?_⟩
      refine op_new S3 hk hd hs' g3 (fresh_back S1.h0 hp) (by rw [upd_ne (Ne.symm tp)]; exact fp1) (by rw [upd_ne (Ne.symm tp), upd_same]) upd_same (rv.mono y3.f) .nil fun j dj w hj ej ow => ?_
      have gs := S1.slotAt hj ej
      exact (gs.owned (Owns.back gs (fun a _ o q => y3.h a o q) (fun a o q => y3.s a o (y3.f a o q)) ow)).2.2 hp
    · simp only [if_neg z] at k
      exact k.elim
/-- x[-1][1].append(v) -/
def lastP (ds : List D) : Res (List D × D × List D) := match ds.getLast? with
  | some (.tuple [d, .list xs]) => .ok (ds.dropLast, d, xs)
  | _ => .stk
theorem lastP_sat {ds : List D} {P : List D × D × List D → Prop} {R : Exn → Prop} (h : (lastP ds).sat P R) : ∃ ds0 d xs, ds = ds0 ++ [.tuple [d, .list xs]] ∧ P (ds0, d, xs) := by
  unfold lastP at h
  split at h
  · rename_i d xs e
    refine ⟨ds.dropLast, d, xs, ?_, h⟩
    have hne : ds ≠ [] := fun z => by rw [z] at e; cases e
    rw [List.getLast?_eq_some_getLast hne] at e
    rw [← Option.some.inj e]
    exact (List.dropLast_concat_getLast hne).symm
  · exact h.elim
def isI (d : D) (k : Int) : Res Unit := match d with
  | .int i => if i = k then .ok () else .stk
  | _ => .stk
theorem isI_sat {d : D} {k : Int} {P : Unit → Prop} {R : Exn → Prop} (h : (isI d k).sat P R) : d = .int k ∧ P () := by
  unfold isI at h
  split at h
  · split at h
    · rename_i e; rw [e]; exact ⟨rfl, h⟩
    · exact h.elim
  · exact h.elim
def mAppQ (i : Nat) (mk ml m : Env → Res D) : Env → Out := fun ρ => (getL i ρ).out fun ds => (lastP ds).out fun q => (mk ρ).out fun dk => (isI dk (-1)).out fun _ => (ml ρ).out fun dl => (isI dl 1).out fun _ => (m ρ).out fun y => if q.2.2.length < sizeLine then .nx (ρ.set i (some (.list (q.1 ++ [.tuple [q.2.1, .list (q.2.2 ++ [y])]])))) else .stk
theorem ds_appQ {i : Nat} {x : Str} {px : Pos} {apos cpos pos p3 p4 : Pos} {ml : Env → Res D} (hk : κ i = .op) (hN : X.N[i]? = some x) (hv : Vis X.env.scope x)
    (hx : PE X (.Call (.Attribute (.Subscript (.Subscript (.Name x px) a p3) b p4) "append" apos) [e] [] cpos) (tBM X.K "list" rAppend (tOp (rIxT X.K) (tOp (rIxL X.K) (tVar i) (rdE X.mg X.K κ E mk)) (rdE X.mg X.K κ E ml)) (tCons (rdE X.mg X.K κ E m) tNil)))
    (hs : swapsWith (.Call (.Attribute (.Subscript (.Subscript (.Name x px) a p3) b p4) "append" apos) [e] [] cpos) none pos.line X.env = pure false := by rfl) : DS X κ E (.Expr (.Call (.Attribute (.Subscript (.Subscript (.Name x px) a p3) b p4) "append" apos) [e] [] cpos) pos) (mAppQ i mk ml m) :=
  (ps_expr hx hs).imp fun Dn σ H ⟨F0, H0, F, ρ, S, k⟩ => by
    obtain ⟨ds, hd, k⟩ := getL_sat (out_sat k)
    obtain ⟨ds0, d, xs, e0, k2⟩ := lastP_sat (out_sat k)
    subst e0
    obtain ⟨a, ws0, t, b, v, vs, h1, h2, h3, h4, h5, gr⟩ := op_grow S hk hd
    refine ⟨.ref a, h1, F0, H0, F, ρ, S, Res.sat_imp (out_sat k2) (fun dk _ k y1 F1 H1 x1 r1 => ?_) fun x z => err_back S z⟩
    have S1 := S.mono x1
    obtain ⟨rfl, k⟩ := isI_sat (out_sat k)
    cases r1
    refine ⟨a, ws0 ++ [.ref t], -1, .ref t, rfl, rfl, Evl.sq_of (x1.h _ _ h2), atI_last _ _, F0, H0, F1, ρ, S1, Res.sat_imp (out_sat k) (fun dl _ k y2 F2 H2 x2 r2 => ?_) fun x z => err_back S1 z⟩
    have S2 := S1.mono x2
    obtain ⟨rfl, k⟩ := isI_sat (out_sat k)
    cases r2
    have x12 := x1.trans x2
    refine ⟨t, [v, .ref b], 1, .ref b, rfl, rfl, Evl.st_of (x12.h _ _ h3), rfl, .inl ⟨rfl, vs, Evl.sq_of (x12.h _ _ h4)⟩, F0, H0, F2, ρ, S2, Res.sat_imp (out_sat k) (fun dy _ k y3 F3 H3 x3 r3 => ?_) fun x z => err_back S2 z⟩
    have x123 := x12.trans x3
    by_cases z : xs.length < sizeLine
    · simp only [if_pos z] at k
      exact ⟨b, vs, y3, rfl, rfl, x123.h _ _ h4, by rw [h5.length]; exact z, k _ F3 _ x123.f (gr F3 H3 _ _ x123 ((h5.mono x123.f).append (.cons r3 .nil)))⟩
    · simp only [if_neg z] at k; exact k.elim
/-- x == [], x != [] -/
def mEqP (f : D → D → Res D) (i : Nat) : Env → Res D := fun ρ => (mVar i ρ).bind fun d => f d (.list [])
theorem mEqP_read {r : R2} {f : D → D → Res D} {mg : Mg} {K : Frag} {i : Nat} (hk : κ i = .op) (hf : Op2 K r f) (ne : ∀ x y z, f x y ≠ .err z) (hb : ∀ x y d, f x y = .ok d → ∃ b, d = .bool b) : ∀ σ H Q, rdE mg K κ E (mEqP f i) σ H Q → tOp r (tVar i) (tLst tNil) σ H Q :=
  fun σ H Q ⟨F0, H0, F, ρ, S, c⟩ => by
    have c1 := Res.sat_bind c
    obtain ⟨d, hd, c2⟩ := ofO_sat c1
    obtain ⟨a, bs, ws, ds, e0, hs, a0, fa, g, ok, n1, n2⟩ := op_at S hk (join_some hd)
    subst e0
    refine ⟨.ref a, hs, Nat.zero_le _, fun p hp => ?_⟩
    have x := Ext.newO (o := .lst []) S.sub hp
    refine hf H (upd H p (.lst [])) (.ref a) (.ref p) (.list ds) (.list []) (Ex.new hp) (.inl (.lst (Evl.sq_of g) (ok.still S.sub fun _ _ => rfl))) (.inr ⟨p, rfl, .inl ⟨[], [], rfl, upd_same, .nil⟩⟩) Q ?_
    have c3 := sat_post (ne (.list ds) (.list [])) c2
    refine Res.sat_imp c3 (fun d hfd k v F' H' e r => ?_) fun _ z => z
    obtain ⟨b, rfl⟩ := hb _ _ _ hfd
    cases r
    exact k (.bl b) F H' ⟨Ex.refl F, x.h.trans e.h, fun _ h _ => h, fun c o q => e.h _ _ (x.s _ _ q), id⟩ (.bl b)
theorem de_eqP {n i : Nat} {x : Str} {px p2 : Pos} (hr : Room n X.A) (hk : κ i = .op) (hN : X.N[i]? = some x) (hv : Vis X.env.scope x) (hdb : (x == ("__debug__" : Str)) = false := by decide) (hcd : (x == ("__classdict__" : Str)) = false := by decide) : DE X κ E (.Compare (.Name x px) [.Eq] [.List [] p2] pos) (mEqP eqD i) :=
  (pe_cmpR (op_eqD hr.units) (pe_var hN hv hdb hcd) (pe_lst pa_nil) (nomark _)).imp (mEqP_read hk op2_eq eqD_ne eqD_b)
theorem dt_eqP {n i : Nat} {x : Str} {px p2 : Pos} (hr : Room n X.A) (hk : κ i = .op) (hN : X.N[i]? = some x) (hv : Vis X.env.scope x) (hdb : (x == ("__debug__" : Str)) = false := by decide) (hcd : (x == ("__classdict__" : Str)) = false := by decide) : DT X κ E (.Compare (.Name x px) [.Eq] [.List [] p2] pos) (mTru (mEqP eqD i)) :=
  (pt_cmpR (op_eqD hr.units) (pe_var hN hv hdb hcd) (pe_lst pa_nil) (nomark _)).imp fun σ H Q ⟨F0, H0, F, ρ, S, c⟩ => by
    refine mEqP_read (mg := X.mg) hk op2_eq eqD_ne eqD_b σ H _ ⟨F0, H0, F, ρ, S, Res.sat_imp (bool_of c fun d hd => ?_) (fun d _ k v F' H' e r => ?_) fun _ z => z⟩
    · unfold mEqP at hd
      cases q : mVar i ρ with
      | ok x => rw [q] at hd; exact eqD_b _ _ _ hd
      | err x => rw [q] at hd; cases hd
      | stk => rw [q] at hd; cases hd
    · obtain ⟨b, rfl, k⟩ := k
      cases r
      exact ⟨b, rfl, k F' H' e⟩
/-! in, over items of any depth -/
def rInY (K : PySem.W.Frag) (f : Bool → Bool) : R2 := fun x y H Q => ∃ d dy ds, (dy = .list ds ∨ dy = .tuple ds) ∧ Dp K H x d ∧ Dp K H y dy ∧ SeqAt.shaped d = true ∧ SeqAt.shaped dy = true ∧ Q (.bl (f (ds.any fun z => PyData.eqv z d))) H
theorem op_inY (hu : X.A.units + 65 < cLine) : OpR X (compareOp .In) (rInY X.K fun b => b) := by
  intro pins s σ H x y v u Q I rx ry h
  obtain ⟨d, dy, ds, hy, hd, he, sd, se, q⟩ := h
  obtain ⟨as, r1⟩ := Dp.reads I d x v hd rx
  obtain ⟨bs, r2⟩ := Dp.reads I dy y u he ry
  rcases hy with rfl | rfl
  · exact SeqAt.in_list_reads r2 r1 (SeqAt.canLay_of_shaped se) (SeqAt.canLay_of_shaped sd) (room_in_shaped sd hu) ⟨.bl _, H, I, rfl, q⟩
  · exact SeqAt.in_tuple_reads r2 r1 (SeqAt.canLay_of_shaped se) (SeqAt.canLay_of_shaped sd) (room_in_shaped sd hu) ⟨.bl _, H, I, rfl, q⟩
theorem op_notInY (hu : X.A.units + 65 < cLine) : OpR X (compareOp .NotIn) (rInY X.K fun b => !b) := by
  intro pins s σ H x y v u Q I rx ry h
  obtain ⟨d, dy, ds, hy, hd, he, sd, se, q⟩ := h
  obtain ⟨as, r1⟩ := Dp.reads I d x v hd rx
  obtain ⟨bs, r2⟩ := Dp.reads I dy y u he ry
  rcases hy with rfl | rfl
  · exact SeqAt.notIn_list_reads r2 r1 (SeqAt.canLay_of_shaped se) (SeqAt.canLay_of_shaped sd) (room_in_shaped sd hu) ⟨.bl _, H, I, rfl, q⟩
  · exact SeqAt.notIn_tuple_reads r2 r1 (SeqAt.canLay_of_shaped se) (SeqAt.canLay_of_shaped sd) (room_in_shaped sd hu) ⟨.bl _, H, I, rfl, q⟩
def inYf (f : Bool → Bool) (x y : D) : Res D := match y with
  | .list ys => if plainD deep x = true ∧ plainD deep y = true then .ok (.bool (f (ys.any fun z => PyData.eqv z x))) else .stk
  | .tuple ys => if plainD deep x = true ∧ plainD deep y = true then .ok (.bool (f (ys.any fun z => PyData.eqv z x))) else .stk
  | _ => .stk
abbrev inY : D → D → Res D := inYf fun b => b
abbrev notInY : D → D → Res D := inYf fun b => !b
theorem inYf_ne (f : Bool → Bool) : ∀ x y z, inYf f x y ≠ .err z := fun x y z h => by
  unfold inYf at h
  split at h
  · split at h <;> cases h
  · split at h <;> cases h
  · cases h
theorem inYf_b (f : Bool → Bool) : ∀ x y d, inYf f x y = .ok d → ∃ b, d = .bool b := fun x y z h => by
  unfold inYf at h
  split at h
  · split at h <;> cases h; exact ⟨_, rfl⟩
  · split at h <;> cases h; exact ⟨_, rfl⟩
  · cases h
theorem op2_inY {K : Frag} (f : Bool → Bool) : Op2 K (rInY K f) (inYf f) := fun F H x y dx dy s rx ry Q k => by
  unfold inYf at k
  split at k
  · split at k
    · rename_i ys h
      have a := rx.dp s (by decide) h.1
      have b := ry.dp s (by decide) h.2
      exact ⟨dx, _, ys, .inl rfl, a.1, b.1, a.2, b.2, k _ F H (Ext.refl s) (.bl _)⟩
    · exact k.elim
  · split at k
    · rename_i ys h
      have a := rx.dp s (by decide) h.1
      have b := ry.dp s (by decide) h.2
      exact ⟨dx, _, ys, .inr rfl, a.1, b.1, a.2, b.2, k _ F H (Ext.refl s) (.bl _)⟩
    · exact k.elim
  · exact k.elim
theorem u65 {n : Nat} (hr : Room n X.A) : X.A.units + 65 < cLine := by have := hr.un; omega
theorem de_inY {n : Nat} (hr : Room n X.A) (ha : DB X κ E a ma) (hb : DB X κ E b mb) (hm : behindInMarks .In b = false := by rfl) : DE X κ E (.Compare a [.In] [b] pos) (mBin inY ma mb) := de_cmp (op_inY (u65 hr)) (op2_inY _) (inYf_ne _) ha hb hm
theorem de_notInY {n : Nat} (hr : Room n X.A) (ha : DB X κ E a ma) (hb : DB X κ E b mb) (hm : behindInMarks .NotIn b = false := by rfl) : DE X κ E (.Compare a [.NotIn] [b] pos) (mBin notInY ma mb) := de_cmp (op_notInY (u65 hr)) (op2_inY _) (inYf_ne _) ha hb hm
theorem dt_inY {n : Nat} (hr : Room n X.A) (ha : DB X κ E a ma) (hb : DB X κ E b mb) (hm : behindInMarks .In b = false := by rfl) : DT X κ E (.Compare a [.In] [b] pos) (mTru (mBin inY ma mb)) := dt_cmp (op_inY (u65 hr)) (op2_inY _) (inYf_ne _) (inYf_b _) ha hb hm
theorem dt_notInY {n : Nat} (hr : Room n X.A) (ha : DB X κ E a ma) (hb : DB X κ E b mb) (hm : behindInMarks .NotIn b = false := by rfl) : DT X κ E (.Compare a [.NotIn] [b] pos) (mTru (mBin notInY ma mb)) := dt_cmp (op_notInY (u65 hr)) (op2_inY _) (inYf_ne _) (inYf_b _) ha hb hm
theorem sg_newP {i : Nat} : Straight (mNewP i) := fun ρ => ⟨fun ρ' h => (by cases h), fun ρ' h => (by cases h)⟩
end
end WD

/-! enumerate(v, start=k) -/
namespace WD
open PySem PySem.Spec PyProof.Rows L2
open Evl (Ex Ex.refl Ex.trans Ex.new Ex.mut ex_l ex_t fresh_back)
theorem inner_list {P : Program} {w : World} {K : PySem.W.Frag} {e it a : Addr} {xs : List V} {k0 : Int} (ne : e ≠ it) : Inner P w K e it xs.length k0 (fun i => xs[i]?) (fun H => SqL K H a xs) (fun i h => h.IsListIter it a i) where
  ne := ne
  obj := fun i h st => by
    obtain ⟨o, ho, hc, hd⟩ := st
    exact ⟨o, ho, fun v q => by rw [hd] at q; cases q⟩
  keep := fun i h h' st k => st.at fun o q => k o q
  draw := by
    intro X hP hw hK hc i pins s σ H c old I hG hit he
    subst hP hw hK
    obtain ⟨its, rv, pl, hz⟩ := I.list hG
    have p := pl.isList
    obtain ⟨o, ho, hcls, n, hd⟩ := id p
    have ne1 : a ≠ it := fun z => by
      obtain ⟨o2, ho2, hc2, hd2⟩ := hit
      rw [z] at ho
      rw [ho] at ho2; cases ho2
      rw [hc2] at hcls; simp at hcls
    have ne2 : e ≠ a := fun z => by
      rw [← z] at ho
      have := he.symm.trans ho
      cases this
      simp at hcls
    have hn : its.toArray.size = xs.length := by simpa using rv.length.symm
    have hA : X.A.in1.handled = none := I.ok.hd hc
    have D := Draws.list (prog := X.prog) (w := X.w) hA it a ne1 its.toArray
    rw [hn] at D
    refine ⟨_, _, _, D, ⟨hit, p⟩, by simp [ne, ne2], fun j x hx => ?_, fun j h st => st.1⟩
    have hx : its[j]? = some x := by simpa using hx
    have hj : j < xs.length := by
      rw [← hn]
      have := (List.getElem?_eq_some_iff.mp hx).1
      simpa using this
    obtain ⟨u, hu, ru⟩ := rv.get (List.getElem?_eq_getElem hj)
    rw [hx] at hu; cases hu
    exact ⟨_, List.getElem?_eq_getElem hj, ru⟩
/-- a call of a type with keywords: by the library's rule for what keeps the frame -/
theorem typeKw {M : Model} {A : Around} {E : Value → Shared → Prop} {s : Shared} {env : PySem.Env} {q : Pos} {T : String} {a : Expr} {ks : List Keyword} {R : Value → Shared → Prop}
    (hall : (backToKw q (keywordEach ks env)).all (·.1.isSome) = true) (hpl : ((backTo q (starEach [a] env)).any (·.1) || (backToKw q (keywordEach ks env)).any (·.1.isNone)) = false) (he : starEach [a] env = (false, eval a env) :: starEach [] env)
    (go : wpAny M A (spliced (backTo q (starEach [a] env))) (fun us s1 => wpAny M A (evalAll ((backToKw q (keywordEach ks env)).map (·.2))) (fun ws s2 => wpAny M A (call (.type T) us (((backToKw q (keywordEach ks env)).filterMap (·.1)).zip ws)) R E s2) E s1) E s) :
    wpAny M A (callWith q (.type T) [] (backTo q (starEach [a] env)) (backToKw q (keywordEach ks env))) R E s :=
  PySem.W.callWith_of (P := fun _ => True) hpl (fun _ _ => ⟨_, .inr (.inl rfl), fun _ _ _ _ _ q => wpAny_pure q⟩) (evalArgs_kw2 hall (thn go fun us s1 h1 => thn h1 fun ws s2 h2 => ⟨trivial, h2⟩) he)
def iEnumS (K : PySem.W.Frag) (k : Int) (ta : TA) : TI := fun σ H R => ta σ H fun vs H1 => ∃ a xs, vs = [.ref a] ∧ ((SqL K H1 a xs ∧ R (ItP xs.length k (fun i => xs[i]?) fun H => SqL K H a xs) H1) ∨ (SqT K H1 a xs ∧ R (ItP xs.length k (fun i => xs[i]?) fun H => SqT K H a xs) H1))
theorem pi_enumS {X : Cx} {e : Expr} {ta : TA} {p pos tpos cp kp : Pos} {j} {elts : List Expr} {kk : Nat} {k : Int} (hg : Gl X "enumerate") (hm : X.mg "enumerate" = none) (ha : PA X [e] ta) (hk0 : -(2 ^ 63) ≤ k) (hk1 : k < 2 ^ 63)
    (he : starEach [e] X.env = (false, eval e X.env) :: starEach [] X.env := by rfl) (hpl : ((backTo pos (starEach [e] X.env)).any (·.1) || (backToKw pos (keywordEach [⟨some "start", .Constant (.int k) j cp, kp⟩] X.env)).any (·.1.isNone)) = false := by rfl) :
    PI X (.Tuple elts kk tpos) (.Call (.Name "enumerate" p) [e] [⟨some "start", .Constant (.int k) j cp, kp⟩] pos) (iEnumS X.K k ta) := by
  refine ⟨fun pins s σ H R I h => ?_⟩
  refine wpAny_Call_Name_kw (ld_blt I hg hm boot_enumerate (typeKw rfl hpl he (thn (ha.run pos pins s σ H _ I h) fun us s1 ⟨vs, H1, I1, r1, q1⟩ => ?_)))
  have pk : PK X [⟨some "start", .Constant (.int k) j cp, kp⟩] (tCons (tC (.int k)) tNil) := pk_cons pe_int pk_nil
  refine thn (pk.run pos pins s1 σ H1 (fun zs H2 => zs = [.int k] ∧ H2 = H1) I1 ⟨rfl, rfl⟩) fun ws s2 ⟨zs, H2, I2, rz, e1, e2⟩ => ?_
  subst e1 e2
  obtain ⟨t, rfl⟩ : ∃ t, ws = [.int k t] := by
    cases rz with
    | cons ra rb =>
      cases rb
      obtain ⟨t, rfl⟩ := ra
      exact ⟨t, rfl⟩
  have fp : ∀ {h' : Heap}, Inv X pins σ H2 { s2 with heap := h' } → ∀ b ∈ [s2.heap.objs.size + 1, s2.heap.objs.size], FpOk X pins H2 b := fun _ b hb => by
    have e' : b = s2.heap.objs.size + 1 ∨ b = s2.heap.objs.size := by simpa using hb
    have hle : s2.heap.objs.size ≤ b := by
      rcases e' with z | z
      · rw [z]; exact Nat.le_add_right _ _
      · rw [z]; exact Nat.le_refl _
    exact I2.fpOk hle (I2.hok.fresh hle)
  obtain ⟨a, xs, ex, q1⟩ := q1
  subst ex
  cases r1 with
  | cons r rr =>
    cases rr
    cases r
    rcases q1 with ⟨hq, q⟩ | ⟨hq, q⟩
    · obtain ⟨its, rv, p', hz⟩ := I2.list hq
      refine enum_begins_start (begins_list a its.toArray) p'.isList hk0 hk1 fun h' he hit hsz hk => wpAny_pyIter_enum he ?_
      have I3 : Inv X pins σ H2 { s2 with heap := h' } := I2.kept (t' := s2.toks) hk
      refine ⟨s2.heap.objs.size + 1, [s2.heap.objs.size + 1, s2.heap.objs.size], _, _, H2, rfl, I3, turn_enumP (inner_list (Nat.succ_ne_self _)), ⟨⟨.none, ?_⟩, ⟨_, hit, rfl, rfl⟩⟩, fp I3, q⟩
      have e0 : k + ((0 : Nat) : Int) = k := by omega
      rw [e0]; exact he
    · obtain ⟨its, rv, p', hz⟩ := I2.tuple hq
      refine enum_begins_start (begins_tuple a its.toArray) p' hk0 hk1 fun h' he hit hsz hk => wpAny_pyIter_enum he ?_
      have I3 : Inv X pins σ H2 { s2 with heap := h' } := I2.kept (t' := s2.toks) hk
      refine ⟨s2.heap.objs.size + 1, [s2.heap.objs.size + 1, s2.heap.objs.size], _, _, H2, rfl, I3, turn_enumP (inner_tuple (Nat.succ_ne_self _)), ⟨⟨.none, ?_⟩, ⟨_, hit, rfl, rfl⟩⟩, fp I3, q⟩
      have e0 : k + ((0 : Nat) : Int) = k := by omega
      rw [e0]; exact he
def enumK (k : Int) (ds : List D) : List D := ds.zipIdx.map fun p => .tuple [.int (k + (p.2 : Int)), p.1]
def enumSD (k : Int) : List D → Res (List D)
  | [.list ds] => .ok (enumK k ds)
  | [.tuple ds] => .ok (enumK k ds)
  | _ => .stk
theorem enumK_len (k : Int) (ds : List D) : (enumK k ds).length = ds.length := by simp [enumK]
theorem enumK_get {k : Int} {ds : List D} {i : Nat} {d : D} (h : ds[i]? = some d) : (enumK k ds)[i]? = some (.tuple [.int (k + (i : Int)), d]) := by
  unfold enumK
  rw [List.getElem?_map, List.getElem?_zipIdx, h]
  simp
section
variable {X : Cx} {κ κe : Nat → Kd} {E : EX} {a b c e tg o : Expr} {es : List Expr} {pos : Pos} {st : Stmt} {ma mb mc : Env → Res D} {ms : Env → Res (List D)}
theorem di_enumS {p tpos cp kp : Pos} {j} {elts : List Expr} {kk : Nat} {i0 : Int} (hg : Gl X "enumerate") (hm : X.mg "enumerate" = none) (ha : DA X κ E [a] ms) (hk : -(2 ^ 63) ≤ i0 ∧ i0 < 2 ^ 63 := by decide) (he : starEach [a] X.env = (false, eval a X.env) :: starEach [] X.env := by rfl) (hpl : ((backTo pos (starEach [a] X.env)).any (·.1) || (backToKw pos (keywordEach [⟨some "start", .Constant (.int i0) j cp, kp⟩] X.env)).any (·.1.isNone)) = false := by rfl) :
    DI X κ E (.Tuple elts kk tpos) (.Call (.Name "enumerate" p) [a] [⟨some "start", .Constant (.int i0) j cp, kp⟩] pos) (mBindA (enumSD i0) ms) :=
  (pi_enumS hg hm ha hk.1 hk.2 he hpl).imp fun σ H R ⟨F0, H0, F, ρ, S, c⟩ => ⟨F0, H0, F, ρ, S, Res.sat_imp (Res.sat_bind c) (fun ds _ k vs F' H' x r => by
    unfold enumSD at k
    split at k
    · rename_i ds
      cases r with
      | cons r1 r2 =>
        cases r2
        cases r1 with
        | @lst a vs _ h1 h2 =>
          refine ⟨a, vs, rfl, .inl ⟨ex_l x.s h1, k _ F' H' x (walkd_pair walk_enumP (by rw [enumK_len, h2.length]) (fun F2 H2 p s => ex_l (p.trans s) h1) fun i F2 H2 x y p hi e1 e2 => ?_)⟩⟩
          cases e1
          obtain ⟨d, hd, rd⟩ := h2.getV e2
          exact ⟨.int (i0 + (i : Int)), d, enumK_get hd, .int _, rd.mono p⟩
    · rename_i ds
      cases r with
      | cons r1 r2 =>
        cases r2
        cases r1 with
        | @tup a vs _ h1 h2 =>
          refine ⟨a, vs, rfl, .inr ⟨ex_t x.s h1, k _ F' H' x (walkd_pair walk_enumP (by rw [enumK_len, h2.length]) (fun F2 H2 p s => ex_t (p.trans s) h1) fun i F2 H2 x y p hi e1 e2 => ?_)⟩⟩
          cases e1
          obtain ⟨d, hd, rd⟩ := h2.getV e2
          exact ⟨.int (i0 + (i : Int)), d, enumK_get hd, .int _, rd.mono p⟩
    · exact k.elim) fun _ z => z⟩
end
end WD

/-! defs that return a list that is new: who calls may change it -/
namespace WD
open PySem PySem.Spec PyProof.Rows L2
open Evl (Ex Ex.refl Ex.trans Ex.new Ex.mut ex_l ex_t fresh_back)
def spN (mg : Mg) (K : Frag) (n : Nat) (m : List D → Res D) : Sp := fun vs H Q E => vs.length = n ∧ ∃ F ds, Ex F H ∧ NF F ∧ RpA K F vs ds ∧
  (m ds).sat (fun d => ∃ xs, d = .list xs ∧ ∀ p ws F' H', Ext F H F' H' → H p = none → F' p = none → H' p = some (.lst ws) → RpA K F' ws xs → Q (.ref p) H') (ErrOk mg K E F H)
abbrev eXN (K : Frag) (E : XK) : EX := ⟨fun _ => E, fun H0 d v F H => ∃ p ws xs, d = .list xs ∧ v = .ref p ∧ H0 p = none ∧ F p = none ∧ H p = some (.lst ws) ∧ RpA K F ws xs⟩
structure FnN (P : Program) (w : World) (K : Frag) (mg : Mg) (base : Heap) (k : Nat) (x : Str) (ps : List Str) (m : List D → Res D) : Prop where
  ex : ∃ f fd, mg x = some (.ref f) ∧ PySem.W.keepIn K (.ref f) = true ∧ Binds K fd ps [] ∧ FnOk P w K mg base (L2N.CX P w) k f fd ps (spN mg K ps.length m)
def lsD : D → Res (List D)
  | .list ds => .ok ds
  | _ => .stk
theorem lsD_sat {d : D} {P : List D → Prop} {R : Exn → Prop} (h : (lsD d).sat P R) : ∃ ds, d = .list ds ∧ P ds := by
  cases d <;> first | exact ⟨_, rfl, h⟩ | exact h.elim
def mLs (m : Env → Res D) : Env → Res (List D) := fun ρ => (m ρ).bind lsD
section
variable {X : Cx} {κ κe : Nat → Kd} {E : EX} {a b c e : Expr} {es : List Expr} {pos : Pos} {st : Stmt} {sts : List Stmt}
theorem ds_retNew {m : Env → Res (List D)} (h : DN X κ E e m) (hR : ∀ H0 p ws xs F H, H0 p = none → F p = none → H p = some (.lst ws) → RpA X.K F ws xs → E.ret H0 (.list xs) (.ref p) F H := by exact fun _ _ _ _ _ _ h1 h2 h3 h4 => ⟨_, _, _, rfl, rfl, h1, h2, h3, h4⟩) : DS X κ E (.Return (some e) pos) (mRet (mList m)) :=
  (ps_ret h).imp fun Dn σ H ⟨F0, H0, F, ρ, S, k⟩ => ⟨F0, H0, F, ρ, S, Res.sat_imp (Res.sat_bind (out_sat k)) (fun xs _ k p ws F' H' x hp fp hv r => k (.ref p) F' H' (S.ext.trans x) (hR _ _ _ _ _ _ (fresh_back S.h0 hp) fp hv r)) fun x z => err_back S z⟩
theorem fn_okN {P : Program} {w : World} {K : Frag} {mg : Mg} {base : Heap} {x qual : Str} {st : Stmt} {f : Addr} {fd : FuncData} {N ps : List Str} {k n : Nat} {body : Env → Out} (F : Fun K x qual st f fd) (S : FnScope N ps (defScope st)) (hn : N.length = n)
    (hk : ∀ i, i < ps.length → κ i = .im)
    (hbody : ∀ (cdv : Value) (A : Around) (outer : List PySem.Env) (s : Shared) (H : Hp) (E : XK), Room k (A.deeper (envOfC qual (defScope st) s.heap.objs.size f cdv)) →
      DSs2 (cxOf (L2N.CX P w) P w K mg base N qual (defScope st) f cdv A outer s H E) κ κe (eXN K E) (defBody st) body) : FnOk P w K mg base (L2N.CX P w) (k + 1) f fd ps (spN mg K ps.length (mkFn n body)) := by
  subst hn
  refine F.okQ S (fun vs H Q E h => h.1) fun cdv A outer s H vs Q E hr h => ⟨_, hbody cdv A outer s H E hr, ?_⟩
  obtain ⟨hl, F, ds, e, nf, r, c⟩ := h
  refine ⟨F, H, F, _, fn_start e nf r hl hk, ?_⟩
  unfold mkFn at c
  generalize ho : body (ds.map some ++ List.replicate (N.length - ds.length) none) = o at c ⊢
  cases o with
  | nx ρ => obtain ⟨xs, hx, _⟩ := c; cases hx
  | bk ρ => exact c.elim
  | ct ρ => exact c.elim
  | rt d =>
    obtain ⟨xs, hx, c⟩ := c
    subst hx
    intro v F' H' x ⟨p, ws, ys, hy, hv, h0, f0, g, r⟩
    cases hy
    subst hv
    exact c p ws F' H' x h0 f0 g r
  | err x => exact fun _ => c
  | stk => exact c
theorem dn_callN {k : Nat} {x : Str} {p : Pos} {ps : List Str} {m : List D → Res D} {ma : Env → Res (List D)} (G : FnN X.prog X.w X.K X.mg X.base k x ps m) (hr : Room k X.A) (hx : ∀ σ, PassesAt (L2N.CX X.prog X.w) X σ (E.err σ)) (hg : Gl X x) (ha : DA X κ E (e :: es) ma) (hlen : (e :: es).length = ps.length)
    (hma : ∀ ρ ds, ma ρ = .ok ds → ds.length = ps.length)
    (hdb : (x == ("__debug__" : Str)) = false := by decide) (he : starEach (e :: es) X.env = (false, eval e X.env) :: starEach es X.env := by rfl) (hpl : (backTo pos (starEach es X.env)).any (·.1) = false := by rfl) :
    DN X κ E (.Call (.Name x p) (e :: es) [] pos) (mLs (mCall m ma)) := by
  obtain ⟨f, fd, hm, hk, hb, hF⟩ := G.ex
  refine (pe_callS hF hr hg hm hk hb hx ha hdb he hpl).imp fun σ H Q ⟨F0, H0, F, ρ, S, c⟩ => ⟨F0, H0, F, ρ, S, Res.sat_imp (Res.sat_bind (Res.sat_bind c)) (fun ds q k vs F' H' x r => ?_) fun _ z => z⟩
  refine ⟨by rw [r.length, hma ρ ds q], F', ds, x.s, x.n S.nf, r, Res.sat_imp k (fun d _ k => ?_) fun _ z => z.mono x⟩
  obtain ⟨xs, hd, k⟩ := lsD_sat k
  exact ⟨xs, hd, fun p ws F2 H2 x2 hp fp hv rv => k p ws F2 H2 (x.trans x2) (fresh_back x.h hp) fp hv rv⟩
end
end WD

/-! try: if c: return a; ..; return b -/
namespace WD
open PySem PySem.Spec PyProof.Rows L2
open Evl (Ex Ex.refl Ex.trans Ex.new Ex.mut ex_l ex_t fresh_back)
section
variable {X : Cx} {κ : Nat → Kd} {E : EX} {c e : Expr} {sts : List Stmt} {pos p1 : Pos}
/-- statements that return m's value -/
def DR (X : Cx) (κ : Nat → Kd) (E : EX) (sts : List Stmt) (m : Env → Res D) : Prop := PSs X sts (fun Dn σ H => rdE X.mg X.K κ E m σ H fun v H' => Dn.rt v H')
theorem dr_ret {m : Env → Res D} (h : DE X κ E e m) : DR X κ E [.Return (some e) pos] m := pss_one (ps_ret h)
theorem dr_if {t : Env → Res Bool} {m1 m2 : Env → Res D} (hc : DT X κ E c t) (h1 : DE X κ E e m1) (h2 : DR X κ E sts m2) : DR X κ E (.If c [.Return (some e) p1] [] pos :: sts) (mIf t m1 m2) :=
  (pss_cons (ps_if hc (pss_one (ps_ret h1)) pss_nil) h2).imp fun Dn σ H ⟨F0, H0, F, ρ, S, k⟩ => ⟨F0, H0, F, ρ, S, Res.sat_imp (Res.sat_bind k) (fun b _ k F' H' x => by
    cases b with
    | true => exact ⟨F0, H0, F', ρ, S.mono x, Res.sat_imp k (fun d _ k v F2 H2 x2 r => k v F2 H2 (x.trans x2) r) fun _ z => z.mono x⟩
    | false => exact ⟨F0, H0, F', ρ, S.mono x, Res.sat_imp k (fun d _ k v F2 H2 x2 r => k v F2 H2 (x.trans x2) r) fun _ z => z.mono x⟩) fun _ z => z⟩
theorem ds_tryS {h0 : ExceptHandler} {hds : List ExceptHandler} {l : List Sut} {tb : Tbl} {me : Env → Res D}
    (hb : ∀ (W : WX) (pn : List (Addr × Obj)) (xe : Value → Shared → Prop), L2N.Takes (X.tr pn xe) W → DR (X.tr pn xe) κ ⟨WE W, E.ret⟩ sts me)
    (hd : HdsD X κ E (h0 :: hds) l) (ht : TblOk X.K X.mg tb) (hcl : ∀ n ∈ l, ∃ cv, X.mg n.cls = some cv) (hN : X.N.Nodup) (tk : L2N.Takes X (fun cls d σ H => E.err σ cls d H)) (hR : ∀ H0 d v F H, Rp X.K F v d → E.ret H0 d v F H := by exact fun _ _ _ _ _ h => h) (hs : X.stack = X.env :: X.outer := by rfl) (hf : X.env.frame = some X.env.locals := by rfl) :
    DS X κ E (.Try sts (h0 :: hds) [] [] pos) (mTry tb me (fun d _ => .rt d) l) := by
  obtain ⟨l', h⟩ := hds_of hd ht
  obtain ⟨h1, h2⟩ := h fun _ => hcl
  have hb' : ∀ (W : WX) (pn : List (Addr × Obj)) (xe : Value → Shared → Prop), L2N.Takes (X.tr pn xe) W → PSs (X.tr pn xe) sts (fun Dn σ H => rdE X.mg X.K κ ⟨WE W, E.ret⟩ me σ H fun v H' => Dn.rt v H') := hb
  refine (try_walk hs hf hN tk hb' h1).imp fun Dn σ H ⟨F0, H0, F, ρ, S, k⟩ => ⟨F0, H0, F, ρ, S, ?_⟩
  unfold mTry at k
  cases q : me ρ with
  | ok d =>
    simp only [q] at k
    exact fun v F' H' x r => k v F' H' (S.ext.trans x) (hR _ _ _ _ _ r)
  | err y =>
    simp only [q] at k
    exact fun F' H' c dd x rep => h2 Dn F0 H0 F' H' σ ρ y c dd (S.mono x) rep (OutOk.mono (H := H) x.f k)
  | stk => simp only [q] at k; exact k.elim
end
end WD

/-! try with except clauses that name nothing -/
namespace WD
open PySem PySem.Spec PyProof.Rows L2
open Evl (Ex Ex.refl Ex.trans Ex.new Ex.mut ex_l ex_t fresh_back)
structure SutN where
  cls : Str
  m : Env → Out
def hndlN (tb : Tbl) : List SutN → Exn → Env → Out
  | [], x, _ => .err x
  | s :: r, x, ρ => match tb x.cls s.cls with
    | none => .stk
    | some true => (match s.m ρ with
      | .err _ => .stk
      | o => o)
    | some false => hndlN tb r x ρ
def mTryN (tb : Tbl) (m : Env → Res D) (fin : D → Env → Out) (hs : List SutN) : Env → Out := fun ρ => match m ρ with
  | .ok d => fin d ρ
  | .err x => hndlN tb hs x ρ
  | .stk => .stk
section
variable {X : Cx} {κ : Nat → Kd} {E : EX} {sts : List Stmt} {pos : Pos}
inductive HdsND (X : Cx) (κ : Nat → Kd) (E : EX) : List ExceptHandler → List SutN → Prop
  | nil : HdsND X κ E [] []
  | cons {x : Str} {m : Env → Out} {b0 : Stmt} {suite : List Stmt} {np hp : Pos} {hds : List ExceptHandler} {l : List SutN} (hg : Gl X x) (hdb : (x == ("__debug__" : Str)) = false)
      (hsu : ∀ (a : Addr) (oe : Obj) (pn : List (Addr × Obj)), DSs (X.suite a ((a, oe) :: pn)) κ ⟨EX0.err, E.ret⟩ (b0 :: suite) m) (r : HdsND X κ E hds l) :
      HdsND X κ E (.ExceptHandler (some (.Name x np)) none (b0 :: suite) hp :: hds) (⟨x, m⟩ :: l)
theorem hds_ofN {hds : List ExceptHandler} {l : List SutN} (h : HdsND X κ E hds l) {tb : Tbl} (ht : TblOk X.K X.mg tb) :
    ∃ l' : List (Value × (Addr → Value → Option Addr → TS)), (l ≠ [] → ∀ n ∈ l, ∃ cv, X.mg n.cls = some cv) → L2N.HdsOk X hds l' ∧
      ∀ (Dn : Ends) (F0 H0 F H : Hp) (σ : L2.St) (ρ : Env) (x : Exn) (cls : Value) (d : Option Addr), Stt X.K κ F0 H0 F H σ ρ → ExRep X.mg X.K F H x cls d → OutOk X.mg X.K κ E F0 H0 F H Dn (hndlN tb l x ρ) →
        wMany X.K (fun cls d σ H => E.err σ cls d H) Dn l' cls d σ H := by
  induction h with
  | nil => exact ⟨[], fun _ => ⟨.nil, fun Dn F0 H0 F H σ ρ x cls d S r k => (show ∀ σ, ErrOk X.mg X.K (E.err σ) F0 H0 x from k) σ F H cls d S.ext r⟩⟩
  | @cons x m b0 suite np hp hds l hg hdb hsu r ih =>
    obtain ⟨l', ih⟩ := ih
    cases hcv : X.mg x with
    | none => exact ⟨[], fun z => by obtain ⟨cv, e⟩ := z (by simp) ⟨x, m⟩ (by simp); rw [hcv] at e; cases e⟩
    | some cv =>
      refine ⟨(cv, fun a cls d => fun D σ H => rdS X.mg X.K κ ⟨EX0.err, E.ret⟩ m D σ H) :: l', fun z => ?_⟩
      obtain ⟨h1, h2⟩ := ih fun _ n hn => z (by simp) n (by simp [hn])
      refine ⟨.cons ⟨hg, hdb, .inl hcv⟩ (fun a oe cls d pn hz hf => ⟨fun pins s σ H D I k => (hsu a oe pn).run pins s σ H D I k⟩) h1, fun Dn F0 H0 F H σ ρ y cls d S rep k => ?_⟩
      obtain ⟨C, e1, e2, _⟩ := id rep
      unfold hndlN at k
      cases htb : tb y.cls x with
      | none => simp only [htb] at k; exact k.elim
      | some b =>
        obtain ⟨cv', e3, e4⟩ := ht _ _ _ htb C e1
        rw [hcv] at e3
        cases e3
        refine ⟨b, by rw [e2]; exact e4, fun hb a na => ?_, fun hb => ?_⟩
        · subst hb
          simp only [htb] at k
          refine ⟨F0, H0, F, ρ, S, ?_⟩
          generalize m ρ = o at k ⊢
          cases o with
          | nx ρ' => exact k
          | bk ρ' => exact k
          | ct ρ' => exact k
          | rt d => exact k
          | err x => exact k.elim
          | stk => exact k.elim
        · subst hb
          simp only [htb] at k
          exact h2 Dn F0 H0 F H σ ρ y cls d S rep k
theorem ds_trySN {h0 : ExceptHandler} {hds : List ExceptHandler} {l : List SutN} {tb : Tbl} {me : Env → Res D}
    (hb : ∀ (W : WX) (pn : List (Addr × Obj)) (xe : Value → Shared → Prop), L2N.Takes (X.tr pn xe) W → DR (X.tr pn xe) κ ⟨WE W, E.ret⟩ sts me)
    (hd : HdsND X κ E (h0 :: hds) l) (ht : TblOk X.K X.mg tb) (hcl : ∀ n ∈ l, ∃ cv, X.mg n.cls = some cv) (tk : L2N.Takes X (fun cls d σ H => E.err σ cls d H)) (hR : ∀ H0 d v F H, Rp X.K F v d → E.ret H0 d v F H := by exact fun _ _ _ _ _ h => h) (hs : X.stack = X.env :: X.outer := by rfl) (hf : X.env.frame = some X.env.locals := by rfl) :
    DS X κ E (.Try sts (h0 :: hds) [] [] pos) (mTryN tb me (fun d _ => .rt d) l) := by
  obtain ⟨l', h⟩ := hds_ofN hd ht
  obtain ⟨h1, h2⟩ := h fun _ => hcl
  have hb' : ∀ (W : WX) (pn : List (Addr × Obj)) (xe : Value → Shared → Prop), L2N.Takes (X.tr pn xe) W → PassesOwn (model X.prog X.w) X.A X.env xe → PSs (X.tr pn xe) sts (fun Dn σ H => rdE X.mg X.K κ ⟨WE W, E.ret⟩ me σ H fun v H' => Dn.rt v H') := fun W pn xe t _ => hb W pn xe t
  refine (L2N.ps_try_many hs hf tk hb' h1).imp fun Dn σ H ⟨F0, H0, F, ρ, S, k⟩ => ⟨F0, H0, F, ρ, S, ?_⟩
  unfold mTryN at k
  cases q : me ρ with
  | ok d =>
    simp only [q] at k
    exact fun v F' H' x r => k v F' H' (S.ext.trans x) (hR _ _ _ _ _ r)
  | err y =>
    simp only [q] at k
    exact fun F' H' c dd x rep => h2 Dn F0 H0 F' H' σ ρ y c dd (S.mono x) rep (OutOk.mono (H := H) x.f k)
  | stk => simp only [q] at k; exact k.elim
theorem hclN_nil {mg : Mg} : ∀ n ∈ ([] : List SutN), ∃ cv, mg n.cls = some cv := fun n h => by simp at h
theorem hclN_cons {mg : Mg} {x : Str} {m : Env → Out} {l : List SutN} (h : ∃ cv, mg x = some cv) (r : ∀ n ∈ l, ∃ cv, mg n.cls = some cv) : ∀ n ∈ (⟨x, m⟩ :: l : List SutN), ∃ cv, mg n.cls = some cv := fun n hn => by
  rcases List.mem_cons.mp hn with rfl | hn
  · exact h
  · exact r n hn
end
end WD

/-! try with clauses of both kinds: that name what they catch, and that do not -/
namespace WD
open PySem PySem.Spec PyProof.Rows L2
open Evl (Ex Ex.refl Ex.trans Ex.new Ex.mut ex_l ex_t fresh_back)
def wHm (K : Frag) (Wout : WX) (D : Ends) : List (Value × Option Nat × Sui) → WX
  | [] => Wout
  | h :: r => fun cls d σ H => ∃ b, PySem.W.exmOne K cls h.1 = some b ∧ (b = true → ∀ a, H a = none → match h.2.1 with
      | some i => h.2.2 a cls d (endN D i) (σ.set i (some (.ref a))) H
      | none => h.2.2 a cls d D σ H) ∧ (b = false → wHm K Wout D r cls d σ H)
inductive HdsM (X : Cx) : List ExceptHandler → List (Value × Option Nat × Sui) → Prop
  | nil : HdsM X [] []
  | named {x n : Str} {c : Value} {i : Nat} {ts : Sui} {b0 : Stmt} {suite : List Stmt} {np hp : Pos} {hds : List ExceptHandler} {l : List (Value × Option Nat × Sui)} (hi : X.N[i]? = some n) (hl : X.env.kindOf n = some .local) (hc : Names X x c)
      (hsu : ∀ (a : Addr) (oe : Obj) (cls : Value) (d : Option Addr) (pn : List (Addr × Obj)), Zc cls d oe → (∃ vs, oe.data = .fields vs) → PSs (X.suite a ((a, oe) :: pn)) (b0 :: suite) (ts a cls d)) (r : HdsM X hds l) : HdsM X (.ExceptHandler (some (.Name x np)) (some n) (b0 :: suite) hp :: hds) ((c, some i, ts) :: l)
  | bare {x : Str} {c : Value} {ts : Sui} {b0 : Stmt} {suite : List Stmt} {np hp : Pos} {hds : List ExceptHandler} {l : List (Value × Option Nat × Sui)} (hc : Names X x c)
      (hsu : ∀ (a : Addr) (oe : Obj) (cls : Value) (d : Option Addr) (pn : List (Addr × Obj)), Zc cls d oe → (∃ vs, oe.data = .fields vs) → PSs (X.suite a ((a, oe) :: pn)) (b0 :: suite) (ts a cls d)) (r : HdsM X hds l) : HdsM X (.ExceptHandler (some (.Name x np)) none (b0 :: suite) hp :: hds) ((c, none, ts) :: l)
section
variable {X : Cx}
theorem try_walkM {body : List Stmt} {h0 : ExceptHandler} {hds : List ExceptHandler} {l : List (Value × Option Nat × Sui)} {pos : Pos} {tb : WX → TS} {Wout : WX} (hs : X.stack = X.env :: X.outer) (hf : X.env.frame = some X.env.locals) (hN : X.N.Nodup) (tk : L2N.Takes X Wout)
    (hb : ∀ (W : WX) (pn : List (Addr × Obj)) (xe : Value → Shared → Prop), L2N.Takes (X.tr pn xe) W → PSs (X.tr pn xe) body (tb W)) (hh : HdsM X (h0 :: hds) l) : PS X (.Try body (h0 :: hds) [] [] pos) (fun D σ H => tb (wHm X.K Wout D l) D σ H) := ⟨fun pins s σ H D I h => by
  have ok := I.ok
  have hfr : X.A.frames = some (X.env :: X.outer) := (congrArg some hs).symm ▸ ok.frames
  refine wpAny_Try_except (wpAny_mono ((hb (wHm X.K Wout D l) (X.pn ++ pins) (fun e s1 => wpAny (model X.prog X.w) X.A (noteFrame e X.env) (fun _ s2 => wpAny (model X.prog X.w) X.A (setFlight e none) (fun _ s3 => wpAny (model X.prog X.w) X.A (handleBy e X.env (h0 :: hds)) (SP X pins D) X.xe s3) X.xe s2) X.xe s1) (fun u s' xx => ?_)).run [] s σ H D (I.toTry _) h) (fun fl s1 q => ?_) fun _ _ he => he)
  · obtain ⟨a, B, sI, pins', σ', H', cls, d, rfl, J', nb, up, sky, na, os, ag, w⟩ := xx
    have J : Inv X pins σ' H' sI := J'.ofTry ok
    refine L2N.Sky.land L2N.Zn.steady hfr hf (show Sky B (X.env :: X.outer) a (L2N.Zn cls d) X.env.locals s'.heap from hs ▸ sky) fun h3 fl3 up3 => ?_
    have J3 : Inv X pins σ' H' { s' with heap := h3 } := J.landed nb fl3.1 (up.trans up3) os ag
    obtain ⟨o3, vs3, he3, hz3, hd3⟩ := fl3.there
    have nfr := not_framed fl3.2.2.1 he3 hd3
    have nL : a ≠ X.env.locals := fun z => nfr (List.mem_filterMap.mpr ⟨X.env, List.mem_cons_self, hf.trans (congrArg some z.symm)⟩)
    have nF : a ∉ X.fs := fun hm => let ⟨e, he, q⟩ := List.mem_filterMap.mp hm; nfr (List.mem_filterMap.mpr ⟨e, List.mem_cons_of_mem _ he, q⟩)
    have S3 := J3.suite he3 hd3 na nL nF
    have LT : PySem.W.Looks (model X.prog X.w) h3 (typeOf (.ref a)) cls := fun _ _ _ _ k q => wpAny_typeOf_ref (k _ _ he3) (hz3.1.symm ▸ q)
    have go : ∀ {ds : List ExceptHandler} {m : List (Value × Option Nat × Sui)}, HdsM X ds m → wHm X.K Wout D m cls d σ' H' → wpAny (model X.prog X.w) X.A (handleBy (.ref a) X.env ds) (SP X pins D) X.xe { s' with heap := h3 } := by
      intro ds m hk
      induction hk with
      | nil =>
        refine fun w => wpAny_handleBy_nil ?_
        obtain ⟨_, _, _, oe, vs, T, oT, ts', he, hz, hd, h1, hr⟩ := id fl3
        unfold PySem.passOn
        refine wpAny_bind (wpAny_field he hd h1 ?_)
        rw [if_neg (show ¬ ((Value.ref T == Value.none) = true) by simp)]
        have fin : wpAny (model X.prog X.w) X.A (setFlight (.ref a) X.env.frame) (fun _ s4 => wpAny (model X.prog X.w) X.A (throw (.ref a) : Sem Flow) (SP X pins D) X.xe s4) X.xe { s' with heap := h3 } := by
          rw [hf]
          exact HandSPX.setFlight_upZ fl3 fun h4 hh4 up4 => wpAny_throw (tk _ _ ⟨a, B, sI, pins, σ', H', cls, d, rfl, J, nb, (up.trans up3).trans up4, .inr (.inr (hs.symm ▸ hh4)), na, os, ag, w⟩)
        first | exact wpAny_bind (wpAny_pure (wpAny_bind fin)) | exact wpAny_bind fin
      | @named x n c i ts b0 suite np hp hds2 l2 hi hl hc hsu r ih =>
        rintro ⟨b, hb1, hyes, hno⟩
        have LM := PySem.W.exm_one (M := model X.prog X.w) (J3.kIn) LT hb1
        have test : ∀ {Q : Value → Shared → Prop} {E : Value → Shared → Prop}, Q c { s' with heap := h3 } → wpAny (model X.prog X.w) (X.A.mark (some (.ref a))) (eval (.Name x np) X.env) Q E { s' with heap := h3 } := fun {Q E} q => by
          obtain ⟨hg, hdbg, hm | ⟨hm, hv, hnn⟩⟩ := hc
          · exact ld_glob (X := X.suite a ((a, o3) :: (X.pn ++ pins))) S3 hg hm q hdbg
          · exact ld_blt (X := X.suite a ((a, o3) :: (X.pn ++ pins))) S3 hg hm hv q hnn hdbg
        refine wpAny_handleBy_cons (codeAny_handlers_test (test (LM.here ?_))) fun q => nomatch q
        cases b with
        | false => exact ih (hno rfl)
        | true =>
          refine codeAny_handlers_suite_as (HandSPX.lands_againZ fl3 fun h4 fl4 up4 => ?_)
          have J4 : Inv X pins σ' H' { s' with heap := h4 } := J.landed nb fl4.1 ((up.trans up3).trans up4) os ag
          obtain ⟨o4, vs4, he4, hz4, hd4⟩ := fl4.there
          refine store_ok (X := X.suite a ((a, o4) :: (X.pn ++ pins))) (v := .ref a) (J4.suite he4 hd4 na nL nF) hN hi (.inl hl) rfl (fun s5 S5 => ?_) (.inr hl)
          refine wpAny_mono ((hsu a o4 cls d (X.pn ++ pins) hz4.zc ⟨_, hd4⟩).run [] s5 _ H' _ S5 (hyes rfl a na)) (fun f s6 q => ?_) fun _ _ z => z.elim
          have fin : ∀ {σ6 : L2.St} {H6 : Hp} {Q : Shared → Prop}, Inv (X.suite a ((a, o4) :: (X.pn ++ pins))) [] σ6 H6 s6 → (∀ s7, Inv X pins (σ6.set i none) H6 s7 → Q s7) → wpAny (model X.prog X.w) X.A (do bindName X.env n .none; unbindBehindTheSuite X.env n hp) (fun _ s7 => Q s7) X.xe s6 :=
            fun S6 hq => gone_ok (S6.unsuite ok) hN hi hl hq
          cases f with
          | next => obtain ⟨σ6, H6, S6, q6⟩ := q; exact fin S6 fun s7 J7 => ⟨_, _, J7, q6⟩
          | brk => obtain ⟨σ6, H6, S6, q6⟩ := q; exact fin S6 fun s7 J7 => ⟨_, _, J7, q6⟩
          | cont => obtain ⟨σ6, H6, S6, q6⟩ := q; exact fin S6 fun s7 J7 => ⟨_, _, J7, q6⟩
          | ret u => obtain ⟨v6, σ6, H6, S6, r6, q6⟩ := q; exact fin S6 fun s7 J7 => ⟨_, _, _, J7, r6, q6⟩
      | @bare x c ts b0 suite np hp hds2 l2 hc hsu r ih =>
        rintro ⟨b, hb1, hyes, hno⟩
        have LM := PySem.W.exm_one (M := model X.prog X.w) (J3.kIn) LT hb1
        have test : ∀ {Q : Value → Shared → Prop} {E : Value → Shared → Prop}, Q c { s' with heap := h3 } → wpAny (model X.prog X.w) (X.A.mark (some (.ref a))) (eval (.Name x np) X.env) Q E { s' with heap := h3 } := fun {Q E} q => by
          obtain ⟨hg, hdbg, hm | ⟨hm, hv, hnn⟩⟩ := hc
          · exact ld_glob (X := X.suite a ((a, o3) :: (X.pn ++ pins))) S3 hg hm q hdbg
          · exact ld_blt (X := X.suite a ((a, o3) :: (X.pn ++ pins))) S3 hg hm hv q hnn hdbg
        refine wpAny_handleBy_cons (codeAny_handlers_test (test (LM.here ?_))) fun q => nomatch q
        cases b with
        | false => exact ih (hno rfl)
        | true =>
          refine codeAny_handlers_suite (HandSPX.lands_againZ fl3 fun h4 fl4 up4 => ?_)
          have J4 : Inv X pins σ' H' { s' with heap := h4 } := J.landed nb fl4.1 ((up.trans up3).trans up4) os ag
          obtain ⟨o4, vs4, he4, hz4, hd4⟩ := fl4.there
          refine wpAny_mono ((hsu a o4 cls d (X.pn ++ pins) hz4.zc ⟨_, hd4⟩).run [] _ _ H' _ (J4.suite he4 hd4 na nL nF) (hyes rfl a na)) (fun f s6 q => ?_) fun _ _ z => z.elim
          cases f with
          | next => obtain ⟨σ6, H6, S6, q6⟩ := q; exact ⟨_, _, S6.unsuite ok, q6⟩
          | brk => obtain ⟨σ6, H6, S6, q6⟩ := q; exact ⟨_, _, S6.unsuite ok, q6⟩
          | cont => obtain ⟨σ6, H6, S6, q6⟩ := q; exact ⟨_, _, S6.unsuite ok, q6⟩
          | ret u => obtain ⟨v6, σ6, H6, S6, r6, q6⟩ := q; exact ⟨_, _, _, S6.unsuite ok, r6, q6⟩
    exact go hh w
  · cases fl with
    | next => obtain ⟨σ', H', J', q⟩ := q; exact wpAny_execs_nil ⟨σ', H', J'.ofTry ok, q⟩
    | brk => obtain ⟨σ', H', J', q⟩ := q; exact ⟨σ', H', J'.ofTry ok, q⟩
    | cont => obtain ⟨σ', H', J', q⟩ := q; exact ⟨σ', H', J'.ofTry ok, q⟩
    | ret u => obtain ⟨v, σ', H', J', r, q⟩ := q; exact ⟨v, σ', H', J'.ofTry ok, r, q⟩⟩
end
structure SutM where
  cls : Str
  slot : Option Nat
  m : Str → Env → Out
def hndlM (tb : Tbl) : List SutM → Exn → Env → Out
  | [], x, _ => .err x
  | s :: r, x, ρ => match tb x.cls s.cls with
    | none => .stk
    | some true => (match s.slot with
      | some i => (match s.m x.cls (ρ.set i (some (xD x.fs))) with
        | .nx ρ' => .nx (ρ'.set i none)
        | .bk ρ' => .bk (ρ'.set i none)
        | .ct ρ' => .ct (ρ'.set i none)
        | .rt d => .rt d
        | _ => .stk)
      | none => (match s.m x.cls ρ with
        | .err _ => .stk
        | o => o))
    | some false => hndlM tb r x ρ
def mTryM (tb : Tbl) (m : Env → Res D) (fin : D → Env → Out) (hs : List SutM) : Env → Out := fun ρ => match m ρ with
  | .ok d => fin d ρ
  | .err x => hndlM tb hs x ρ
  | .stk => .stk
section
variable {X : Cx} {κ : Nat → Kd} {E : EX} {sts : List Stmt}
inductive HdsMD (X : Cx) (κ : Nat → Kd) (E : EX) : List ExceptHandler → List SutM → Prop
  | nil : HdsMD X κ E [] []
  | named {x n : Str} {i : Nat} {m : Str → Env → Out} {b0 : Stmt} {suite : List Stmt} {np hp : Pos} {hds : List ExceptHandler} {l : List SutM} (hk : κ i = .im) (hi : X.N[i]? = some n) (hl : X.env.kindOf n = some .local) (hg : Gl X x) (hdb : (x == ("__debug__" : Str)) = false)
      (hsu : ∀ (a : Addr) (oe : Obj) (C : Addr) (cn : Str) (d : Option Addr) (pn : List (Addr × Obj)), X.mg cn = some (.ref C) → Zc (.ref C) d oe → (∃ vs, oe.data = .fields vs) → DSs (X.suite a ((a, oe) :: pn)) (kdX κ i a d) ⟨EX0.err, E.ret⟩ (b0 :: suite) (m cn)) (r : HdsMD X κ E hds l) :
      HdsMD X κ E (.ExceptHandler (some (.Name x np)) (some n) (b0 :: suite) hp :: hds) (⟨x, some i, m⟩ :: l)
  | bare {x : Str} {m : Str → Env → Out} {b0 : Stmt} {suite : List Stmt} {np hp : Pos} {hds : List ExceptHandler} {l : List SutM} (hg : Gl X x) (hdb : (x == ("__debug__" : Str)) = false)
      (hsu : ∀ (a : Addr) (oe : Obj) (C : Addr) (cn : Str) (d : Option Addr) (pn : List (Addr × Obj)), X.mg cn = some (.ref C) → Zc (.ref C) d oe → (∃ vs, oe.data = .fields vs) → DSs (X.suite a ((a, oe) :: pn)) κ ⟨EX0.err, E.ret⟩ (b0 :: suite) (m cn)) (r : HdsMD X κ E hds l) :
      HdsMD X κ E (.ExceptHandler (some (.Name x np)) none (b0 :: suite) hp :: hds) (⟨x, none, m⟩ :: l)
/-- the suites, over plain data, keep what is asked of the exception -/
theorem hds_ofM {hds : List ExceptHandler} {l : List SutM} (h : HdsMD X κ E hds l) {tb : Tbl} (ht : TblOk X.K X.mg tb) :
    ∃ l' : List (Value × Option Nat × Sui), (l ≠ [] → ∀ n ∈ l, ∃ cv, X.mg n.cls = some cv) → HdsM X hds l' ∧
      ∀ (Dn : Ends) (F0 H0 F H : Hp) (σ : L2.St) (ρ : Env) (x : Exn) (cls : Value) (d : Option Addr), Stt X.K κ F0 H0 F H σ ρ → ExRep X.mg X.K F H x cls d → OutOk X.mg X.K κ E F0 H0 F H Dn (hndlM tb l x ρ) →
        wHm X.K (fun cls d σ H => E.err σ cls d H) Dn l' cls d σ H := by
  induction h with
  | nil => exact ⟨[], fun _ => ⟨.nil, fun Dn F0 H0 F H σ ρ x cls d S r k => (show ∀ σ, ErrOk X.mg X.K (E.err σ) F0 H0 x from k) σ F H cls d S.ext r⟩⟩
  | @named x n i m b0 suite np hp hds l hk hi hl hg hdb hsu r ih =>
    obtain ⟨l', ih⟩ := ih
    cases hcv : X.mg x with
    | none => exact ⟨[], fun z => by obtain ⟨cv, e⟩ := z (by simp) ⟨x, some i, m⟩ (by simp); rw [hcv] at e; cases e⟩
    | some cv =>
      refine ⟨(cv, some i, fun a cls d => fun D σ H => ∃ C cn, cls = .ref C ∧ X.mg cn = some (.ref C) ∧ rdS X.mg X.K (kdX κ i a d) ⟨EX0.err, E.ret⟩ (m cn) D σ H) :: l', fun z => ?_⟩
      obtain ⟨h1, h2⟩ := ih fun _ n hn => z (by simp) n (by simp [hn])
      refine ⟨.named hi hl ⟨hg, hdb, .inl hcv⟩ (fun a oe cls d pn hz hf => ⟨fun pins s σ H D I ⟨C, cn, e1, e2, k⟩ => by subst e1; exact (hsu a oe C cn d pn e2 hz hf).run pins s σ H D I k⟩) h1, fun Dn F0 H0 F H σ ρ y cls d S rep k => ?_⟩
      have hx := rep.xn
      obtain ⟨C, e1, e2, _⟩ := id rep
      unfold hndlM at k
      cases htb : tb y.cls x with
      | none => simp only [htb] at k; exact k.elim
      | some b =>
        obtain ⟨cv', e3, e4⟩ := ht _ _ _ htb C e1
        rw [hcv] at e3
        cases e3
        refine ⟨b, by rw [e2]; exact e4, fun hb a na => ?_, fun hb => ?_⟩
        · subst hb
          simp only [htb] at k
          refine ⟨C, y.cls, e2, e1, F0, H0, F, _, S.enter hk hx, ?_⟩
          generalize m y.cls (ρ.set i (some (xD y.fs))) = o at k ⊢
          cases o with
          | nx ρ' => exact fun σ' F' H' x' S' => k _ F' H' x' S'.leave
          | bk ρ' => exact fun σ' F' H' x' S' => k _ F' H' x' S'.leave
          | ct ρ' => exact fun σ' F' H' x' S' => k _ F' H' x' S'.leave
          | rt d => exact k
          | err x => exact k.elim
          | stk => exact k.elim
        · subst hb
          simp only [htb] at k
          exact h2 Dn F0 H0 F H σ ρ y cls d S rep k
  | @bare x m b0 suite np hp hds l hg hdb hsu r ih =>
    obtain ⟨l', ih⟩ := ih
    cases hcv : X.mg x with
    | none => exact ⟨[], fun z => by obtain ⟨cv, e⟩ := z (by simp) ⟨x, none, m⟩ (by simp); rw [hcv] at e; cases e⟩
    | some cv =>
      refine ⟨(cv, none, fun a cls d => fun D σ H => ∃ C cn, cls = .ref C ∧ X.mg cn = some (.ref C) ∧ rdS X.mg X.K κ ⟨EX0.err, E.ret⟩ (m cn) D σ H) :: l', fun z => ?_⟩
      obtain ⟨h1, h2⟩ := ih fun _ n hn => z (by simp) n (by simp [hn])
      refine ⟨.bare ⟨hg, hdb, .inl hcv⟩ (fun a oe cls d pn hz hf => ⟨fun pins s σ H D I ⟨C, cn, e1, e2, k⟩ => by subst e1; exact (hsu a oe C cn d pn e2 hz hf).run pins s σ H D I k⟩) h1, fun Dn F0 H0 F H σ ρ y cls d S rep k => ?_⟩
      have hx := rep.xn
      obtain ⟨C, e1, e2, _⟩ := id rep
      unfold hndlM at k
      cases htb : tb y.cls x with
      | none => simp only [htb] at k; exact k.elim
      | some b =>
        obtain ⟨cv', e3, e4⟩ := ht _ _ _ htb C e1
        rw [hcv] at e3
        cases e3
        refine ⟨b, by rw [e2]; exact e4, fun hb a na => ?_, fun hb => ?_⟩
        · subst hb
          simp only [htb] at k
          refine ⟨C, y.cls, e2, e1, F0, H0, F, _, S, ?_⟩
          generalize m y.cls ρ = o at k ⊢
          cases o with
          | nx ρ' => exact k
          | bk ρ' => exact k
          | ct ρ' => exact k
          | rt d => exact k
          | err x => exact k.elim
          | stk => exact k.elim
        · subst hb
          simp only [htb] at k
          exact h2 Dn F0 H0 F H σ ρ y cls d S rep k

theorem ds_tryGM {h0 : ExceptHandler} {hds : List ExceptHandler} {l : List SutM} {pos : Pos} {tb : Tbl} {me : Env → Res D} {mfin : D → Env → Out} {fin : Ends → V → L2.St → Hp → Prop}
    (hb : ∀ (W : WX) (pn : List (Addr × Obj)) (xe : Value → Shared → Prop), L2N.Takes (X.tr pn xe) W → PSs (X.tr pn xe) sts (fun D σ H => rdE X.mg X.K κ ⟨WE W, E.ret⟩ me σ H fun v H' => fin D v σ H'))
    (hfin : ∀ (Dn : Ends) (F0 H0 F H : Hp) (σ : L2.St) (ρ : Env) (v : V) (d : D), Stt X.K κ F0 H0 F H σ ρ → Rp X.K F v d → OutOk X.mg X.K κ E F0 H0 F H Dn (mfin d ρ) → fin Dn v σ H)
    (hd : HdsMD X κ E (h0 :: hds) l) (ht : TblOk X.K X.mg tb) (hcl : ∀ n ∈ l, ∃ cv, X.mg n.cls = some cv) (hN : X.N.Nodup) (tk : L2N.Takes X (fun cls d σ H => E.err σ cls d H)) (hs : X.stack = X.env :: X.outer := by rfl) (hf : X.env.frame = some X.env.locals := by rfl) :
    DS X κ E (.Try sts (h0 :: hds) [] [] pos) (mTryM tb me mfin l) := by
  obtain ⟨l', h⟩ := hds_ofM hd ht
  obtain ⟨h1, h2⟩ := h fun _ => hcl
  refine (try_walkM hs hf hN tk hb h1).imp fun Dn σ H ⟨F0, H0, F, ρ, S, k⟩ => ⟨F0, H0, F, ρ, S, ?_⟩
  unfold mTryM at k
  cases q : me ρ with
  | ok d =>
    simp only [q] at k
    exact fun v F' H' x r => hfin Dn F0 H0 F' H' σ ρ v d (S.mono x) r (OutOk.mono (H := H) x.f k)
  | err y =>
    simp only [q] at k
    exact fun F' H' c dd x rep => h2 Dn F0 H0 F' H' σ ρ y c dd (S.mono x) rep (OutOk.mono (H := H) x.f k)
  | stk => simp only [q] at k; exact k.elim
/-- try: x = e -/
theorem ds_tryAM {e : Expr} {x : Str} {i : Nat} {px ps : Pos} {h0 : ExceptHandler} {hds : List ExceptHandler} {l : List SutM} {pos : Pos} {tb : Tbl} {me : Env → Res D} (hk : κ i = .im) (hi : X.N[i]? = some x) (hx : Loc X.env.scope x) (he : ∀ (W : WX) (pn : List (Addr × Obj)) (xe : Value → Shared → Prop), L2N.Takes (X.tr pn xe) W → DE (X.tr pn xe) κ ⟨WE W, E.ret⟩ e me)
    (hd : HdsMD X κ E (h0 :: hds) l) (ht : TblOk X.K X.mg tb) (hcl : ∀ n ∈ l, ∃ cv, X.mg n.cls = some cv) (hN : X.N.Nodup) (tk : L2N.Takes X (fun cls d σ H => E.err σ cls d H)) (hs : swapsWith e (some (.Name x px)) ps.line X.env = pure false := by rfl)
    (hf : X.fn x = true ∨ X.env.scope.names.lookup x = some .local := by first | exact .inl rfl | exact .inr rfl | assumption) (hst : X.stack = X.env :: X.outer := by rfl) (hfr : X.env.frame = some X.env.locals := by rfl) :
    DS X κ E (.Try [.Assign [.Name x px] e ps] (h0 :: hds) [] [] pos) (mTryM tb me (fun d ρ => .nx (ρ.set i (some d))) l) :=
  ds_tryGM (fin := fun D v σ H => D.nx (σ.set i (some v)) H) (fun W pn xe tk => pss_one (ps_set (i := i) (X := X.tr pn xe) hN hi hx (he W pn xe tk) hs hf)) (fun Dn F0 H0 F H σ ρ v d S r k => k _ F H (Ex.refl F) (S.set hk r)) hd ht hcl hN tk hst hfr
/-- try: what returns -/
theorem ds_trySM {h0 : ExceptHandler} {hds : List ExceptHandler} {l : List SutM} {pos : Pos} {tb : Tbl} {me : Env → Res D} (he : ∀ (W : WX) (pn : List (Addr × Obj)) (xe : Value → Shared → Prop), L2N.Takes (X.tr pn xe) W → DR (X.tr pn xe) κ ⟨WE W, E.ret⟩ sts me)
    (hd : HdsMD X κ E (h0 :: hds) l) (ht : TblOk X.K X.mg tb) (hcl : ∀ n ∈ l, ∃ cv, X.mg n.cls = some cv) (hN : X.N.Nodup) (tk : L2N.Takes X (fun cls d σ H => E.err σ cls d H)) (hR : ∀ H0 d v F H, Rp X.K F v d → E.ret H0 d v F H := by exact fun _ _ _ _ _ h => h) (hst : X.stack = X.env :: X.outer := by rfl) (hfr : X.env.frame = some X.env.locals := by rfl) :
    DS X κ E (.Try sts (h0 :: hds) [] [] pos) (mTryM tb me (fun d _ => .rt d) l) :=
  ds_tryGM (fin := fun D v _ H => D.rt v H) (fun W pn xe tk => he W pn xe tk) (fun Dn F0 H0 F H σ ρ v d S r k => k v F H S.ext (hR _ _ _ _ _ r)) hd ht hcl hN tk hst hfr
/-- try: e -/
theorem ds_tryEM {e : Expr} {ps : Pos} {h0 : ExceptHandler} {hds : List ExceptHandler} {l : List SutM} {pos : Pos} {tb : Tbl} {me : Env → Res D} (he : ∀ (W : WX) (pn : List (Addr × Obj)) (xe : Value → Shared → Prop), L2N.Takes (X.tr pn xe) W → DE (X.tr pn xe) κ ⟨WE W, E.ret⟩ e me)
    (hd : HdsMD X κ E (h0 :: hds) l) (ht : TblOk X.K X.mg tb) (hcl : ∀ n ∈ l, ∃ cv, X.mg n.cls = some cv) (hN : X.N.Nodup) (tk : L2N.Takes X (fun cls d σ H => E.err σ cls d H)) (hs : swapsWith e none ps.line X.env = pure false := by rfl) (hst : X.stack = X.env :: X.outer := by rfl) (hfr : X.env.frame = some X.env.locals := by rfl) :
    DS X κ E (.Try [.Expr e ps] (h0 :: hds) [] [] pos) (mTryM tb me (fun _ ρ => .nx ρ) l) :=
  ds_tryGM (fin := fun D _ σ H => D.nx σ H) (fun W pn xe tk => pss_one (ps_expr (he W pn xe tk) hs)) (fun Dn F0 H0 F H σ ρ v d S r k => k _ F H (Ex.refl F) S) hd ht hcl hN tk hst hfr
theorem hclM_nil {mg : Mg} : ∀ n ∈ ([] : List SutM), ∃ cv, mg n.cls = some cv := fun n h => by simp at h
theorem hclM_cons {mg : Mg} {x : Str} {i : Option Nat} {m : Str → Env → Out} {l : List SutM} (h : ∃ cv, mg x = some cv) (r : ∀ n ∈ l, ∃ cv, mg n.cls = some cv) : ∀ n ∈ (⟨x, i, m⟩ :: l : List SutM), ∃ cv, mg n.cls = some cv := fun n hn => by
  rcases List.mem_cons.mp hn with rfl | hn
  · exact h
  · exact r n hn
/-! straight on -/
abbrev StrM (l : List SutM) : Prop := ∀ q ∈ l, ∀ cn, Straight (q.m cn)
theorem sgm_nil : StrM [] := fun q h => by simp at h
theorem sgm_cons {x : Str} {i : Option Nat} {m : Str → Env → Out} {l : List SutM} (h : ∀ cn, Straight (m cn)) (r : StrM l) : StrM (⟨x, i, m⟩ :: l) := fun q hq => by
  rcases List.mem_cons.mp hq with rfl | hq
  · exact h
  · exact r q hq
theorem sg_hndlM {tb : Tbl} {x : Exn} : ∀ {l : List SutM}, StrM l → ∀ ρ, (∀ ρ', hndlM tb l x ρ ≠ .bk ρ') ∧ ∀ ρ', hndlM tb l x ρ ≠ .ct ρ'
  | [], _, ρ => sg_err
  | q :: l, h, ρ => by
    have ih := sg_hndlM (tb := tb) (x := x) (l := l) (fun z hz => h z (by simp [hz])) ρ
    have hq := h q (by simp) x.cls
    unfold hndlM
    cases tb x.cls q.cls with
    | none => exact sg_stk
    | some b =>
      cases b with
      | false => exact ih
      | true =>
        cases q.slot with
        | some i =>
          have := hq (ρ.set i (some (xD x.fs)))
          simp only
          generalize q.m x.cls (ρ.set i (some (xD x.fs))) = o at this ⊢
          cases o with
          | nx ρ' => exact sg_nx
          | bk ρ' => exact absurd rfl (this.1 ρ')
          | ct ρ' => exact absurd rfl (this.2 ρ')
          | rt d => exact sg_rt
          | err y => exact sg_stk
          | stk => exact sg_stk
        | none =>
          have := hq ρ
          simp only
          generalize q.m x.cls ρ = o at this ⊢
          cases o with
          | nx ρ' => exact sg_nx
          | bk ρ' => exact absurd rfl (this.1 ρ')
          | ct ρ' => exact absurd rfl (this.2 ρ')
          | rt d => exact sg_rt
          | err y => exact sg_stk
          | stk => exact sg_stk
theorem sg_tryM {tb : Tbl} {me : Env → Res D} {fin : D → Env → Out} {l : List SutM} (hf : ∀ d, Straight (fin d)) (hl : StrM l) : Straight (mTryM tb me fin l) := fun ρ => by
  unfold mTryM
  cases me ρ with
  | ok d => exact hf d ρ
  | err x => exact sg_hndlM hl ρ
  | stk => exact sg_stk
end
end WD

/-! == and != within an except clause -/
namespace WD
open PySem PySem.Spec PyProof.Rows L2
section
variable {X : Cx} {κ : Nat → Kd} {E : EX} {a b : Expr} {pos : Pos} {ma mb : Env → Res D}
theorem de_eqU (hu : X.A.units + 64 < cLine) (ha : DB X κ E a ma) (hb : DB X κ E b mb) : DE X κ E (.Compare a [.Eq] [b] pos) (mBin eqD ma mb) := de_cmp (op_eqD hu) op2_eq eqD_ne ha hb (nomark _)
theorem de_neU (hu : X.A.units + 64 < cLine) (ha : DB X κ E a ma) (hb : DB X κ E b mb) : DE X κ E (.Compare a [.NotEq] [b] pos) (mBin neD ma mb) := de_cmp (op_neD hu) op2_ne neD_ne ha hb (nomark _)
theorem dt_eqU (hu : X.A.units + 64 < cLine) (ha : DB X κ E a ma) (hb : DB X κ E b mb) : DT X κ E (.Compare a [.Eq] [b] pos) (mTru (mBin eqD ma mb)) := dt_cmp (op_eqD hu) op2_eq eqD_ne eqD_b ha hb (nomark _)
theorem dt_neU (hu : X.A.units + 64 < cLine) (ha : DB X κ E a ma) (hb : DB X κ E b mb) : DT X κ E (.Compare a [.NotEq] [b] pos) (mTru (mBin neD ma mb)) := dt_cmp (op_neD hu) op2_ne neD_ne neD_b ha hb (nomark _)
end
end WD

/-! zip of three, a list or a tuple each -/
namespace WD
open PySem PySem.Spec PyProof.Rows L2
open Evl (Ex Ex.refl Ex.trans Ex.new Ex.mut ex_l ex_t fresh_back)
def ItZ3 (n : Nat) (g1 g2 g3 : Nat → Option V) (G : Hp → Prop) : It :=
  ⟨fun i H => G H ∧ i < n, fun i H v H' => ∃ T x y u, v = .ref T ∧ H T = none ∧ H' = upd H T (.tup [x, y, u]) ∧ g1 i = some x ∧ g2 i = some y ∧ g3 i = some u, fun i H => G H ∧ i = n⟩
def YTri (xs ys us : Nat → Option V) : Nat → Hp → V → Hp → Prop := fun i H v H' => ∃ T x y u, v = .ref T ∧ H T = none ∧ H' = upd H T (.tup [x, y, u]) ∧ xs i = some x ∧ ys i = some y ∧ us i = some u
theorem sep_of3 {z TI TO i1 i2 i3 : Addr} {fp1 fp2 fp3 : List Addr} (N : [z, TI, TO, i1, i2, i3].Nodup) (m1 : i1 ∈ fp1) (m2 : i2 ∈ fp2) (m3 : i3 ∈ fp3) (a1 : ∀ b ∈ fp1, b = i1 ∨ b ∉ [z, TI, TO, i1, i2, i3]) (a2 : ∀ b ∈ fp2, b = i2 ∨ b ∉ [z, TI, TO, i1, i2, i3]) (a3 : ∀ b ∈ fp3, b = i3 ∨ b ∉ [z, TI, TO, i1, i2, i3]) : ZipSep3 z TI TO i1 i2 i3 fp1 fp2 fp3 := by
  simp only [List.nodup_cons, List.mem_cons, List.not_mem_nil, or_false, not_or] at N
  obtain ⟨⟨n1, n2, n3, n4, n5⟩, ⟨n6, n7, n8, n9⟩, ⟨n10, n11, n12⟩, ⟨n13, n14⟩, n15, -⟩ := N
  have o : ∀ {fp : List Addr} {i c : Addr}, (∀ b ∈ fp, b = i ∨ b ∉ [z, TI, TO, i1, i2, i3]) → c ∈ [z, TI, TO, i1, i2, i3] → c ≠ i → c ∉ fp := fun {fp i c} a hc hn h => by
    rcases a _ h with q | q
    · exact hn q
    · exact q hc
  exact ⟨Ne.symm n1, Ne.symm n2, n6, n7, m1, o a1 (by simp) n3, o a1 (by simp) n10, n8, m2, o a2 (by simp) n4, o a2 (by simp) n11, n9, m3, o a3 (by simp) n5, o a3 (by simp) n12,
    o a2 (by simp) n13, o a3 (by simp) n14, o a1 (by simp) (Ne.symm n13), o a3 (by simp) n15, o a1 (by simp) (Ne.symm n14), o a2 (by simp) (Ne.symm n15)⟩
theorem turn_zipG3 {P : Program} {w : World} {K : PySem.W.Frag} {elts : List Expr} {kk : Nat} {tpos : Pos} {z TI TO i1 i2 i3 : Addr} {n1 n2 n3 : Nat} {g1 g2 g3 : Nat → Option V} {G1 G2 G3 : Hp → Prop} {inn1 inn2 inn3 : Nat → Heap → Prop} (N : [z, TI, TO, i1, i2, i3].Nodup)
    (S1 : Src P w K [z, TI, TO, i1, i2, i3] i1 n1 g1 G1 inn1) (S2 : Src P w K [z, TI, TO, i1, i2, i3] i2 n2 g2 G2 inn2) (S3 : Src P w K [z, TI, TO, i1, i2, i3] i3 n3 g3 G3 inn3) :
    Turn P w K (.Tuple elts kk tpos) (ItZ3 (min n1 (min n2 n3)) g1 g2 g3 fun H => G1 H ∧ G2 H ∧ G3 H) [z, TI, TO, i1, i2, i3] z (fun i h => IsZip h z TI TO .none ∧ IsTupOf3 h TI (.ref i1) (.ref i2) (.ref i3) ∧ (∃ a b c, IsTupOf3 h TO a b c) ∧ inn1 i h ∧ inn2 i h ∧ inn3 i h) where
  mem := by simp
  obj := fun i h st c hc => by
    obtain ⟨st1, st2, ⟨a, b, c', st3⟩, st4, st5, st6⟩ := st
    have e : c = z ∨ c = TI ∨ c = TO ∨ c = i1 ∨ c = i2 ∨ c = i3 := by simpa using hc
    rcases e with q | q | q | q | q | q
    · rw [q]; exact ⟨_, st1, fun v y => nomatch y⟩
    · rw [q]; exact ⟨_, st2, fun v y => nomatch y⟩
    · rw [q]; exact ⟨_, st3, fun v y => nomatch y⟩
    · rw [q]; exact S1.obj i h st4
    · rw [q]; exact S2.obj i h st5
    · rw [q]; exact S3.obj i h st6
  keep := fun i h h' st k => by
    obtain ⟨st1, st2, ⟨a, b, c, st3⟩, st4, st5, st6⟩ := st
    exact ⟨k z (by simp) _ st1, k TI (by simp) _ st2, ⟨a, b, c, k TO (by simp) _ st3⟩, S1.keep i h h' st4 fun o q => k i1 (by simp) o q, S2.keep i h h' st5 fun o q => k i2 (by simp) o q, S3.keep i h h' st6 fun o q => k i3 (by simp) o q⟩
  item := by
    intro X hP hw hK hc i pins s σ H E I hf st hg
    obtain ⟨st1, st2, ⟨a0, b0, c0, st3⟩, st4, st5, st6⟩ := st
    obtain ⟨⟨gA, gB, gC⟩, hi⟩ := hg
    obtain ⟨fp1, Pv1, T1, D1, hT1, m1, av1, v1, in1⟩ := S1.draw X hP hw hK hc i pins s σ H I gA st4
    obtain ⟨fp2, Pv2, T2, D2, hT2, m2, av2, v2, in2⟩ := S2.draw X hP hw hK hc i pins s σ H I gB st5
    obtain ⟨fp3, Pv3, T3, D3, hT3, m3, av3, v3, in3⟩ := S3.draw X hP hw hK hc i pins s σ H I gC st6
    have sep := sep_of3 N m1 m2 m3 av1 av2 av3
    subst hP hw hK
    have zlt : z < s.heap.objs.size := Heap.lt_size st1
    refine wpAny_pyNext_zipD3_item sep D1 D2 D3 st1 st2 st3 hT1 hT2 hT3 (by omega) (by omega) (by omega) fun x1 x2 x3 h' tk p1 p2 p3 zz to1 t1 t2 t3 nt hsz hk => ?_
    obtain ⟨u1, e1, r1⟩ := v1 i x1 p1
    obtain ⟨u2, e2, r2⟩ := v2 i x2 p2
    obtain ⟨u3, e3, r3⟩ := v3 i x3 p3
    refine ⟨_, rfl, wpAny_letOwnedTupleGo_zip (s := { s with heap := h', toks := tk }) zz fun h2 zz2 sb => ?_⟩
    have own : h2.get? s.heap.objs.size = some { cls := .type "tuple", data := .seq #[x1, x2, x3] } := (sb.2 _ (Nat.ne_of_gt zlt)).trans nt
    have newO : ObjOk X.prog X.w (upd H s.heap.objs.size (.tup [u1, u2, u3])) h2 s.heap.objs.size (.tup [u1, u2, u3]) := ⟨by show 3 ≤ sizeLine; decide, [x1, x2, x3], .cons r1 (.cons r2 (.cons r3 .nil)), ⟨_, own, rfl, _, rfl⟩⟩
    have I1 : Inv X pins σ (upd H s.heap.objs.size (.tup [u1, u2, u3])) { s with heap := h2, toks := tk } := by
      refine I.turnedNew (ch := [z, TI, TO, i1, i2, i3]) (fun c o hb q => ?_) hf (Nat.le_refl _) newO
      have h1 : c ≠ z := fun y => hb (by simp [y])
      exact (sb.2 c h1).trans (hk c o h1 (fun y => hb (by simp [y])) (fun y => hb (by simp [y])) (fun y => hb (by simp [y])) (fun y => hb (by simp [y])) q)
    have lt : ∀ c ∈ [z, TI, TO, i1, i2, i3], c < s.heap.objs.size := fun c hc2 => by
      have e : c = z ∨ c = TI ∨ c = TO ∨ c = i1 ∨ c = i2 ∨ c = i3 := by simpa using hc2
      rcases e with q | q | q | q | q | q
      · rw [q]; exact zlt
      · rw [q]; exact Heap.lt_size st2
      · rw [q]; exact Heap.lt_size st3
      · rw [q]; obtain ⟨o, y, _⟩ := S1.obj i _ st4; exact Heap.lt_size y
      · rw [q]; obtain ⟨o, y, _⟩ := S2.obj i _ st5; exact Heap.lt_size y
      · rw [q]; obtain ⟨o, y, _⟩ := S3.obj i _ st6; exact Heap.lt_size y
    refine ⟨.ref s.heap.objs.size, _, I1, rfl, ⟨_, u1, u2, u3, rfl, I.hok.fresh (Nat.le_refl _), rfl, e1, e2, e3⟩, ⟨zz2, ?_, ⟨x1, x2, x3, ?_⟩, ?_, ?_, ?_⟩, fun c hcm => ?_⟩
    · exact (sb.2 _ sep.TIz).trans (hk _ _ sep.TIz sep.TITO sep.TIi1 sep.TIi2 sep.TIi3 st2)
    · exact (sb.2 _ sep.TOz).trans to1
    · exact S1.keep _ _ _ (in1 _ _ t1) fun o q => (sb.2 _ (Ne.symm sep.zi1)).trans q
    · exact S2.keep _ _ _ (in2 _ _ t2) fun o q => (sb.2 _ (Ne.symm sep.zi2)).trans q
    · exact S3.keep _ _ _ (in3 _ _ t3) fun o q => (sb.2 _ (Ne.symm sep.zi3)).trans q
    · rw [upd_ne (Nat.ne_of_lt (lt c hcm))]
      exact (hf c hcm).1
  done := by
    intro X hP hw hK hc i pins s σ H E I hf st hg
    obtain ⟨st1, st2, ⟨a0, b0, c0, st3⟩, st4, st5, st6⟩ := st
    obtain ⟨⟨gA, gB, gC⟩, hi⟩ := hg
    obtain ⟨fp1, Pv1, T1, D1, hT1, m1, av1, v1, in1⟩ := S1.draw X hP hw hK hc i pins s σ H I gA st4
    obtain ⟨fp2, Pv2, T2, D2, hT2, m2, av2, v2, in2⟩ := S2.draw X hP hw hK hc i pins s σ H I gB st5
    obtain ⟨fp3, Pv3, T3, D3, hT3, m3, av3, v3, in3⟩ := S3.draw X hP hw hK hc i pins s σ H I gC st6
    have sep := sep_of3 N m1 m2 m3 av1 av2 av3
    subst hP hw hK
    refine wpAny_pyNext_zipD3_end sep D1 D2 D3 st1 st2 st3 hT1 hT2 hT3 (by omega) (by omega) (by omega) (by omega) fun h' tk hk => ⟨rfl, I.turnedL (t' := tk) (ch := [z, TI, TO, i1, i2, i3]) (fun c o hb q => ?_) hf⟩
    exact hk c o (fun y => hb (by simp [y])) (fun y => hb (by simp [y])) (fun y => hb (by simp [y])) (fun y => hb (by simp [y])) (fun y => hb (by simp [y])) q
  self := fun A i s Q E st h => wpAny_pyIter_zip st.1 h
theorem walk_zipG3 {n : Nat} {g1 g2 g3 : Nat → Option V} {G : Hp → Prop} : Walk (ItZ3 n g1 g2 g3 G) n G (YTri g1 g2 g3) := by
  refine ⟨fun i _ hi q => ⟨q, hi⟩, fun _ q => ⟨q, rfl⟩, fun i H v H' _ q y => ?_⟩
  obtain ⟨T, x, y, u, h1, h2, h3, h4, h5, h6⟩ := y
  exact ⟨T, x, y, u, h1, h2, h3, h4, h5, h6⟩
def iZipG3 (K : PySem.W.Frag) (ta : TA) : TI := fun σ H R => ta σ H fun vs H1 => ∃ k1 k2 k3 a b c xs ys us, vs = [.ref a, .ref b, .ref c] ∧ SqA k1 K H1 a xs ∧ SqA k2 K H1 b ys ∧ SqA k3 K H1 c us ∧ R (ItZ3 (min xs.length (min ys.length us.length)) (fun i => xs[i]?) (fun i => ys[i]?) (fun i => us[i]?) fun H => SqA k1 K H a xs ∧ SqA k2 K H b ys ∧ SqA k3 K H c us) H1
theorem pi_zipG3 {X : Cx} {e e2 e3 : Expr} {ta : TA} {p pos tpos : Pos} {elts : List Expr} {kk : Nat} (hg : Gl X "zip") (hm : X.mg "zip" = none) (ha : PA X [e, e2, e3] ta)
    (hs : starEach [e, e2, e3] X.env = (false, eval e X.env) :: starEach [e2, e3] X.env := by rfl) (hpl : (backTo pos (starEach [e2, e3] X.env)).any (·.1) = false := by rfl) :
    PI X (.Tuple elts kk tpos) (.Call (.Name "zip" p) [e, e2, e3] [] pos) (iZipG3 X.K ta) := by
  refine ⟨fun pins s σ H R I h => Call_ (ld_blt I hg hm boot_zip (PyProof.Rows.callWith_type1 (thn (ha.run pos pins s σ H _ I h) fun us s1 ⟨vs, H1, I1, rel, q1⟩ => ?_) hs hpl))⟩
  obtain ⟨k1, k2, k3, a, b, c, xs, ys, us, rfl, hx, hy, hu, q⟩ := q1
  cases rel with
  | cons ra rest =>
    cases rest with
    | cons rb rest =>
      cases rest with
      | cons rc rest =>
        cases rest
        cases ra
        cases rb
        cases rc
        obtain ⟨o1, P1, B1, b1, lt1, inn1, st1, src1⟩ := begins_of I1 hx
        obtain ⟨o2, P2, B2, b2, lt2, inn2, st2, src2⟩ := begins_of I1 hy
        obtain ⟨o3, P3, B3, b3, lt3, inn3, st3, src3⟩ := begins_of I1 hu
        refine zip_begins3 B1 B2 B3 b1 b2 b3 fun h' zz zTI zTO g1 g2 g3 hsz hk => wpAny_pyIter_zip zz ?_
        have I2 : Inv X pins σ H1 { s1 with heap := h' } := I1.kept (t' := s1.toks) hk
        have fresh : ∀ c, s1.heap.objs.size ≤ c → FpOk X pins H1 c := fun c hle => I1.fpOk hle (I1.hok.fresh hle)
        generalize s1.heap.objs.size = n at *
        have N : [n + 5, n + 3, n + 4, n, n + 1, n + 2].Nodup := by simp
        have av : ∀ c, c < n → c ∉ [n + 5, n + 3, n + 4, n, n + 1, n + 2] := fun c hc y => by
          simp only [List.mem_cons, List.not_mem_nil, or_false] at y
          omega
        refine ⟨n + 5, [n + 5, n + 3, n + 4, n, n + 1, n + 2], _, _, H1, rfl, I2, turn_zipG3 N (src1 n _ (av a lt1)) (src2 (n + 1) _ (av b lt2)) (src3 (n + 2) _ (av c lt3)), ⟨zz, zTI, ⟨_, _, _, zTO⟩, st1 _ _ g1, st2 _ _ g2, st3 _ _ g3⟩, fun c hc => ?_, q⟩
        have hc' : c = n + 5 ∨ c = n + 3 ∨ c = n + 4 ∨ c = n ∨ c = n + 1 ∨ c = n + 2 := by simpa using hc
        have low : n ≤ c := by rcases hc' with y | y | y | y | y | y <;> rw [y] <;> first | exact Nat.le_refl _ | exact Nat.le_add_right _ _
        exact fresh c low
section
variable {X : Cx} {κ : Nat → Kd} {E : EX} {a b c : Expr} {pos : Pos} {ms : Env → Res (List D)}
def zipD3 : List D → List D → List D → List D
  | x :: xs, y :: ys, u :: us => .tuple [x, y, u] :: zipD3 xs ys us
  | _, _, _ => []
theorem zipD3_get : ∀ (xs ys us : List D) (i : Nat) (x y u : D), xs[i]? = some x → ys[i]? = some y → us[i]? = some u → (zipD3 xs ys us)[i]? = some (.tuple [x, y, u])
  | [], _, _, _, _, _, _, h, _, _ => by simp at h
  | _ :: _, [], _, _, _, _, _, _, h, _ => by simp at h
  | _ :: _, _ :: _, [], _, _, _, _, _, _, h => by simp at h
  | a :: xs, b :: ys, c :: us, 0, x, y, u, h1, h2, h3 => by
    simp at h1 h2 h3
    subst h1 h2 h3
    rfl
  | a :: xs, b :: ys, c :: us, i + 1, x, y, u, h1, h2, h3 => by
    simp at h1 h2 h3
    simpa [zipD3] using zipD3_get xs ys us i x y u h1 h2 h3
theorem zipD3_len : ∀ (xs ys us : List D), (zipD3 xs ys us).length = min xs.length (min ys.length us.length)
  | [], _, _ => by simp [zipD3]
  | _ :: _, [], _ => by simp [zipD3]
  | _ :: _, _ :: _, [] => by simp [zipD3]
  | a :: xs, b :: ys, c :: us => by
    rw [zipD3, List.length_cons, zipD3_len xs ys us, List.length_cons, List.length_cons, List.length_cons]
    omega
theorem walkd_tri {K : PySem.W.Frag} {J : It} {n : Nat} {G : Hp → Prop} {P : Hp → Hp → Prop} {fx fy fu : Nat → Option V} {ds : List D} (w : Walk J n G (YTri fx fy fu)) (hn : n = ds.length) (hG : ∀ F2 H2, P F2 H2 → Ex F2 H2 → G H2)
    (hv : ∀ i F2 H2 x y u, P F2 H2 → i < ds.length → fx i = some x → fy i = some y → fu i = some u → ∃ dx dy du, ds[i]? = some (.tuple [dx, dy, du]) ∧ Rp K F2 x dx ∧ Rp K F2 y dy ∧ Rp K F2 u du) : WalkD K P J ds :=
  walkd_of w hn hG fun i F2 H2 v H3 p s hi yy => by
    obtain ⟨T, x, y, u, rfl, hT, rfl, h1, h2, h3⟩ := yy
    obtain ⟨dx, dy, du, hd, r1, r2, r3⟩ := hv i F2 H2 x y u p hi h1 h2 h3
    have e := Ex.new (o := .tup [x, y, u]) (none_of_ex s hT)
    exact ⟨_, upd F2 T (.tup [x, y, u]), hd, .new s hT, .tup (Evl.st_of upd_same) (.cons (r1.mono e) (.cons (r2.mono e) (.cons (r3.mono e) .nil)))⟩
def zip3XD : List D → Res (List D)
  | [x, y, u] => (ofO (sqX x)).bind fun p => (ofO (sqX y)).bind fun q => (ofO (sqX u)).bind fun r => .ok (zipD3 p.2 q.2 r.2)
  | _ => .stk
theorem di_zip3X {p tpos : Pos} {elts : List Expr} {kk : Nat}
    (h : PI X (.Tuple elts kk tpos) (.Call (.Name "zip" p) [a, b, c] [] pos) (iZipG3 X.K (rdA X.mg X.K κ E ms))) : DI X κ E (.Tuple elts kk tpos) (.Call (.Name "zip" p) [a, b, c] [] pos) (mBindA zip3XD ms) :=
  h.imp fun σ H R ⟨F0, H0, F, ρ, S, c⟩ => ⟨F0, H0, F, ρ, S, Res.sat_imp (Res.sat_bind c) (fun ds _ k vs F' H' x r => by
    unfold zip3XD at k
    split at k
    · rename_i dx dy du
      obtain ⟨⟨kx, xs⟩, hx, k⟩ := ofO_sat (Res.sat_bind k)
      obtain ⟨⟨ky, ys⟩, hy, k⟩ := ofO_sat (Res.sat_bind k)
      obtain ⟨⟨ku, us⟩, hu, k⟩ := ofO_sat (Res.sat_bind k)
      cases r with
      | cons r1 r2 =>
        cases r2 with
        | cons r2 r3 =>
          cases r3 with
          | cons r3 r4 =>
            cases r4
            obtain ⟨a, vs, rfl, h1, h2⟩ := r1.sqA hx
            obtain ⟨b, ws, rfl, h3, h4⟩ := r2.sqA hy
            obtain ⟨c, zs, rfl, h5, h6⟩ := r3.sqA hu
            refine ⟨kx, ky, ku, a, b, c, vs, ws, zs, rfl, h1.ex x.s, h3.ex x.s, h5.ex x.s, k _ F' H' x (walkd_tri walk_zipG3 (by rw [zipD3_len, h2.length, h4.length, h6.length]) (fun F2 H2 p s => ⟨h1.ex (p.trans s), h3.ex (p.trans s), h5.ex (p.trans s)⟩) fun i F2 H2 x y u p hi e1 e2 e3 => ?_)⟩
            obtain ⟨d, hd, rd⟩ := h2.getV e1
            obtain ⟨d', hd', rd'⟩ := h4.getV e2
            obtain ⟨d2, hd2, rd2⟩ := h6.getV e3
            exact ⟨d, d', d2, zipD3_get _ _ _ _ _ _ _ hd hd' hd2, rd.mono p, rd'.mono p, rd2.mono p⟩
    · exact k.elim) fun _ z => z⟩
end
end WD

/-! x.partition(y) -/
namespace WD
open PySem PySem.Spec PyProof.Rows L2
open Evl (Ex Ex.refl Ex.trans Ex.new Ex.mut ex_l ex_t fresh_back)
theorem oks_ext {x : Str} (hx : OkS x) (i j : Nat) : OkS (Builtin.Str.strSub x i j) := by
  have hx' : ∀ c ∈ x.cps.toList, c < 0x110000 := fun c hc => by
    have hx : (x.cps.all fun c => decide (c < 0x110000)) = true := hx
    rw [← Array.all_toList, List.all_eq_true] at hx
    simpa using hx c hc
  have e : (Builtin.Str.strSub x i j).cps.toList = (x.cps.toList.drop i).take (j - i) := TL.tl_strSub x i j
  show ((Builtin.Str.strSub x i j).cps.all fun c => decide (c < 0x110000)) = true
  rw [← Array.all_toList, List.all_eq_true, e]
  intro c hc
  have := hx' c (List.mem_of_mem_drop (List.mem_of_mem_take hc))
  simpa using this
theorem oks_part {x y : Str} (hx : OkS x) (hy : OkS y) : OkS (Txt.partition x y).1 ∧ OkS (Txt.partition x y).2.1 ∧ OkS (Txt.partition x y).2.2 := by
  have h0 : OkS Str.empty := by show PyData.strOk Str.empty = true; decide +kernel
  rcases PyProof.Rows.partition_whole x y with ⟨e, -⟩ | ⟨i, e, -, -⟩
  · rw [e]; exact ⟨hx, h0, h0⟩
  · rw [e]; exact ⟨oks_ext hx _ _, hy, oks_ext hx _ _⟩
def partitionD (x y : Str) : Res D := if (y.length == 0) = false ∧ x.length ≤ sizeLine then .ok (.tuple [.str (Txt.partition x y).1, .str (Txt.partition x y).2.1, .str (Txt.partition x y).2.2]) else .stk
theorem ops_partition {K : Frag} : OpS K (fun x xs H Q => ∃ a b, x = .str a ∧ xs = [.str b] ∧ (b.length == 0) = false ∧ a.length ≤ sizeLine ∧
    ∀ p, H p = none → Q (.ref p) (upd H p (.tup [.str (Txt.partition a b).1, .str (Txt.partition a b).2.1, .str (Txt.partition a b).2.2]))) (s1D partitionD) := ops_1 fun F H x y s hx hy Q k => by
  unfold partitionD at k
  split at k
  · rename_i h
    obtain ⟨o1, o2, o3⟩ := oks_part hx hy
    exact ⟨x, y, rfl, rfl, h.1, h.2, post_newT s (.cons (.str _ o1) (.cons (.str _ o2) (.cons (.str _ o3) .nil))) k⟩
  · exact k.elim
theorem partition_ne : ∀ x y z, s1D partitionD x y ≠ .err z := s1_ne fun _ _ _ h => by unfold partitionD at h; split at h <;> cases h
end WD

/-! min and max of a list of data that are alike; min(list, default=e) -/
namespace WD
open PySem PySem.Spec PyProof.Rows L2
open Evl (Ex Ex.refl Ex.trans Ex.new Ex.mut ex_l ex_t fresh_back)
abbrev leastD (x : D) (xs : List D) : D := PySem.W.minD x xs
abbrev mostD (x : D) (xs : List D) : D := PySem.W.maxD x xs
def alikeB (xs : List D) : Bool := xs.all (fun x => xs.all fun y => PySem.W.alike x y) && xs.all (fun x => !isNoneD x)
theorem alikeB_of {xs : List D} (h : alikeB xs = true) : PySem.W.AlikeAll xs := by
  unfold alikeB at h
  rw [Bool.and_eq_true, List.all_eq_true, List.all_eq_true] at h
  refine ⟨fun x hx y hy => ?_, fun x hx e => ?_⟩
  · have := h.1 x hx
    rw [List.all_eq_true] at this
    exact this y hy
  · have := h.2 x hx
    rw [e] at this
    cases this
def rBest (K : Frag) (best : D → List D → D) : List V → Hp → VK → Prop := fun vs H Q => ∃ (a : Addr) (xs : List V) (x : D) (ds : List D), vs = [V.ref a] ∧ SqL K H a xs ∧ DpAll K H xs (x :: ds) ∧ PyData.canLayAll0 (x :: ds) = true ∧ PySem.W.AlikeAll (x :: ds) ∧ PyData.depthAll (x :: ds) ≤ 60 ∧
  ∀ (i : Nat) (v : V), xs[i]? = some v → (x :: ds)[i]? = some (best x ds) → Q v H
theorem getD_at {xs : List D} {i : Nat} {d : D} (h : i < xs.length) (e : xs.getD i .none = d) : xs[i]? = some d := by
  rw [List.getD_eq_getElem?_getD, List.getElem?_eq_getElem h] at e
  rw [List.getElem?_eq_getElem h, ← e]; rfl
theorem canLay_mem {xs : List D} : PyData.canLayAll0 xs = true → ∀ x ∈ xs, x.canLay0 = true := by
  induction xs with
  | nil => intro _ x h; cases h
  | cons y ys ih =>
    intro h x hx
    have h' : y.canLay0 = true ∧ PyData.canLayAll0 ys = true := by simpa [PyData.canLayAll0] using h
    rcases List.mem_cons.mp hx with rfl | hx
    · exact h'.1
    · exact ih h'.2 x hx
section
variable {X : Cx}
theorem cr_least (hc : X.calm = true) (hu : X.A.units + 64 < cLine) : CallR X (.builtin "min") (rBest X.K leastD) := fun pins s σ H vs us Q I r ⟨a, xs, x, ds, e, hs, hd, hl, ha, hdep, q⟩ => by
  subst e
  obtain ⟨its, rv, pl, hz⟩ := I.list hs
  rw [Vals.ref1 r]
  obtain ⟨as, ra⟩ := Dp.readsAll I _ _ _ hd rv
  have ra' : ReadsAll s.heap its.toArray.toList (x :: ds) as := by rw [List.toList_toArray]; exact ra
  refine PySem.W.min_list_data (I.ok.hd hc) pl.isList ra' ha (by omega) fun i v h' tk bs hv rd hk => ?_
  have hv' : its[i]? = some v := by simpa using hv
  have hi : i < its.length := (List.getElem?_eq_some_iff.mp hv').1
  have hx : i < xs.length := by rw [rv.length]; exact hi
  obtain ⟨u, hu2, ru⟩ := rv.get (List.getElem?_eq_getElem hx)
  rw [hv'] at hu2
  cases hu2
  obtain ⟨bs2, r2, h2, m2, _⟩ := PySem.W.readsAll_at ra i v hv'
  have e2 := ((PySem.W.reads_keeps hk r2).unique _ _ rd).1
  exact ⟨_, H, I.kept hk, ru, q i _ (List.getElem?_eq_getElem hx) (getD_at h2 e2)⟩
theorem cr_most (hc : X.calm = true) (hu : X.A.units + 64 < cLine) : CallR X (.builtin "max") (rBest X.K mostD) := fun pins s σ H vs us Q I r ⟨a, xs, x, ds, e, hs, hd, hl, ha, hdep, q⟩ => by
  subst e
  obtain ⟨its, rv, pl, hz⟩ := I.list hs
  rw [Vals.ref1 r]
  obtain ⟨as, ra⟩ := Dp.readsAll I _ _ _ hd rv
  have ra' : ReadsAll s.heap its.toArray.toList (x :: ds) as := by rw [List.toList_toArray]; exact ra
  refine PySem.W.max_list_data (I.ok.hd hc) pl.isList ra' ha (by omega) fun i v h' tk bs hv rd hk => ?_
  have hv' : its[i]? = some v := by simpa using hv
  have hi : i < its.length := (List.getElem?_eq_some_iff.mp hv').1
  have hx : i < xs.length := by rw [rv.length]; exact hi
  obtain ⟨u, hu2, ru⟩ := rv.get (List.getElem?_eq_getElem hx)
  rw [hv'] at hu2
  cases hu2
  obtain ⟨bs2, r2, h2, m2, _⟩ := PySem.W.readsAll_at ra i v hv'
  have e2 := ((PySem.W.reads_keeps hk r2).unique _ _ rd).1
  exact ⟨_, H, I.kept hk, ru, q i _ (List.getElem?_eq_getElem hx) (getD_at h2 e2)⟩
/-- min(list, default=d) -/
def rLeastOr (K : Frag) : List V → List V → Hp → VK → Prop := fun vs zs H Q => ∃ (a : Addr) (xs : List V) (ds : List D) (z : V), vs = [V.ref a] ∧ zs = [z] ∧ SqL K H a xs ∧ DpAll K H xs ds ∧ PyData.canLayAll0 ds = true ∧ PySem.W.AlikeAll ds ∧ PyData.depthAll ds ≤ 60 ∧
  (ds = [] → Q z H) ∧ ∀ (x : D) (r : List D) (i : Nat) (v : V), ds = x :: r → xs[i]? = some v → ds[i]? = some (leastD x r) → Q v H
theorem crk_least (hc : X.calm = true) (hu : X.A.units + 64 < cLine) : CallRK X (.builtin "min") [Str.ofString "default"] (rLeastOr X.K) := fun pins s σ H vs zs us ws Q I r rz ⟨a, xs, ds, z, e, ez, hs, hd, hl, ha, hdep, q0, q⟩ => by
  subst e ez
  obtain ⟨its, rv, pl, hz⟩ := I.list hs
  rw [Vals.ref1 r]
  obtain ⟨u, rfl, ru⟩ := vals1 rz
  obtain ⟨as, ra⟩ := Dp.readsAll I _ _ _ hd rv
  have ra' : ReadsAll s.heap its.toArray.toList ds as := by rw [List.toList_toArray]; exact ra
  refine PySem.W.min_list_default (I.ok.hd hc) pl.isList ra' ha (by omega) (fun e h' tk hk => ⟨_, H, I.kept hk, ru, q0 e⟩) fun y ys i v h' tk bs ey hv rd hk => ?_
  have hv' : its[i]? = some v := by simpa using hv
  have hi : i < its.length := (List.getElem?_eq_some_iff.mp hv').1
  have hx : i < xs.length := by rw [rv.length]; exact hi
  obtain ⟨u, hu2, ru⟩ := rv.get (List.getElem?_eq_getElem hx)
  rw [hv'] at hu2
  cases hu2
  obtain ⟨bs2, r2, h2, m2, _⟩ := PySem.W.readsAll_at ra i v hv'
  have e2 := ((PySem.W.reads_keeps hk r2).unique _ _ rd).1
  exact ⟨_, H, I.kept hk, ru, q y ys i _ ey (List.getElem?_eq_getElem hx) (getD_at h2 e2)⟩
end
def bestD (best : D → List D → D) : D → Res D
  | .list (x :: xs) => if plainL deep (x :: xs) = true ∧ alikeB (x :: xs) = true then .ok (best x xs) else .stk
  | _ => .stk
theorem bestD_ne {best : D → List D → D} : ∀ x z, bestD best x ≠ .err z := fun x z h => by
  unfold bestD at h
  split at h
  · split at h <;> cases h
  · cases h
theorem op1_best {K : Frag} {best : D → List D → D} : Op1 K (rBest K best) (bestD best) := fun F H v d s rv Q k => by
  unfold bestD at k
  split at k
  · rename_i x xs
    split at k
    · rename_i h
      obtain ⟨a, vs, rfl, h1, r1⟩ := rv.list s
      have w := Rp.dpA deep (x :: xs) vs (r1.mono s) h.1
      have dep := plain_depthL deep (x :: xs) h.1
      refine ⟨a, vs, x, xs, rfl, h1, w.1, w.2, alikeB_of h.2, Nat.le_trans dep (by decide), fun i v hv hd => ?_⟩
      obtain ⟨v2, hv2, rp⟩ := r1.get hd
      rw [hv] at hv2
      cases hv2
      exact k v F H (Ext.refl s) rp
    · exact k.elim
  · exact k.elim
section
variable {X : Cx} {κ : Nat → Kd} {E : EX} {e e2 : Expr} {pos : Pos} {ma mb : Env → Res D} {n : Nat}
theorem de_least {p : Pos} (hc : X.calm = true) (hr : Room n X.A) (hg : Gl X "min") (hm : X.mg "min" = none) (ha : DB X κ E e ma) (hv : bootBuiltins "min" = some (.builtin "min") := by decide +kernel) (he : starEach [e] X.env = (false, eval e X.env) :: starEach [] X.env := by rfl) (hpl : (backTo pos (starEach [] X.env)).any (·.1) = false := by rfl) : DE X κ E (.Call (.Name "min" p) [e] [] pos) (mUn (bestD leastD) ma) :=
  de_callB (cr_least hc hr.units) op1_best bestD_ne hv hg hm ha (by decide) (by decide) he hpl
theorem de_most {p : Pos} (hc : X.calm = true) (hr : Room n X.A) (hg : Gl X "max") (hm : X.mg "max" = none) (ha : DB X κ E e ma) (hv : bootBuiltins "max" = some (.builtin "max") := by decide +kernel) (he : starEach [e] X.env = (false, eval e X.env) :: starEach [] X.env := by rfl) (hpl : (backTo pos (starEach [] X.env)).any (·.1) = false := by rfl) : DE X κ E (.Call (.Name "max" p) [e] [] pos) (mUn (bestD mostD) ma) :=
  de_callB (cr_most hc hr.units) op1_best bestD_ne hv hg hm ha (by decide) (by decide) he hpl
def leastOrD (d z : D) : Res D := match d with
  | .list [] => (match z with | .int i => .ok (.int i) | _ => .stk)
  | .list (x :: xs) => if plainL deep (x :: xs) = true ∧ alikeB (x :: xs) = true then .ok (leastD x xs) else .stk
  | _ => .stk
theorem leastOrD_ne : ∀ x y z, leastOrD x y ≠ .err z := fun x y z h => by
  unfold leastOrD at h
  split at h
  · split at h <;> cases h
  · split at h <;> cases h
  · cases h
theorem op2_leastOr {K : Frag} : Op2 K (fun x y H Q => rLeastOr K [x] [y] H Q) leastOrD := fun F H v z dv dz s rv rz Q k => by
  unfold leastOrD at k
  split at k
  · split at k
    · rename_i i
      obtain ⟨a, vs, rfl, h1, r1⟩ := rv.list s
      cases r1
      have ez := rz.int
      subst ez
      refine ⟨a, [], [], _, rfl, rfl, h1, .nil, rfl, ⟨fun _ h => by simp at h, fun _ h => by simp at h⟩, by decide, fun _ => k _ F H (Ext.refl s) (.int _), fun x r i v e => by cases e⟩
    · exact k.elim
  · rename_i x xs
    split at k
    · rename_i h
      obtain ⟨a, vs, rfl, h1, r1⟩ := rv.list s
      have w := Rp.dpA deep (x :: xs) vs (r1.mono s) h.1
      have dep := plain_depthL deep (x :: xs) h.1
      refine ⟨a, vs, x :: xs, z, rfl, rfl, h1, w.1, w.2, alikeB_of h.2, Nat.le_trans dep (by decide), (fun e => by cases e), fun x' r i v e hv hd => ?_⟩
      cases e
      obtain ⟨v2, hv2, rp⟩ := r1.get hd
      rw [hv] at hv2
      cases hv2
      exact k v F H (Ext.refl s) rp
    · exact k.elim
  · exact k.elim
theorem de_leastOr {p kp : Pos} (hc : X.calm = true) (hr : Room n X.A) (hg : Gl X "min") (hm : X.mg "min" = none) (ha : DB X κ E e ma) (hb : DB X κ E e2 mb) (hv : bootBuiltins "min" = some (.builtin "min") := by decide +kernel)
    (he0 : starEach [e] X.env = (false, eval e X.env) :: starEach [] X.env := by rfl)
    (he : backTo pos (starEach [e] X.env) = (false, eval e X.env) :: backTo pos (starEach [] X.env) := by rfl) (hpl : (backTo pos (starEach [e] X.env)).any (·.1) = false := by rfl)
    (hall : (backToKw pos (keywordEach [⟨some "default", e2, kp⟩] X.env)).all (·.1.isSome) = true := by rfl) (hnone : (backToKw pos (keywordEach [⟨some "default", e2, kp⟩] X.env)).any (·.1.isNone) = false := by rfl) (hks : (backToKw pos (keywordEach [⟨some "default", e2, kp⟩] X.env)).filterMap (·.1) = [Str.ofString "default"] := by rfl) :
    DE X κ E (.Call (.Name "min" p) [e] [⟨some "default", e2, kp⟩] pos) (mBin leastOrD ma mb) :=
  (pe_callBK (crk_least hc hr.units) hg hm hv (pa_cons ha pa_nil he0) (pk_cons hb pk_nil) (by decide) (by decide) he hpl hall hnone hks).imp (op2_read op2_leastOr leastOrD_ne)
end
end WD

/-! raise within an except clause, and defs that do so -/
namespace WD
open PySem PySem.Spec PyProof.Rows L2
open Evl (Ex Ex.refl Ex.trans Ex.new Ex.mut ex_l ex_t fresh_back)
section
variable {X : Cx} {pins : List (Addr × Obj)} {σ : L2.St} {H : Hp} {s : Shared}
/-- the ground, a name of the frame forgotten -/
theorem inv_gone (I : Inv X pins σ H s) (nd : X.N.Nodup) {i : Nat} {n : Str} (hi : X.N[i]? = some n) (hl : X.env.kindOf n = some .local) {G : Heap} {m : Str → Option Value} {w : Option Value} {t : Nat}
    (hm : s.heap.Ns X.env.locals m) (hG : G.Ns X.env.locals (fun x => if x = n then w else m x)) (hs : Heap.SameBut X.env.locals s.heap G) : Inv X pins (σ.set i none) H { s with heap := G, toks := t } := by
  obtain ⟨m0, hm0, look⟩ := id I.loc
  have em : m0 = m := funext fun x => Heap.Ns.agree hm0 hm x
  subst em
  have old : ∀ b o, X.s_0.heap.get? b = some o → G.get? b = s.heap.get? b := fun b o e => hs.2 b (Nat.ne_of_lt (Nat.lt_of_lt_of_le (Heap.lt_size e) I.ok.above))
  have un : Un X.fs X.ex X.H_0 H X.s_0.heap G := {
    keep := fun b o e k1 k2 k3 => by rw [old b o e]; exact I.base.keep b o e k1 k2 k3
    slot := fun b o e k1 k2 k3 => by rw [old b o e]; exact I.base.slot b o e k1 k2 k3
    free := I.base.free
    there := fun b o e k => by rw [old b o e]; exact I.base.there b o e k
    tups := I.base.tups
    frzs := I.base.frzs
    tbls := I.base.tbls }
  have slots : ∀ (j : Nat) (y : Str) (v : V), X.N[j]? = some y → (σ.set i none)[j]? = some (some v) → Vis X.env.scope y → ∃ u, RelV v u ∧ Look X.env G (fun x => if x = n then w else m0 x) y u := fun j y v h1 h2 h3 => by
    have ij : i ≠ j := fun z => by
      subst z
      rw [List.getElem?_set] at h2
      rw [if_pos rfl] at h2
      split at h2 <;> cases h2
    rw [List.getElem?_set_ne ij] at h2
    obtain ⟨u, ru, q⟩ := look j y v h1 h2 h3
    refine ⟨u, ru, ?_⟩
    have yn : y ≠ n := fun z => ij (nodup_ix nd hi (z ▸ h1))
    rcases q with ⟨k, e⟩ | ⟨k, c, e, z⟩
    · exact .inl ⟨k, by rw [← e]; exact if_neg yn⟩
    · exact .inr ⟨k, c, e, z.sameBut hs (I.cne y c e)⟩
  have nl : ∀ b ob, H b = some ob → b ≠ X.env.locals := fun b ob e z => by rw [z, I.free] at e; cases e
  exact {
    ok := I.ok
    os := I.os
    bare := I.bare
    base := un
    loc := ⟨_, hG, slots⟩
    cell := fun x c e => (I.cell x c e).imp fun _ z => z.sameBut hs (I.cne x c e)
    free := I.free
    freeC := I.freeC
    pin := fun p hp => by
      obtain ⟨e, k1, k2, k3, k4⟩ := I.pin p hp
      exact ⟨by rw [← e]; exact hs.2 p.1 k2, k1, k2, k3, k4⟩
    hok := fun b ob e => (I.hok b ob e).stay (fun c w' hc q => by
      have ne : c ≠ X.env.locals := by
        rcases hc with hc | hc
        · rw [hc]; exact nl b ob e
        · exact nl c _ hc
      rw [← q]; exact hs.2 c ne) (fun _ q => q) fun _ _ q => q
    len := by rw [List.length_set]; exact I.len }
end
theorem upTo_trans {h1 h2 h3 : Heap} (a : h1.UpToSlots h2) (b : h2.UpToSlots h3) : h1.UpToSlots h3 := a.trans b
section
variable {M : Model} {A A' : Around} {env : PySem.Env} {outer : List PySem.Env} {B : Heap} {L e : Addr} {Z : Obj → Prop} {n : Str} {pos : Pos} {s : Shared} {m : Str → Option Value} {Xe E2 : Value → Shared → Prop}
/-- an own-activation's look at what comes back -/
theorem back_held (hf : env.frame = some L) (hh : HandSPX.HeldZ B (env :: outer) e Z L s.heap) (k : ∀ h, HandSPX.HeldZ B (env :: outer) e Z L h → s.heap.UpToSlots h → Xe (.ref e) { s with heap := h }) :
    notedBy M A' env (cameBackBy M A env Xe) (.ref e) s := by
  show wpAny M A' (noteFrame (.ref e) env) _ _ _
  refine HandSPX.againZ hf hh.2.2.2 ?_
  obtain ⟨oe, vs, T, oT, ts, he, hz, hd, h1, rest⟩ := id hh.2.2.2
  show wpAny M A (do
    if (← field (.ref e) 1) == .none then unsupported "frame.own-activation:exception-without-traceback"
    setFlight (.ref e) env.frame) _ _ _
  refine wpAny_bind (wpAny_field he hd h1 ?_)
  have nn : ¬ ((Value.ref T == Value.none) = true) := by simp
  rw [if_neg nn, hf]
  exact HandSPX.setFlight_onZ hh k
/-- behind a suite that named what it caught and raised: the name goes, the new exception flies on -/
theorem as_raised (hZ : PXN.Steady1 Z) (hfr : A'.frames = some (env :: outer)) (hf : env.frame = some L) (hL : env.locals = L) (hn : s.heap.Ns L m) (hlo : env.kindOf n = some .local)
    (hp : (env.scope.kind == .class || (env.scope.kind == .module && env.locals != env.globals)) = false) (sky : Sky B (env :: outer) e Z L s.heap)
    (k : ∀ h1 h2 h3 w, s.heap.UpToSlots h1 → Heap.SameBut L h1 h2 → h1.Ns L m → h2.Ns L (fun x => if x = n then w else m x) → h2.UpToSlots h3 → HandSPX.HeldZ B (env :: outer) e Z L h3 → Xe (.ref e) { s with heap := h3, toks := s.toks + 1 }) :
    wpAny M A' (noteFrame (.ref e) env) (fun _ s1 => wpAny M A' (do bindName env n .none; unbindBehindTheSuite env n pos) (fun _ s2 => wpAny M A' (passOn "try.except-as" (.ref e) env : Sem Flow) (fun _ _ => False) (notedBy M A' env (cameBackBy M A env Xe)) s2) E2 s1) (notedBy M A' env (cameBackBy M A env Xe)) s := by
  have nsUp : ∀ h1, s.heap.UpToSlots h1 → h1.Ns L m := fun h1 up => by
    obtain ⟨o, es, ep, ho, hd, r⟩ := hn
    obtain ⟨sl, q⟩ := up L o ho (fun vs z => by rw [hd] at z; cases z)
    exact ⟨_, es, ep, q, hd, r⟩
  have rest : ∀ h1, HandSPX.HeldZ B (env :: outer) e Z L h1 → s.heap.UpToSlots h1 → wpAny M A' (do bindName env n .none; unbindBehindTheSuite env n pos) (fun _ s2 => wpAny M A' (passOn "try.except-as" (.ref e) env : Sem Flow) (fun _ _ => False) (notedBy M A' env (cameBackBy M A env Xe)) s2) E2 { s with heap := h1 } := fun h1 hh up => by
    have n1 := nsUp h1 up
    refine wpAny_nameGoes_keeps hlo (by rw [hL]; exact n1) hp fun h2 w n2 sb => ?_
    rw [hL] at n2 sb
    obtain ⟨b1, b0, ff, tz⟩ := hh
    have bL : B.get? L = none := by
      obtain ⟨_, ⟨L', o', hf', hb', _⟩, _⟩ := ff
      have : L = L' := Option.some.inj (hf.symm.trans hf')
      rw [this]; exact hb'
    have b2 : B.StaysIn h2 := fun b o hb => by
      rw [sb.2 b (fun z => by rw [z, bL] at hb; cases hb)]; exact b1 b o hb
    have f2 : h2.FunFrames B (env :: outer) := Heap.FunFrames.sameBut sb n2 ff
    have t2 : HandSPX.TracedZ h2 B e Z (rawInt L) := by
      obtain ⟨oe, vs, T, oT, ts, he, hz, hd, h1', hnT, hTe, hT, hdT, h3⟩ := tz
      obtain ⟨oL, es, ep, hoL, hdL, _⟩ := n1
      have ne1 : e ≠ L := fun z => by rw [z, hoL] at he; cases he; rw [hdL] at hd; cases hd
      have ne2 : T ≠ L := fun z => by rw [z, hoL] at hT; cases hT; rw [hdL] at hdT; cases hdT
      exact ⟨oe, vs, T, oT, ts, by rw [sb.2 e ne1]; exact he, hz, hd, h1', hnT, hTe, by rw [sb.2 T ne2]; exact hT, hdT, h3⟩
    obtain ⟨oe, vs, T, oT, ts, he, hz, hd, h1', r⟩ := id t2
    unfold PySem.passOn
    refine wpAny_bind (wpAny_field he hd h1' ?_)
    have nn : ¬ ((Value.ref T == Value.none) = true) := by simp
    rw [if_neg nn, hf]
    refine wpAny_bind (HandSPX.setFlight_onZ ⟨b2, b0, f2, t2⟩ fun h3 hh3 up3 => wpAny_throw ?_)
    exact back_held (s := { s with heap := h3, toks := s.toks + 1 }) hf hh3 fun h4 hh4 up4 => k h1 h2 h4 w up sb n1 n2 (up3.trans up4) hh4
  rcases sky with ⟨hB, hnB, hl, oe, vs, he, hz, hd, h1⟩ | fl | hh
  · exact PXN.look_newZ hZ hfr hl hf he hB hnB hd h1 hz rest
  · exact PXN.looks_onZ hZ hfr hf fl rest
  · exact HandSPX.againZ hf hh.2.2.2 (rest s.heap hh (Heap.UpToSlots.refl _))
end
/-- the context of an except suite, with an outlet of its own -/
abbrev suX (X : Cx) (a : Addr) (xe : Value → Shared → Prop) (pn : List (Addr × Obj)) : Cx := { X with A := X.A.mark (some (.ref a)), calm := false, pn := pn, xe := xe }
section
variable {X : Cx} {pins : List (Addr × Obj)} {σ : L2.St} {H : Hp} {s : Shared} {a : Addr} {xe : Value → Shared → Prop}
theorem suX_of {pn pn' : List (Addr × Obj)} (I : Inv (X.suite a pn) pn' σ H s) : Inv (suX X a xe pn) pn' σ H s := Inv.wish (X := X.suite a pn) I xe
theorem un_suX {q : Addr × Obj} {pn' : List (Addr × Obj)} (I : Inv (suX X a xe (q :: (X.pn ++ pins))) pn' σ H s) (ok : X.Ok) : Inv X pins σ H s :=
  Inv.unsuite (X := X) (a := a) (q := q) (pn' := pn') (Inv.wish (X := suX X a xe (q :: (X.pn ++ pins))) I fun _ _ => False) ok
/-- what flies out of a suite that names nothing -/
theorem takes_bare {Wout : WX} {q : Addr × Obj} (ok : X.Ok) (tk : L2.Takes X Wout) : L2.Takes (suX X a X.xe (q :: (X.pn ++ pins))) Wout := fun u s2 ⟨a2, B2, sI2, pn2, σ2, H2, cls2, d2, e2, I2, r⟩ => tk u s2 ⟨a2, B2, sI2, pins, σ2, H2, cls2, d2, e2, un_suX I2 ok, r⟩
/-- the outlet of a suite that names what is caught -/
def asOut (X : Cx) (a : Addr) (n : Str) (pos : Pos) : Value → Shared → Prop := fun x s3 =>
  wpAny (model X.prog X.w) (X.A.mark (some (.ref a))) (noteFrame x X.env) (fun _ s1 => wpAny (model X.prog X.w) (X.A.mark (some (.ref a))) (do bindName X.env n .none; unbindBehindTheSuite X.env n pos)
    (fun _ s2 => wpAny (model X.prog X.w) (X.A.mark (some (.ref a))) (PySem.passOn "try.except-as" x X.env : Sem Flow) (fun _ _ => False) (notedBy (model X.prog X.w) (X.A.mark (some (.ref a))) X.env (cameBackBy (model X.prog X.w) X.A X.env X.xe)) s2)
    (fun y s2 => wpAny (model X.prog X.w) (X.A.mark (some (.ref a))) (setFlight x none) (fun _ s4 => notedBy (model X.prog X.w) (X.A.mark (some (.ref a))) X.env (cameBackBy (model X.prog X.w) X.A X.env X.xe) y s4) (notedBy (model X.prog X.w) (X.A.mark (some (.ref a))) X.env (cameBackBy (model X.prog X.w) X.A X.env X.xe)) s2) s1)
    (notedBy (model X.prog X.w) (X.A.mark (some (.ref a))) X.env (cameBackBy (model X.prog X.w) X.A X.env X.xe)) s3
theorem takes_named {Wout : WX} {q : Addr × Obj} {n : Str} {i : Nat} {pos : Pos} (ok : X.Ok) (hs : X.stack = X.env :: X.outer) (hf : X.env.frame = some X.env.locals) (nd : X.N.Nodup) (hi : X.N[i]? = some n) (hl : X.env.kindOf n = some .local) (tk : L2.Takes X Wout) :
    L2.Takes (suX X a (asOut X a n pos) (q :: (X.pn ++ pins))) (fun cls d σ H => Wout cls d (σ.set i none) H) := fun u s3 ⟨e, B, sI, pn2, σ2, H2, cls, d, eu, I2, nb, up, sky, na, os, ag, w⟩ => by
  subst eu
  have J := un_suX I2 ok
  have hfr : X.A.frames = some (X.env :: X.outer) := (congrArg some hs).symm ▸ ok.frames
  have hcls : (X.env.scope.kind == .class || (X.env.scope.kind == .module && X.env.locals != X.env.globals)) = false := by rw [ok.kind]; rfl
  have sky2 : Sky B (X.env :: X.outer) e (Zc cls d) X.env.locals s3.heap := hs ▸ sky
  obtain ⟨m, hn, _⟩ := id J.loc
  have n3 : s3.heap.Ns X.env.locals m := by
    obtain ⟨o, es, ep, ho, hd, r⟩ := hn
    obtain ⟨sl, q⟩ := up _ o ho (fun vs z => by rw [hd] at z; cases z)
    exact ⟨_, es, ep, q, hd, r⟩
  refine as_raised (L := X.env.locals) (m := m) (Z := Zc cls d) (fun o v h => Zc.steady o _ h) hfr hf rfl n3 hl hcls sky2 fun h1 h2 h3 w2 u1 sb n1 n2 u2 held => tk _ _ ?_
  obtain ⟨o2, es2, ep2, ho2, hd2, r2⟩ := n2
  obtain ⟨oL, esL, epL, hoL, hdL, _⟩ := id hn
  have gL : (sI.heap.update X.env.locals fun _ => o2).get? X.env.locals = some o2 := Heap.get?_update_self (fun _ => o2) hoL (Obj.isFreed_of_dict hd2)
  have gO : ∀ b, b ≠ X.env.locals → (sI.heap.update X.env.locals fun _ => o2).get? b = sI.heap.get? b := fun b hb => Heap.get?_update_other _ _ (Ne.symm hb)
  have nG : (sI.heap.update X.env.locals fun _ => o2).Ns X.env.locals (fun x => if x = n then w2 else m x) := ⟨o2, es2, ep2, gL, hd2, r2⟩
  have IG := inv_gone (t := s3.toks + 1) J nd hi hl hn nG (Heap.SameBut.update ..)
  have Lin : X.env.locals ∈ frs X.stack := List.mem_filterMap.mpr ⟨X.env, by rw [hs]; exact List.mem_cons_self, hf⟩
  refine ⟨e, B, _, pins, _, H2, cls, d, rfl, IG, fun b o hb hnf => ?_, fun b o hb hnf => ?_, .inr (.inr (by rw [hs]; exact held)), na, os, ag, w⟩
  · have ne : b ≠ X.env.locals := fun z => hnf (by rw [z]; exact Lin)
    have hb : (sI.heap.update X.env.locals fun _ => o2).get? b = some o := hb
    rw [gO b ne] at hb
    exact nb b o hb hnf
  · have hb : (sI.heap.update X.env.locals fun _ => o2).get? b = some o := hb
    by_cases ne : b = X.env.locals
    · rw [ne, gL] at hb
      have ho := Option.some.inj hb
      subst ho
      rw [ne]
      exact u2 _ _ ho2 hnf
    · rw [gO b ne] at hb
      obtain ⟨sl, q⟩ := up b o hb hnf
      obtain ⟨sl2, q2⟩ := u1 b _ q hnf
      have q3 := (sb.2 b ne).trans q2
      obtain ⟨sl4, q4⟩ := u2 b _ q3 hnf
      exact ⟨sl4, q4⟩
end
/-! ### try, whose suites may raise -/
inductive HdsX (X : Cx) (Wout : WX) : List ExceptHandler → List (Value × Option Nat × Sui) → Prop
  | nil : HdsX X Wout [] []
  | named {x n : Str} {c : Value} {i : Nat} {ts : Sui} {b0 : Stmt} {suite : List Stmt} {np hp : Pos} {hds : List ExceptHandler} {l : List (Value × Option Nat × Sui)} (hi : X.N[i]? = some n) (hl : X.env.kindOf n = some .local) (hc : Names X x c)
      (hsu : ∀ (a : Addr) (oe : Obj) (cls : Value) (d : Option Addr) (pn : List (Addr × Obj)) (xe : Value → Shared → Prop), Zc cls d oe → (∃ vs, oe.data = .fields vs) → L2.Takes (suX X a xe ((a, oe) :: pn)) (fun cls d σ H => Wout cls d (σ.set i none) H) → L2H.HotC (suX X a xe ((a, oe) :: pn)) → PSs (suX X a xe ((a, oe) :: pn)) (b0 :: suite) (ts a cls d))
      (r : HdsX X Wout hds l) : HdsX X Wout (.ExceptHandler (some (.Name x np)) (some n) (b0 :: suite) hp :: hds) ((c, some i, ts) :: l)
  | bare {x : Str} {c : Value} {ts : Sui} {b0 : Stmt} {suite : List Stmt} {np hp : Pos} {hds : List ExceptHandler} {l : List (Value × Option Nat × Sui)} (hc : Names X x c)
      (hsu : ∀ (a : Addr) (oe : Obj) (cls : Value) (d : Option Addr) (pn : List (Addr × Obj)) (xe : Value → Shared → Prop), Zc cls d oe → (∃ vs, oe.data = .fields vs) → L2.Takes (suX X a xe ((a, oe) :: pn)) Wout → L2H.HotC (suX X a xe ((a, oe) :: pn)) → PSs (suX X a xe ((a, oe) :: pn)) (b0 :: suite) (ts a cls d))
      (r : HdsX X Wout hds l) : HdsX X Wout (.ExceptHandler (some (.Name x np)) none (b0 :: suite) hp :: hds) ((c, none, ts) :: l)
section
variable {X : Cx}
theorem try_walkX {body : List Stmt} {h0 : ExceptHandler} {hds : List ExceptHandler} {l : List (Value × Option Nat × Sui)} {pos : Pos} {tb : WX → TS} {Wout : WX} (hs : X.stack = X.env :: X.outer) (hf : X.env.frame = some X.env.locals) (hN : X.N.Nodup) (hpa : ∀ hd : Option Value, PassesOwnAt (model X.prog X.w) (X.A.mark hd) X.A X.env X.xe) (tk : L2.Takes X Wout)
    (hb : ∀ (W : WX) (pn : List (Addr × Obj)) (xe : Value → Shared → Prop), L2N.Takes (X.tr pn xe) W → PSs (X.tr pn xe) body (tb W)) (hh : HdsX X Wout (h0 :: hds) l) : PS X (.Try body (h0 :: hds) [] [] pos) (fun D σ H => tb (wHm X.K Wout D l) D σ H) := ⟨fun pins s σ H D I h => by
  have ok := I.ok
  have hfr : X.A.frames = some (X.env :: X.outer) := (congrArg some hs).symm ▸ ok.frames
  refine wpAny_Try_except (wpAny_mono ((hb (wHm X.K Wout D l) (X.pn ++ pins) (fun e s1 => wpAny (model X.prog X.w) X.A (noteFrame e X.env) (fun _ s2 => wpAny (model X.prog X.w) X.A (setFlight e none) (fun _ s3 => wpAny (model X.prog X.w) X.A (handleBy e X.env (h0 :: hds)) (SP X pins D) X.xe s3) X.xe s2) X.xe s1) (fun u s' xx => ?_)).run [] s σ H D (I.toTry _) h) (fun fl s1 q => ?_) fun _ _ he => he)
  · obtain ⟨a, B, sI, pins', σ', H', cls, d, rfl, J', nb, up, sky, na, os, ag, w⟩ := xx
    have J : Inv X pins σ' H' sI := J'.ofTry ok
    refine L2N.Sky.land L2N.Zn.steady hfr hf (show Sky B (X.env :: X.outer) a (L2N.Zn cls d) X.env.locals s'.heap from hs ▸ sky) fun h3 fl3 up3 => ?_
    have J3 : Inv X pins σ' H' { s' with heap := h3 } := J.landed nb fl3.1 (up.trans up3) os ag
    obtain ⟨o3, vs3, he3, hz3, hd3⟩ := fl3.there
    have nfr := not_framed fl3.2.2.1 he3 hd3
    have nL : a ≠ X.env.locals := fun z => nfr (List.mem_filterMap.mpr ⟨X.env, List.mem_cons_self, hf.trans (congrArg some z.symm)⟩)
    have nF : a ∉ X.fs := fun hm => let ⟨e, he, q⟩ := List.mem_filterMap.mp hm; nfr (List.mem_filterMap.mpr ⟨e, List.mem_cons_of_mem _ he, q⟩)
    have S3 := J3.suite he3 hd3 na nL nF
    have LT : PySem.W.Looks (model X.prog X.w) h3 (typeOf (.ref a)) cls := fun _ _ _ _ k q => wpAny_typeOf_ref (k _ _ he3) (hz3.1.symm ▸ q)
    have go : ∀ {ds : List ExceptHandler} {m : List (Value × Option Nat × Sui)}, HdsX X Wout ds m → wHm X.K Wout D m cls d σ' H' → wpAny (model X.prog X.w) X.A (handleBy (.ref a) X.env ds) (SP X pins D) X.xe { s' with heap := h3 } := by
      intro ds m hk
      induction hk with
      | nil =>
        refine fun w => wpAny_handleBy_nil ?_
        obtain ⟨z1, z2, z3, oe, vs, T, oT, ts', he, hz, hd, h1, hr⟩ := id fl3
        unfold PySem.passOn
        refine wpAny_bind (wpAny_field he hd h1 ?_)
        have nn : ¬ ((Value.ref T == Value.none) = true) := by simp
        rw [if_neg nn]
        have fl4 : HandSPX.FlyingZ B (X.env :: X.outer) a (Zc cls d) h3 := L2H.flyingZ_imp (fun o z => z.zc) fl3
        have fin : wpAny (model X.prog X.w) X.A (setFlight (.ref a) X.env.frame) (fun _ s4 => wpAny (model X.prog X.w) X.A (throw (.ref a) : Sem Flow) (SP X pins D) X.xe s4) X.xe { s' with heap := h3 } := by
          rw [hf]
          exact HandSPX.setFlight_upZ fl4 fun h4 hh4 up4 => wpAny_throw (tk _ _ ⟨a, B, sI, pins, σ', H', cls, d, rfl, J, nb, (up.trans up3).trans up4, .inr (.inr (hs.symm ▸ hh4)), na, os, ag, w⟩)
        first | exact wpAny_bind (wpAny_pure (wpAny_bind fin)) | exact wpAny_bind fin
      | @named x n c i ts b0 suite np hp hds2 l2 hi hl hc hsu r ih =>
        rintro ⟨b, hb1, hyes, hno⟩
        have LM := PySem.W.exm_one (M := model X.prog X.w) (J3.kIn) LT hb1
        have test : ∀ {Q : Value → Shared → Prop} {E : Value → Shared → Prop}, Q c { s' with heap := h3 } → wpAny (model X.prog X.w) (X.A.mark (some (.ref a))) (eval (.Name x np) X.env) Q E { s' with heap := h3 } := fun {Q E} q => by
          obtain ⟨hg, hdbg, hm | ⟨hm, hv, hnn⟩⟩ := hc
          · exact ld_glob (X := X.suite a ((a, o3) :: (X.pn ++ pins))) S3 hg hm q hdbg
          · exact ld_blt (X := X.suite a ((a, o3) :: (X.pn ++ pins))) S3 hg hm hv q hnn hdbg
        refine wpAny_handleBy_cons (codeAny_handlers_test (test (LM.here ?_))) fun q => nomatch q
        cases b with
        | false => exact ih (hno rfl)
        | true =>
          refine codeAny_handlers_suite_as (HandSPX.lands_againZ fl3 fun h4 fl4 up4 => ?_)
          have J4 : Inv X pins σ' H' { s' with heap := h4 } := J.landed nb fl4.1 ((up.trans up3).trans up4) os ag
          obtain ⟨o4, vs4, he4, hz4, hd4⟩ := fl4.there
          have hot : L2H.HotC (suX X a (asOut X a n hp) ((a, o4) :: (X.pn ++ pins))) := ⟨(a, o4), ⟨rfl, vs4, hd4, hz4.2.2 vs4 hd4⟩, List.mem_cons_self⟩
          refine store_ok (X := X.suite a ((a, o4) :: (X.pn ++ pins))) (v := .ref a) (J4.suite he4 hd4 na nL nF) hN hi (.inl hl) rfl (fun s5 S5 => ?_) (.inr hl)
          refine wpAny_mono ((hsu a o4 cls d (X.pn ++ pins) (asOut X a n hp) hz4.zc ⟨_, hd4⟩ (takes_named ok hs hf hN hi hl tk) hot).run [] s5 _ H' _ (suX_of S5) (hyes rfl a na)) (fun f s6 q => ?_) fun y s6 z => z
          have fin : ∀ {σ6 : L2.St} {H6 : Hp} {Q : Shared → Prop}, Inv (suX X a (asOut X a n hp) ((a, o4) :: (X.pn ++ pins))) [] σ6 H6 s6 → (∀ s7, Inv X pins (σ6.set i none) H6 s7 → Q s7) → wpAny (model X.prog X.w) X.A (do bindName X.env n .none; unbindBehindTheSuite X.env n hp) (fun _ s7 => Q s7) X.xe s6 :=
            fun S6 hq => gone_ok (un_suX S6 ok) hN hi hl hq
          cases f with
          | next => obtain ⟨σ6, H6, S6, q6⟩ := q; exact fin S6 fun s7 J7 => ⟨_, _, J7, q6⟩
          | brk => obtain ⟨σ6, H6, S6, q6⟩ := q; exact fin S6 fun s7 J7 => ⟨_, _, J7, q6⟩
          | cont => obtain ⟨σ6, H6, S6, q6⟩ := q; exact fin S6 fun s7 J7 => ⟨_, _, J7, q6⟩
          | ret u => obtain ⟨v6, σ6, H6, S6, r6, q6⟩ := q; exact fin S6 fun s7 J7 => ⟨_, _, _, J7, r6, q6⟩
      | @bare x c ts b0 suite np hp hds2 l2 hc hsu r ih =>
        rintro ⟨b, hb1, hyes, hno⟩
        have LM := PySem.W.exm_one (M := model X.prog X.w) (J3.kIn) LT hb1
        have test : ∀ {Q : Value → Shared → Prop} {E : Value → Shared → Prop}, Q c { s' with heap := h3 } → wpAny (model X.prog X.w) (X.A.mark (some (.ref a))) (eval (.Name x np) X.env) Q E { s' with heap := h3 } := fun {Q E} q => by
          obtain ⟨hg, hdbg, hm | ⟨hm, hv, hnn⟩⟩ := hc
          · exact ld_glob (X := X.suite a ((a, o3) :: (X.pn ++ pins))) S3 hg hm q hdbg
          · exact ld_blt (X := X.suite a ((a, o3) :: (X.pn ++ pins))) S3 hg hm hv q hnn hdbg
        refine wpAny_handleBy_cons (codeAny_handlers_test (test (LM.here ?_))) fun q => nomatch q
        cases b with
        | false => exact ih (hno rfl)
        | true =>
          refine codeAny_handlers_suite (HandSPX.lands_againZ fl3 fun h4 fl4 up4 => ?_)
          have J4 : Inv X pins σ' H' { s' with heap := h4 } := J.landed nb fl4.1 ((up.trans up3).trans up4) os ag
          obtain ⟨o4, vs4, he4, hz4, hd4⟩ := fl4.there
          have hot : L2H.HotC (suX X a X.xe ((a, o4) :: (X.pn ++ pins))) := ⟨(a, o4), ⟨rfl, vs4, hd4, hz4.2.2 vs4 hd4⟩, List.mem_cons_self⟩
          refine wpAny_mono ((hsu a o4 cls d (X.pn ++ pins) X.xe hz4.zc ⟨_, hd4⟩ (takes_bare ok tk) hot).run [] _ _ H' _ (suX_of (J4.suite he4 hd4 na nL nF)) (hyes rfl a na)) (fun f s6 q => ?_) fun y s6 z => hpa (some (.ref a)) y s6 z
          cases f with
          | next => obtain ⟨σ6, H6, S6, q6⟩ := q; exact ⟨_, _, un_suX S6 ok, q6⟩
          | brk => obtain ⟨σ6, H6, S6, q6⟩ := q; exact ⟨_, _, un_suX S6 ok, q6⟩
          | cont => obtain ⟨σ6, H6, S6, q6⟩ := q; exact ⟨_, _, un_suX S6 ok, q6⟩
          | ret u => obtain ⟨v6, σ6, H6, S6, r6, q6⟩ := q; exact ⟨_, _, _, un_suX S6 ok, r6, q6⟩
    exact go hh w
  · cases fl with
    | next => obtain ⟨σ', H', J', q⟩ := q; exact wpAny_execs_nil ⟨σ', H', J'.ofTry ok, q⟩
    | brk => obtain ⟨σ', H', J', q⟩ := q; exact ⟨σ', H', J'.ofTry ok, q⟩
    | cont => obtain ⟨σ', H', J', q⟩ := q; exact ⟨σ', H', J'.ofTry ok, q⟩
    | ret u => obtain ⟨v, σ', H', J', r, q⟩ := q; exact ⟨v, σ', H', J'.ofTry ok, r, q⟩⟩
end
end WD

/-! defs that raise within an except clause, and who calls them -/
namespace WD
open PySem PySem.Spec PyProof.Rows L2
open Evl (Ex Ex.refl Ex.trans Ex.new Ex.mut ex_l ex_t fresh_back)
/-! ### the weaker outlet -/
theorem xeN_of {X : Cx} {W : WX} {u : Value} {s' : Shared} (h : L2N.XE X W u s') : L2.XE X W u s' := by
  obtain ⟨a, B, sI, pins, σ, H, cls, d, e, I, nb, up, sky, r⟩ := h
  refine ⟨a, B, sI, pins, σ, H, cls, d, e, I, nb, up, ?_, r⟩
  rcases sky with ⟨hB, hn, hl, oe, vs, he, hz, q⟩ | fl | hh
  · exact .inl ⟨hB, hn, hl, oe, vs, he, hz.zc, q⟩
  · exact .inr (.inl (L2H.flyingZ_imp (fun _ z => z.zc) fl))
  · exact .inr (.inr ⟨hh.1, hh.2.1, hh.2.2.1, L2H.tracedZ_imp (fun _ z => z.zc) hh.2.2.2⟩)
theorem takesN {X : Cx} {W : WX} (t : L2.Takes X W) : L2N.Takes X W := fun u s' x => t u s' (xeN_of x)
theorem tkZ {P : Program} {w : World} {K : PySem.W.Frag} {mg : Str → Option Value} {base : Heap} {N : List Str} {qual : Str} {scope : Scope} {f : Addr} {cd : Value} {A : Around} {outer : List PySem.Env} {s : Shared} {H : Hp} {E : XK} :
    L2.Takes (cxOf (L2.CX P w) P w K mg base N qual scope f cd A outer s H E) (fun cls d σ H => (eX K E).err σ cls d H) := L2.takes_of rfl rfl rfl rfl
theorem pcZ {P : Program} {w : World} {K : PySem.W.Frag} {mg : Str → Option Value} {base : Heap} {N : List Str} {qual : Str} {scope : Scope} {f : Addr} {cd : Value} {A : Around} {outer : List PySem.Env} {s : Shared} {H : Hp} {E : XK} :
    ∀ σ, PassesAt (L2N.CX P w) (cxOf (L2.CX P w) P w K mg base N qual scope f cd A outer s H E) σ ((eX K E).err σ) := fun σ pins H s e s' I h => L2N.passes_call (takesN tkZ) (fun _ _ _ _ h => h) pins σ H s e s' I h
theorem pcZZ {P : Program} {w : World} {K : PySem.W.Frag} {mg : Str → Option Value} {base : Heap} {N : List Str} {qual : Str} {scope : Scope} {f : Addr} {cd : Value} {A : Around} {outer : List PySem.Env} {s : Shared} {H : Hp} {E : XK} :
    ∀ σ, PassesAt (L2.CX P w) (cxOf (L2.CX P w) P w K mg base N qual scope f cd A outer s H E) σ ((eX K E).err σ) := fun σ pins H s e s' I h => L2.passes_call tkZ (fun _ _ _ _ h => h) pins σ H s e s' I h
theorem passLZ {X : Cx} : ∀ σ, PassesAt (L2.CX X.prog X.w) X σ (EX0.err σ) := fun σ pins H s e s' I h => by obtain ⟨_, _, _, _, _, _, _, _, _, _, _, _, z⟩ := h; exact z.elim
theorem paZ {P : Program} {w : World} {K : PySem.W.Frag} {mg : Str → Option Value} {base : Heap} {N : List Str} {qual : Str} {scope : Scope} {f : Addr} {cd : Value} {A : Around} {outer : List PySem.Env} {s : Shared} {H : Hp} {E : XK} :
    ∀ hd : Option Value, PassesOwnAt (model P w) ((cxOf (L2.CX P w) P w K mg base N qual scope f cd A outer s H E).A.mark hd) (cxOf (L2.CX P w) P w K mg base N qual scope f cd A outer s H E).A (cxOf (L2.CX P w) P w K mg base N qual scope f cd A outer s H E).env (cxOf (L2.CX P w) P w K mg base N qual scope f cd A outer s H E).xe := fun hd => L2H.passesAt_of rfl hd
/-! ### such defs -/
structure FnZ (P : Program) (w : World) (K : Frag) (mg : Mg) (base : Heap) (k : Nat) (x : Str) (ps : List Str) (m : List D → Res D) : Prop where
  ex : ∃ f fd, mg x = some (.ref f) ∧ PySem.W.keepIn K (.ref f) = true ∧ Binds K fd ps [] ∧ FnOk P w K mg base (L2.CX P w) k f fd ps (spM mg K ps.length m)
theorem fn_okZ {κ κe : Nat → Kd} {P : Program} {w : World} {K : Frag} {mg : Mg} {base : Heap} {x qual : Str} {st : Stmt} {f : Addr} {fd : FuncData} {N ps : List Str} {k n : Nat} {body : Env → Out} (F : Fun K x qual st f fd) (S : FnScope N ps (defScope st)) (hn : N.length = n)
    (hk : ∀ i, i < ps.length → κ i = .im)
    (hbody : ∀ (cdv : Value) (A : Around) (outer : List PySem.Env) (s : Shared) (H : Hp) (E : XK), Room k (A.deeper (envOfC qual (defScope st) s.heap.objs.size f cdv)) →
      DSs2 (cxOf (L2.CX P w) P w K mg base N qual (defScope st) f cdv A outer s H E) κ κe (eX K E) (defBody st) body) : FnOk P w K mg base (L2.CX P w) (k + 1) f fd ps (spM mg K ps.length (mkFn n body)) := by
  subst hn
  refine F.okX S (fun vs H Q E h => h.1) fun cdv A outer s H vs Q E hr h => ⟨_, hbody cdv A outer s H E hr, ?_⟩
  obtain ⟨hl, F, ds, e, nf, r, c⟩ := h
  refine ⟨F, H, F, _, fn_start e nf r hl hk, ?_⟩
  unfold mkFn at c
  generalize ho : body (ds.map some ++ List.replicate (N.length - ds.length) none) = o at c ⊢
  cases o with
  | nx ρ => exact fun σ' F' H' _ S' => c .non F' H' S'.ext .non
  | bk ρ => exact c.elim
  | ct ρ => exact c.elim
  | rt d => exact c
  | err x => exact fun _ => c
  | stk => exact c
section
variable {X : Cx} {κ : Nat → Kd} {E : EX} {e : Expr} {es : List Expr} {pos : Pos} {sts : List Stmt}
theorem de_callZ {k : Nat} {x : Str} {p : Pos} {ps : List Str} {m : List D → Res D} {ma : Env → Res (List D)} (G : FnZ X.prog X.w X.K X.mg X.base k x ps m) (hr : Room k X.A) (hx : ∀ σ, PassesAt (L2.CX X.prog X.w) X σ (E.err σ)) (hg : Gl X x) (ha : DA X κ E (e :: es) ma) (hlen : (e :: es).length = ps.length)
    (hma : ∀ ρ ds, ma ρ = .ok ds → ds.length = ps.length)
    (hdb : (x == ("__debug__" : Str)) = false := by decide) (he : starEach (e :: es) X.env = (false, eval e X.env) :: starEach es X.env := by rfl) (hpl : (backTo pos (starEach es X.env)).any (·.1) = false := by rfl) :
    DE X κ E (.Call (.Name x p) (e :: es) [] pos) (mCall m ma) := by
  obtain ⟨f, fd, hm, hk, hb, hF⟩ := G.ex
  refine (pe_callS hF hr hg hm hk hb hx ha hdb he hpl).imp fun σ H Q ⟨F0, H0, F, ρ, S, c⟩ => ⟨F0, H0, F, ρ, S, Res.sat_imp (Res.sat_bind c) (fun ds q k vs F' H' x r => ?_) fun _ z => z⟩
  refine ⟨by rw [r.length, hma ρ ds q], F', ds, x.s, x.n S.nf, r, Res.sat_imp k (fun d _ k v F2 H2 x2 r2 => k v F2 H2 (x.trans x2) r2) fun _ z => z.mono x⟩
end
/-! ### try whose suites may raise -/
def hndlX (tb : Tbl) : List SutM → Exn → Env → Out
  | [], x, _ => .err x
  | s :: r, x, ρ => match tb x.cls s.cls with
    | none => .stk
    | some true => (match s.slot with
      | some i => (match s.m x.cls (ρ.set i (some (xD x.fs))) with
        | .nx ρ' => .nx (ρ'.set i none)
        | .bk ρ' => .bk (ρ'.set i none)
        | .ct ρ' => .ct (ρ'.set i none)
        | .rt d => .rt d
        | .err y => .err y
        | .stk => .stk)
      | none => s.m x.cls ρ)
    | some false => hndlX tb r x ρ
def mTryX (tb : Tbl) (m : Env → Res D) (fin : D → Env → Out) (hs : List SutM) : Env → Out := fun ρ => match m ρ with
  | .ok d => fin d ρ
  | .err x => hndlX tb hs x ρ
  | .stk => .stk
/-- what a named suite wishes -/
abbrev EXs (E : EX) (i : Nat) : EX := ⟨fun σ => E.err (σ.set i none), E.ret⟩
section
variable {X : Cx} {κ : Nat → Kd} {E : EX} {sts : List Stmt}
inductive HdsXD (X : Cx) (κ : Nat → Kd) (E : EX) : List ExceptHandler → List SutM → Prop
  | nil : HdsXD X κ E [] []
  | named {x n : Str} {i : Nat} {m : Str → Env → Out} {b0 : Stmt} {suite : List Stmt} {np hp : Pos} {hds : List ExceptHandler} {l : List SutM} (hk : κ i = .im) (hi : X.N[i]? = some n) (hl : X.env.kindOf n = some .local) (hg : Gl X x) (hdb : (x == ("__debug__" : Str)) = false)
      (hsu : ∀ (a : Addr) (oe : Obj) (C : Addr) (cn : Str) (d : Option Addr) (pn : List (Addr × Obj)) (xe : Value → Shared → Prop), X.mg cn = some (.ref C) → Zc (.ref C) d oe → (∃ vs, oe.data = .fields vs) → L2.Takes (suX X a xe ((a, oe) :: pn)) (fun cls d σ H => (EXs E i).err σ cls d H) → L2H.HotC (suX X a xe ((a, oe) :: pn)) →
        DSs (suX X a xe ((a, oe) :: pn)) (kdX κ i a d) (EXs E i) (b0 :: suite) (m cn)) (r : HdsXD X κ E hds l) :
      HdsXD X κ E (.ExceptHandler (some (.Name x np)) (some n) (b0 :: suite) hp :: hds) (⟨x, some i, m⟩ :: l)
  | bare {x : Str} {m : Str → Env → Out} {b0 : Stmt} {suite : List Stmt} {np hp : Pos} {hds : List ExceptHandler} {l : List SutM} (hg : Gl X x) (hdb : (x == ("__debug__" : Str)) = false)
      (hsu : ∀ (a : Addr) (oe : Obj) (C : Addr) (cn : Str) (d : Option Addr) (pn : List (Addr × Obj)) (xe : Value → Shared → Prop), X.mg cn = some (.ref C) → Zc (.ref C) d oe → (∃ vs, oe.data = .fields vs) → L2.Takes (suX X a xe ((a, oe) :: pn)) (fun cls d σ H => E.err σ cls d H) → L2H.HotC (suX X a xe ((a, oe) :: pn)) →
        DSs (suX X a xe ((a, oe) :: pn)) κ E (b0 :: suite) (m cn)) (r : HdsXD X κ E hds l) :
      HdsXD X κ E (.ExceptHandler (some (.Name x np)) none (b0 :: suite) hp :: hds) (⟨x, none, m⟩ :: l)
theorem hds_ofX {hds : List ExceptHandler} {l : List SutM} (h : HdsXD X κ E hds l) {tb : Tbl} (ht : TblOk X.K X.mg tb) :
    ∃ l' : List (Value × Option Nat × Sui), (l ≠ [] → ∀ n ∈ l, ∃ cv, X.mg n.cls = some cv) → HdsX X (fun cls d σ H => E.err σ cls d H) hds l' ∧
      ∀ (Dn : Ends) (F0 H0 F H : Hp) (σ : L2.St) (ρ : Env) (x : Exn) (cls : Value) (d : Option Addr), Stt X.K κ F0 H0 F H σ ρ → ExRep X.mg X.K F H x cls d → OutOk X.mg X.K κ E F0 H0 F H Dn (hndlX tb l x ρ) →
        wHm X.K (fun cls d σ H => E.err σ cls d H) Dn l' cls d σ H := by
  induction h with
  | nil => exact ⟨[], fun _ => ⟨.nil, fun Dn F0 H0 F H σ ρ x cls d S r k => (show ∀ σ, ErrOk X.mg X.K (E.err σ) F0 H0 x from k) σ F H cls d S.ext r⟩⟩
  | @named x n i m b0 suite np hp hds l hk hi hl hg hdb hsu r ih =>
    obtain ⟨l', ih⟩ := ih
    cases hcv : X.mg x with
    | none => exact ⟨[], fun z => by obtain ⟨cv, e⟩ := z (by simp) ⟨x, some i, m⟩ (by simp); rw [hcv] at e; cases e⟩
    | some cv =>
      refine ⟨(cv, some i, fun a cls d => fun D σ H => ∃ C cn, cls = .ref C ∧ X.mg cn = some (.ref C) ∧ rdS X.mg X.K (kdX κ i a d) (EXs E i) (m cn) D σ H) :: l', fun z => ?_⟩
      obtain ⟨h1, h2⟩ := ih fun _ n hn => z (by simp) n (by simp [hn])
      refine ⟨.named hi hl ⟨hg, hdb, .inl hcv⟩ (fun a oe cls d pn xe hz hf tk hot => ⟨fun pins s σ H D I ⟨C, cn, e1, e2, k⟩ => by subst e1; exact (hsu a oe C cn d pn xe e2 hz hf tk hot).run pins s σ H D I k⟩) h1, fun Dn F0 H0 F H σ ρ y cls d S rep k => ?_⟩
      have hx := rep.xn
      obtain ⟨C, e1, e2, _⟩ := id rep
      unfold hndlX at k
      cases htb : tb y.cls x with
      | none => simp only [htb] at k; exact k.elim
      | some b =>
        obtain ⟨cv', e3, e4⟩ := ht _ _ _ htb C e1
        rw [hcv] at e3
        cases e3
        refine ⟨b, by rw [e2]; exact e4, fun hb a na => ?_, fun hb => ?_⟩
        · subst hb
          simp only [htb] at k
          refine ⟨C, y.cls, e2, e1, F0, H0, F, _, S.enter hk hx, ?_⟩
          generalize m y.cls (ρ.set i (some (xD y.fs))) = o at k ⊢
          cases o with
          | nx ρ' => exact fun σ' F' H' x' S' => k _ F' H' x' S'.leave
          | bk ρ' => exact fun σ' F' H' x' S' => k _ F' H' x' S'.leave
          | ct ρ' => exact fun σ' F' H' x' S' => k _ F' H' x' S'.leave
          | rt d => exact k
          | err x =>
            have k : ∀ σ, ErrOk X.mg X.K (E.err σ) F0 H0 x := k
            exact fun σ => k _
          | stk => exact k.elim
        · subst hb
          simp only [htb] at k
          exact h2 Dn F0 H0 F H σ ρ y cls d S rep k
  | @bare x m b0 suite np hp hds l hg hdb hsu r ih =>
    obtain ⟨l', ih⟩ := ih
    cases hcv : X.mg x with
    | none => exact ⟨[], fun z => by obtain ⟨cv, e⟩ := z (by simp) ⟨x, none, m⟩ (by simp); rw [hcv] at e; cases e⟩
    | some cv =>
      refine ⟨(cv, none, fun a cls d => fun D σ H => ∃ C cn, cls = .ref C ∧ X.mg cn = some (.ref C) ∧ rdS X.mg X.K κ E (m cn) D σ H) :: l', fun z => ?_⟩
      obtain ⟨h1, h2⟩ := ih fun _ n hn => z (by simp) n (by simp [hn])
      refine ⟨.bare ⟨hg, hdb, .inl hcv⟩ (fun a oe cls d pn xe hz hf tk hot => ⟨fun pins s σ H D I ⟨C, cn, e1, e2, k⟩ => by subst e1; exact (hsu a oe C cn d pn xe e2 hz hf tk hot).run pins s σ H D I k⟩) h1, fun Dn F0 H0 F H σ ρ y cls d S rep k => ?_⟩
      obtain ⟨C, e1, e2, _⟩ := id rep
      unfold hndlX at k
      cases htb : tb y.cls x with
      | none => simp only [htb] at k; exact k.elim
      | some b =>
        obtain ⟨cv', e3, e4⟩ := ht _ _ _ htb C e1
        rw [hcv] at e3
        cases e3
        refine ⟨b, by rw [e2]; exact e4, fun hb a na => ?_, fun hb => ?_⟩
        · subst hb
          simp only [htb] at k
          exact ⟨C, y.cls, e2, e1, F0, H0, F, _, S, k⟩
        · subst hb
          simp only [htb] at k
          exact h2 Dn F0 H0 F H σ ρ y cls d S rep k
theorem ds_tryGX {h0 : ExceptHandler} {hds : List ExceptHandler} {l : List SutM} {pos : Pos} {tb : Tbl} {me : Env → Res D} {mfin : D → Env → Out} {fin : Ends → V → L2.St → Hp → Prop}
    (hb : ∀ (W : WX) (pn : List (Addr × Obj)) (xe : Value → Shared → Prop), L2N.Takes (X.tr pn xe) W → PSs (X.tr pn xe) sts (fun D σ H => rdE X.mg X.K κ ⟨WE W, E.ret⟩ me σ H fun v H' => fin D v σ H'))
    (hfin : ∀ (Dn : Ends) (F0 H0 F H : Hp) (σ : L2.St) (ρ : Env) (v : V) (d : D), Stt X.K κ F0 H0 F H σ ρ → Rp X.K F v d → OutOk X.mg X.K κ E F0 H0 F H Dn (mfin d ρ) → fin Dn v σ H)
    (hd : HdsXD X κ E (h0 :: hds) l) (ht : TblOk X.K X.mg tb) (hcl : ∀ n ∈ l, ∃ cv, X.mg n.cls = some cv) (hN : X.N.Nodup) (tk : L2.Takes X (fun cls d σ H => E.err σ cls d H)) (hpa : ∀ hd : Option Value, PassesOwnAt (model X.prog X.w) (X.A.mark hd) X.A X.env X.xe) (hs : X.stack = X.env :: X.outer := by rfl) (hf : X.env.frame = some X.env.locals := by rfl) :
    DS X κ E (.Try sts (h0 :: hds) [] [] pos) (mTryX tb me mfin l) := by
  obtain ⟨l', h⟩ := hds_ofX hd ht
  obtain ⟨h1, h2⟩ := h fun _ => hcl
  refine (try_walkX hs hf hN hpa tk hb h1).imp fun Dn σ H ⟨F0, H0, F, ρ, S, k⟩ => ⟨F0, H0, F, ρ, S, ?_⟩
  unfold mTryX at k
  cases q : me ρ with
  | ok d =>
    simp only [q] at k
    exact fun v F' H' x r => hfin Dn F0 H0 F' H' σ ρ v d (S.mono x) r (OutOk.mono (H := H) x.f k)
  | err y =>
    simp only [q] at k
    exact fun F' H' c dd x rep => h2 Dn F0 H0 F' H' σ ρ y c dd (S.mono x) rep (OutOk.mono (H := H) x.f k)
  | stk => simp only [q] at k; exact k.elim
theorem ds_tryAX {e : Expr} {x : Str} {i : Nat} {px ps : Pos} {h0 : ExceptHandler} {hds : List ExceptHandler} {l : List SutM} {pos : Pos} {tb : Tbl} {me : Env → Res D} (hk : κ i = .im) (hi : X.N[i]? = some x) (hx : Loc X.env.scope x) (he : ∀ (W : WX) (pn : List (Addr × Obj)) (xe : Value → Shared → Prop), L2N.Takes (X.tr pn xe) W → DE (X.tr pn xe) κ ⟨WE W, E.ret⟩ e me)
    (hd : HdsXD X κ E (h0 :: hds) l) (ht : TblOk X.K X.mg tb) (hcl : ∀ n ∈ l, ∃ cv, X.mg n.cls = some cv) (hN : X.N.Nodup) (tk : L2.Takes X (fun cls d σ H => E.err σ cls d H)) (hpa : ∀ hd : Option Value, PassesOwnAt (model X.prog X.w) (X.A.mark hd) X.A X.env X.xe) (hs : swapsWith e (some (.Name x px)) ps.line X.env = pure false := by rfl)
    (hf : X.fn x = true ∨ X.env.scope.names.lookup x = some .local := by first | exact .inl rfl | exact .inr rfl | assumption) (hst : X.stack = X.env :: X.outer := by rfl) (hfr : X.env.frame = some X.env.locals := by rfl) :
    DS X κ E (.Try [.Assign [.Name x px] e ps] (h0 :: hds) [] [] pos) (mTryX tb me (fun d ρ => .nx (ρ.set i (some d))) l) :=
  ds_tryGX (fin := fun D v σ H => D.nx (σ.set i (some v)) H) (fun W pn xe tk => pss_one (ps_set (i := i) (X := X.tr pn xe) hN hi hx (he W pn xe tk) hs hf)) (fun Dn F0 H0 F H σ ρ v d S r k => k _ F H (Ex.refl F) (S.set hk r)) hd ht hcl hN tk hpa hst hfr
theorem ds_trySX {h0 : ExceptHandler} {hds : List ExceptHandler} {l : List SutM} {pos : Pos} {tb : Tbl} {me : Env → Res D} (he : ∀ (W : WX) (pn : List (Addr × Obj)) (xe : Value → Shared → Prop), L2N.Takes (X.tr pn xe) W → DR (X.tr pn xe) κ ⟨WE W, E.ret⟩ sts me)
    (hd : HdsXD X κ E (h0 :: hds) l) (ht : TblOk X.K X.mg tb) (hcl : ∀ n ∈ l, ∃ cv, X.mg n.cls = some cv) (hN : X.N.Nodup) (tk : L2.Takes X (fun cls d σ H => E.err σ cls d H)) (hpa : ∀ hd : Option Value, PassesOwnAt (model X.prog X.w) (X.A.mark hd) X.A X.env X.xe) (hR : ∀ H0 d v F H, Rp X.K F v d → E.ret H0 d v F H := by exact fun _ _ _ _ _ h => h) (hst : X.stack = X.env :: X.outer := by rfl) (hfr : X.env.frame = some X.env.locals := by rfl) :
    DS X κ E (.Try sts (h0 :: hds) [] [] pos) (mTryX tb me (fun d _ => .rt d) l) :=
  ds_tryGX (fin := fun D v _ H => D.rt v H) (fun W pn xe tk => he W pn xe tk) (fun Dn F0 H0 F H σ ρ v d S r k => k v F H S.ext (hR _ _ _ _ _ r)) hd ht hcl hN tk hpa hst hfr
theorem ds_tryEX {e : Expr} {ps : Pos} {h0 : ExceptHandler} {hds : List ExceptHandler} {l : List SutM} {pos : Pos} {tb : Tbl} {me : Env → Res D} (he : ∀ (W : WX) (pn : List (Addr × Obj)) (xe : Value → Shared → Prop), L2N.Takes (X.tr pn xe) W → DE (X.tr pn xe) κ ⟨WE W, E.ret⟩ e me)
    (hd : HdsXD X κ E (h0 :: hds) l) (ht : TblOk X.K X.mg tb) (hcl : ∀ n ∈ l, ∃ cv, X.mg n.cls = some cv) (hN : X.N.Nodup) (tk : L2.Takes X (fun cls d σ H => E.err σ cls d H)) (hpa : ∀ hd : Option Value, PassesOwnAt (model X.prog X.w) (X.A.mark hd) X.A X.env X.xe) (hs : swapsWith e none ps.line X.env = pure false := by rfl) (hst : X.stack = X.env :: X.outer := by rfl) (hfr : X.env.frame = some X.env.locals := by rfl) :
    DS X κ E (.Try [.Expr e ps] (h0 :: hds) [] [] pos) (mTryX tb me (fun _ ρ => .nx ρ) l) :=
  ds_tryGX (fin := fun D _ σ H => D.nx σ H) (fun W pn xe tk => pss_one (ps_expr (he W pn xe tk) hs)) (fun Dn F0 H0 F H σ ρ v d S r k => k _ F H (Ex.refl F) S) hd ht hcl hN tk hpa hst hfr
end
end WD

/-! raise in a suite; try over defs that may do so -/
namespace WD
open PySem PySem.Spec PyProof.Rows L2
open Evl (Ex Ex.refl Ex.trans Ex.new Ex.mut ex_l ex_t fresh_back)
/-- a class of the program, made where something is handled -/
structure XClsH (P : Program) (w : World) (K : Frag) (mg : Mg) (base : Heap) (x : Str) (fs : List Str) : Prop where
  ex : ∃ C fI fd, mg x = some (.ref C) ∧ OexC K C ∧ (∀ f ∈ fs, PySem.W.findIn K (.ref C) f = some none) ∧ PySem.W.findIn K (.ref C) "__init__" = some (some (.ref fI)) ∧ PySem.W.typeIn K (.ref fI) = some (.type "function") ∧ Binds K fd ("self" :: fs) [] ∧ L2H.FnH P w K mg base (L2.CX P w) 1 fI fd ("self" :: fs) (spI K fs)
theorem ini_okH {P : Program} {w : World} {K : Frag} {mg : Mg} {base : Heap} {qual : Str} {st : Stmt} {f : Addr} {fd : FuncData} {fs : List Str} (F : Fun K "__init__" qual st f fd) (S : FnScope ("self" :: fs) ("self" :: fs) (defScope st)) (hne : fs ≠ []) (hl : fs.length ≤ 900)
    (hbody : ∀ (cdv : Value) (A : Around) (outer : List PySem.Env) (s : Shared) (H : Hp) (E : XK) (p : Addr × Obj), PSs (L2H.cxH (L2.CX P w) P w K mg base ("self" :: fs) qual (defScope st) f cdv A outer s H E p) (defBody st) (iniT K fs 1)) :
    L2H.FnH P w K mg base (L2.CX P w) 1 f fd ("self" :: fs) (spI K fs) := by
  obtain ⟨oc, od, kV, doc, pm, an, cdv, ct, osl, rfl, lk, hcd⟩ := F.ex
  refine L2H.fn_ofH lk hcd S (fun vs H Q E ⟨a, C, xs, e, hx, _⟩ => by rw [e]; simp [hx]) fun A outer s H vs Q E p _ hr ⟨a, C, xs, e, hx, T, hf, h1, k⟩ => ?_
  subst e
  refine ⟨_, hbody cdv A outer s H E p, a, C, [], xs, H, rfl, T, hf, h1, hx, fun j x hj => ?_, by simpa using hl, fun _ => hne, .inl ⟨rfl, rfl⟩, fun d H' a1 a2 a3 a4 a5 => k d H' a1 a2 a3 (by simpa using a4) a5⟩
  have hjl : j < xs.length := (List.getElem?_eq_some_iff.mp hj).1
  show (L2.start ("self" :: fs) (.ref a :: xs))[1 + j]? = _
  unfold L2.start
  rw [List.getElem?_append_left (by simp; omega), List.getElem?_map, show 1 + j = j + 1 by omega, List.getElem?_cons_succ, hj]
  rfl
theorem passHot {X : Cx} : Passes (L2.CX X.prog X.w) X (fun _ _ _ => False) := fun _ _ _ _ _ _ _ h => by obtain ⟨_, _, _, _, _, _, _, _, _, _, _, _, z⟩ := h; exact z.elim
section
variable {X : Cx} {κ : Nat → Kd} {E : EX} {es : List Expr} {e : Expr} {pos pos2 p cp : Pos} {x : Str} {j : Nat}
/-- raise C(e, ..) from None -/
theorem ds_raiseH {fs : List Str} {ma : Env → Res (List D)} {n : Nat} (T : XClsH X.prog X.w X.K X.mg X.base x fs) (hot : L2H.HotC X) (tk : L2.Takes X (fun cls d σ H => E.err σ cls d H)) (hr : L2H.RoomH n X.A) (hn : 2 ≤ n) (hg : Gl X x) (ha : DA X κ E (e :: es) ma) (hz : fs.length ≤ 900)
    (hdb : (x == ("__debug__" : Str)) = false := by decide) (he : starEach (e :: es) X.env = (false, eval e X.env) :: starEach es X.env := by rfl) (hpl : (backTo pos (starEach es X.env)).any (·.1) = false := by rfl) :
    DS X κ E (.Raise (some (.Call (.Name x p) (e :: es) [] pos)) (some (.Constant .none j cp)) pos2) (mRaise x fs ma) := by
  obtain ⟨C, fI, fd, hm, hC, hf, iC, tI, hb, F1⟩ := T.ex
  refine (L2H.ps_raiseHN hot tk (L2H.pmk5_oexH hC iC tI F1 (hr.mono hn) hot hb passHot hg hm ha hdb he hpl)).imp fun Dn σ H ⟨F0, H0, F, ρ, S, k⟩ => ⟨F0, H0, F, ρ, S, Res.sat_imp (out_sat k) (fun ds _ k vs F' H' x' r => ?_) fun x z => err_back S z⟩
  by_cases hl : ds.length = fs.length
  · simp only [if_pos hl] at k
    have hv : vs.length = fs.length := r.length.trans hl
    refine ⟨by omega, fun a na => ⟨a, C, vs, by simp, hv, hC, hf, upd_same, fun d H2 h1 h2 h3 h4 h5 => ⟨rfl, d, (fs.zip vs).reverse, h3, h4, by rw [upd_ne h2] at h1; exact h1, ?_⟩⟩⟩
    have hnd : H' d = none := by rw [upd_ne h2] at h1; exact h1
    have e2 : upd (del H2 a) d (.xd (fs.zip vs).reverse) = upd H' d (.xd (fs.zip vs).reverse) := by
      funext b
      by_cases z : b = d
      · rw [z, upd_same, upd_same]
      · rw [upd_ne z, upd_ne z]
        by_cases z2 : b = a
        · rw [z2, del_same, na]
        · rw [del_ne z2, h5 b z2 z, upd_ne z2]
    rw [e2]
    have x2 : Ext F' H' (upd F' d (.xd (fs.zip vs).reverse)) (upd H' d (.xd (fs.zip vs).reverse)) := Ext.new x'.s hnd
    refine (k σ) _ _ (.ref C) (some d) (S.ext.trans (x'.trans x2)) ⟨C, hm, rfl, .inr ⟨d, _, rfl, upd_same, fun f dd hd => ?_⟩⟩
    have := zip_look (fs := fs) (acc := []) (acd := []) (r.mono x2.f) (fun f d h => by cases h) f dd (by simpa using hd)
    simpa using this
  · simp only [if_neg hl] at k
    exact k.elim
end
/-! ### the same as before for bodies whose exceptions have a context -/
section
variable {X : Cx}
theorem try_walkZ {body : List Stmt} {h0 : ExceptHandler} {hds : List ExceptHandler} {l : List (Value × Option Nat × Sui)} {pos : Pos} {tb : WX → TS} {Wout : WX} (hs : X.stack = X.env :: X.outer) (hf : X.env.frame = some X.env.locals) (hN : X.N.Nodup) (tk : L2.Takes X Wout)
    (hb : ∀ (W : WX) (pn : List (Addr × Obj)) (xe : Value → Shared → Prop), L2.Takes (X.tr pn xe) W → PSs (X.tr pn xe) body (tb W)) (hh : HdsM X (h0 :: hds) l) : PS X (.Try body (h0 :: hds) [] [] pos) (fun D σ H => tb (wHm X.K Wout D l) D σ H) := ⟨fun pins s σ H D I h => by
  have ok := I.ok
  have hfr : X.A.frames = some (X.env :: X.outer) := (congrArg some hs).symm ▸ ok.frames
  refine wpAny_Try_except (wpAny_mono ((hb (wHm X.K Wout D l) (X.pn ++ pins) (fun e s1 => wpAny (model X.prog X.w) X.A (noteFrame e X.env) (fun _ s2 => wpAny (model X.prog X.w) X.A (setFlight e none) (fun _ s3 => wpAny (model X.prog X.w) X.A (handleBy e X.env (h0 :: hds)) (SP X pins D) X.xe s3) X.xe s2) X.xe s1) (fun u s' xx => ?_)).run [] s σ H D (I.toTry _) h) (fun fl s1 q => ?_) fun _ _ he => he)
  · obtain ⟨a, B, sI, pins', σ', H', cls, d, rfl, J', nb, up, sky, na, os, ag, w⟩ := xx
    have J : Inv X pins σ' H' sI := J'.ofTry ok
    refine L2.Sky.land Zc.steady hfr hf (show Sky B (X.env :: X.outer) a (Zc cls d) X.env.locals s'.heap from hs ▸ sky) fun h3 fl3 up3 => ?_
    have J3 : Inv X pins σ' H' { s' with heap := h3 } := J.landed nb fl3.1 (up.trans up3) os ag
    obtain ⟨o3, vs3, he3, hz3, hd3⟩ := fl3.there
    have nfr := not_framed fl3.2.2.1 he3 hd3
    have nL : a ≠ X.env.locals := fun z => nfr (List.mem_filterMap.mpr ⟨X.env, List.mem_cons_self, hf.trans (congrArg some z.symm)⟩)
    have nF : a ∉ X.fs := fun hm => let ⟨e, he, q⟩ := List.mem_filterMap.mp hm; nfr (List.mem_filterMap.mpr ⟨e, List.mem_cons_of_mem _ he, q⟩)
    have S3 := J3.suite he3 hd3 na nL nF
    have LT : PySem.W.Looks (model X.prog X.w) h3 (typeOf (.ref a)) cls := fun _ _ _ _ k q => wpAny_typeOf_ref (k _ _ he3) (hz3.1.symm ▸ q)
    have go : ∀ {ds : List ExceptHandler} {m : List (Value × Option Nat × Sui)}, HdsM X ds m → wHm X.K Wout D m cls d σ' H' → wpAny (model X.prog X.w) X.A (handleBy (.ref a) X.env ds) (SP X pins D) X.xe { s' with heap := h3 } := by
      intro ds m hk
      induction hk with
      | nil =>
        refine fun w => wpAny_handleBy_nil ?_
        obtain ⟨_, _, _, oe, vs, T, oT, ts', he, hz, hd, h1, hr⟩ := id fl3
        unfold PySem.passOn
        refine wpAny_bind (wpAny_field he hd h1 ?_)
        rw [if_neg (show ¬ ((Value.ref T == Value.none) = true) by simp)]
        have fin : wpAny (model X.prog X.w) X.A (setFlight (.ref a) X.env.frame) (fun _ s4 => wpAny (model X.prog X.w) X.A (throw (.ref a) : Sem Flow) (SP X pins D) X.xe s4) X.xe { s' with heap := h3 } := by
          rw [hf]
          exact HandSPX.setFlight_upZ fl3 fun h4 hh4 up4 => wpAny_throw (tk _ _ ⟨a, B, sI, pins, σ', H', cls, d, rfl, J, nb, (up.trans up3).trans up4, .inr (.inr (hs.symm ▸ hh4)), na, os, ag, w⟩)
        first | exact wpAny_bind (wpAny_pure (wpAny_bind fin)) | exact wpAny_bind fin
      | @named x n c i ts b0 suite np hp hds2 l2 hi hl hc hsu r ih =>
        rintro ⟨b, hb1, hyes, hno⟩
        have LM := PySem.W.exm_one (M := model X.prog X.w) (J3.kIn) LT hb1
        have test : ∀ {Q : Value → Shared → Prop} {E : Value → Shared → Prop}, Q c { s' with heap := h3 } → wpAny (model X.prog X.w) (X.A.mark (some (.ref a))) (eval (.Name x np) X.env) Q E { s' with heap := h3 } := fun {Q E} q => by
          obtain ⟨hg, hdbg, hm | ⟨hm, hv, hnn⟩⟩ := hc
          · exact ld_glob (X := X.suite a ((a, o3) :: (X.pn ++ pins))) S3 hg hm q hdbg
          · exact ld_blt (X := X.suite a ((a, o3) :: (X.pn ++ pins))) S3 hg hm hv q hnn hdbg
        refine wpAny_handleBy_cons (codeAny_handlers_test (test (LM.here ?_))) fun q => nomatch q
        cases b with
        | false => exact ih (hno rfl)
        | true =>
          refine codeAny_handlers_suite_as (HandSPX.lands_againZ fl3 fun h4 fl4 up4 => ?_)
          have J4 : Inv X pins σ' H' { s' with heap := h4 } := J.landed nb fl4.1 ((up.trans up3).trans up4) os ag
          obtain ⟨o4, vs4, he4, hz4, hd4⟩ := fl4.there
          refine store_ok (X := X.suite a ((a, o4) :: (X.pn ++ pins))) (v := .ref a) (J4.suite he4 hd4 na nL nF) hN hi (.inl hl) rfl (fun s5 S5 => ?_) (.inr hl)
          refine wpAny_mono ((hsu a o4 cls d (X.pn ++ pins) hz4 ⟨_, hd4⟩).run [] s5 _ H' _ S5 (hyes rfl a na)) (fun f s6 q => ?_) fun _ _ z => z.elim
          have fin : ∀ {σ6 : L2.St} {H6 : Hp} {Q : Shared → Prop}, Inv (X.suite a ((a, o4) :: (X.pn ++ pins))) [] σ6 H6 s6 → (∀ s7, Inv X pins (σ6.set i none) H6 s7 → Q s7) → wpAny (model X.prog X.w) X.A (do bindName X.env n .none; unbindBehindTheSuite X.env n hp) (fun _ s7 => Q s7) X.xe s6 :=
            fun S6 hq => gone_ok (S6.unsuite ok) hN hi hl hq
          cases f with
          | next => obtain ⟨σ6, H6, S6, q6⟩ := q; exact fin S6 fun s7 J7 => ⟨_, _, J7, q6⟩
          | brk => obtain ⟨σ6, H6, S6, q6⟩ := q; exact fin S6 fun s7 J7 => ⟨_, _, J7, q6⟩
          | cont => obtain ⟨σ6, H6, S6, q6⟩ := q; exact fin S6 fun s7 J7 => ⟨_, _, J7, q6⟩
          | ret u => obtain ⟨v6, σ6, H6, S6, r6, q6⟩ := q; exact fin S6 fun s7 J7 => ⟨_, _, _, J7, r6, q6⟩
      | @bare x c ts b0 suite np hp hds2 l2 hc hsu r ih =>
        rintro ⟨b, hb1, hyes, hno⟩
        have LM := PySem.W.exm_one (M := model X.prog X.w) (J3.kIn) LT hb1
        have test : ∀ {Q : Value → Shared → Prop} {E : Value → Shared → Prop}, Q c { s' with heap := h3 } → wpAny (model X.prog X.w) (X.A.mark (some (.ref a))) (eval (.Name x np) X.env) Q E { s' with heap := h3 } := fun {Q E} q => by
          obtain ⟨hg, hdbg, hm | ⟨hm, hv, hnn⟩⟩ := hc
          · exact ld_glob (X := X.suite a ((a, o3) :: (X.pn ++ pins))) S3 hg hm q hdbg
          · exact ld_blt (X := X.suite a ((a, o3) :: (X.pn ++ pins))) S3 hg hm hv q hnn hdbg
        refine wpAny_handleBy_cons (codeAny_handlers_test (test (LM.here ?_))) fun q => nomatch q
        cases b with
        | false => exact ih (hno rfl)
        | true =>
          refine codeAny_handlers_suite (HandSPX.lands_againZ fl3 fun h4 fl4 up4 => ?_)
          have J4 : Inv X pins σ' H' { s' with heap := h4 } := J.landed nb fl4.1 ((up.trans up3).trans up4) os ag
          obtain ⟨o4, vs4, he4, hz4, hd4⟩ := fl4.there
          refine wpAny_mono ((hsu a o4 cls d (X.pn ++ pins) hz4 ⟨_, hd4⟩).run [] _ _ H' _ (J4.suite he4 hd4 na nL nF) (hyes rfl a na)) (fun f s6 q => ?_) fun _ _ z => z.elim
          cases f with
          | next => obtain ⟨σ6, H6, S6, q6⟩ := q; exact ⟨_, _, S6.unsuite ok, q6⟩
          | brk => obtain ⟨σ6, H6, S6, q6⟩ := q; exact ⟨_, _, S6.unsuite ok, q6⟩
          | cont => obtain ⟨σ6, H6, S6, q6⟩ := q; exact ⟨_, _, S6.unsuite ok, q6⟩
          | ret u => obtain ⟨v6, σ6, H6, S6, r6, q6⟩ := q; exact ⟨_, _, _, S6.unsuite ok, r6, q6⟩
    exact go hh w
  · cases fl with
    | next => obtain ⟨σ', H', J', q⟩ := q; exact wpAny_execs_nil ⟨σ', H', J'.ofTry ok, q⟩
    | brk => obtain ⟨σ', H', J', q⟩ := q; exact ⟨σ', H', J'.ofTry ok, q⟩
    | cont => obtain ⟨σ', H', J', q⟩ := q; exact ⟨σ', H', J'.ofTry ok, q⟩
    | ret u => obtain ⟨v, σ', H', J', r, q⟩ := q; exact ⟨v, σ', H', J'.ofTry ok, r, q⟩⟩
end
section
variable {X : Cx} {κ : Nat → Kd} {E : EX} {sts : List Stmt}
theorem ds_tryGZ {h0 : ExceptHandler} {hds : List ExceptHandler} {l : List SutM} {pos : Pos} {tb : Tbl} {me : Env → Res D} {mfin : D → Env → Out} {fin : Ends → V → L2.St → Hp → Prop}
    (hb : ∀ (W : WX) (pn : List (Addr × Obj)) (xe : Value → Shared → Prop), L2.Takes (X.tr pn xe) W → PSs (X.tr pn xe) sts (fun D σ H => rdE X.mg X.K κ ⟨WE W, E.ret⟩ me σ H fun v H' => fin D v σ H'))
    (hfin : ∀ (Dn : Ends) (F0 H0 F H : Hp) (σ : L2.St) (ρ : Env) (v : V) (d : D), Stt X.K κ F0 H0 F H σ ρ → Rp X.K F v d → OutOk X.mg X.K κ E F0 H0 F H Dn (mfin d ρ) → fin Dn v σ H)
    (hd : HdsMD X κ E (h0 :: hds) l) (ht : TblOk X.K X.mg tb) (hcl : ∀ n ∈ l, ∃ cv, X.mg n.cls = some cv) (hN : X.N.Nodup) (tk : L2.Takes X (fun cls d σ H => E.err σ cls d H)) (hs : X.stack = X.env :: X.outer := by rfl) (hf : X.env.frame = some X.env.locals := by rfl) :
    DS X κ E (.Try sts (h0 :: hds) [] [] pos) (mTryM tb me mfin l) := by
  obtain ⟨l', h⟩ := hds_ofM hd ht
  obtain ⟨h1, h2⟩ := h fun _ => hcl
  refine (try_walkZ hs hf hN tk hb h1).imp fun Dn σ H ⟨F0, H0, F, ρ, S, k⟩ => ⟨F0, H0, F, ρ, S, ?_⟩
  unfold mTryM at k
  cases q : me ρ with
  | ok d =>
    simp only [q] at k
    exact fun v F' H' x r => hfin Dn F0 H0 F' H' σ ρ v d (S.mono x) r (OutOk.mono (H := H) x.f k)
  | err y =>
    simp only [q] at k
    exact fun F' H' c dd x rep => h2 Dn F0 H0 F' H' σ ρ y c dd (S.mono x) rep (OutOk.mono (H := H) x.f k)
  | stk => simp only [q] at k; exact k.elim
/-- try: x = e -/
theorem ds_tryAZ {e : Expr} {x : Str} {i : Nat} {px ps : Pos} {h0 : ExceptHandler} {hds : List ExceptHandler} {l : List SutM} {pos : Pos} {tb : Tbl} {me : Env → Res D} (hk : κ i = .im) (hi : X.N[i]? = some x) (hx : Loc X.env.scope x) (he : ∀ (W : WX) (pn : List (Addr × Obj)) (xe : Value → Shared → Prop), L2.Takes (X.tr pn xe) W → DE (X.tr pn xe) κ ⟨WE W, E.ret⟩ e me)
    (hd : HdsMD X κ E (h0 :: hds) l) (ht : TblOk X.K X.mg tb) (hcl : ∀ n ∈ l, ∃ cv, X.mg n.cls = some cv) (hN : X.N.Nodup) (tk : L2.Takes X (fun cls d σ H => E.err σ cls d H)) (hs : swapsWith e (some (.Name x px)) ps.line X.env = pure false := by rfl)
    (hf : X.fn x = true ∨ X.env.scope.names.lookup x = some .local := by first | exact .inl rfl | exact .inr rfl | assumption) (hst : X.stack = X.env :: X.outer := by rfl) (hfr : X.env.frame = some X.env.locals := by rfl) :
    DS X κ E (.Try [.Assign [.Name x px] e ps] (h0 :: hds) [] [] pos) (mTryM tb me (fun d ρ => .nx (ρ.set i (some d))) l) :=
  ds_tryGZ (fin := fun D v σ H => D.nx (σ.set i (some v)) H) (fun W pn xe tk => pss_one (ps_set (i := i) (X := X.tr pn xe) hN hi hx (he W pn xe tk) hs hf)) (fun Dn F0 H0 F H σ ρ v d S r k => k _ F H (Ex.refl F) (S.set hk r)) hd ht hcl hN tk hst hfr
/-- try: what returns -/
theorem ds_trySZ {h0 : ExceptHandler} {hds : List ExceptHandler} {l : List SutM} {pos : Pos} {tb : Tbl} {me : Env → Res D} (he : ∀ (W : WX) (pn : List (Addr × Obj)) (xe : Value → Shared → Prop), L2.Takes (X.tr pn xe) W → DR (X.tr pn xe) κ ⟨WE W, E.ret⟩ sts me)
    (hd : HdsMD X κ E (h0 :: hds) l) (ht : TblOk X.K X.mg tb) (hcl : ∀ n ∈ l, ∃ cv, X.mg n.cls = some cv) (hN : X.N.Nodup) (tk : L2.Takes X (fun cls d σ H => E.err σ cls d H)) (hR : ∀ H0 d v F H, Rp X.K F v d → E.ret H0 d v F H := by exact fun _ _ _ _ _ h => h) (hst : X.stack = X.env :: X.outer := by rfl) (hfr : X.env.frame = some X.env.locals := by rfl) :
    DS X κ E (.Try sts (h0 :: hds) [] [] pos) (mTryM tb me (fun d _ => .rt d) l) :=
  ds_tryGZ (fin := fun D v _ H => D.rt v H) (fun W pn xe tk => he W pn xe tk) (fun Dn F0 H0 F H σ ρ v d S r k => k v F H S.ext (hR _ _ _ _ _ r)) hd ht hcl hN tk hst hfr
/-- try: e -/
theorem ds_tryEZ {e : Expr} {ps : Pos} {h0 : ExceptHandler} {hds : List ExceptHandler} {l : List SutM} {pos : Pos} {tb : Tbl} {me : Env → Res D} (he : ∀ (W : WX) (pn : List (Addr × Obj)) (xe : Value → Shared → Prop), L2.Takes (X.tr pn xe) W → DE (X.tr pn xe) κ ⟨WE W, E.ret⟩ e me)
    (hd : HdsMD X κ E (h0 :: hds) l) (ht : TblOk X.K X.mg tb) (hcl : ∀ n ∈ l, ∃ cv, X.mg n.cls = some cv) (hN : X.N.Nodup) (tk : L2.Takes X (fun cls d σ H => E.err σ cls d H)) (hs : swapsWith e none ps.line X.env = pure false := by rfl) (hst : X.stack = X.env :: X.outer := by rfl) (hfr : X.env.frame = some X.env.locals := by rfl) :
    DS X κ E (.Try [.Expr e ps] (h0 :: hds) [] [] pos) (mTryM tb me (fun _ ρ => .nx ρ) l) :=
  ds_tryGZ (fin := fun D _ σ H => D.nx σ H) (fun W pn xe tk => pss_one (ps_expr (he W pn xe tk) hs)) (fun Dn F0 H0 F H σ ρ v d S r k => k _ F H (Ex.refl F) S) hd ht hcl hN tk hst hfr
end
theorem de_lift {X : Cx} {κ : Nat → Kd} {E : EX} {e : Expr} {m : Env → Res D} {a : Addr} {pn : List (Addr × Obj)} {xe : Value → Shared → Prop} (h : DE (X.suite a pn) κ E e m) : DE (suX X a xe pn) κ E e m :=
  ⟨fun pins s σ H Q I q => wpAny_mono (h.run pins s σ H Q (Inv.wish (X := suX X a xe pn) I fun _ _ => False) q) (fun v s' ⟨x, H', J, r, k⟩ => ⟨x, H', Inv.wish (X := X.suite a pn) J xe, r, k⟩) fun _ _ z => z.elim⟩
theorem no_cxZ {P : Program} {w : World} {H : Hp} {s : Shared} {e : Value} {s' : Shared} (h : L2.CX P w [] H s (fun _ _ _ => False) e s') : False := by
  obtain ⟨_, _, _, _, _, _, _, _, _, _, _, _, z⟩ := h
  exact z
theorem sg_hndlX {tb : Tbl} {x : Exn} : ∀ {l : List SutM}, StrM l → ∀ ρ, (∀ ρ', hndlX tb l x ρ ≠ .bk ρ') ∧ ∀ ρ', hndlX tb l x ρ ≠ .ct ρ'
  | [], _, ρ => sg_err
  | q :: l, h, ρ => by
    have ih := sg_hndlX (tb := tb) (x := x) (l := l) (fun z hz => h z (by simp [hz])) ρ
    have hq := h q (by simp) x.cls
    unfold hndlX
    cases tb x.cls q.cls with
    | none => exact sg_stk
    | some b =>
      cases b with
      | false => exact ih
      | true =>
        cases q.slot with
        | some i =>
          have := hq (ρ.set i (some (xD x.fs)))
          simp only
          generalize q.m x.cls (ρ.set i (some (xD x.fs))) = o at this ⊢
          cases o with
          | nx ρ' => exact sg_nx
          | bk ρ' => exact absurd rfl (this.1 ρ')
          | ct ρ' => exact absurd rfl (this.2 ρ')
          | rt d => exact sg_rt
          | err y => exact sg_err
          | stk => exact sg_stk
        | none => exact hq ρ
theorem sg_tryX {tb : Tbl} {me : Env → Res D} {fin : D → Env → Out} {l : List SutM} (hf : ∀ d, Straight (fin d)) (hl : StrM l) : Straight (mTryX tb me fin l) := fun ρ => by
  unfold mTryX
  cases me ρ with
  | ok d => exact hf d ρ
  | err x => exact sg_hndlX hl ρ
  | stk => exact sg_stk
end WD

/-! defs that are called within an except clause -/
namespace WD
open PySem PySem.Spec PyProof.Rows L2
open Evl (Ex Ex.refl Ex.trans Ex.new Ex.mut ex_l ex_t fresh_back)
theorem roomH_u {k : Nat} {A : Around} (r : L2H.RoomH k A) : A.units + 65 < cLine := by have := r.un; omega
theorem _root_.L2.Room.u65 {k : Nat} {A : Around} (r : Room k A) : A.units + 65 < cLine := by have := r.un; omega
theorem roomH_v {k : Nat} {A : Around} (r : L2H.RoomH k A) : A.units + 64 < cLine := by have := r.un; omega
section
variable {X : Cx} {κ : Nat → Kd} {E : EX} {a b : Expr} {pos : Pos} {ma mb : Env → Res D}
theorem de_inYU (hu : X.A.units + 65 < cLine) (ha : DB X κ E a ma) (hb : DB X κ E b mb) (hm : behindInMarks .In b = false := by rfl) : DE X κ E (.Compare a [.In] [b] pos) (mBin inY ma mb) := de_cmp (op_inY hu) (op2_inY _) (inYf_ne _) ha hb hm
theorem de_notInYU (hu : X.A.units + 65 < cLine) (ha : DB X κ E a ma) (hb : DB X κ E b mb) (hm : behindInMarks .NotIn b = false := by rfl) : DE X κ E (.Compare a [.NotIn] [b] pos) (mBin notInY ma mb) := de_cmp (op_notInY hu) (op2_inY _) (inYf_ne _) ha hb hm
theorem dt_inYU (hu : X.A.units + 65 < cLine) (ha : DB X κ E a ma) (hb : DB X κ E b mb) (hm : behindInMarks .In b = false := by rfl) : DT X κ E (.Compare a [.In] [b] pos) (mTru (mBin inY ma mb)) := dt_cmp (op_inY hu) (op2_inY _) (inYf_ne _) (inYf_b _) ha hb hm
theorem dt_notInYU (hu : X.A.units + 65 < cLine) (ha : DB X κ E a ma) (hb : DB X κ E b mb) (hm : behindInMarks .NotIn b = false := by rfl) : DT X κ E (.Compare a [.NotIn] [b] pos) (mTru (mBin notInY ma mb)) := dt_cmp (op_notInY hu) (op2_inY _) (inYf_ne _) (inYf_b _) ha hb hm
end
section
variable {prog : Program} {w : World} {A : Around} {E : Value → Shared → Prop} {s : Shared}
/-- the end of a tuple's walk, an exception being handled -/
theorem tuple_ends_hot {it t x1 : Addr} {i : Nat} {items : Array Value} {Q : Option Value → Shared → Prop} (hot : HotX.HotAt A x1 s.heap) (hit : s.heap.IsTupleIter it t i) (ht : s.heap.IsTuple t items) (hx : items[i]? = none) (ne : x1 ≠ it)
    (hQ : ∀ h', Heap.ExtBut it s.heap h' → Q none { s with heap := h' }) : wpAny (model prog w) A (pyNext (.ref it)) Q E s := by
  obtain ⟨oi, hoi, hci, hdi⟩ := id hit
  obtain ⟨ot, hot', _, nt, hdt⟩ := ht
  obtain ⟨hh, o1, v1, h1, d1, c1⟩ := hot
  unfold pyNext
  refine wpAny_bind (wpAny_attempt (wpAny_callSpecial?_slot (name := Str.ofString "__next__") hit.typeIs F.slot_tuple_iterator_next (wpAny_call_entry F.slot_tuple_iterator_next hit.typeIs F.entry_tuple_iterator_next ?_ (F.args_tuple_iterator_next_1 _))))
  show wpAny _ _ (field (.ref it) 0 >>= _) _ _ s
  refine wpAny_bind (wpAny_field hoi hdi (x := .ref t) rfl ?_)
  show wpAny _ _ (if (Value.ref t == Value.none) = true then _ else _) _ _ s
  have nn : ¬ ((Value.ref t == Value.none) = true) := Bool.false_ne_true
  rw [if_neg nn]
  show wpAny _ _ (field (.ref it) 1 >>= _) _ _ s
  refine wpAny_bind (wpAny_field hoi hdi (x := .int i 0) rfl (wpAny_bind (wpAny_seqItems hot' hdt ?_)))
  simp only [Int.toNat_natCast, hx]
  refine wpAny_bind (wpAny_rule (wpAny_bind (wpAny_setField hoi hdi (by simp) ?_)))
  show wpAny _ _ (newExc (.type "StopIteration") [] >>= _) _ _ _
  refine wpAny_bind ?_
  simp only [newExc, newTuple]
  refine wpAny_bind (wpAny_newObj_type (wpAny_bind (m := firstArgMember _ _) (wpAny_of_eq (a := Value.none) (by first | rfl | (simp only [firstArgMember]; rfl)) (wpAny_newObj_type ?_ (by size_fits)))) (by size_fits))
  have h1u : (s.heap.update it (Obj.mapFields (·.setIfInBounds 0 Value.none))).get? x1 = some o1 := by rw [Heap.get?_update_other _ _ (Ne.symm ne)]; exact h1
  have sb : Heap.ExtBut it s.heap (s.heap.update it (Obj.mapFields (·.setIfInBounds 0 Value.none))) := (Heap.SameBut.update ..).extBut
  generalize s.heap.update it (Obj.mapFields (·.setIfInBounds 0 Value.none)) = hU at h1u sb ⊢
  have p1 := Heap.get?_push_of_some { cls := .type "tuple", dict := none, data := .seq #[] } h1u
  have lt1 := Heap.lt_size p1
  refine HotX.raiseNew_hot ⟨hh, o1, v1, Heap.get?_push_of_some _ p1, d1, c1⟩ (Nat.ne_of_lt lt1) (Heap.get?_push_size _ rfl) rfl (by first | (simp; done) | (simp; omega) | (simp only [Array.size_append]; simp; omega)) ?_
  refine wpAny_bind (wpAny_isInstance (T := "StopIteration") (b := true) ⟨_, Heap.get?_update_self _ (Heap.get?_push_size _ rfl) rfl, rfl⟩ isSubtype_stop (wpAny_pure (hQ _ ?_)))
  intro b o hb e
  have e2 := Heap.get?_push_of_some { cls := .type "tuple", dict := none, data := .seq #[] } (sb b o hb e)
  rw [Heap.get?_update_other _ _ (Nat.ne_of_gt (Heap.lt_size e2))]
  exact Heap.get?_push_of_some _ e2
end
theorem turn_tupH {P : Program} {w : World} {K : PySem.W.Frag} {tg : Expr} (a it : Addr) : L2H.TurnH P w K tg (Itt K a) [it] it (fun i h => h.IsTupleIter it a i) where
  mem := List.mem_singleton.mpr rfl
  obj := fun i h st b hb => by
    cases List.mem_singleton.mp hb
    obtain ⟨o, e, c, d⟩ := st
    refine ⟨o, e, fun v z => ?_⟩
    rw [d] at z
    cases z
  keep := fun i h h' st k => st.at fun o e => k it (List.mem_singleton.mpr rfl) o e
  item := by
    intro X e1 e2 e3 hot i pins s σ H E I hf st ⟨xs, x, hq, hx⟩
    subst e1 e2 e3
    obtain ⟨its, rv, p, hz⟩ := I.tuple hq
    obtain ⟨u, hu, ru⟩ := rv.get hx
    obtain ⟨f0, f1, f2, f3, f4, f5⟩ := hf it (List.mem_singleton.mpr rfl)
    have tup : s.heap.IsTuple a its.toArray := p
    refine wpAny_pyNext_tuple_item st tup (x := u) (by simpa using hu) fun h' st' sb => ?_
    have J : Inv X pins σ H { s with heap := h' } := I.turned (t' := s.toks) (fun b o hb e => (sb.2 b hb).trans e) f0 f1 f3 f4 f5
    obtain ⟨o, e, c, d⟩ := id st'
    have yl : (Itt X.K a).yld i H x H := ⟨rfl, fun ys hy => by rw [I.tuple_inj hy hq]; exact hx⟩
    exact ⟨u, rfl, go_of (s := { s with heap := h' }) e c d (by decide) ⟨x, H, J, ru, yl, st', fun b hb => (hf b hb).1⟩⟩
  done := by
    intro X e1 e2 e3 hot i pins s σ H E I hf st ⟨xs, hq, hx⟩
    subst e1 e2 e3
    obtain ⟨its, rv, p, hz⟩ := I.tuple hq
    obtain ⟨f0, f1, f2, f3, f4, f5⟩ := hf it (List.mem_singleton.mpr rfl)
    have tup : s.heap.IsTuple a its.toArray := p
    have out : its.toArray[i]? = none := by have := rv.length; simp; omega
    obtain ⟨q, ⟨hq1, v1, d1, c1⟩, hq2⟩ := id hot
    obtain ⟨oi, hoi, hci, hdi⟩ := id st
    have pin1 := (I.pin q (List.mem_append_left _ hq2))
    have ne : q.1 ≠ it := fun z => by
      have h2 := pin1.1
      rw [z, hoi] at h2
      cases h2
      rw [hdi] at d1
      cases d1
      simp at c1
    exact tuple_ends_hot ⟨hq1, q.2, v1, pin1.1, d1, c1⟩ st tup out ne fun h' eb => ⟨rfl, I.turned (t' := s.toks) (fun b o hb e => eb b o hb e) f0 f1 f3 f4 f5⟩
  self := fun _ _ _ _ _ st h => wpAny_pyIter_tupleiter st h
section
variable {X : Cx} {κ κe : Nat → Kd} {E : EX} {e tg it : Expr} {es : List Expr} {pos : Pos} {sts : List Stmt} {ma : Env → Res D}
theorem pi_tupH {te : TE} (h : PE X e te) : L2H.PIH X tg e (iTup X.K te) := ⟨fun pins s σ H R I q => thn (h.run pins s σ H _ I q) fun v s1 ⟨x, H1, I1, r1, a, ex, ⟨xs, hq⟩, k⟩ => by
  subst ex
  cases r1
  obtain ⟨its, rv, p, hz⟩ := I1.tuple hq
  have tup : s1.heap.IsTuple a its.toArray := p
  refine wpAny_pyIter_tuple tup ⟨s1.heap.objs.size, [s1.heap.objs.size], _, _, H1, rfl, I1.kept (t' := s1.toks) fun b o z => Heap.get?_push_of_some _ z, turn_tupH a _, ⟨_, Heap.get?_push_size _ rfl, rfl, rfl⟩, fun b hb => ?_, k⟩
  cases List.mem_singleton.mp hb
  exact I1.fpOk (Nat.le_refl _) (I1.hok.fresh (Nat.le_refl _))⟩
def itT : D → Res (List D)
  | .tuple ds => .ok ds
  | _ => .stk
def mItT (m : Env → Res D) : Env → Res (List D) := fun ρ => (m ρ).bind itT
def DIH (X : Cx) (κ : Nat → Kd) (E : EX) (tg it : Expr) (m : Env → Res (List D)) : Prop := L2H.PIH X tg it (rdI X.mg X.K κ E m)
theorem di_tupH (h : DE X κ E e ma) : DIH X κ E tg e (mItT ma) := ⟨fun pins s σ H R I ⟨F0, H0, F, ρ, S, k⟩ => by
  have k := Res.sat_bind k
  cases hd : ma ρ with
  | err x =>
    refine (pi_tupH h).run pins s σ H R I ⟨F0, H0, F, ρ, S, ?_⟩
    rw [hd] at k ⊢
    exact k
  | stk => rw [hd] at k; exact k.elim
  | ok d =>
    rw [hd] at k
    cases d with
    | tuple ds =>
      refine (pi_tupH h).run pins s σ H R I ⟨F0, H0, F, ρ, S, ?_⟩
      rw [hd]
      intro v F' H' x r
      cases r with
      | @tup a vs _ h1 h2 => exact ⟨a, rfl, ⟨vs, ex_t x.s h1⟩, k _ F' H' x (walkd_at walk_tup h2 (fun F2 H2 p s => ex_t (p.trans s) h1) fun F2 H2 p => p)⟩
    | _ => exact k.elim⟩
theorem ds_forH {is : List Nat} {mi : Env → Res (List D)} {g : D → Env → Option Env} {b : Env → Out} (hp : PassesOwn (model X.prog X.w) X.A X.env X.xe) (hc : L2H.HotC X) (hi : DIH X κ E tg it mi) (hg : DG X κ tg is g) (hb : DSs X κ E sts b)
    (hs : ∀ x, foldedSetIterable it X.env x = pure x := by intro _; rfl) : DS X κ E (.For tg it sts [] pos) (mFor mi g b) :=
  (L2H.ps_forH hp hc hi hg hb hs).imp for_read
/-- a def called there, its promise by a mirror -/
structure FnHot (P : Program) (w : World) (K : Frag) (mg : Mg) (base : Heap) (k : Nat) (x : Str) (ps : List Str) (m : List D → Res D) : Prop where
  ex : ∃ f fd, mg x = some (.ref f) ∧ PySem.W.keepIn K (.ref f) = true ∧ Binds K fd ps [] ∧ L2H.FnH P w K mg base (L2.CX P w) k f fd ps (spM mg K ps.length m)
theorem de_callHot {k : Nat} {x : Str} {p : Pos} {ps : List Str} {m : List D → Res D} {ma : Env → Res (List D)} (G : FnHot X.prog X.w X.K X.mg X.base k x ps m) (hr : L2H.RoomH k X.A) (hot : L2H.HotC X) (tk : L2.Takes X (fun cls d σ H => E.err σ cls d H)) (hg : Gl X x) (ha : DA X κ E (e :: es) ma)
    (hma : ∀ ρ ds, ma ρ = .ok ds → ds.length = ps.length)
    (hdb : (x == ("__debug__" : Str)) = false := by decide) (he : starEach (e :: es) X.env = (false, eval e X.env) :: starEach es X.env := by rfl) (hpl : (backTo pos (starEach es X.env)).any (·.1) = false := by rfl) :
    DE X κ E (.Call (.Name x p) (e :: es) [] pos) (mCall m ma) := by
  obtain ⟨f, fd, hm, hk, hb, hF⟩ := G.ex
  have px : ∀ σ, PassesAt (L2.CX X.prog X.w) X σ (E.err σ) := fun σ _ _ _ e s' I c => tk e s' (L2.XE.of_call I (fun _ _ _ h => h) c)
  refine (L2H.pe_callH hF hr hot hg hm hk hb px ha hdb he hpl).imp fun σ H Q ⟨F0, H0, F, ρ, S, c⟩ => ⟨F0, H0, F, ρ, S, Res.sat_imp (Res.sat_bind c) (fun ds q k vs F' H' x r => ?_) fun _ z => z⟩
  refine ⟨by rw [r.length, hma ρ ds q], F', ds, x.s, x.n S.nf, r, Res.sat_imp k (fun d _ k v F2 H2 x2 r2 => k v F2 H2 (x.trans x2) r2) fun _ z => z.mono x⟩
end
theorem hot_cxH {CX : CXT} {P : Program} {w : World} {K : PySem.W.Frag} {mg : Str → Option Value} {base : Heap} {N : List Str} {qual : Str} {scope : Scope} {f : Addr} {cd : Value} {A : Around} {outer : List PySem.Env} {s : Shared} {H : Hp} {E : XK} {p : Addr × Obj} (h : L2H.Hot1 A p) :
    L2H.HotC (L2H.cxH CX P w K mg base N qual scope f cd A outer s H E p) := ⟨p, ⟨h.1, h.2⟩, List.mem_singleton.mpr rfl⟩
theorem pownH {CX : CXT} {P : Program} {w : World} {K : PySem.W.Frag} {mg : Str → Option Value} {base : Heap} {N : List Str} {qual : Str} {scope : Scope} {f : Addr} {cd : Value} {A : Around} {outer : List PySem.Env} {s : Shared} {H : Hp} {E : XK} {p : Addr × Obj} :
    PassesOwn (model P w) (A.deeper (envOfC qual scope s.heap.objs.size f cd)) (envOfC qual scope s.heap.objs.size f cd) (L2H.cxH CX P w K mg base N qual scope f cd A outer s H E p).xe := PassesOwn.leaving
theorem fn_okHot {κ κe : Nat → Kd} {P : Program} {w : World} {K : Frag} {mg : Mg} {base : Heap} {x qual : Str} {st : Stmt} {f : Addr} {fd : FuncData} {N ps : List Str} {k n : Nat} {body : Env → Out} (F : Fun K x qual st f fd) (S : FnScope N ps (defScope st)) (hn : N.length = n)
    (hk : ∀ i, i < ps.length → κ i = .im)
    (hbody : ∀ (cdv : Value) (A : Around) (outer : List PySem.Env) (s : Shared) (H : Hp) (E : XK) (p : Addr × Obj), L2H.HotC (L2H.cxH (L2.CX P w) P w K mg base N qual (defScope st) f cdv A outer s H E p) → L2H.RoomH k (A.deeper (envOfC qual (defScope st) s.heap.objs.size f cdv)) →
      DSs2 (L2H.cxH (L2.CX P w) P w K mg base N qual (defScope st) f cdv A outer s H E p) κ κe (eX K E) (defBody st) body) : L2H.FnH P w K mg base (L2.CX P w) (k + 1) f fd ps (spM mg K ps.length (mkFn n body)) := by
  subst hn
  obtain ⟨oc, od, kV, doc, pm, an, cdv, ct, osl, rfl, lk, hcd⟩ := F.ex
  refine L2H.fn_ofH lk hcd S (fun vs H Q E h => h.1) fun A outer s H vs Q E p hot hr h => ⟨_, hbody cdv A outer s H E p (hot_cxH hot) hr, ?_⟩
  obtain ⟨hl, F, ds, e, nf, r, c⟩ := h
  refine ⟨F, H, F, _, fn_start e nf r hl hk, ?_⟩
  unfold mkFn at c
  generalize ho : body (ds.map some ++ List.replicate (N.length - ds.length) none) = o at c ⊢
  cases o with
  | nx ρ => exact fun σ' F' H' _ S' => c .non F' H' S'.ext .non
  | bk ρ => exact c.elim
  | ct ρ => exact c.elim
  | rt d => exact c
  | err x => exact fun _ => c
  | stk => exact c
end WD

/-! a < b <= c < d : three comparisons of whole numbers -/
namespace L2
open PySem PySem.Spec PyProof.Rows
section
variable {X : Cx} {a b c e : Expr} {ta tb tc td : TE} {pos : Pos}
def tChain3 (r r' r'' : R2) (ta tb tc td : TE) : TE := fun σ H Q => ta σ H fun x H1 => tb σ H1 fun y H2 => r x y H2 fun z H3 => ∃ k, z = .bl k ∧
  (if k = true then tc σ H3 fun w' H4 => r' y w' H4 fun z2 H5 => ∃ k2, z2 = .bl k2 ∧ (if k2 = true then td σ H5 fun w2 H6 => r'' w' w2 H6 Q else Q (.bl false) H5) else Q (.bl false) H3)
theorem pe_chain3 {op op' op'' : CmpOp} {r r' r'' : R2} (ho : OpR X (compareOp op) r) (ho' : OpR X (compareOp op') r') (ho2 : OpR X (compareOp op'') r'') (ha : PE X a ta) (hb : PE X b tb) (hc : PE X c tc) (hd : PE X e td)
    (hm : lastMarks [op, op', op''] [b, c, e] = false := by with_unfolding_all rfl) : PE X (.Compare a [op, op', op''] [b, c, e] pos) (tChain3 r r' r'' ta tb tc td) := by
  refine ⟨fun pins s σ H Q I h => ?_⟩
  refine Compare_chain (thn (ha.run pins s σ H _ I h) fun v s1 ⟨x, H1, I1, r1, q1⟩ => chain_link (thn (hb.run pins s1 σ H1 _ I1 q1) fun u s2 ⟨y, H2, I2, r2, q2⟩ =>
    thn (ho pins s2 σ H2 x y v u _ I2 r1 r2 q2) fun d s3 ⟨z, H3, I3, r3, k, e, q3⟩ => ?_)) hm
  subst e
  cases r3
  refine wpAny_truthy_bool ?_
  cases k with
  | false => exact ite_ff ⟨.bl false, H3, I3, rfl, q3⟩
  | true =>
    refine ite_tt (chain_link (thn (hc.run pins s3 σ H3 _ I3 q3) fun w' s4 ⟨z', H4, I4, r4, q4⟩ => thn (ho' pins s4 σ H4 y z' u w' _ I4 r2 r4 q4) fun d' s5 ⟨z2, H5, I5, r5, k2, e2, q5⟩ => ?_))
    subst e2
    cases r5
    refine wpAny_truthy_bool ?_
    cases k2 with
    | false => exact ite_ff ⟨.bl false, H5, I5, rfl, q5⟩
    | true => exact ite_tt (chain_last (thn (hd.run pins s5 σ H5 _ I5 q5) fun w2 s6 ⟨z3, H6, I6, r6, q6⟩ => ho2 pins s6 σ H6 z' z3 w' w2 Q I6 r4 r6 q6))
theorem pt_chain3 {op op' op'' : CmpOp} {r r' r'' : R2} (ho : OpR X (compareOp op) r) (ho' : OpR X (compareOp op') r') (ho2 : OpR X (compareOp op'') r'') (ha : PE X a ta) (hb : PE X b tb) (hc : PE X c tc) (hd : PE X e td)
    (hm : lastMarks [op, op', op''] [b, c, e] = false := by with_unfolding_all rfl) : PT X (.Compare a [op, op', op''] [b, c, e] pos) (tTest (tChain3 r r' r'' ta tb tc td)) := by
  refine ⟨fun pins s σ H Q I h => ?_⟩
  refine isTrue_chain (thn (ha.run pins s σ H _ I h) fun v s1 ⟨x, H1, I1, r1, q1⟩ => test_link (thn (hb.run pins s1 σ H1 _ I1 q1) fun u s2 ⟨y, H2, I2, r2, q2⟩ =>
    thn (ho pins s2 σ H2 x y v u _ I2 r1 r2 q2) fun d s3 ⟨z, H3, I3, r3, k, e, q3⟩ => ?_)) hm
  subst e
  cases r3
  refine wpAny_truthy_bool ?_
  cases k with
  | false =>
    obtain ⟨k', e', q'⟩ := q3
    cases e'
    exact ite_ff ⟨H3, I3, q'⟩
  | true =>
    refine ite_tt (test_link (thn (hc.run pins s3 σ H3 _ I3 q3) fun w' s4 ⟨z', H4, I4, r4, q4⟩ => thn (ho' pins s4 σ H4 y z' u w' _ I4 r2 r4 q4) fun d' s5 ⟨z2, H5, I5, r5, k2, e2, q5⟩ => ?_))
    subst e2
    cases r5
    refine wpAny_truthy_bool ?_
    cases k2 with
    | false =>
      obtain ⟨k', e', q'⟩ := q5
      cases e'
      exact ite_ff ⟨H5, I5, q'⟩
    | true =>
      refine ite_tt (test_last (thn (hd.run pins s5 σ H5 _ I5 q5) fun w2 s6 ⟨z3, H6, I6, r6, q6⟩ => thn (ho2 pins s6 σ H6 z' z3 w' w2 _ I6 r4 r6 q6) fun d2 s7 ⟨z4, H7, I7, r7, k3, e3, q7⟩ => ?_))
      subst e3
      cases r7
      exact wpAny_truthy_bool ⟨H7, I7, q7⟩
end
end L2
namespace WD
open PySem PySem.Spec PyProof.Rows L2
open Evl (Ex Ex.refl Ex.trans Ex.new Ex.mut ex_l ex_t fresh_back)
section
variable {X : Cx} {κ : Nat → Kd} {E : EX} {a b c e : Expr} {ma mb mc md : Env → Res D} {pos : Pos}
def mChain3 (p q r : Int → Int → Bool) (ma mb mc md : Env → Res D) : Env → Res D := fun ρ => (ma ρ).bind fun x => (mb ρ).bind fun y => (cmpD p x y).bind fun d => (boolD d).bind fun b =>
  if b = true then (mc ρ).bind fun z => (cmpD q y z).bind fun d => (boolD d).bind fun b2 => if b2 = true then (md ρ).bind fun w => cmpD r z w else .ok (.bool false) else .ok (.bool false)
@[simp] theorem mChain3_at (p q r : Int → Int → Bool) (a b c d : Env → Res D) (ρ : Env) : mChain3 p q r a b c d ρ = (a ρ).bind fun x => (b ρ).bind fun y => (cmpD p x y).bind fun d1 => (boolD d1).bind fun k => if k = true then (c ρ).bind fun z => (cmpD q y z).bind fun d1 => (boolD d1).bind fun k => if k = true then (d ρ).bind fun w => cmpD r z w else .ok (.bool false) else .ok (.bool false) := rfl
theorem chain3_read {p q r : Int → Int → Bool} {mg : Mg} {K : Frag} : ∀ σ H Q, rdE mg K κ E (mChain3 p q r ma mb mc md) σ H Q → tChain3 (rI0 fun i j => .bl (p i j)) (rI0 fun i j => .bl (q i j)) (rI0 fun i j => .bl (r i j)) (rdE mg K κ E ma) (rdE mg K κ E mb) (rdE mg K κ E mc) (rdE mg K κ E md) σ H Q :=
  fun σ H Q ⟨F0, H0, F, ρ, S, c⟩ => ⟨F0, H0, F, ρ, S, Res.sat_imp (Res.sat_bind c) (fun x _ k v1 F1 H1 x1 r1 =>
    ⟨F0, H0, F1, ρ, S.mono x1, Res.sat_imp (Res.sat_bind k) (fun y _ k v2 F2 H2 x2 r2 => by
      obtain ⟨i, j, rfl, rfl, k⟩ := cmpD_sat (Res.sat_bind k)
      cases r1
      cases r2
      refine ⟨i, j, rfl, rfl, p i j, rfl, ?_⟩
      cases hp : p i j with
      | false =>
        rw [hp] at k
        first | exact k _ F2 H2 (x1.trans x2) (.bl _) | (rw [if_neg Bool.false_ne_true]; exact k _ F2 H2 (x1.trans x2) (.bl _))
      | true =>
        rw [hp] at k
        try rw [if_pos rfl]
        refine ⟨F0, H0, F2, ρ, (S.mono x1).mono x2, Res.sat_imp (Res.sat_bind k) (fun z _ k v3 F3 H3 x3 r3 => ?_) fun _ z => z.mono (x1.trans x2)⟩
        obtain ⟨j', l, e, rfl, k⟩ := cmpD_sat (Res.sat_bind k)
        cases e
        cases r3
        refine ⟨j, l, rfl, rfl, q j l, rfl, ?_⟩
        cases hq : q j l with
        | false =>
          rw [hq] at k
          first | exact k _ F3 H3 ((x1.trans x2).trans x3) (.bl _) | (rw [if_neg Bool.false_ne_true]; exact k _ F3 H3 ((x1.trans x2).trans x3) (.bl _))
        | true =>
          rw [hq] at k
          try rw [if_pos rfl]
          refine ⟨F0, H0, F3, ρ, ((S.mono x1).mono x2).mono x3, Res.sat_imp (Res.sat_bind k) (fun w _ k v4 F4 H4 x4 r4 => ?_) fun _ z => z.mono ((x1.trans x2).trans x3)⟩
          obtain ⟨l', m, e, rfl, k⟩ := cmpD_sat k
          cases e
          cases r4
          exact ⟨l, m, rfl, rfl, k _ F4 H4 (((x1.trans x2).trans x3).trans x4) (.bl _)⟩) fun _ z => z.mono x1⟩) fun _ z => z⟩
theorem de_chain3 {op op' op'' : CmpOp} {p q r : Int → Int → Bool} (h1 : OpR X (compareOp op) (rI0 fun i j => .bl (p i j))) (h2 : OpR X (compareOp op') (rI0 fun i j => .bl (q i j))) (h3 : OpR X (compareOp op'') (rI0 fun i j => .bl (r i j))) (ha : DE X κ E a ma) (hb : DE X κ E b mb) (hc : DE X κ E c mc) (hd : DE X κ E e md)
    (hp : PE X (.Compare a [op, op', op''] [b, c, e] pos) (tChain3 (rI0 fun i j => .bl (p i j)) (rI0 fun i j => .bl (q i j)) (rI0 fun i j => .bl (r i j)) (rdE X.mg X.K κ E ma) (rdE X.mg X.K κ E mb) (rdE X.mg X.K κ E mc) (rdE X.mg X.K κ E md))) : DE X κ E (.Compare a [op, op', op''] [b, c, e] pos) (mChain3 p q r ma mb mc md) :=
  hp.imp (chain3_read)
theorem bind_b {α : Type} {m : Res α} {f : α → Res D} {d : D} (h : m.bind f = .ok d) : ∃ x, m = .ok x ∧ f x = .ok d := by
  cases m with
  | ok x => exact ⟨x, rfl, h⟩
  | err x => cases h
  | stk => cases h
theorem mChain3_b {p q r : Int → Int → Bool} : ∀ (ρ : Env) (d : D), mChain3 p q r ma mb mc md ρ = .ok d → ∃ b, d = .bool b := fun ρ d h => by
  unfold mChain3 at h
  obtain ⟨x, _, h⟩ := bind_b h
  obtain ⟨y, _, h⟩ := bind_b h
  obtain ⟨z, _, h⟩ := bind_b h
  obtain ⟨k, _, h⟩ := bind_b h
  cases k with
  | false => cases h; exact ⟨_, rfl⟩
  | true =>
    rw [if_pos rfl] at h
    obtain ⟨z2, _, h⟩ := bind_b h
    obtain ⟨z3, _, h⟩ := bind_b h
    obtain ⟨k2, _, h⟩ := bind_b h
    cases k2 with
    | false => cases h; exact ⟨_, rfl⟩
    | true =>
      rw [if_pos rfl] at h
      obtain ⟨w, _, h⟩ := bind_b h
      exact cmpD_b _ _ _ h
theorem dt_chain3 {op op' op'' : CmpOp} {p q r : Int → Int → Bool} (h1 : OpR X (compareOp op) (rI0 fun i j => .bl (p i j))) (h2 : OpR X (compareOp op') (rI0 fun i j => .bl (q i j))) (h3 : OpR X (compareOp op'') (rI0 fun i j => .bl (r i j))) (ha : DE X κ E a ma) (hb : DE X κ E b mb) (hc : DE X κ E c mc) (hd : DE X κ E e md)
    (hp : PT X (.Compare a [op, op', op''] [b, c, e] pos) (tTest (tChain3 (rI0 fun i j => .bl (p i j)) (rI0 fun i j => .bl (q i j)) (rI0 fun i j => .bl (r i j)) (rdE X.mg X.K κ E ma) (rdE X.mg X.K κ E mb) (rdE X.mg X.K κ E mc) (rdE X.mg X.K κ E md)))) : DT X κ E (.Compare a [op, op', op''] [b, c, e] pos) (mTru (mChain3 p q r ma mb mc md)) :=
  hp.imp fun σ H Q ⟨F0, H0, F, ρ, S, c⟩ => chain3_read σ H _ ⟨F0, H0, F, ρ, S, Res.sat_imp (bool_of c fun d hd => mChain3_b ρ d hd) (fun d _ ⟨b, e, k⟩ v F' H' x r => by
    subst e
    cases r
    exact ⟨b, rfl, k F' H' x⟩) fun _ z => z⟩
end
end WD

/-! a list comprehension whose element may raise -/
namespace L2
open PySem PySem.Spec PyProof.Rows
abbrev Cx.blkX (X : Cx) (s : Shared) (H : Hp) (scope : Scope) (cenv : Env) (fp : List Addr) : Cx :=
  (X.blk s H scope cenv fp).wish (notedBy (model X.prog X.w) X.A cenv (CompFails (model X.prog X.w) X.A X.xe cenv))
theorem hide_up {h h' : Heap} {C : Addr} (up : h.UpToSlots h') : (PySem.W.hideAll h [C]).UpToSlots h' := fun b o e n => up b o (PySem.W.of_hideAll _ e) n
theorem traced_but {h h' B : Heap} {a C : Addr} {Z : Obj → Prop} {fl : Value} (sb : Heap.SameBut C h h') (ha : a ≠ C) (hC : B.get? C ≠ none) (t : HandSPX.TracedZ h B a Z fl) : HandSPX.TracedZ h' (PySem.W.hideAll B [C]) a Z fl := by
  obtain ⟨oe, vs, T, oT, ts, he, hz, hd, h1, hnT, hTe, hT, hdT, h3⟩ := t
  have hTC : T ≠ C := fun z => hC (z ▸ hnT)
  have hn : (PySem.W.hideAll B [C]).get? T = none := by
    cases q : (PySem.W.hideAll B [C]).get? T with
    | none => rfl
    | some o => have := PySem.W.of_hideAll _ q; rw [hnT] at this; cases this
  exact ⟨oe, vs, T, oT, ts, (sb.2 a ha).trans he, hz, hd, h1, hn, hTe, (sb.2 T hTC).trans hT, hdT, h3⟩
theorem hide_none {B : Heap} {a C : Addr} (h : B.get? a = none) : (PySem.W.hideAll B [C]).get? a = none := by
  cases q : (PySem.W.hideAll B [C]).get? a with
  | none => rfl
  | some o => have := PySem.W.of_hideAll _ q; rw [h] at this; cases this
theorem frames_but {h h' B : Heap} {C : Addr} {l : List Env} (sb : Heap.SameBut C h h') (hC : C ∉ frs l) (f : h.FunFrames B l) : h'.FunFrames (PySem.W.hideAll B [C]) l := by
  induction l with
  | nil => trivial
  | cons env l ih =>
    obtain ⟨hk, ⟨L, o, hf, hn, ho, hd⟩, hr⟩ := f
    have hm : L ∈ frs (env :: l) := List.mem_filterMap.mpr ⟨env, List.mem_cons_self, hf⟩
    have hLC : L ≠ C := fun z => hC (z ▸ hm)
    refine ⟨hk, ⟨L, o, hf, hide_none hn, (sb.2 L hLC).trans ho, hd⟩, ih (fun z => hC ?_) hr⟩
    obtain ⟨e, he, hfe⟩ := List.mem_filterMap.mp z
    exact List.mem_filterMap.mpr ⟨e, List.mem_cons_of_mem _ he, hfe⟩
section
variable {X : Cx} {W : WX}
/-- a call's exception flies; the state without it -/
theorem fly_of_call {pins : List (Addr × Obj)} {σ : St} {H : Hp} {s s' : Shared} {E : XK} (I : Inv X pins σ H s) {u : Value} (c : L2N.CX X.prog X.w X.stack H s E u s') : ∃ (a : Addr) (B : Heap) (sI : Shared) (H' : Hp) (cls : Value) (d : Option Addr),
    u = .ref a ∧ Inv X pins σ H' sI ∧ (∀ b o, sI.heap.get? b = some o → b ∉ frs X.stack → B.get? b = some o) ∧ sI.heap.UpToSlots s'.heap ∧
      HandSPX.FlyingZ B X.stack a (L2N.Zn cls d) s'.heap ∧ H' a = none ∧ s'.os = sI.os ∧ AllBare s'.gens ∧ E cls d H' := by
  obtain ⟨a, B, H', cls, d, rfl, fl, hok, ub, na, os, ag, hE⟩ := c
  obtain ⟨G, g1, g2⟩ := restrict s'.heap fun b => (B.get? b).isSome || decide (b ∈ frs X.stack)
  have st : B.StaysIn s'.heap := fl.1
  have gB : ∀ b o, B.get? b = some o → G.get? b = some o := fun b o e => by
    rw [g1 b (by simp [e])]
    exact st b o e
  have gF : ∀ b, b ∈ frs X.stack → G.get? b = s'.heap.get? b := fun b hb => g1 b (by simp [hb])
  have og : ∀ b o, G.get? b = some o → s'.heap.get? b = some o ∧ ((B.get? b).isSome = true ∨ b ∈ frs X.stack) := fun b o e => by
    cases q : ((B.get? b).isSome || decide (b ∈ frs X.stack)) with
    | false => rw [g2 b q] at e; cases e
    | true =>
      rw [g1 b q] at e
      exact ⟨e, by simpa [Bool.or_eq_true] using q⟩
  refine ⟨a, B, { s with heap := G, gens := s'.gens, drawn := s'.drawn, toks := s'.toks }, H', cls, d, rfl, ?_, fun b o e hb => ?_, Heap.UpToSlots.of_keeps fun b o e => (og b o e).1, fl, na, os, ag, hE⟩
  · refine I.call (ch := []) ⟨fun b o e n hb _ => gB b o (ub.keep b o e n hb), fun b o e n hb _ => ?_, fun b o e n _ => ub.free b o e n, fun b o e _ => ?_, ub.tups, ub.frzs, ub.tbls⟩ (hok.kept gB) ag (fun _ z => nomatch z)
    · obtain ⟨sl, q⟩ := ub.slot b o e hb
      exact ⟨sl, by rw [gF b hb]; exact q⟩
    · by_cases hb : b ∈ frs X.stack
      · obtain ⟨sl, q⟩ := ub.slot b o e hb
        exact ⟨_, by rw [gF b hb]; exact q⟩
      · obtain ⟨o', q⟩ := ub.there b o e hb
        exact ⟨o', gB b o' q⟩
  · obtain ⟨e', h⟩ := og b o e
    rcases h with h | h
    · obtain ⟨o', q⟩ := Option.isSome_iff_exists.mp h
      have z := st b o' q
      rw [e'] at z; cases z
      exact q
    · exact absurd h hb
theorem blk_pass (tk : L2N.Takes X W) (hs : X.stack = X.env :: X.outer) (hf : X.env.frame = some X.env.locals) {pins : List (Addr × Obj)} {σ : St} {H3 : Hp} {s3 : Shared} {scope : Scope} {cenv : Env} {fp : List Addr} {C : Addr} (I3 : Inv X pins σ H3 s3)
    (hC : cenv.locals = C) (hCf : s3.heap.objs.size ≤ C) (hcf : cenv.frame = X.env.frame) (f3 : ∀ b ∈ fp, FpOk X pins H3 b) : ∀ σ', PassesAt (L2N.CX X.prog X.w) (X.blkX s3 H3 scope cenv fp) σ' (WE W σ) := by
  intro σ' pins' H' s1 e s' I' c
  obtain ⟨a, B, sI, H2, cls, d, rfl, I2, nb, up, fl, na, os, ag, w⟩ := fly_of_call I' c
  have fl : HandSPX.FlyingZ B (X.env :: X.outer) a (L2N.Zn cls d) s'.heap := hs ▸ fl
  have hfr : X.A.frames = some (X.env :: X.outer) := by rw [I3.ok.frames, hs]
  -- the outer state without the exception
  have I4 : Inv X pins σ H2 sI := I3.call' (ch := fp) I2.os I2.base I2.hok I2.bare fun b hb => ⟨(f3 b hb).2.2.2.1, (f3 b hb).2.1, (f3 b hb).2.2.2.2.1, (f3 b hb).2.2.2.2.2⟩
  have nC : H2 C = none := by
    have z : H2 cenv.locals = none := I2.free
    rw [hC] at z; exact z
  have fC := I3.fpOk hCf nC
  have cst : C ∉ frs X.stack := fun z => by
    rcases List.mem_cons.mp (I3.stkSub C z) with q | q
    · exact fC.2.1 q
    · exact fC.2.2.1 q
  obtain ⟨mC, hn, _⟩ := I2.loc
  have hn : sI.heap.Ns cenv.locals mC := hn
  rw [hC] at hn
  have bC : B.get? C ≠ none := by
    obtain ⟨o, es, ep, ho, _⟩ := hn
    rw [nb C o ho cst]; exact fun z => nomatch z
  have haC : a ≠ C := fun z => bC (z ▸ fl.2.1)
  show wpAny _ X.A (noteFrame (.ref a) cenv) _ _ s'
  rw [noteFrame_env _ hcf]
  refine PXN.looks_onZ L2N.Zn.steady hfr hf fl fun h1 held up1 => ?_
  have hn1 : h1.Ns cenv.locals mC := by
    rw [hC]
    obtain ⟨o, es, ep, ho, r⟩ := hn
    exact ⟨o, es, ep, held.1 C o (nb C o ho cst), r⟩
  refine ⟨mC, hn1, fun h2 m2 hn2 sb => ?_⟩
  rw [hC] at sb
  have sb : Heap.SameBut C h1 h2 := sb
  have held2 : HandSPX.HeldZ (PySem.W.hideAll B [C]) (X.env :: X.outer) a (L2N.Zn cls d) X.env.locals h2 := by
    refine ⟨fun b o e => ?_, hide_none held.2.1, frames_but sb (hs ▸ cst) held.2.2.1, traced_but sb haC bC held.2.2.2⟩
    have hb : b ≠ C := fun z => by
      rw [z, PySem.W.hideAll_none _ (by simp)] at e; cases e
    exact (sb.2 b hb).trans (held.1 b o (PySem.W.of_hideAll _ e))
  obtain ⟨k1, k2, k3, oe, vs, T, oT, ts', he, hz, hd, hh1, hr⟩ := id held2
  unfold PySem.passOn
  refine wpAny_bind (wpAny_field he hd hh1 ?_)
  rw [if_neg (show ¬ ((Value.ref T == Value.none) = true) from by simp)]
  have fin : wpAny (model X.prog X.w) X.A (setFlight (.ref a) cenv.frame) (fun _ s4 => wpAny (model X.prog X.w) X.A (throw (.ref a) : Sem Value) (fun _ _ => False) X.xe s4) X.xe { s' with heap := h2 } := by
    rw [hcf, hf]
    refine HandSPX.setFlight_onZ held2 fun h3 hh3 up3 => wpAny_throw ?_
    refine tk _ _ ⟨a, PySem.W.hideAll B [C], { sI with heap := PySem.W.hideAll sI.heap [C] }, pins, σ, H2, cls, d, rfl, I4.turned (it := C) (t' := sI.toks) (fun b o hb e => PySem.W.hideAll_get _ e (by simpa using hb)) fC.1 fC.2.1 fC.2.2.2.1 fC.2.2.2.2.1 fC.2.2.2.2.2, fun b o e hb => ?_, fun b o e n => ?_, .inr (.inr (hs ▸ hh3)), na, os, ag, w⟩
    · have hbC : b ≠ C := fun z => by
        rw [z, PySem.W.hideAll_none _ (by simp)] at e; cases e
      exact PySem.W.hideAll_get _ (nb b o (PySem.W.of_hideAll _ e) hb) (by simpa using hbC)
    · have hbC : b ≠ C := fun z => by
        rw [z, PySem.W.hideAll_none _ (by simp)] at e; cases e
      obtain ⟨sl1, e1⟩ := up b o (PySem.W.of_hideAll _ e) n
      obtain ⟨sl2, e2⟩ := up1 b _ e1 n
      have e3 : h2.get? b = _ := (sb.2 b hbC).trans e2
      obtain ⟨sl4, e4⟩ := up3 b _ e3 n
      exact ⟨sl4, e4⟩
  first
    | exact wpAny_bind (wpAny_pure (wpAny_bind fin))
    | exact wpAny_bind fin
theorem lc_coreX {W : WX} (tk : L2N.Takes X W) (hstk : X.stack = X.env :: X.outer) (hfr : X.env.frame = some X.env.locals) {pins : List (Addr × Obj)} {s : Shared} {σ : St} {H : Hp} {Q : VK} {elt tg iter : Expr} {ifs : List Expr} {scope : Scope} {own : List (Str × Nat)} {pos pos' : Pos} {wi : TI} {g : TG} {tt : TT} {te : TE} {use : Option (Value → Sem Unit)} {Qf : Value → Shared → Prop}
    (hc : X.calm = true) (hN : X.N.Nodup) (I : Inv X pins σ H s) (hi : PI X tg iter wi) (ok : BlkOk X.N X.env.scope scope own)
    (hg : ∀ (s : Shared) (H : Hp) (C : Addr) (cl : List (Str × Addr)) (fp : List Addr), PG (X.blk s H scope (compEnvC scope cl C X.env) fp) tg g) (ht : ∀ (s : Shared) (H : Hp) (C : Addr) (cl : List (Str × Addr)) (fp : List Addr), PTs (X.blk s H scope (compEnvC scope cl C X.env) fp) ifs tt)
    (he : ∀ (s : Shared) (H : Hp) (C : Addr) (cl : List (Str × Addr)) (fp : List Addr), (∀ σ', PassesAt (L2N.CX X.prog X.w) (X.blkX s H scope (compEnvC scope cl C X.env) fp) σ' (WE W σ)) → PE (X.blkX s H scope (compEnvC scope cl C X.env) fp) elt te) (hs : ∀ x, foldedSetIterable iter X.env x = pure x)
    (h : tLc wi g tt te (own.map (·.2)) σ H Q)
    (hRR : ∀ D C s' m H', Inv X pins σ H' s' → Q (.ref D) H' → s'.heap.Ns C m → FpOk X pins H' C → ∀ cenv : Env, cenv.locals = C → compEnds (model X.prog X.w) X.A X.xe use Qf (.ref D) cenv (.ok .next) s') :
    wpAny (model X.prog X.w) X.A (comprehension (.ListComp elt [⟨tg, iter, ifs, 0⟩] scope pos) scope X.env pos' (newList []) false (eval iter X.env) use) Qf X.xe s := by
  have hfree : ∀ y ∈ scope.names, y.2 = .free → ∃ c, X.env.cells.lookup y.1 = some c := fun y hy e => by
    rcases ok.free y hy e with k | k
    · exact I.ok.has _ (.inl k)
    · exact I.ok.has _ (.inr k)
  refine comprehension_at (use := use) rfl hs (closure_ok hfree) ok.kind (fun y hy e => by rw [ok.uniq y hy, e])
    (thn (hi.run pins s σ H _ I h) fun xv s1 hx => thn hx fun itv s2 h2 => ?_)
  obtain ⟨it, fp, tn, J, H2, e, I2, T, st2, f2, q⟩ := h2
  subst e
  refine wpAny_newObj_type (newEnv_comp ?_) (by show 0 ≤ sizeLine; decide)
  generalize hD : s2.heap.objs.size = D
  have hDn : H2 D = none := I2.hok.fresh (Nat.le_of_eq hD)
  obtain ⟨W, ⟨m0, w0⟩, turn⟩ := q D hDn
  -- the new list
  generalize hs3 : ({ s2 with heap := s2.heap.push { cls := .type "list", data := .seq ([] : List Value).toArray } } : Shared) = s3
  have I3 : Inv X pins σ (upd H2 D (.lst [])) s3 := by
    rw [← hs3]
    refine I2.laid (t' := s2.toks) (fun b o e => Heap.get?_push_of_some _ e) (Nat.le_of_eq hD) ⟨Nat.zero_le _, [], 0, .nil, ?_⟩
    rw [← hD]
    exact Heap.get?_push_size _ rfl
  have h3 : s3.heap = s2.heap.push { cls := .type "list", data := .seq ([] : List Value).toArray } := by rw [← hs3]
  have sz : ∀ b ∈ fp, b < s2.heap.objs.size := fun b hb => by
    obtain ⟨o, e, _⟩ := T.obj _ _ st2 b hb
    exact Heap.lt_size e
  have f3 : ∀ b ∈ fp, FpOk X pins (upd H2 D (.lst [])) b ∧ b < s3.heap.objs.size := fun b hb => by
    have hlt := sz b hb
    refine ⟨⟨?_, (f2 b hb).2⟩, by rw [h3, Heap.size_push]; exact Nat.lt_succ_of_lt hlt⟩
    rw [upd_ne (by rw [← hD]; exact Nat.ne_of_lt hlt)]
    exact (f2 b hb).1
  have st3 : tn 0 s3.heap := T.keep _ _ _ st2 fun b _ o e => by rw [h3]; exact Heap.get?_push_of_some _ e
  have I4 := block_start I3 ok hN f3
  have pg := hg s3 (upd H2 D (.lst [])) s3.heap.objs.size (cellsFrom (s3.heap.objs.size + 1) scope.names (cloFrom X.env.cells scope.names [])) fp
  have pt := ht s3 (upd H2 D (.lst [])) s3.heap.objs.size (cellsFrom (s3.heap.objs.size + 1) scope.names (cloFrom X.env.cells scope.names [])) fp
  have pe := he s3 (upd H2 D (.lst [])) s3.heap.objs.size (cellsFrom (s3.heap.objs.size + 1) scope.names (cloFrom X.env.cells scope.names [])) fp (blk_pass tk hstk hfr I3 rfl (Nat.le_refl _) rfl fun b hb => (f3 b hb).1)
  show codeAny _ _ (.compStart (.ListComp elt [⟨tg, iter, ifs, 0⟩] scope pos) 0 (.ref it) (.ref D) (compEnvC scope (cellsFrom (s3.heap.objs.size + 1) scope.names (cloFrom X.env.cells scope.names [])) s3.heap.objs.size X.env)) (compEnds (model X.prog X.w) X.A X.xe use Qf (.ref D) (compEnvC scope (cellsFrom (s3.heap.objs.size + 1) scope.names (cloFrom X.env.cells scope.names [])) s3.heap.objs.size X.env)) { s3 with heap := pushCells (s3.heap.push { cls := .type "dict", data := .dict #[] }) scope.names }
  have nfp : ∀ b ∈ fp, (upd H2 D (.lst [])) b = none := fun b hb => (f3 b hb).1.1
  generalize hce : compEnvC scope (cellsFrom (s3.heap.objs.size + 1) scope.names (cloFrom X.env.cells scope.names [])) s3.heap.objs.size X.env = ce at I4 pg pt pe ⊢
  have cL : ce.locals = s3.heap.objs.size := by subst hce; rfl
  generalize hH3 : upd H2 D (.lst []) = H3 at I3 I4 pg pt pe w0 nfp f3
  generalize hs4 : ({ s3 with heap := pushCells (s3.heap.push { cls := .type "dict", data := .dict #[] }) scope.names } : Shared) = s4 at I4 ⊢
  have st4 : tn 0 s4.heap := T.keep _ _ _ st3 fun b _ o e => by rw [← hs4]; exact pushCells_keeps _ _ _ _ (Heap.get?_push_of_some _ e)
  have stat : ∀ {σ' : St} {H' : Hp} {s' : Shared}, Inv (X.blk s3 H3 scope ce fp) [] σ' H' s' → (∀ b ∈ fp, H' b = none) → ∀ b ∈ fp, FpOk (X.blk s3 H3 scope ce fp) [] H' b := fun {σ' H' s'} I' hn b hb =>
    ⟨hn b hb, (I'.ok.exf b hb).1, I'.ok.exfs b hb, .inl hb, fun x c e => (I'.ok.exf b hb).2 x c e, fun p hp => absurd (show p ∈ ([] : List (Addr × Obj)) ++ [] from hp) (by simp)⟩
  have loop : codeAny (model X.prog X.w) X.A (.compLoop (.ListComp elt [⟨tg, iter, ifs, 0⟩] scope pos) 0 (.ref it) (.ref D) ce) (compEnds (model X.prog X.w) X.A X.xe use Qf (.ref D) ce) s4 := by
    refine compLoop_any (fun n s' => ∃ i H', Inv (X.blk s3 H3 scope ce fp) [] (wipe σ (own.map (·.2))) H' s' ∧ tn i s'.heap ∧ (∀ b ∈ fp, H' b = none) ∧ W i n H') ?_ m0 ⟨0, H3, I4, st4, nfp, w0⟩
    rintro n s5 ⟨i, H5, I5, st5, n5, w5⟩
    rcases turn i n H5 w5 with ⟨stop, qq⟩ | ⟨go, Nx, hNx, step⟩
    · have td := T.done (X.blk s3 H3 scope ce fp) rfl rfl rfl hc i [] s5 _ H5 (fun _ _ => False) I5 (stat I5 n5) st5 stop
      refine thnF td fun r s6 ⟨hr, I6⟩ => ?_
      subst hr
      -- back in the def's context
      have I7 : Inv X pins σ H5 s6 := I3.call' (ch := fp) I6.os I6.base I6.hok I6.bare fun b hb => ⟨(f3 b hb).1.2.2.2.1, (f3 b hb).1.2.1, (f3 b hb).1.2.2.2.2.1, (f3 b hb).1.2.2.2.2.2⟩
      have nC : H5 s3.heap.objs.size = none := by
        have z : H5 ce.locals = none := I6.free
        rw [cL] at z
        exact z
      obtain ⟨m, hn, _⟩ := I6.loc
      have hn : s6.heap.Ns ce.locals m := hn
      rw [cL] at hn
      exact hRR D s3.heap.objs.size s6 m H5 I7 qq hn (I3.fpOk (Nat.le_refl _) nC) ce cL
    · have ti := T.item (X.blk s3 H3 scope ce fp) rfl rfl rfl hc i [] s5 _ H5 (fun _ _ => False) I5 (stat I5 n5) st5 go
      refine thnF ti fun r s6 ⟨u, hr, h6⟩ => ?_
      subst hr
      refine thnF h6 fun _ s7 ⟨x, H7, I7, r7, y7, st7, n7⟩ => ?_
      have I7' := I7.pinned (stat I7 n7) (T.obj _ _ st7)
      refine thnF (pg.run _ s7 _ H7 x u _ I7' r7 (step x H7 y7)) fun _ s8 ⟨σ8, H8, I8, hw8, q8⟩ => ?_
      refine thnF (pt.run _ s8 σ8 H8 _ I8 q8) fun b s9 ⟨H9, I9, q9⟩ => ?_
      -- the turn's end
      have fin : ∀ {s' : Shared} {H' : Hp}, Inv (X.blk s3 H3 scope ce fp) ([] ++ pinsAt fp s7.heap) σ8 H' s' → Nx H' → ∃ m, m < n ∧ ∃ i H', Inv (X.blk s3 H3 scope ce fp) [] (wipe σ (own.map (·.2))) H' s' ∧ tn i s'.heap ∧ (∀ b ∈ fp, H' b = none) ∧ W i m H' := fun {s' H'} I' nx => by
        obtain ⟨m', hm, w'⟩ := hNx H' nx
        have pin' : ∀ b ∈ fp, ∀ o, s7.heap.get? b = some o → s'.heap.get? b = some o ∧ H' b = none := fun b hb o e =>
          let z := I'.pin (b, o) (List.mem_append_right _ (List.mem_append_right _ (mem_pinsAt hb e)))
          ⟨z.1, z.2.1⟩
        have hl : (wipe σ (own.map (·.2))).length = σ8.length := by rw [← hw8, wipe_length]
        refine ⟨m', hm, i + 1, H', (I'.unpinned (pins := [])).weak hl (fun j v e => ?_), T.keep _ _ _ st7 fun b hb o e => (pin' b hb o e).1, fun b hb => ?_, w'⟩
        · rw [← hw8] at e
          exact (wipe_some e).1
        · obtain ⟨o, e, _⟩ := T.obj _ _ st7 b hb
          exact (pin' b hb o e).2
      cases b with
      | false =>
        simp only [Bool.false_eq_true, if_false] at q9 ⊢
        exact fin I9 q9
      | true =>
        simp only [if_true] at q9 ⊢
        refine thn (pe.run _ s9 σ8 H9 _ (I9.wish _) q9) fun z s10 ⟨yv, H10, I10, r10, acc, hD10, hz10, nx⟩ => ?_
        have I10 := I10.unwish
        exact app_ok (X := X.blk s3 H3 scope ce fp) I10 hD10 hz10 r10 fun s11 I11 => fin I11 nx
  exact codeAny_compStart_list loop (T.self X.A 0 _ _ _ st4 loop)
/-- as a value -/
theorem pe_lcX {W : WX} (tk : L2N.Takes X W) (hstk : X.stack = X.env :: X.outer) (hfr : X.env.frame = some X.env.locals) {elt tg iter : Expr} {ifs : List Expr} {scope : Scope} {own : List (Str × Nat)} {pos : Pos} {wi : TI} {g : TG} {tt : TT} {te : St → TE} (hc : X.calm = true) (hN : X.N.Nodup) (hi : PI X tg iter wi) (ok : BlkOk X.N X.env.scope scope own)
    (hg : ∀ (s : Shared) (H : Hp) (C : Addr) (cl : List (Str × Addr)) (fp : List Addr), PG (X.blk s H scope (compEnvC scope cl C X.env) fp) tg g) (ht : ∀ (s : Shared) (H : Hp) (C : Addr) (cl : List (Str × Addr)) (fp : List Addr), PTs (X.blk s H scope (compEnvC scope cl C X.env) fp) ifs tt)
    (he : ∀ (σ : St) (s : Shared) (H : Hp) (C : Addr) (cl : List (Str × Addr)) (fp : List Addr), (∀ σ', PassesAt (L2N.CX X.prog X.w) (X.blkX s H scope (compEnvC scope cl C X.env) fp) σ' (WE W σ)) → PE (X.blkX s H scope (compEnvC scope cl C X.env) fp) elt (te σ)) (hs : ∀ x, foldedSetIterable iter X.env x = pure x := by intro _; rfl) :
    PE X (.ListComp elt [⟨tg, iter, ifs, 0⟩] scope pos) (fun σ => tLc wi g tt (te σ) (own.map (·.2)) σ) := by
  refine ⟨fun pins s σ H Q I h => ?_⟩
  rw [eval_ListComp]
  refine lc_coreX tk hstk hfr hc hN I hi ok hg ht (he σ) hs h fun D C s' m H' I' q hn f cenv hcl => ⟨m, by rw [hcl]; exact hn, fun h'' sb => ?_⟩
  rw [hcl] at sb
  obtain ⟨f0, f1, f2, f3, f4, f5⟩ := f
  exact ⟨.ref D, H', I'.turned (t' := s'.toks) (fun b o hb e => (sb.2 b hb).trans e) f0 f1 f3 f4 f5, rfl, q⟩
end
end L2
namespace WD
open PySem PySem.Spec PyProof.Rows L2
open Evl (Ex Ex.refl Ex.trans Ex.new Ex.mut ex_l ex_t fresh_back)
def compLX (g : D → Env → Option Env) (t : Env → Res Bool) (m : Env → Res D) (ρ : Env) : List D → Res (List D)
  | [] => .ok []
  | d :: ds =>
    match g d ρ with
    | none => .stk
    | some ρ1 => (noErr (t ρ1)).bind fun b => if b = true then (m ρ1).bind fun y => (compLX g t m ρ ds).bind fun ys => .ok (y :: ys) else compLX g t m ρ ds
def mLcX (it : Env → Res (List D)) (g : D → Env → Option Env) (t : Env → Res Bool) (m : Env → Res D) (vs : List Nat) : Env → Res (List D) := fun ρ =>
  (it ρ).bind fun ds => if ds.length ≤ sizeLine then compLX g t m (forget vs ρ) ds else .stk
theorem compLX_cons (g : D → Env → Option Env) (t : Env → Res Bool) (m : Env → Res D) (ρ : Env) (d : D) (ds : List D) : compLX g t m ρ (d :: ds) = match g d ρ with
    | none => .stk
    | some ρ1 => (noErr (t ρ1)).bind fun b => if b = true then (m ρ1).bind fun y => (compLX g t m ρ ds).bind fun ys => .ok (y :: ys) else compLX g t m ρ ds := rfl
abbrev EXb (E : XK) : EX := ⟨fun _ => E, fun _ _ _ _ _ => False⟩
theorem bind_assoc' {α β γ : Type} (r : Res α) (f : α → Res β) (g : β → Res γ) : (r.bind f).bind g = r.bind fun a => (f a).bind g := by cases r <;> rfl
theorem bind_ok_id {α : Type} (r : Res α) : (r.bind fun a => .ok a) = r := by cases r <;> rfl
section
variable {X : Cx} {κ : Nat → Kd} {E : EX} {pos : Pos}
theorem lc_readX {mg : Mg} {K : Frag} {mi : Env → Res (List D)} {is vs : List Nat} {g : D → Env → Option Env} {mt : Env → Res Bool} {me : Env → Res D} (his : ∀ i ∈ is, i ∈ vs) : ∀ σ H Q, rdN mg K κ E (mLcX mi g mt me vs) σ H Q →
    tLc (rdIp mg K κ E mi) (rdG K κ is g) (rdT mg K κ EX0 mt) (rdE mg K κ (EXb (E.err σ)) me) vs σ H Q :=
  fun σ H Q ⟨F0, H0, F, ρ, S, k⟩ => ⟨F0, H0, F, ρ, S, Res.sat_imp (Res.sat_bind k) (fun ds _ k J F1 H1 x1 w Dl hD => by
    by_cases hz : ds.length ≤ sizeLine
    case neg => simp only [if_neg hz] at k; exact k.elim
    simp only [if_pos hz] at k
    generalize hR : compLX g mt me (forget vs ρ) ds = R at k
    have fD : F1 Dl = none := none_of_ex x1.s hD
    have SW := (S.mono x1).wipe vs
    refine ⟨fun i m H2 => m = ds.length - i ∧ i ≤ ds.length ∧ ∃ F2 acc ads, Ext F1 H1 F2 H2 ∧ F2 Dl = none ∧ H2 Dl = some (.lst acc) ∧ RpA K F2 acc ads ∧ acc.length ≤ i ∧ R = (compLX g mt me (forget vs ρ) (ds.drop i)).bind fun rs => .ok (ads ++ rs),
      ⟨ds.length, rfl, Nat.zero_le _, F1, [], [], .newO x1.s hD, fD, upd_same, .nil, Nat.zero_le _, by rw [List.drop_zero, hR]; exact (bind_ok_id _).symm⟩, ?_⟩
    rintro i m H2 ⟨rfl, hi, F2, acc, ads, x2, f2, h2, r2, l2, c2⟩
    obtain ⟨w1, w2⟩ := w i F2 H2 x2 x2.s hi
    by_cases hlt : i < ds.length
    · obtain ⟨go, yl⟩ := w1 hlt
      have ed : ds.drop i = ds[i] :: ds.drop (i + 1) := List.drop_eq_getElem_cons hlt
      refine .inr ⟨go, fun H3 => ∃ F3 acc ads, Ext F1 H1 F3 H3 ∧ F3 Dl = none ∧ H3 Dl = some (.lst acc) ∧ RpA K F3 acc ads ∧ acc.length ≤ i + 1 ∧ R = (compLX g mt me (forget vs ρ) (ds.drop (i + 1))).bind fun rs => .ok (ads ++ rs),
        fun H3 ⟨F3, acc, ads, z⟩ => ⟨ds.length - (i + 1), by omega, rfl, hlt, F3, acc, ads, z⟩, fun x H3 y => ?_⟩
      obtain ⟨d, F3, ed2, x3, r3⟩ := yl x H3 y
      have hd : ds[i] = d := by
        have := List.getElem?_eq_getElem hlt
        rw [this] at ed2
        exact Option.some.inj ed2
      rw [ed, hd, compLX_cons] at c2
      cases q : g d (forget vs ρ) with
      | none =>
        rw [q] at c2
        have c2 : R = .stk := c2
        rw [c2] at k
        exact k.elim
      | some ρ1 =>
        rw [q] at c2
        have c2 : R = ((noErr (mt ρ1)).bind fun b => if b = true then (me ρ1).bind fun y => (compLX g mt me (forget vs ρ) (ds.drop (i + 1))).bind fun ys => .ok (y :: ys) else compLX g mt me (forget vs ρ) (ds.drop (i + 1))).bind fun rs => .ok (ads ++ rs) := c2
        cases hb0 : mt ρ1 with
        | err x =>
          rw [hb0] at c2
          have c2 : R = .stk := c2
          rw [c2] at k
          exact k.elim
        | stk =>
          rw [hb0] at c2
          have c2 : R = .stk := c2
          rw [c2] at k
          exact k.elim
        | ok b =>
          rw [hb0] at c2
          have c2 : R = (if b = true then (me ρ1).bind fun y => (compLX g mt me (forget vs ρ) (ds.drop (i + 1))).bind fun ys => .ok (y :: ys) else compLX g mt me (forget vs ρ) (ds.drop (i + 1))).bind fun rs => .ok (ads ++ rs) := c2
          have x13 := x2.trans x3
          refine ⟨F0, H0, F3, forget vs ρ, d, ρ1, SW.mono x13, r3, q, fun σ4 F4 H4 x4 S4 l4 o4 => ⟨wipe_eq (by rw [l4, wipe_length]) o4 his, F0, H0, F4, ρ1, S4, ?_⟩⟩
          rw [hb0]
          intro F5 H5 x5
          have x15 := (x13.trans x4).trans x5
          have nD : H2 Dl ≠ none := by rw [h2]; exact fun z => nomatch z
          have x25 := (x3.trans x4).trans x5
          have f5 : F5 Dl = none := x25.o Dl f2 nD
          cases b with
          | false =>
            exact ⟨F5, acc, ads, x15, f5, x25.h _ _ h2, r2.mono x25.f, by omega, c2⟩
          | true =>
            rw [if_pos rfl] at c2
            refine ⟨F0, H0, F5, ρ1, S4.mono x5, ?_⟩
            cases hy : me ρ1 with
            | err x =>
              rw [hy] at c2
              have c2 : R = .err x := c2
              rw [c2] at k
              have k : ErrOk mg K (E.err σ) F H x := k
              exact ErrOk.mono (x1.trans x15) k
            | stk =>
              rw [hy] at c2
              have c2 : R = .stk := c2
              rw [c2] at k
              exact k.elim
            | ok y =>
              rw [hy] at c2
              have c2 : R = ((compLX g mt me (forget vs ρ) (ds.drop (i + 1))).bind fun ys => .ok (y :: ys)).bind fun rs => .ok (ads ++ rs) := c2
              rw [bind_assoc'] at c2
              intro yv F6 H6 x6 r6
              have x26 := x25.trans x6
              have f6 : F6 Dl = none := x26.o Dl f2 nD
              have sub6 : Ex F6 (upd H6 Dl (.lst (acc ++ [yv]))) := fun b u q => by rw [upd_ne (ne_of_none q f6)]; exact x26.s b u q
              refine ⟨acc, x26.h _ _ h2, by omega, F6, acc ++ [yv], ads ++ [y], ⟨(x15.trans x6).f, Ex.mut (x15.trans x6).h hD, (x15.trans x6).o, sub6, (x15.trans x6).n⟩, f6, upd_same, (r2.mono x26.f).append (.cons r6 .nil), by rw [List.length_append, List.length_singleton]; omega, ?_⟩
              rw [c2]
              congr 1
              funext rs
              show Res.ok (ads ++ (y :: rs)) = Res.ok (ads ++ [y] ++ rs)
              rw [List.append_assoc]; rfl
    · have e : i = ds.length := by omega
      have ed : ds.drop i = [] := by rw [e, List.drop_length]
      rw [ed] at c2
      have c2 : R = .ok (ads ++ []) := c2
      rw [List.append_nil] at c2
      rw [c2] at k
      exact .inl ⟨w2 e, k Dl acc F2 H2 (x1.trans x2) (fresh_back x1.h hD) f2 h2 r2⟩) fun _ z => z⟩
theorem dn_lcX {elt tg iter : Expr} {ifs : List Expr} {scope : Scope} {own : List (Str × Nat)} {mi : Env → Res (List D)} {is : List Nat} {g : D → Env → Option Env} {mt : Env → Res Bool} {me : Env → Res D} (tk : L2N.Takes X (fun cls d σ H => E.err σ cls d H)) (hstk : X.stack = X.env :: X.outer) (hfr : X.env.frame = some X.env.locals)
    (hc : X.calm = true) (hN : X.N.Nodup) (hi : DIp X κ E tg iter mi) (ok : BlkOk X.N X.env.scope scope own) (his : ∀ i ∈ is, i ∈ own.map (·.2))
    (hg : ∀ (s : Shared) (H : Hp) (C : Addr) (cl : List (Str × Addr)) (fp : List Addr), DG (X.blk s H scope (compEnvC scope cl C X.env) fp) κ tg is g) (ht : ∀ (s : Shared) (H : Hp) (C : Addr) (cl : List (Str × Addr)) (fp : List Addr), DTs (X.blk s H scope (compEnvC scope cl C X.env) fp) κ EX0 ifs mt)
    (he : ∀ (σ0 : L2.St) (s : Shared) (H : Hp) (C : Addr) (cl : List (Str × Addr)) (fp : List Addr), (∀ σ', PassesAt (L2N.CX X.prog X.w) (X.blkX s H scope (compEnvC scope cl C X.env) fp) σ' ((EXb (E.err σ0)).err σ')) → DE (X.blkX s H scope (compEnvC scope cl C X.env) fp) κ (EXb (E.err σ0)) elt me) (hs : ∀ x, foldedSetIterable iter X.env x = pure x := by intro _; rfl) :
    DN X κ E (.ListComp elt [⟨tg, iter, ifs, 0⟩] scope pos) (mLcX mi g mt me (own.map (·.2))) :=
  (pe_lcX (wi := rdIp X.mg X.K κ E mi) (g := rdG X.K κ is g) (tt := rdT X.mg X.K κ EX0 mt) (te := fun σ0 => rdE X.mg X.K κ (EXb (E.err σ0)) me) tk hstk hfr hc hN hi ok hg ht (fun σ0 s H C cl fp hp => he σ0 s H C cl fp hp) hs).imp (lc_readX his)
@[simp] theorem mLcX_at (it : Env → Res (List D)) (g : D → Env → Option Env) (t : Env → Res Bool) (m : Env → Res D) (vs : List Nat) (ρ : Env) : mLcX it g t m vs ρ = (it ρ).bind fun ds => if ds.length ≤ sizeLine then compLX g t m (forget vs ρ) ds else .stk := rfl
end
end WD

/-! a def that begins with own = d.setdefault(k, []) and then changes own: d a dict of lists, changed for its caller -/
namespace WD
open PySem PySem.Spec PyProof.Rows L2
open Evl (Ex Ex.refl Ex.trans Ex.new Ex.mut ex_l ex_t fresh_back)
/-- the heap behind own = d.setdefault(k, []): p is the new list, b what own names -/
def setdH (H : Hp) (a p : Addr) (kvs : List (Key × V)) (k : Key) : Hp := if valV kvs k = none then upd (upd H p (.lst [])) a (.dK (putK kvs k (.ref p))) else upd H p (.lst [])
def setdB (p : Addr) (kvs : List (Key × V)) (k : Key) : V := match valV kvs k with
  | none => .ref p
  | some v => v
/-- m2: [the third argument, the list] to what the list is then -/
def spAdd (K : Frag) (m2 : List D → Res D) : Sp := fun vs H Q E => ∃ (F : Hp) (a : Addr) (kvs : List (Key × V)) (k : Key) (nv : V) (dn : D), vs = [.ref a, kV k, nv] ∧ Ex F H ∧ NF F ∧ F a = none ∧ H a = some (.dK kvs) ∧ kvs.length < sizeLine ∧ Rp K F nv dn ∧
  ∀ p, H p = none → ∃ b us xs, setdB p kvs k = .ref b ∧ F b = none ∧ setdH H a p kvs k b = some (.lst us) ∧ RpA K F us xs ∧ b ≠ a ∧
    (m2 [dn, .list xs]).sat (fun d' => ∀ F' H', Ext F (delH (setdH H a p kvs k) b) F' H' → F' b = none → OwnAt K F' H' b d' → Q .non H') (fun _ => False)
theorem pss_some {X : Cx} {ι : Type} {sts : List Stmt} {t : ι → TS} (h : ∀ i, PSs X sts (t i)) : PSs X sts (fun D σ H => ∃ i, t i D σ H) := ⟨fun pins s σ H D I ⟨i, hi⟩ => (h i).run pins s σ H D I hi⟩
/-- [.., number, own] at the slots 2 and 3 -/
def addOut (o : Out) : Res D :=
  match o with
  | .nx ρ => ofO (ρ[3]?).join
  | _ => .stk
def mkAdd (body : Env → Out) : List D → Res D := fun ds => match ds with
  | [dn, d] => addOut (body [none, none, some dn, some d])
  | _ => .stk
theorem fn_okAdd {P : Program} {w : World} {K : Frag} {mg : Mg} {base : Heap} {x qual : Str} {st : Stmt} {f : Addr} {fd : FuncData} {k : Nat} {body : Env → Out} {nd nk nn no : Str} {px pa p1 p2 p3 pc pp : Pos} {rest : List Stmt} (F : Fun K x qual st f fd) (S : FnScope [nd, nk, nn, no] [nd, nk, nn] (defScope st))
    (hst : defBody st = .Assign [.Name no px] (.Call (.Attribute (.Name nd p1) "setdefault" pa) [.Name nk p2, .List [] p3] [] pc) pp :: rest)
    (hset : ∀ (b : Addr) (cdv : Value) (A : Around) (outer : List PySem.Env) (s : Shared) (H : Hp) (E : XK), PS (cxOf (L2N.CX P w) P w K mg base [nd, nk, nn, no] qual (defScope st) f cdv A outer s H E) (.Assign [.Name no px] (.Call (.Attribute (.Name nd p1) "setdefault" pa) [.Name nk p2, .List [] p3] [] pc) pp) (tAsg (tDSetd (tVar 0) (tVar 1) (tLst tNil)) (gName 3)))
    (hbody : ∀ (b : Addr) (cdv : Value) (A : Around) (outer : List PySem.Env) (s : Shared) (H : Hp) (E : XK), Room k (A.deeper (envOfC qual (defScope st) s.heap.objs.size f cdv)) →
      DSs (cxOf (L2N.CX P w) P w K mg base [nd, nk, nn, no] qual (defScope st) f cdv A outer s H E) (kdW (kdT []) 3 b) (eXW K b E) rest body) : FnOk P w K mg base (L2N.CX P w) (k + 1) f fd [nd, nk, nn] (spAdd K (mkAdd body)) := by
  refine F.okQ S (fun vs H Q E ⟨F, a, kvs, k, nv, dn, e, _⟩ => by rw [e]; rfl) fun cdv A outer s H vs Q E hr h => ?_
  obtain ⟨G, a, kvs, q, nv, dn, rfl, ex, nf, ga, hH, hl, rn, hp⟩ := h
  rw [hst]
  refine ⟨_, pss_cons (hset a cdv A outer s H E) (pss_some fun b => hbody b cdv A outer s H E hr), ?_⟩
  have sz0 : ([] : List V).length ≤ sizeLine := Nat.zero_le _
  have stt : ∀ (p b : Addr) (us : List V) (xs : List D), H p = none → G b = none → setdH H a p kvs q b = some (.lst us) → RpA K G us xs → Stt K (kdW (kdT []) 3 b) G (delH (setdH H a p kvs q) b) G (setdH H a p kvs q) [some (.ref a), some (kV q), some nv, some (.ref b)] [none, none, some dn, some (.list xs)] := fun p b us xs hp0 fb gb rx => by
    refine ⟨Ex.refl G, delH_ex _ b, fun _ h _ => h, fun c u e => ?_, nf, rfl, fun i d h => ?_, fun i j c di dj u w n hi hj _ _ oi oj => ?_⟩
    · have cp : c ≠ p := fun z => by rw [z] at e; rw [ex _ _ e] at hp0; cases hp0
      have ca : c ≠ a := fun z => by rw [z, ga] at e; cases e
      unfold setdH
      split
      · rw [upd_ne ca, upd_ne cp]; exact ex _ _ e
      · rw [upd_ne cp]; exact ex _ _ e
    · match i, h with
      | 2, h =>
        cases h
        exact ⟨nv, rfl, rn⟩
      | 3, h =>
        cases h
        exact ⟨.ref b, rfl, by rw [kdW_self]; exact ⟨rfl, delH_self, fb, .inl ⟨us, xs, rfl, gb, rx⟩⟩⟩
    · have k3 : ∀ i d u, ([none, none, some dn, some (.list xs)] : Env)[i]? = some (some d) → Owns (kdW (kdT []) 3 b i) (setdH H a p kvs q) u c → i = 3 := fun i d u h o => by
        match i, h with
        | 2, h => exact o.elim
        | 3, h => rfl
      exact n ((k3 i di u hi oi).trans (k3 j dj w hj oj).symm)
  have fin : ∀ (p b : Addr) (us : List V) (xs : List D), H p = none → G b = none → setdH H a p kvs q b = some (.lst us) → RpA K G us xs → (mkAdd body [dn, .list xs]).sat (fun d' => ∀ F' H', Ext G (delH (setdH H a p kvs q) b) F' H' → F' b = none → OwnAt K F' H' b d' → Q .non H') (fun _ => False) →
      ∃ b', rdS mg K (kdW (kdT []) 3 b') (eXW K b' E) body { nx := fun _ H' => Q .non H', rt := Q } [some (.ref a), some (kV q), some nv, some (.ref b)] (setdH H a p kvs q) := fun p b us xs hp0 fb gb rx c => by
    refine ⟨b, G, _, G, _, stt p b us xs hp0 fb gb rx, ?_⟩
    have c : (addOut (body [none, none, some dn, some (.list xs)])).sat (fun d' => ∀ F' H', Ext G (delH (setdH H a p kvs q) b) F' H' → F' b = none → OwnAt K F' H' b d' → Q .non H') (fun _ => False) := c
    generalize body [none, none, some dn, some (.list xs)] = o at c ⊢
    cases o with
    | nx ρ =>
      intro σ' F' H' _ S'
      obtain ⟨d', hd', c⟩ := ofO_sat (show (ofO (ρ[3]?).join).sat _ _ from c)
      obtain ⟨u, hu, so⟩ := S'.slot 3 d' (join_some hd')
      rw [kdW_self] at so
      obtain ⟨e, h0, f0, o⟩ := so
      exact c F' H' S'.ext f0 o
    | bk ρ => exact (show False from c).elim
    | ct ρ => exact (show False from c).elim
    | rt d => exact (show False from c).elim
    | err x => exact (show False from c).elim
    | stk => exact (show False from c).elim
  refine ⟨.ref a, rfl, a, rfl, .inl ⟨kvs, .inl hH⟩, kV q, rfl, sz0, fun p hp0 => ?_⟩
  have pa : a ≠ p := fun z => by rw [← z, hH] at hp0; cases hp0
  obtain ⟨b, us, xs, eb, fb, gb, rx, nba, c⟩ := hp p hp0
  have key := fin p b us xs hp0 fb gb rx c
  refine ⟨kvs, q, by rw [upd_ne pa]; exact hH, rfl, hl, fun v hv => ?_, fun hn => ?_⟩
  · unfold setdB at eb
    rw [hv] at eb
    have eb : v = .ref b := eb
    subst eb
    unfold setdH at key
    rw [hv, if_neg (by simp)] at key
    exact key
  · unfold setdB at eb
    rw [hn] at eb
    have eb : V.ref p = .ref b := eb
    cases eb
    unfold setdH at key
    rw [if_pos hn] at key
    exact key
structure FnAdd (P : Program) (w : World) (K : Frag) (mg : Mg) (base : Heap) (k : Nat) (x : Str) (ps : List Str) (m2 : List D → Res D) : Prop where
  ex : ∃ f fd, mg x = some (.ref f) ∧ PySem.W.keepIn K (.ref f) = true ∧ Binds K fd ps [] ∧ FnOk P w K mg base (L2N.CX P w) k f fd ps (spAdd K m2)
def addFin (i : Nat) (q : Key) (ρ : Env) (ds : List (D × D)) (xs : List D) (m2 : List D → Res D) (dn : D) : Out := (noErr (m2 [dn, .list xs])).out fun d' => match d' with
  | .list ys => .nx (ρ.set i (some (.dict (putD ds q (.list ys)))))
  | _ => .stk
/-- add(d, k, n): own = d.setdefault(k, []), then own is changed -/
def mAddS (i : Nat) (mk mn : Env → Res D) (m2 : List D → Res D) : Env → Out := fun ρ => (getDct i ρ).out fun ds => (mk ρ).out fun dk => (ofO (keyOf dk)).out fun q => (mn ρ).out fun dn => if ds.length < sizeLine then (match valD ds q with
  | none => addFin i q ρ (putD ds q (.list [])) [] m2 dn
  | some (.list xs) => addFin i q ρ ds xs m2 dn
  | some _ => .stk) else .stk
section
variable {X : Cx} {κ : Nat → Kd} {E : EX} {ek en : Expr} {mk mn : Env → Res D} {m2 : List D → Res D} {pos : Pos}
theorem od_back {K : Frag} {F0 H0 F H F' H' : Hp} {σ : L2.St} {ρ : Env} (S : Stt K κ F0 H0 F H σ ρ) {i : Nat} {ds : List (D × D)} {q : Key} {xs ys : List D} {a b : Addr} {kvs : List (Key × V)} (hk : κ i = .od) (hd : ρ[i]? = some (some (.dict ds))) (hv : valD ds q = some (.list xs)) (hs : σ[i]? = some (some (.ref a))) (g : H a = some (.dK kvs)) (hb : valV kvs q = some (.ref b))
    (x : Ext F (delH H b) F' H') (fb : F' b = none) (o : OwnAt K F' H' b (.list ys)) : Stt K κ F0 H0 F' H' σ (ρ.set i (some (.dict (putD ds q (.list ys))))) := by
  obtain ⟨a', kvs', b', vs, e1, e2, _, e3, e4, _, gr⟩ := od_grow S hk hd hv
  rw [hs] at e1; cases e1
  rw [g] at e2; cases e2
  rw [hb] at e3; cases e3
  rcases o with ⟨vs', ys', e, hb', r⟩ | ⟨_, _, e, _⟩
  · cases e
    have xm : Ext F H F' (fun c => if c = b then some (.lst vs) else H' c) := by
      refine ⟨x.f, fun c u e => ?_, fun c h n => ?_, fun c u e => ?_, x.n⟩
      · by_cases z : c = b
        · rw [if_pos z, ← e4, ← z]; exact e
        · rw [if_neg z]; exact x.h c u (by rw [delH_ne z]; exact e)
      · by_cases z : c = b
        · rw [z]; exact fb
        · exact x.o c h (by rw [delH_ne z]; exact n)
      · by_cases z : c = b
        · rw [z, fb] at e; cases e
        · rw [if_neg z]; exact x.s c u e
    have s := gr F' _ vs' ys xm r
    have eH : upd (fun c => if c = b then some (.lst vs) else H' c) b (.lst vs') = H' := by
      funext c
      by_cases z : c = b
      · subst z; rw [upd_same, hb']
      · rw [upd_ne z, if_neg z]
    rw [eH] at s
    exact s
  · cases e
theorem addFin_out {mg : Mg} {K : Frag} {F0 H0 F H F1 H1 : Hp} {σ : L2.St} {ρ ρ3 : Env} {Dn : Ends} (S : Stt K κ F0 H0 F1 H1 σ ρ3) {i : Nat} {ds : List (D × D)} {q : Key} {xs : List D} {a b : Addr} {kvs : List (Key × V)} {dn : D} (hk : κ i = .od) (hd : ρ3[i]? = some (some (.dict ds))) (hv : valD ds q = some (.list xs)) (hs : σ[i]? = some (some (.ref a))) (g : H1 a = some (.dK kvs)) (hb : valV kvs q = some (.ref b))
    (hρ : ∀ z, ρ3.set i z = ρ.set i z) (x : Ex F F1) (c : OutOk mg K κ E F0 H0 F H Dn (addFin i q ρ ds xs m2 dn)) :
    (m2 [dn, .list xs]).sat (fun d' => ∀ F' H', Ext F1 (delH H1 b) F' H' → F' b = none → OwnAt K F' H' b d' → Dn.nx σ H') (fun _ => False) := by
  unfold addFin at c
  refine Res.sat_imp (noErr_sat (R' := fun _ => False) (out_sat c)) (fun d' _ c F' H' x3 fb o => ?_) fun _ z => z
  cases d' with
  | list ys =>
    refine c σ F' H' (x.trans x3.f) ?_
    rw [← hρ]
    exact od_back S hk hd hv hs g hb x3 fb o
  | _ => exact (show False from c).elim
theorem valD_putN {ds : List (D × D)} {q : Key} {d : D} (h : valD ds q = none) : valD (putD ds q d) q = some d := by
  have hf : ds.find? (fun p => decide (keyOf p.1 = some q)) = none := by
    unfold valD at h
    cases e : ds.find? (fun p => decide (keyOf p.1 = some q)) with
    | none => rfl
    | some p => rw [e] at h; cases h
  have ha : ¬ (ds.any fun p => decide (keyOf p.1 = some q)) = true := fun z => by
    obtain ⟨p, hp, hq⟩ := List.any_eq_true.mp z
    exact (List.find?_eq_none.mp hf p hp) hq
  unfold putD valD
  rw [if_neg ha, List.find?_append, hf]
  simp [keyOf_keyD]
theorem ds_addS {k i : Nat} {x y : Str} {p py spos : Pos} {ps : List Str} (G : FnAdd X.prog X.w X.K X.mg X.base k x ps m2) (hr : Room k X.A) (hx : ∀ σ, PassesAt (L2N.CX X.prog X.w) X σ (E.err σ)) (hg : Gl X x) (hk : κ i = .od) (hN : X.N[i]? = some y) (hv : Vis X.env.scope y) (he : DE X κ E ek mk) (hn : DE X κ E en mn)
    (hs : swapsWith (.Call (.Name x p) [.Name y py, ek, en] [] pos) none spos.line X.env = pure false := by rfl) (hdb : (x == ("__debug__" : Str)) = false := by decide) (hdy : (y == ("__debug__" : Str)) = false := by decide) (hcy : (y == ("__classdict__" : Str)) = false := by decide)
    (h1 : starEach [.Name y py, ek, en] X.env = (false, eval (.Name y py) X.env) :: starEach [ek, en] X.env := by rfl) (h2 : starEach [ek, en] X.env = (false, eval ek X.env) :: starEach [en] X.env := by rfl) (h3 : starEach [en] X.env = (false, eval en X.env) :: starEach [] X.env := by rfl)
    (hpl : (backTo pos (starEach [ek, en] X.env)).any (·.1) = false := by rfl) :
    DS X κ E (.Expr (.Call (.Name x p) [.Name y py, ek, en] [] pos) spos) (mAddS i mk mn m2) := by
  obtain ⟨f, fd, hm, hkp, hb, hF⟩ := G.ex
  refine (ps_expr (pe_callS hF hr hg hm hkp hb hx (pa_cons (pe_var hN hv hdy hcy) (pa_cons he (pa_cons hn pa_nil h3) h2) h1) hdb h1 hpl) hs).imp fun Dn σ H ⟨F0, H0, F, ρ, S, c⟩ => ?_
  obtain ⟨ds, hd, c⟩ := getDct_sat (out_sat c)
  obtain ⟨a, kvs, s0, a0, fa, g, ok, n1, n2⟩ := od_at S hk hd
  refine ⟨.ref a, s0, F0, H0, F, ρ, S, Res.sat_imp (out_sat c) (fun dk _ c y F1 H1 x1 ry => ?_) fun x z => err_back S z⟩
  obtain ⟨q, hkk, c⟩ := ofO_sat (out_sat c)
  obtain ⟨ey, _, ko⟩ := ry.key hkk
  subst ey
  refine ⟨F0, H0, F1, ρ, S.mono x1, Res.sat_imp (out_sat c) (fun dn _ c nv F2 H2 x2 rn => ?_) fun x z => (err_back S z).mono x1⟩
  by_cases z : ds.length < sizeLine
  case neg => rw [if_neg z] at c; exact (show False from c).elim
  rw [if_pos z] at c
  have x12 := x1.trans x2
  have S2 := S.mono x12
  have g2 : H2 a = some (.dK kvs) := x12.h _ _ g
  obtain ⟨a', kvs', e1, _, fa2, g2', ok2, _, _⟩ := od_at S2 hk hd
  rw [s0] at e1; cases e1
  rw [g2] at g2'; cases g2'
  refine ⟨F2, a, kvs, q, nv, dn, rfl, x2.s, x12.n S.nf, fa2, g2, by rw [← ok2.length]; exact z, rn, fun p' hp => ?_⟩
  have pa : a ≠ p' := fun e => by rw [← e, g2] at hp; cases hp
  have fp : F2 p' = none := fresh_back x2.s hp
  have x3 : Ext F2 H2 F2 (upd H2 p' (.lst [])) := .newO x2.s hp
  have S3 := S2.mono x3
  have g3 : upd H2 p' (.lst []) a = some (.dK kvs) := by rw [upd_ne pa]; exact g2
  rcases ok2.val q with ⟨hvn, hdn⟩ | ⟨b, vs, xs, hmem, hvk, hdk, h0b, fb, hbv, rb⟩
  · rw [hdn] at c
    have hno : ∀ j dj w, ρ[j]? = some (some dj) → σ[j]? = some (some w) → ¬ Owns (κ j) (upd H2 p' (.lst [])) w p' := fun j dj w hj ej ow =>
      ((S2.slotAt hj ej).owned (Owns.back (S2.slotAt hj ej) (fun a _ o q => x3.h a o q) (fun a o q => x3.s a o (x3.f a o q)) ow)).2.2 hp
    have S4 := od_new (vs := []) (xs := []) S3 hk hd s0 ko g3 hvn (fresh_back S2.h0 hp) fp upd_same .nil hno
    have hil : i < ρ.length := (List.getElem?_eq_some_iff.mp hd).1
    have hd4 : (ρ.set i (some (.dict (putD ds q (.list [])))))[i]? = some (some (.dict (putD ds q (.list [])))) := List.getElem?_set_self hil
    have hv4 : valD (putD ds q (.list [])) q = some (.list []) := valD_putN hdn
    have r := addFin_out (H := H) (b := p') S4 hk hd4 hv4 s0 upd_same (by rw [valV_put, if_pos rfl]) (fun z => by rw [List.set_set]) x12.f c
    refine ⟨p', [], [], by unfold setdB; rw [hvn], fp, by unfold setdH; rw [if_pos hvn, upd_ne pa.symm, upd_same], .nil, pa.symm, ?_⟩
    unfold setdH
    rw [if_pos hvn]
    exact r
  · rw [hdk] at c
    have bp : b ≠ p' := fun e => by rw [e, hp] at hbv; cases hbv
    have ba : b ≠ a := fun e => by rw [e, g2] at hbv; cases hbv
    have hne : ¬ valV kvs q = none := by rw [hvk]; simp
    have r := addFin_out (H := H) S3 hk hd hdk s0 g3 hvk (fun _ => rfl) x12.f c
    refine ⟨b, vs, xs, by unfold setdB; rw [hvk], fb, by unfold setdH; rw [if_neg hne, upd_ne bp]; exact hbv, rb, ba, ?_⟩
    unfold setdH
    rw [if_neg hne]
    exact r
theorem sg_addFin {i : Nat} {q : Key} {ds : List (D × D)} {xs : List D} {dn : D} : Straight (fun ρ => addFin i q ρ ds xs m2 dn) := fun ρ => sg_out fun d => by
  cases d <;> first | exact sg_nx | exact sg_stk
theorem sg_addS {i : Nat} : Straight (mAddS i mk mn m2) := fun ρ => sg_out fun ds => sg_out fun dk => sg_out fun q => sg_out fun dn => by
  by_cases z : ds.length < sizeLine
  · rw [if_pos z]
    cases valD ds q with
    | none => exact sg_addFin ρ
    | some d => cases d <;> first | exact sg_addFin ρ | exact sg_stk
  · rw [if_neg z]; exact sg_stk
end
end WD

/-! sorted(d), the keys texts; sorted(list of texts) -/
namespace WD
open PySem PySem.Spec PyProof.Rows L2
open Evl (Ex Ex.refl Ex.trans Ex.new Ex.mut ex_l ex_t fresh_back)
def leS (a b : Str) : Prop := ltCps b.cps.toList a.cps.toList = false
theorem leS_le {a b : Str} : leS a b ↔ a.cps.toList ≤ b.cps.toList := by
  unfold leS
  rw [ltCps_eq]
  simp
theorem leS_trans {a b c : Str} (h : leS a b) (g : leS b c) : leS a c := leS_le.mpr (List.le_trans (leS_le.mp h) (leS_le.mp g))
theorem leS_total (a b : Str) : leS a b ∨ leS b a := (List.le_total a.cps.toList b.cps.toList).imp leS_le.mpr leS_le.mpr
theorem leS_anti {a b : Str} (h : leS a b) (g : leS b a) : a = b := by
  have e := List.le_antisymm (leS_le.mp h) (leS_le.mp g)
  cases a; cases b
  simp only [Str.mk.injEq]
  exact Array.toList_inj.mp e
theorem rising_all : ∀ (l : List Str) (p : Str), risingS p l = true → (∀ x ∈ l, leS p x) ∧ l.Pairwise leS
  | [], p, _ => ⟨(fun _ h => by cases h), List.Pairwise.nil⟩
  | x :: r, p, h => by
    unfold risingS at h
    rw [Bool.and_eq_true] at h
    have hx : leS p x := by simpa [leS] using h.1
    obtain ⟨a, b⟩ := rising_all r x h.2
    refine ⟨fun y hy => ?_, List.pairwise_cons.mpr ⟨a, b⟩⟩
    rcases List.mem_cons.mp hy with rfl | hy
    · exact hx
    · exact leS_trans hx (a y hy)
theorem sorted_pair : ∀ {l : List Str}, sortedS l = true → l.Pairwise leS
  | [], _ => List.Pairwise.nil
  | x :: r, h => by
    obtain ⟨a, b⟩ := rising_all r x h
    exact List.pairwise_cons.mpr ⟨a, b⟩
def srtT (ks : List Str) : List Str := ks.mergeSort fun a b => !ltCps b.cps.toList a.cps.toList
theorem srtT_perm (ks : List Str) : (srtT ks).Perm ks := List.mergeSort_perm _ _
theorem srtT_pair (ks : List Str) : (srtT ks).Pairwise leS := by
  have := List.pairwise_mergeSort (le := fun a b : Str => !ltCps b.cps.toList a.cps.toList) (fun a b c h1 h2 => by
    have h1 : leS a b := by simpa [leS] using h1
    have h2 : leS b c := by simpa [leS] using h2
    have := leS_trans h1 h2
    simpa [leS] using this) (fun a b => by
    rcases leS_total a b with h | h
    · have : ltCps b.cps.toList a.cps.toList = false := h
      simp [this]
    · have : ltCps a.cps.toList b.cps.toList = false := h
      simp [this]) ks
  exact this.imp fun h => by simpa [leS] using h
theorem uniqT : ∀ {xs ys : List Str}, xs.Perm ys → xs.Pairwise leS → ys.Pairwise leS → xs = ys
  | [], ys, h, _, _ => by rw [List.nil_perm.mp h]
  | x :: xs, [], h, _, _ => by have := h.length_eq; simp at this
  | x :: xs, y :: ys, h, h1, h2 => by
    obtain ⟨a1, a2⟩ := List.pairwise_cons.mp h1
    obtain ⟨b1, b2⟩ := List.pairwise_cons.mp h2
    have hx : x ∈ y :: ys := h.mem_iff.mp (by simp)
    have hy : y ∈ x :: xs := h.mem_iff.mpr (by simp)
    have e : x = y := by
      rcases List.mem_cons.mp hx with z | z
      · exact z
      · rcases List.mem_cons.mp hy with w | w
        · exact w.symm
        · exact leS_anti (a1 y w) (b1 x z)
    subst e
    rw [uniqT ((List.perm_cons x).mp h) a2 b2]
def keyTs : List (D × D) → Option (List Str)
  | [] => some []
  | (.str x, _) :: ds => (keyTs ds).map (x :: ·)
  | _ => none
theorem keyTs_v {K : Frag} {F : Hp} : ∀ {kvs : List (Key × V)} {ds : List (D × D)} {ks : List Str}, RpK K F kvs ds → keyTs ds = some ks → kvs.map (·.1) = ks.map Sum.inr ∧ ∀ x ∈ ks, OkS x
  | _, _, ks, .nil, h => by cases h; exact ⟨rfl, (fun _ h => by cases h)⟩
  | _, _, ks, .cons (k := k) ko r a, h => by
    cases k with
    | inr x =>
      obtain ⟨rs, h1, h2⟩ := Option.map_eq_some_iff.mp (show (keyTs _).map (x :: ·) = some ks from h)
      subst h2
      obtain ⟨e1, e2⟩ := keyTs_v a h1
      refine ⟨by rw [List.map_cons, List.map_cons, e1], fun y hy => ?_⟩
      rcases List.mem_cons.mp hy with rfl | hy
      · exact ko
      · exact e2 y hy
    | inl i => cases h
theorem strs_rpA {K : Frag} {F : Hp} : ∀ ns : List Str, (∀ x ∈ ns, OkS x) → RpA K F (ns.map V.str) (ns.map PyData.str)
  | [], _ => .nil
  | n :: ns, h => .cons (.str n (h n (by simp))) (strs_rpA ns fun x hx => h x (by simp [hx]))
def mSortT (m : Env → Res D) : Env → Res (List D) := fun ρ => (m ρ).bind fun d => match d with
  | .dict ds => (ofO (keyTs ds)).bind fun ks => if ks.length < 64 then .ok ((srtT ks).map PyData.str) else .stk
  | _ => .stk
section
variable {X : Cx} {κ : Nat → Kd} {E : EX} {e : Expr} {pos p : Pos} {ma : Env → Res D}
theorem dn_sortT (hc : X.calm = true) (hg : Gl X "sorted") (hm : X.mg "sorted" = none) (ha : DB X κ E e ma) (hv : bootBuiltins "sorted" = some (.builtin "sorted") := by decide +kernel) (he : starEach [e] X.env = (false, eval e X.env) :: starEach [] X.env := by rfl) (hpl : (backTo pos (starEach [] X.env)).any (·.1) = false := by rfl) :
    DN X κ E (.Call (.Name "sorted" p) [e] [] pos) (mSortT ma) :=
  (pe_callB (call_sortedD hc) hg hm hv (pa_cons ha pa_nil he) (by decide) (by decide) he hpl).imp fun σ H Q ⟨F0, H0, F, ρ, S, c⟩ => ⟨F0, H0, F, ρ, S, Res.sat_imp (Res.sat_bind c) (fun d _ k v F' H' x r => by
    cases d with
    | dict ds =>
      obtain ⟨ks, hk, k⟩ := ofO_sat (Res.sat_bind k)
      by_cases z : ks.length < 64
      · simp only [if_pos z] at k
        obtain ⟨q, kvs, rfl, h, rk⟩ := r.dict x.s
        obtain ⟨kv1, kv2⟩ := keyTs_v rk hk
        refine ⟨q, kvs, ks, rfl, h, kv1, z, fun ys q2 hp hs hq => ?_⟩
        have e : ys = srtT ks := uniqT (hp.trans (srtT_perm ks).symm) (sorted_pair hs) (srtT_pair ks)
        subst e
        exact k q2 _ F' _ (x.trans (.newO x.s hq)) (fresh_back x.h hq) (none_of_ex x.s hq) upd_same (strs_rpA _ fun y hy => kv2 y ((srtT_perm ks).mem_iff.mp hy))
      · simp only [if_neg z] at k; exact k.elim
    | _ => exact k.elim) fun _ z => z⟩
/-- the empty dict display, to be looked at only -/
theorem db_dict : DB X κ E (.Dict [] [] pos) (mC (.dict [])) := (pe_dnewK).imp fun σ H Q ⟨F0, H0, F, ρ, S, c⟩ => fun q hq =>
  c _ F _ (Ext.newO S.sub hq) (.inr ⟨q, rfl, .inr ⟨[], [], rfl, upd_same, .nil⟩⟩)
def strLs : List D → Option (List Str)
  | [] => some []
  | .str x :: ds => (strLs ds).map (x :: ·)
  | _ => none
theorem strLs_v {K : Frag} {F : Hp} : ∀ {vs : List V} {ds : List D} {ks : List Str}, RpA K F vs ds → strLs ds = some ks → vs = ks.map V.str ∧ ∀ x ∈ ks, OkS x
  | _, _, ks, .nil, h => by cases h; exact ⟨rfl, (fun _ h => by cases h)⟩
  | _, _, ks, .cons (d := d) r a, h => by
    cases d with
    | str x =>
      obtain ⟨rs, h1, h2⟩ := Option.map_eq_some_iff.mp (show (strLs _).map (x :: ·) = some ks from h)
      subst h2
      obtain ⟨e1, e2⟩ := strLs_v a h1
      cases r with
      | str y ok =>
        refine ⟨by rw [List.map_cons, e1], fun y hy => ?_⟩
        rcases List.mem_cons.mp hy with rfl | hy
        · exact ok
        · exact e2 y hy
    | _ => cases h
def mSortL (m : Env → Res D) : Env → Res (List D) := fun ρ => (m ρ).bind fun d => match d with
  | .list ds => (ofO (strLs ds)).bind fun ks => if ks.length < 64 then .ok ((srtT ks).map PyData.str) else .stk
  | _ => .stk
theorem dn_sortL (hg : Gl X "sorted") (hm : X.mg "sorted" = none) (ha : DB X κ E e ma) (hv : bootBuiltins "sorted" = some (.builtin "sorted") := by decide +kernel) (he : starEach [e] X.env = (false, eval e X.env) :: starEach [] X.env := by rfl) (hpl : (backTo pos (starEach [] X.env)).any (·.1) = false := by rfl) :
    DN X κ E (.Call (.Name "sorted" p) [e] [] pos) (mSortL ma) :=
  (pe_callB cr_sortedS hg hm hv (pa_cons ha pa_nil he) (by decide) (by decide) he hpl).imp fun σ H Q ⟨F0, H0, F, ρ, S, c⟩ => ⟨F0, H0, F, ρ, S, Res.sat_imp (Res.sat_bind c) (fun d _ k v F' H' x r => by
    cases d with
    | list ds =>
      obtain ⟨ks, hk, k⟩ := ofO_sat (Res.sat_bind k)
      by_cases z : ks.length < 64
      · simp only [if_pos z] at k
        obtain ⟨q, vs, rfl, h, rk⟩ := r.list x.s
        obtain ⟨kv1, kv2⟩ := strLs_v rk hk
        subst kv1
        refine ⟨q, ks, rfl, h, z, fun ys q2 hp hs hq => ?_⟩
        have e : ys = srtT ks := uniqT (hp.trans (srtT_perm ks).symm) (sorted_pair hs) (srtT_pair ks)
        subst e
        exact k q2 _ F' _ (x.trans (.newO x.s hq)) (fresh_back x.h hq) (none_of_ex x.s hq) upd_same (strs_rpA _ fun y hy => kv2 y ((srtT_perm ks).mem_iff.mp hy))
      · simp only [if_neg z] at k; exact k.elim
    | _ => exact k.elim) fun _ z => z⟩
/-! for v in d.values() -/
def mValsX (m : Env → Res D) : Env → Res (List D) := fun ρ => (m ρ).bind fun d => match d with
  | .dict ds => .ok (ds.map (·.2))
  | _ => .stk
@[simp] theorem mValsX_at (m : Env → Res D) (ρ : Env) : mValsX m ρ = (m ρ).bind fun d => match d with
  | .dict ds => .ok (ds.map (·.2))
  | _ => .stk := rfl
@[simp] theorem mSortT_at (m : Env → Res D) (ρ : Env) : mSortT m ρ = (m ρ).bind fun d => match d with
  | .dict ds => (ofO (keyTs ds)).bind fun ks => if ks.length < 64 then .ok ((srtT ks).map PyData.str) else .stk
  | _ => .stk := rfl
@[simp] theorem mSortL_at (m : Env → Res D) (ρ : Env) : mSortL m ρ = (m ρ).bind fun d => match d with
  | .list ds => (ofO (strLs ds)).bind fun ks => if ks.length < 64 then .ok ((srtT ks).map PyData.str) else .stk
  | _ => .stk := rfl
theorem valsA {K : Frag} {F : Hp} : ∀ {kvs : List (Key × V)} {ds : List (D × D)}, RpK K F kvs ds → RpA K F (kvs.map (·.2)) (ds.map (·.2))
  | _, _, .nil => .nil
  | _, _, .cons ko r a => .cons r (valsA a)
theorem walk_vals {K : Frag} {F : Hp} {d : Addr} {ob : Obj} {kvs : List (Key × V)} {ds : List (D × D)} (h : F d = some (.frz ob (.dK kvs))) (r : RpK K F kvs ds) : WalkD K (fun F2 H2 => Ex F F2) (Itd d ob kvs) (ds.map (·.2)) := fun i F2 H2 g s hi => by
  have hl := (valsA r).length
  rw [List.length_map, List.length_map] at hl
  rw [List.length_map] at hi ⊢
  have hd : H2 d = some (.frz ob (.dK kvs)) := s _ _ (g _ _ h)
  refine ⟨fun hlt => ⟨⟨hd, by omega⟩, fun x H3 ⟨e, k, hk⟩ => ?_⟩, fun e => ⟨hd, by omega⟩⟩
  subst e
  have hg : (kvs.map fun kv => kv.2)[i]? = some x := by rw [List.getElem?_map, hk]; rfl
  obtain ⟨dd, h1, h2⟩ := (valsA (r.mono g)).getV hg
  exact ⟨dd, F2, h1, Ext.refl s, h2⟩
theorem di_vals {tg : Expr} {apos cpos : Pos} (ha : DE X κ E e ma) (hbase : attributeBase e "values" X.env (eval e X.env) = eval e X.env := by rfl) (hline : (apos.endLine == cpos.line) = true := by rfl) : DI X κ E tg (.Call (.Attribute e "values" apos) [] [] cpos) (mValsX ma) :=
  (pi_values ha hbase hline).imp fun σ H R ⟨F0, H0, F, ρ, S, k⟩ => ⟨F0, H0, F, ρ, S, Res.sat_imp (Res.sat_bind k) (fun d _ k v F' H' x r => by
    cases r with
    | @dct p kvs ds h a =>
      rcases h with h | ⟨ob, h⟩
      · exact absurd h ((x.n S.nf) p kvs)
      · exact ⟨p, ob, kvs, rfl, x.s _ _ h, k _ F' H' x (walk_vals h a)⟩
    | _ => exact k.elim) fun _ z => z⟩
end
end WD

namespace WD
open PySem PySem.Spec PyProof.Rows L2

/-! ### texts as lists of codes -/
abbrev S (l : List Nat) : D := .str ⟨l.toArray⟩
theorem S_inj {a b : List Nat} : (⟨a.toArray⟩ : Str) = ⟨b.toArray⟩ ↔ a = b := by
  constructor
  · intro h
    have : a.toArray = b.toArray := by injection h
    simpa using this
  · rintro rfl; rfl
theorem str_eta (x : Str) : x = ⟨x.cps.toList.toArray⟩ := by cases x; rfl
theorem len_mk (l : List Nat) : (⟨l.toArray⟩ : Str).length = l.length := by simp [Str.length]
theorem mk_append (a b : List Nat) : (⟨a.toArray⟩ : Str) ++ ⟨b.toArray⟩ = ⟨(a ++ b).toArray⟩ := TL.ext_tl (by rw [TL.tl_append])
theorem de_strS {X : Cx} {κ : Nat → Kd} {E : EX} {pos : Pos} {x : Str} {j : Nat} (l : List Nat) (h : x = ⟨l.toArray⟩ := by decide +kernel) (ho : OkS ⟨l.toArray⟩ := by decide +kernel) : DE X κ E (.Constant (.str x) j pos) (mC (S l)) := by
  subst h
  exact de_str ho

theorem rel_strS {x : Str} {t : Tok} (l : List Nat) (h : x = ⟨l.toArray⟩) : RelV (V.str ⟨l.toArray⟩) (Value.str x t) := ⟨t, by rw [h]⟩

/-! ### how the mirrors compute -/
@[simp] theorem bind_okR {α β : Type} (a : α) (f : α → Res β) : (Res.ok a).bind f = f a := rfl
@[simp] theorem bind_errR {α β : Type} (x : Exn) (f : α → Res β) : (Res.err x : Res α).bind f = .err x := rfl
@[simp] theorem bind_stkR {α β : Type} (f : α → Res β) : (Res.stk : Res α).bind f = .stk := rfl
@[simp] theorem out_okR {α : Type} (a : α) (f : α → Out) : (Res.ok a).out f = f a := rfl
@[simp] theorem out_errR {α : Type} (x : Exn) (f : α → Out) : (Res.err x : Res α).out f = .err x := rfl
@[simp] theorem out_stkR {α : Type} (f : α → Out) : (Res.stk : Res α).out f = .stk := rfl
@[simp] theorem noErr_okR {α : Type} (a : α) : noErr (Res.ok a) = .ok a := rfl
@[simp] theorem ofO_some {α : Type} (a : α) : ofO (some a) = .ok a := rfl
@[simp] theorem ofO_none {α : Type} : ofO (none : Option α) = .stk := rfl
@[simp] theorem mVar_at (i : Nat) (ρ : WD.Env) : mVar i ρ = ofO (ρ[i]?).join := rfl
@[simp] theorem mC_at (d : D) (ρ : WD.Env) : mC d ρ = .ok d := rfl
@[simp] theorem mBin_at (f : D → D → Res D) (a b : WD.Env → Res D) (ρ : WD.Env) : mBin f a b ρ = (a ρ).bind fun x => (b ρ).bind fun y => f x y := rfl
@[simp] theorem mUn_at (f : D → Res D) (a : WD.Env → Res D) (ρ : WD.Env) : mUn f a ρ = (a ρ).bind f := rfl
@[simp] theorem mTru_at (a : WD.Env → Res D) (ρ : WD.Env) : mTru a ρ = (a ρ).bind truD := rfl
@[simp] theorem mAnd_at (t u : WD.Env → Res Bool) (ρ : WD.Env) : mAnd t u ρ = (t ρ).bind fun b => if b = true then u ρ else .ok false := rfl
@[simp] theorem mOr_at (t u : WD.Env → Res Bool) (ρ : WD.Env) : mOr t u ρ = (t ρ).bind fun b => if b = true then .ok true else u ρ := rfl
@[simp] theorem mNot_at (t : WD.Env → Res Bool) (ρ : WD.Env) : mNot t ρ = (t ρ).bind fun b => .ok (!b) := rfl
@[simp] theorem mAndV_at (t u : WD.Env → Res D) (ρ : WD.Env) : mAndV t u ρ = (t ρ).bind fun d => (boolD d).bind fun b => if b = true then u ρ else .ok (.bool false) := rfl
@[simp] theorem mOrV_at (t u : WD.Env → Res D) (ρ : WD.Env) : mOrV t u ρ = (t ρ).bind fun d => (boolD d).bind fun b => if b = true then .ok (.bool true) else u ρ := rfl
@[simp] theorem mNotV_at (t : WD.Env → Res D) (ρ : WD.Env) : mNotV t ρ = (t ρ).bind fun d => (boolD d).bind fun b => .ok (.bool (!b)) := rfl
@[simp] theorem boolD_bool (b : Bool) : boolD (.bool b) = .ok b := rfl
@[simp] theorem mIf_at (t : WD.Env → Res Bool) (a b : WD.Env → Res D) (ρ : WD.Env) : mIf t a b ρ = (t ρ).bind fun c => if c = true then a ρ else b ρ := rfl
@[simp] theorem mNil_at (ρ : WD.Env) : mNil ρ = .ok [] := rfl
@[simp] theorem mCons_at (a : WD.Env → Res D) (b : WD.Env → Res (List D)) (ρ : WD.Env) : mCons a b ρ = (a ρ).bind fun d => (b ρ).bind fun ds => .ok (d :: ds) := rfl
@[simp] theorem mList_at (a : WD.Env → Res (List D)) (ρ : WD.Env) : mList a ρ = (a ρ).bind fun ds => .ok (.list ds) := rfl
@[simp] theorem mSeq1_at (a : WD.Env → Res D) (ρ : WD.Env) : mSeq1 a ρ = (a ρ).bind seqD := rfl
@[simp] theorem mIt_at (a : WD.Env → Res D) (ρ : WD.Env) : mIt a ρ = (a ρ).bind itD := rfl
@[simp] theorem mBindA_at (f : List D → Res (List D)) (a : WD.Env → Res (List D)) (ρ : WD.Env) : mBindA f a ρ = (a ρ).bind f := rfl
@[simp] theorem mCall_at (m : List D → Res D) (a : WD.Env → Res (List D)) (ρ : WD.Env) : mCall m a ρ = (a ρ).bind m := rfl
@[simp] theorem mMt_at (f : Str → List D → Res D) (o : WD.Env → Res D) (a : WD.Env → Res (List D)) (ρ : WD.Env) : mMt f o a ρ = (o ρ).bind fun d => match d with
  | .str x => (a ρ).bind (f x)
  | _ => .stk := rfl
@[simp] theorem mNone_at (ρ : WD.Env) : mNone ρ = .ok none := rfl
@[simp] theorem mSome_at (a : WD.Env → Res D) (ρ : WD.Env) : mSome a ρ = (a ρ).bind fun d => match d with
  | .int i => .ok (some i)
  | _ => .stk := rfl
@[simp] theorem mCut_at (a : WD.Env → Res D) (l h : WD.Env → Res (Option Int)) (ρ : WD.Env) : mCut a l h ρ = (a ρ).bind fun d => (l ρ).bind fun lo => (h ρ).bind fun hi => cutD d lo hi := rfl
@[simp] theorem mYes_at (ρ : WD.Env) : mYes ρ = .ok true := rfl
@[simp] theorem mChain_at (p q : Int → Int → Bool) (a b c : WD.Env → Res D) (ρ : WD.Env) : mChain p q a b c ρ = (a ρ).bind fun x => (b ρ).bind fun y => (cmpD p x y).bind fun d => (boolD d).bind fun k => if k = true then (c ρ).bind fun z => cmpD q y z else .ok (.bool false) := rfl
@[simp] theorem mNext_at (ρ : WD.Env) : mNext ρ = .nx ρ := rfl
@[simp] theorem mAsg_at (i : Nat) (m : WD.Env → Res D) (ρ : WD.Env) : mAsg i m ρ = (m ρ).out fun d => .nx (ρ.set i (some d)) := rfl
@[simp] theorem mAsgN_at (i : Nat) (m : WD.Env → Res (List D)) (ρ : WD.Env) : mAsgN i m ρ = (m ρ).out fun ds => .nx (ρ.set i (some (.list ds))) := rfl
@[simp] theorem mAsgG_at (g : D → WD.Env → Option WD.Env) (m : WD.Env → Res D) (ρ : WD.Env) : mAsgG g m ρ = (m ρ).out fun d => (ofO (g d ρ)).out .nx := rfl
@[simp] theorem mRet_at (m : WD.Env → Res D) (ρ : WD.Env) : mRet m ρ = (m ρ).out .rt := rfl
@[simp] theorem mExpr_at (m : WD.Env → Res D) (ρ : WD.Env) : mExpr m ρ = (m ρ).out fun _ => .nx ρ := rfl
@[simp] theorem mIfS_at (t : WD.Env → Res Bool) (m n : WD.Env → Out) (ρ : WD.Env) : mIfS t m n ρ = (t ρ).out fun b => if b = true then m ρ else n ρ := rfl
def Out.then (o : Out) (n : WD.Env → Out) : Out :=
  match o with
  | .nx ρ' => n ρ'
  | o => o
@[simp] theorem mSeq_at (m n : WD.Env → Out) (ρ : WD.Env) : mSeq m n ρ = (m ρ).then n := by
  unfold mSeq Out.then
  rfl
@[simp] theorem then_nx (ρ : WD.Env) (n : WD.Env → Out) : (Out.nx ρ).then n = n ρ := rfl
@[simp] theorem then_rt (d : D) (n : WD.Env → Out) : (Out.rt d).then n = .rt d := rfl
@[simp] theorem then_ct (ρ : WD.Env) (n : WD.Env → Out) : (Out.ct ρ).then n = .ct ρ := rfl
@[simp] theorem then_bk (ρ : WD.Env) (n : WD.Env → Out) : (Out.bk ρ).then n = .bk ρ := rfl
@[simp] theorem then_err (x : Exn) (n : WD.Env → Out) : (Out.err x).then n = .err x := rfl
@[simp] theorem then_stk (n : WD.Env → Out) : (Out.stk).then n = .stk := rfl
@[simp] theorem fnOut_rt (d : D) : fnOut (.rt d) = .ok d := rfl
@[simp] theorem fnOut_nx (ρ : WD.Env) : fnOut (.nx ρ) = .ok .none := rfl
@[simp] theorem fnOut_err (x : Exn) : fnOut (.err x) = .err x := rfl
@[simp] theorem fnOut_stk : fnOut .stk = .stk := rfl
@[simp] theorem gSet_at (i : Nat) (d : D) (ρ : WD.Env) : gSet i d ρ = some (ρ.set i (some d)) := rfl
@[simp] theorem mFor_at (it : WD.Env → Res (List D)) (g : D → WD.Env → Option WD.Env) (b : WD.Env → Out) (ρ : WD.Env) : mFor it g b ρ = (it ρ).out fun ds => forL g b ds ρ := rfl
@[simp] theorem getL_at (i : Nat) (ρ : WD.Env) : getL i ρ = match (ρ[i]?).join with
  | some (.list ds) => .ok ds
  | _ => .stk := rfl
@[simp] theorem mApp_at (i : Nat) (m : WD.Env → Res D) (ρ : WD.Env) : mApp i m ρ = (getL i ρ).out fun ds => (m ρ).out fun d => if ds.length < sizeLine then .nx (ρ.set i (some (.list (ds ++ [d])))) else .stk := rfl
@[simp] theorem mExt_at (i : Nat) (m : WD.Env → Res D) (ρ : WD.Env) : mExt i m ρ = (getL i ρ).out fun ds => (m ρ).out fun d => (seqD d).out fun es => if ds.length + es.length ≤ sizeLine then .nx (ρ.set i (some (.list (ds ++ es)))) else .stk := rfl
@[simp] theorem mTup_at (m : WD.Env → Res (List D)) (ρ : WD.Env) : mTup m ρ = (m ρ).bind fun ds => if ds.length ≤ sizeLine then .ok (.tuple ds) else .stk := rfl
@[simp] theorem mLst_at (m : WD.Env → Res (List D)) (ρ : WD.Env) : mLst m ρ = (m ρ).bind fun ds => if ds.length ≤ sizeLine then .ok ds else .stk := rfl
@[simp] theorem mLc_at (it : WD.Env → Res (List D)) (g : D → WD.Env → Option WD.Env) (t : WD.Env → Res Bool) (m : WD.Env → Res D) (vs : List Nat) (ρ : WD.Env) :
  mLc it g t m vs ρ = (it ρ).bind fun ds => if ds.length ≤ sizeLine then noErr (compL g t m (forget vs ρ) ds) else .stk := rfl
@[simp] theorem forget_nil (ρ : WD.Env) : forget [] ρ = ρ := rfl
@[simp] theorem forget_cons (i : Nat) (is : List Nat) (ρ : WD.Env) : forget (i :: is) ρ = forget is (ρ.set i none) := rfl
@[simp] theorem mRep_at (m : WD.Env → Res (List D)) (b : WD.Env → Res D) (ρ : WD.Env) : mRep m b ρ = (m ρ).bind fun ds => (b ρ).bind fun d => match d with
  | .int k => if -(2 ^ 63) ≤ k ∧ k < 2 ^ 63 ∧ ds.length * k.toNat ≤ sizeLine then .ok (List.replicate k.toNat ds).flatten else .stk
  | _ => .stk := rfl

@[simp] theorem mCat_at (a b : WD.Env → Res D) (ρ : WD.Env) : mCat a b ρ = (a ρ).bind fun x => (b ρ).bind fun y => catD x y := rfl
@[simp] theorem catD_list (xs ys : List D) : catD (.list xs) (.list ys) = if xs.length + ys.length ≤ sizeLine then .ok (xs ++ ys) else .stk := rfl
theorem mForget_at (is : List Nat) (m : WD.Env → Out) (ρ : WD.Env) : mForget is m ρ = match m ρ with
  | .nx ρ' => .nx (forget is ρ')
  | .bk ρ' => .bk (forget is ρ')
  | .ct ρ' => .ct (forget is ρ')
  | .rt d => .rt d
  | .err x => .err x
  | .stk => .stk := rfl
/-! ### operations -/
@[simp] theorem addD_int (i j : Int) : addD (.int i) (.int j) = .ok (.int (i + j)) := rfl
@[simp] theorem subD_int (i j : Int) : subD (.int i) (.int j) = .ok (.int (i - j)) := rfl
@[simp] theorem negD_int (i : Int) : negD (.int i) = .ok (.int (-i)) := rfl
@[simp] theorem cmpD_int (p : Int → Int → Bool) (i j : Int) : cmpD p (.int i) (.int j) = .ok (.bool (p i j)) := rfl
@[simp] theorem truD_bool (b : Bool) : truD (.bool b) = .ok b := rfl
@[simp] theorem truD_none : truD .none = .ok false := rfl
@[simp] theorem truD_int (i : Int) : truD (.int i) = .ok (i != 0) := rfl
@[simp] theorem truD_list (xs : List D) : truD (.list xs) = .ok (!xs.isEmpty) := rfl
@[simp] theorem truD_tuple (xs : List D) : truD (.tuple xs) = .ok (!xs.isEmpty) := rfl
@[simp] theorem intD_int (i : Int) : WD.intD (.int i) = .ok (.int i) := rfl
@[simp] theorem lenD_list (xs : List D) : lenD (.list xs) = .ok (.int xs.length) := rfl
@[simp] theorem lenD_tuple (xs : List D) : lenD (.tuple xs) = .ok (.int xs.length) := rfl
@[simp] theorem tupleD_list (xs : List D) : tupleD (.list xs) = .ok (.tuple xs) := rfl
@[simp] theorem tupleD_tuple (xs : List D) : tupleD (.tuple xs) = .ok (.tuple xs) := rfl
@[simp] theorem seqD_list (xs : List D) : seqD (.list xs) = .ok xs := rfl
@[simp] theorem seqD_tuple (xs : List D) : seqD (.tuple xs) = .ok xs := rfl
@[simp] theorem itD_list (xs : List D) : itD (.list xs) = .ok xs := rfl
@[simp] theorem itD_tuple (xs : List D) : itD (.tuple xs) = .ok xs := rfl
theorem modD_int {i j : Int} (h : 0 < j) : modD (.int i) (.int j) = .ok (.int (i % j)) := by simp only [modD, if_pos h]
theorem fdivD_int {i j : Int} (h : CDiv i j) : fdivD (.int i) (.int j) = .ok (.int (i / j)) := by simp only [fdivD, if_pos h]
theorem mulD_int {i j : Int} (h : CMul i j) : mulD (.int i) (.int j) = .ok (.int (i * j)) := by simp only [mulD, if_pos h]
theorem powD_int {i j : Int} (h : CPow i j) : powD (.int i) (.int j) = .ok (.int (i ^ j.toNat)) := by simp only [powD, if_pos h]
theorem sl_eq : (sizeLine : Nat) = 16777216 := sizeLine_eq
theorem itD_S (l : List Nat) : itD (S l) = .ok (l.map fun c => S [c]) := by
  simp [itD, signsD]
theorem lenD_S {l : List Nat} (h : l.length ≤ 16777216) : lenD (S l) = .ok (.int l.length) := by
  simp [lenD, len_mk, sl_eq, h]
theorem truD_S {l : List Nat} (h : l.length ≤ 16777216) : truD (S l) = .ok (l.length != 0) := by
  simp [truD, len_mk, sl_eq, h]
  cases l <;> simp
  omega
theorem addD_S {a b : List Nat} (h : a.length + b.length ≤ 16777216) : addD (S a) (S b) = .ok (S (a ++ b)) := by
  simp only [addD, len_mk, sl_eq, if_pos h, mk_append]
theorem addD_list {a b : List D} (h : a.length + b.length ≤ 16777216) : addD (.list a) (.list b) = .ok (.list (a ++ b)) := by
  simp only [addD, sl_eq, if_pos h]
theorem addD_tuple {a b : List D} (h : a.length + b.length ≤ 16777216) : addD (.tuple a) (.tuple b) = .ok (.tuple (a ++ b)) := by
  simp only [addD, sl_eq, if_pos h]
/-- at a place -/
theorem atI_some {α : Type} {xs : List α} {k : Nat} {x : α} (h : xs[k]? = some x) : atI xs (k : Int) = some x := atI_nat h
theorem atD_list {xs : List D} {k : Nat} {d : D} (h : xs[k]? = some d) : atD (.list xs) (.int k) = .ok d := by
  simp only [atD, atI_some h, ofO_some]
theorem atD_tuple {xs : List D} {k : Nat} {d : D} (h : xs[k]? = some d) : atD (.tuple xs) (.int k) = .ok d := by
  simp only [atD, atI_some h, ofO_some]
theorem atD_S {l : List Nat} {k : Nat} {c : Nat} (hl : l.length ≤ 16777216) (h : l[k]? = some c) : atD (S l) (.int k) = .ok (S [c]) := by
  have : atI l (k : Int) = some c := atI_some h
  simp only [atD, len_mk, sl_eq, if_pos hl]
  simp [this]
/-- slices -/
theorem cutD_S {l : List Nat} {lo hi : Option Int} (h : l.length ≤ 16777216) : cutD (S l) lo hi = .ok (S (cutL l lo hi)) := by
  simp only [cutD, len_mk, sl_eq, if_pos h]
  simp [cutS, cutL, Str.length]
@[simp] theorem cutD_list (l : List D) (lo hi : Option Int) : cutD (.list l) lo hi = .ok (.list (cutL l lo hi)) := rfl
@[simp] theorem cutD_tuple (l : List D) (lo hi : Option Int) : cutD (.tuple l) lo hi = .ok (.tuple (cutL l lo hi)) := rfl
theorem sIx_nat' (n d k : Nat) : HT.sIx n d (some (k : Int)) = min k n := HT.sIx_nat n d k
theorem cut_to {α : Type} (l : List α) (k : Nat) : cutL l none (some (k : Int)) = l.take k := by
  unfold cutL
  rw [sIx_nat', HT.sIx_none]
  rw [List.drop_zero, Nat.sub_zero]
  rw [List.take_eq_take_iff]
  omega
theorem cut_from {α : Type} (l : List α) (k : Nat) : cutL l (some (k : Int)) none = l.drop k := by
  unfold cutL
  rw [sIx_nat', HT.sIx_none]
  by_cases h : k ≤ l.length
  · rw [Nat.min_eq_left h]
    rw [List.take_of_length_le (by rw [List.length_drop]; omega)]
  · rw [Nat.min_eq_right (by omega), List.drop_length, List.drop_of_length_le (by omega)]
    simp
theorem sIx_neg1 (n d : Nat) : HT.sIx n d (some (-1)) = n - 1 := by
  unfold HT.sIx
  simp
  omega
theorem cut_last {α : Type} (l : List α) : cutL l (some (-1)) none = l.drop (l.length - 1) := by
  unfold cutL
  rw [sIx_neg1, HT.sIx_none]
  rw [List.take_of_length_le (by rw [List.length_drop]; omega)]
theorem cut_mid {α : Type} (l : List α) : cutL l (some 1) (some (-1)) = (l.drop 1).take (l.length - 2) := by
  unfold cutL
  rw [sIx_neg1, show (1 : Int) = ((1 : Nat) : Int) from rfl, sIx_nat']
  by_cases h : 1 ≤ l.length
  · rw [Nat.min_eq_left h]
    have : l.length - 1 - 1 = l.length - 2 := by omega
    rw [this]
  · have : l = [] := List.eq_nil_of_length_eq_zero (by omega)
    subst this
    simp
/-! == -/
theorem eqv_S (a b : List Nat) : PyData.eqv (S a) (S b) = (a == b) := by
  show ((⟨a.toArray⟩ : Str) == ⟨b.toArray⟩) = (a == b)
  by_cases h : a = b
  · subst h
    rw [beq_self_eq_true, beq_self_eq_true]
  · have : ¬ (⟨a.toArray⟩ : Str) = ⟨b.toArray⟩ := fun e => h (S_inj.mp e)
    rw [beq_eq_false_iff_ne.mpr this, beq_eq_false_iff_ne.mpr h]
theorem plain_S (n : Nat) (a : List Nat) : plainD n (S a) = true := by cases n <;> simp [plainD]
theorem plain_int (n : Nat) (a : Int) : plainD n (.int a) = true := by cases n <;> simp [plainD]
theorem plain_bool (n : Nat) (a : Bool) : plainD n (.bool a) = true := by cases n <;> simp [plainD]
theorem plain_none (n : Nat) : plainD n .none = true := by cases n <;> simp [plainD]
theorem plainL_iff {n : Nat} : ∀ {ds : List D}, plainL n ds = true ↔ ∀ d ∈ ds, plainD n d = true
  | [] => by simp [plainL]
  | d :: ds => by simp [plainL, plainL_iff (ds := ds)]
theorem plain_list {n : Nat} {ds : List D} (h : ∀ d ∈ ds, plainD n d = true) : plainD (n + 1) (.list ds) = true := by
  simp only [plainD]; exact plainL_iff.mpr h
theorem plain_tuple {n : Nat} {ds : List D} (h : ∀ d ∈ ds, plainD n d = true) : plainD (n + 1) (.tuple ds) = true := by
  simp only [plainD]; exact plainL_iff.mpr h
@[simp] theorem eqD_int (i j : Int) : eqD (.int i) (.int j) = .ok (.bool (i == j)) := by
  simp only [eqD, plain_int, and_self, if_true, PyData.eqv]
@[simp] theorem eqD_S (a b : List Nat) : eqD (S a) (S b) = .ok (.bool (a == b)) := by
  simp only [eqD, plain_S, and_self, if_true, eqv_S]
@[simp] theorem neD_int (i j : Int) : neD (.int i) (.int j) = .ok (.bool (!(i == j))) := by
  simp only [neD, plain_int, and_self, if_true, PyData.eqv]
@[simp] theorem neD_S (a b : List Nat) : neD (S a) (S b) = .ok (.bool (!(a == b))) := by
  simp only [neD, plain_S, and_self, if_true, eqv_S]
mutual
theorem eqv_self : ∀ (n : Nat) (d : D), plainD n d = true → PyData.eqv d d = true
  | n, .none, _ => by simp [PyData.eqv]
  | n, .bool b, _ => by simp [PyData.eqv]
  | n, .int i, _ => by simp [PyData.eqv]
  | n, .str x, _ => by simp [PyData.eqv]
  | 0, .list _, h => by simp [plainD] at h
  | 0, .tuple _, h => by simp [plainD] at h
  | n + 1, .list xs, h => by
    simp only [PyData.eqv]
    exact eqv_selfL n xs (by simpa [plainD] using h)
  | n + 1, .tuple xs, h => by
    simp only [PyData.eqv]
    exact eqv_selfL n xs (by simpa [plainD] using h)
  | n, .dict _, h => by cases n <;> simp [plainD] at h
theorem eqv_selfL : ∀ (n : Nat) (ds : List D), plainL n ds = true → PyData.eqvAll ds ds = true
  | n, [], _ => by simp [PyData.eqvAll]
  | n, d :: ds, h => by
    have h' : plainD n d = true ∧ plainL n ds = true := by simpa [plainL] using h
    simp [PyData.eqvAll, eqv_self n d h'.1, eqv_selfL n ds h'.2]
end
theorem eqD_self {d : D} (h : plainD deep d = true) : eqD d d = .ok (.bool true) := by
  simp only [eqD, h, and_self, if_true, eqv_self deep d h]
theorem neD_self {d : D} (h : plainD deep d = true) : neD d d = .ok (.bool false) := by
  simp only [neD, h, and_self, if_true, eqv_self deep d h, Bool.not_true]
theorem plain_mono : ∀ {n m : Nat} {d : D}, plainD n d = true → n ≤ m → plainD m d = true
  | n, m, .none, _, _ => plain_none m
  | n, m, .bool b, _, _ => plain_bool m b
  | n, m, .int b, _, _ => plain_int m b
  | n, m, .str b, _, _ => by cases m <;> simp [plainD]
  | 0, m, .list _, h, _ => by simp [plainD] at h
  | 0, m, .tuple _, h, _ => by simp [plainD] at h
  | n + 1, 0, .list xs, h, l => by omega
  | n + 1, 0, .tuple xs, h, l => by omega
  | n + 1, m + 1, .list xs, h, l => plain_list fun d hd => plain_mono (n := n) (plainL_iff.mp (by simpa [plainD] using h) d hd) (by omega)
  | n + 1, m + 1, .tuple xs, h, l => plain_tuple fun d hd => plain_mono (n := n) (plainL_iff.mp (by simpa [plainD] using h) d hd) (by omega)
  | n, m, .dict _, h, _ => by cases n <;> simp [plainD] at h
end WD

namespace WD
open PySem PySem.Spec PyProof.Rows L2

/-! ### texts: what the methods are on lists of codes -/
theorem inS_one (c : Nat) (l : List Nat) : inS ⟨[c].toArray⟩ ⟨l.toArray⟩ = decide (c ∈ l) := by
  have := PySem.StrLaws.found_one ⟨l.toArray⟩ c
  unfold inS
  simpa using this
@[simp] theorem inD_one (c : Nat) (l : List Nat) : inD (S [c]) (S l) = .ok (.bool (decide (c ∈ l))) := by
  simp only [inD, inS_one]
@[simp] theorem notInD_one (c : Nat) (l : List Nat) : notInD (S [c]) (S l) = .ok (.bool (!decide (c ∈ l))) := by
  simp only [notInD, inD_one, bind_okR]
theorem subAt_mk (a b : List Nat) (i : Nat) : Builtin.Str.subAt ⟨a.toArray⟩ ⟨b.toArray⟩ i = decide ((a.drop i).take b.length = b) := by
  unfold Builtin.Str.subAt
  rw [len_mk]
  have e : a.toArray.extract i (i + b.length) = ((a.drop i).take b.length).toArray := by
    apply Array.toList_inj.mp
    simp [List.extract_eq_drop_take, Array.toList_extract]
  show (a.toArray.extract i (i + b.length) == b.toArray) = _
  rw [e]
  by_cases h : (a.drop i).take b.length = b
  · rw [h]; simp
  · rw [decide_eq_false h]
    exact beq_eq_false_iff_ne.mpr fun q => h (by simpa using q)
def startsL (a b : List Nat) : Bool := decide (a.take b.length = b)
def endsL (a b : List Nat) : Bool := decide (b.length ≤ a.length ∧ a.drop (a.length - b.length) = b)
theorem starts_mk (a b : List Nat) : Txt.startswith ⟨a.toArray⟩ ⟨b.toArray⟩ = startsL a b := by
  unfold Txt.startswith startsL
  rw [len_mk, len_mk, subAt_mk, List.drop_zero]
  by_cases h : a.take b.length = b
  · have : b.length ≤ a.length := by
      have := congrArg List.length h
      rw [List.length_take] at this
      omega
    simp [h, this]
  · simp [h]
theorem ends_mk (a b : List Nat) : Txt.endswith ⟨a.toArray⟩ ⟨b.toArray⟩ = endsL a b := by
  unfold Txt.endswith endsL
  rw [len_mk, len_mk, subAt_mk]
  by_cases hl : b.length ≤ a.length
  · have : (a.drop (a.length - b.length)).take b.length = a.drop (a.length - b.length) := List.take_of_length_le (by rw [List.length_drop]; omega)
    rw [this]
    simp [hl]
  · have h0 : ¬ (0 + b.length ≤ a.length) := by omega
    simp [hl, h0]
theorem lstrip_mk (a b : List Nat) : Txt.lstripChars ⟨a.toArray⟩ ⟨b.toArray⟩ = ⟨(a.dropWhile fun c => b.contains c).toArray⟩ := by
  unfold Txt.lstripChars Txt.stripBy
  have hg : ∀ c, (⟨b.toArray⟩ : Str).cps.contains c = b.contains c := fun c => by simp
  have e : ∀ (l : List Nat), (l.takeWhile ((⟨b.toArray⟩ : Str).cps.contains)) = l.takeWhile fun c => b.contains c := fun l => by
    congr 1
    funext c
    exact hg c
  have lo : PySem.stripLo (⟨b.toArray⟩ : Str).cps.contains true ⟨a.toArray⟩ = (a.takeWhile fun c => b.contains c).length := by
    unfold PySem.stripLo
    rw [if_pos rfl]
    show ((a.toArray.toList).takeWhile _).length = _
    rw [e]
  have hi : ∀ k, PySem.stripHi (⟨b.toArray⟩ : Str).cps.contains false ⟨a.toArray⟩ k = a.length := fun k => by
    unfold PySem.stripHi
    rw [if_neg Bool.false_ne_true, len_mk]
  have hd : a.drop (a.takeWhile fun c => b.contains c).length = a.dropWhile fun c => b.contains c := by
    have h : ∀ l m : List Nat, l ++ m = a → a.drop l.length = m := fun l m e => by rw [← e, List.drop_left]
    exact h _ _ List.takeWhile_append_dropWhile
  have st : PySem.stripped (⟨b.toArray⟩ : Str).cps.contains true false ⟨a.toArray⟩ = ⟨(a.dropWhile fun c => b.contains c).toArray⟩ := by
    unfold PySem.stripped
    rw [lo, hi]
    apply TL.ext_tl
    rw [TL.tl_strSub]
    show (a.drop _).take _ = a.dropWhile _
    rw [hd, List.take_of_length_le]
    have := congrArg List.length hd
    rw [List.length_drop] at this
    omega
  split
  · rename_i h
    unfold PySem.stripSame at h
    rw [lo, hi] at h
    have h0 : (a.takeWhile fun c => b.contains c).length = 0 := by
      have := (Bool.and_eq_true_iff.mp h).1
      simpa using this
    rw [h0, List.drop_zero] at hd
    rw [← hd]
  · exact st
@[simp] theorem startsD_S (a b : List Nat) : s1D startsD ⟨a.toArray⟩ [S b] = .ok (.bool (startsL a b)) := by
  simp only [s1D, startsD, starts_mk]
@[simp] theorem endsD_S (a b : List Nat) : s1D endsD ⟨a.toArray⟩ [S b] = .ok (.bool (endsL a b)) := by
  simp only [s1D, endsD, ends_mk]
theorem lstripD_S {a b : List Nat} (h : a.length ≤ 16777216) : s1D lstripD ⟨a.toArray⟩ [S b] = .ok (S (a.dropWhile fun c => b.contains c)) := by
  simp only [s1D, lstripD, len_mk, sl_eq, if_pos h, lstrip_mk]
theorem strsOf_S : ∀ ls : List (List Nat), strsOf (ls.map S) = some (ls.map fun l => (⟨l.toArray⟩ : Str))
  | [] => rfl
  | l :: ls => by
    rw [List.map_cons]
    show (strsOf (ls.map S)).map _ = _
    rw [strsOf_S ls]
    rfl
theorem join_mk (a : List Nat) (ls : List (List Nat)) : Txt.join ⟨a.toArray⟩ (ls.map fun l => (⟨l.toArray⟩ : Str)) = ⟨(TL.joinL a ls).toArray⟩ := by
  apply TL.ext_tl
  rw [TL.join_eq, TL.tl_join]
  show TL.joinL a ((ls.map fun l => (⟨l.toArray⟩ : Str)).map TL.tl) = TL.joinL a ls
  rw [List.map_map]
  congr 1
  induction ls with
  | nil => rfl
  | cons l ls ih => rw [List.map_cons, ih]; rfl
theorem joinD_S {a : List Nat} {ls : List (List Nat)} (h : (ls.map List.length).sum + ls.length * a.length ≤ 16777216) : joinD ⟨a.toArray⟩ [.list (ls.map S)] = .ok (S (TL.joinL a ls)) := by
  simp only [joinD, seqD_list, bind_okR, strsOf_S, ofO_some]
  have e : ((ls.map fun l => (⟨l.toArray⟩ : Str)).map (·.length)) = ls.map List.length := by
    rw [List.map_map]
    congr 1
  rw [e, List.length_map, len_mk, if_pos h, join_mk]
theorem joinL_nil : ∀ ls : List (List Nat), TL.joinL [] ls = ls.flatten
  | [] => rfl
  | [p] => by simp [TL.joinL]
  | p :: q :: r => by
    have := joinL_nil (q :: r)
    simp [TL.joinL] at *
    rw [this]
theorem mulD_S {a : List Nat} {k : Int} (h0 : 0 ≤ k) (h : a.length * k.toNat ≤ 16777216) (hk : k < 2 ^ 63) : mulD (S a) (.int k) = .ok (S (List.replicate k.toNat a).flatten) := by
  have : -(2 ^ 63) ≤ k ∧ k < 2 ^ 63 ∧ (⟨a.toArray⟩ : Str).length * k.toNat ≤ 16777216 := ⟨by omega, hk, by rw [len_mk]; exact h⟩
  simp only [mulD, if_pos this]
  rfl

/-! ### loops -/
theorem forL_inv {g : D → WD.Env → Option WD.Env} {b : WD.Env → Out} (I : Nat → WD.Env → Prop) : ∀ (ds : List D) (ρ : WD.Env) (j : Nat), I j ρ →
    (∀ i d ρ, ds[i]? = some d → I (j + i) ρ → ∃ ρ1 ρ2, g d ρ = some ρ1 ∧ (b ρ1 = .nx ρ2 ∨ b ρ1 = .ct ρ2) ∧ I (j + i + 1) ρ2) → ∃ ρ', forL g b ds ρ = .nx ρ' ∧ I (j + ds.length) ρ'
  | [], ρ, j, h, _ => ⟨ρ, rfl, h⟩
  | d :: ds, ρ, j, h, step => by
    obtain ⟨ρ1, ρ2, e1, e2, i2⟩ := step 0 d ρ rfl h
    have ih := forL_inv I ds ρ2 (j + 1) (by simpa using i2) fun i d' ρ' hd hi => by
      have := step (i + 1) d' ρ' (by simpa using hd) (by rw [show j + (i + 1) = j + 1 + i by omega]; exact hi)
      rw [show j + (i + 1) + 1 = j + 1 + i + 1 by omega] at this
      exact this
    obtain ⟨ρ', e3, i3⟩ := ih
    refine ⟨ρ', ?_, by rw [List.length_cons, show j + (ds.length + 1) = j + 1 + ds.length by omega]; exact i3⟩
    unfold forL
    rw [e1]
    rcases e2 with e2 | e2 <;> simp only [e2] <;> exact e3
/-- a loop that may end by a return: I while it goes on, R of what is returned -/
theorem forL_ret {g : D → WD.Env → Option WD.Env} {b : WD.Env → Out} (I : Nat → WD.Env → Prop) (R : Nat → Out → Prop) : ∀ (ds : List D) (ρ : WD.Env) (j : Nat), I j ρ →
    (∀ i d ρ, ds[i]? = some d → I (j + i) ρ → ∃ ρ1, g d ρ = some ρ1 ∧ ((∃ ρ2, (b ρ1 = .nx ρ2 ∨ b ρ1 = .ct ρ2) ∧ I (j + i + 1) ρ2) ∨ ((∃ r, b ρ1 = .rt r) ∨ ∃ x, b ρ1 = .err x) ∧ R (j + i) (b ρ1))) →
      (∃ ρ', forL g b ds ρ = .nx ρ' ∧ I (j + ds.length) ρ') ∨ ∃ i, i < ds.length ∧ R (j + i) (forL g b ds ρ) ∧ ((∃ r, forL g b ds ρ = .rt r) ∨ ∃ x, forL g b ds ρ = .err x)
  | [], ρ, j, h, _ => .inl ⟨ρ, rfl, h⟩
  | d :: ds, ρ, j, h, step => by
    obtain ⟨ρ1, e1, h1⟩ := step 0 d ρ rfl h
    rcases h1 with ⟨ρ2, e2, i2⟩ | ⟨e2, r2⟩
    · have ih := forL_ret I R ds ρ2 (j + 1) (by simpa using i2) fun i d' ρ' hd hi => by
        have := step (i + 1) d' ρ' (by simpa using hd) (by rw [show j + (i + 1) = j + 1 + i by omega]; exact hi)
        rw [show j + (i + 1) = j + 1 + i by omega] at this
        exact this
      have e : forL g b (d :: ds) ρ = forL g b ds ρ2 := by
        conv => lhs; unfold forL
        rw [e1]
        rcases e2 with e2 | e2 <;> simp only [e2]
      rw [e]
      rcases ih with ⟨ρ', e3, i3⟩ | ⟨i, hi, r, z⟩
      · exact .inl ⟨ρ', e3, by rw [List.length_cons, show j + (ds.length + 1) = j + 1 + ds.length by omega]; exact i3⟩
      · exact .inr ⟨i + 1, by rw [List.length_cons]; omega, by rw [show j + (i + 1) = j + 1 + i by omega]; exact r, z⟩
    · refine .inr ⟨0, by simp, ?_⟩
      have e : forL g b (d :: ds) ρ = b ρ1 := by
        unfold forL
        rw [e1]
        rcases e2 with ⟨r, e2⟩ | ⟨x, e2⟩ <;> simp only [e2]
      rw [e]
      exact ⟨r2, e2⟩
/-! ### comprehensions -/
theorem compL_map {g : D → WD.Env → Option WD.Env} {t : WD.Env → Res Bool} {m : WD.Env → Res D} {ρ : WD.Env} (f : D → D) : ∀ ds : List D, (∀ d ∈ ds, ∃ ρ1, g d ρ = some ρ1 ∧ t ρ1 = .ok true ∧ m ρ1 = .ok (f d)) → compL g t m ρ ds = .ok (ds.map f)
  | [], _ => rfl
  | d :: ds, h => by
    obtain ⟨ρ1, e1, e2, e3⟩ := h d (by simp)
    have ih := compL_map f ds fun d' hd => h d' (by simp [hd])
    unfold compL
    simp only [e1, e2, e3, noErr_okR, bind_okR, if_true, ih, List.map_cons]
theorem compL_filter {g : D → WD.Env → Option WD.Env} {t : WD.Env → Res Bool} {m : WD.Env → Res D} {ρ : WD.Env} (p : D → Bool) (f : D → D) : ∀ ds : List D, (∀ d ∈ ds, ∃ ρ1, g d ρ = some ρ1 ∧ t ρ1 = .ok (p d) ∧ (p d = true → m ρ1 = .ok (f d))) → compL g t m ρ ds = .ok ((ds.filter p).map f)
  | [], _ => rfl
  | d :: ds, h => by
    obtain ⟨ρ1, e1, e2, e3⟩ := h d (by simp)
    have ih := compL_filter p f ds fun d' hd => h d' (by simp [hd])
    unfold compL
    cases hp : p d with
    | true => simp only [e1, e2, hp, e3 hp, noErr_okR, bind_okR, if_true, ih, List.filter_cons_of_pos hp, List.map_cons]
    | false =>
      have hn : ¬ p d = true := by rw [hp]; exact Bool.false_ne_true
      simp only [e1, e2, hp, noErr_okR, bind_okR, ih, List.filter_cons_of_neg hn]
      rfl
/-- over a range, by the number -/
theorem compL_range {g : D → WD.Env → Option WD.Env} {t : WD.Env → Res Bool} {m : WD.Env → Res D} {ρ : WD.Env} {lo : Int} {n : Nat} (f : Nat → D) (h : ∀ i, i < n → ∃ ρ1, g (.int (lo + (i : Nat))) ρ = some ρ1 ∧ t ρ1 = .ok true ∧ m ρ1 = .ok (f i)) : compL g t m ρ (rngD lo n) = .ok ((List.range n).map f) := by
  have main : ∀ (k : Nat) (is : List Nat), (∀ i ∈ is, i < n) → compL g t m ρ (is.map fun (i : Nat) => .int (lo + (i : Int))) = .ok (is.map f) := fun _ is => by
    induction is with
    | nil => intro _; rfl
    | cons i is ih =>
      intro hi
      obtain ⟨ρ1, e1, e2, e3⟩ := h i (hi i (by simp))
      have ih := ih fun j hj => hi j (by simp [hj])
      rw [List.map_cons, List.map_cons]
      unfold compL
      simp only [e1, e2, e3, noErr_okR, bind_okR, if_true, ih]
  exact main 0 (List.range n) fun i hi => List.mem_range.mp hi
theorem rngD_len (lo : Int) (n : Nat) : (rngD lo n).length = n := by simp [rngD]
theorem rngD_get {lo : Int} {n i : Nat} {d : D} (h : (rngD lo n)[i]? = some d) : i < n ∧ d = .int (lo + (i : Nat)) := by
  unfold rngD at h
  rw [List.getElem?_map] at h
  by_cases hi : i < n
  · rw [List.getElem?_range hi] at h
    exact ⟨hi, by simpa using h.symm⟩
  · rw [List.getElem?_eq_none (by simpa using hi)] at h
    cases h
theorem rng1D_int {j : Int} (h0 : 0 ≤ j) (h1 : j < 2 ^ 62) : rng1D [.int j] = .ok (rngD 0 j.toNat) := by
  simp only [rng1D, if_pos (show -(2 ^ 62) ≤ j ∧ j < 2 ^ 62 from ⟨by omega, h1⟩)]
theorem allD_bools (bs : List Bool) : allD (.list (bs.map PyData.bool)) = .ok (.bool (bs.all id)) := by
  have : ∀ bs : List Bool, blsOf (bs.map PyData.bool) = some bs := fun bs => by
    induction bs with
    | nil => rfl
    | cons b bs ih => rw [List.map_cons]; show (blsOf (bs.map PyData.bool)).map _ = _; rw [ih]; rfl
  simp only [allD, this, ofO_some, bind_okR]
theorem sumD_ints (bs : List Int) : sumD (.list (bs.map PyData.int)) = .ok (.int bs.sum) := by
  have : ∀ bs : List Int, intsOf (bs.map PyData.int) = some bs := fun bs => by
    induction bs with
    | nil => rfl
    | cons b bs ih => rw [List.map_cons]; show (intsOf (bs.map PyData.int)).map _ = _; rw [ih]; rfl
  simp only [sumD, this, ofO_some, bind_okR]
/-! the classes of values -/
theorem isi_self {d : D} : isiD (tyN d) d = .ok (.bool true) := by
  have h : kitB (tyN d) (tyN d) = some true := by cases d <;> (simp only [tyN]; decide +kernel)
  simp only [isiD, h, ofO_some, bind_okR]
@[simp] theorem isi_bool (b : Bool) : isiD "bool" (.bool b) = .ok (.bool true) := isi_self (d := .bool b)
@[simp] theorem isi_list (xs : List D) : isiD "list" (.list xs) = .ok (.bool true) := isi_self (d := .list xs)
@[simp] theorem isi_tuple (xs : List D) : isiD "tuple" (.tuple xs) = .ok (.bool true) := isi_self (d := .tuple xs)
@[simp] theorem isi_str (x : Str) : isiD "str" (.str x) = .ok (.bool true) := isi_self (d := .str x)
@[simp] theorem isi_int (i : Int) : isiD "int" (.int i) = .ok (.bool true) := isi_self (d := .int i)
@[simp] theorem isi_int_bool (i : Int) : isiD "bool" (.int i) = .ok (.bool false) := by
  have h : kitB "int" "bool" = some false := by decide +kernel
  simp only [isiD, tyN, h, ofO_some, bind_okR]
@[simp] theorem isi_str_tuple (x : Str) : isiD "tuple" (.str x) = .ok (.bool false) := by
  have h : kitB "str" "tuple" = some false := by decide +kernel
  simp only [isiD, tyN, h, ofO_some, bind_okR]
@[simp] theorem isi_int_tuple (x : Int) : isiD "tuple" (.int x) = .ok (.bool false) := by
  have h : kitB "int" "tuple" = some false := by decide +kernel
  simp only [isiD, tyN, h, ofO_some, bind_okR]
@[simp] theorem isi_int_str (x : Int) : isiD "str" (.int x) = .ok (.bool false) := by
  have h : kitB "int" "str" = some false := by decide +kernel
  simp only [isiD, tyN, h, ofO_some, bind_okR]
@[simp] theorem isi_none_tuple : isiD "tuple" .none = .ok (.bool false) := by
  have h : kitB "NoneType" "tuple" = some false := by decide +kernel
  simp only [isiD, tyN, h, ofO_some, bind_okR]
end WD
namespace WD
open PySem PySem.Spec PyProof.Rows L2
theorem compL_ex {g : D → WD.Env → Option WD.Env} {t : WD.Env → Res Bool} {m : WD.Env → Res D} {ρ : WD.Env} (P : D → Prop) : ∀ ds : List D, (∀ d ∈ ds, ∃ ρ1 y, g d ρ = some ρ1 ∧ t ρ1 = .ok true ∧ m ρ1 = .ok y ∧ P y) → ∃ ys, compL g t m ρ ds = .ok ys ∧ ys.length = ds.length ∧ ∀ y ∈ ys, P y
  | [], _ => ⟨[], rfl, rfl, by simp⟩
  | d :: ds, h => by
    obtain ⟨ρ1, y, e1, e2, e3, p⟩ := h d (by simp)
    obtain ⟨ys, ih, hl, hp⟩ := compL_ex P ds fun d' hd => h d' (by simp [hd])
    refine ⟨y :: ys, ?_, by simp [hl], fun z hz => ?_⟩
    · unfold compL
      simp only [e1, e2, e3, noErr_okR, bind_okR, if_true, ih]
    · rcases List.mem_cons.mp hz with rfl | hz
      · exact p
      · exact hp z hz
theorem choose_map {α β : Type} {P : α → Prop} (f : α → β) : ∀ ys : List β, (∀ y ∈ ys, ∃ a, y = f a ∧ P a) → ∃ as : List α, ys = as.map f ∧ ∀ a ∈ as, P a
  | [], _ => ⟨[], rfl, by simp⟩
  | y :: ys, h => by
    obtain ⟨a, rfl, ha⟩ := h y (by simp)
    obtain ⟨as, rfl, hp⟩ := choose_map f ys fun z hz => h z (by simp [hz])
    refine ⟨a :: as, rfl, fun b hb => ?_⟩
    rcases List.mem_cons.mp hb with rfl | hb
    · exact ha
    · exact hp b hb
theorem rngD_mem {lo : Int} {n : Nat} {d : D} (h : d ∈ rngD lo n) : ∃ i : Nat, i < n ∧ d = .int (lo + (i : Nat)) := by
  obtain ⟨i, hi, rfl⟩ := List.mem_map.mp h
  exact ⟨i, List.mem_range.mp hi, rfl⟩
theorem ints_at {ds : List Int} {k : Nat} {d : Int} (h : ds[k]? = some d) : atD (.list (ds.map PyData.int)) (.int k) = .ok (.int d) := atD_list (by rw [List.getElem?_map, h]; rfl)
theorem get_some {α : Type} {l : List α} {k : Nat} (h : k < l.length) : ∃ x, l[k]? = some x ∧ x ∈ l := ⟨l[k], List.getElem?_eq_getElem h, List.getElem_mem h⟩
theorem flat_ones : ∀ cs : List Nat, (cs.map fun c => [c]).flatten = cs
  | [] => rfl
  | c :: cs => by simp [flat_ones cs]
end WD

namespace WD
open PySem PySem.Spec PyProof.Rows L2
@[simp] theorem mWhile_at (fu : WD.Env → Nat) (c : WD.Env → Res Bool) (b : WD.Env → Out) (ρ : WD.Env) : mWhile fu c b ρ = whileL c b (fu ρ) ρ := rfl
@[simp] theorem mAug_at (f : D → D → Res D) (i : Nat) (m : WD.Env → Res D) (ρ : WD.Env) : mAug f i m ρ = (ofO (ρ[i]?).join).out fun x => (m ρ).out fun y => (f x y).out fun z => .nx (ρ.set i (some z)) := rfl
@[simp] theorem incD_int (i j : Int) : incD (.int i) (.int j) = .ok (.int (i + j)) := rfl
@[simp] theorem decD_int (i j : Int) : decD (.int i) (.int j) = .ok (.int (i - j)) := rfl
@[simp] theorem mRgL2_at (a b : WD.Env → Res D) (ρ : WD.Env) : mRgL2 a b ρ = (a ρ).bind fun x => (b ρ).bind fun y => match x, y with
  | .int i, .int j => rngL i j
  | _, _ => .stk := rfl
@[simp] theorem mSeqX_at (a : WD.Env → Res D) (ρ : WD.Env) : mSeqX a ρ = (a ρ).bind seqX := rfl
@[simp] theorem seqX_dict (ds : List (D × D)) : seqX (.dict ds) = .ok (ds.map (·.1)) := rfl
@[simp] theorem mGet2_at (a k x : WD.Env → Res D) (ρ : WD.Env) : mGet2 a k x ρ = (a ρ).bind fun d => match d with
  | .dict ds => (k ρ).bind fun y => (x ρ).bind fun z => (ofO (keyOf y)).bind fun k => .ok ((valD ds k).getD z)
  | _ => .stk := rfl
@[simp] theorem mGet1_at (a k : WD.Env → Res D) (ρ : WD.Env) : mGet1 a k ρ = (a ρ).bind fun d => match d with
  | .dict ds => (k ρ).bind fun y => (ofO (keyOf y)).bind fun k => .ok ((valD ds k).getD .none)
  | _ => .stk := rfl
@[simp] theorem keyOf_S (l : List Nat) : keyOf (S l) = some (.inr ⟨l.toArray⟩) := rfl
@[simp] theorem keyOf_int (i : Int) : keyOf (.int i) = some (.inl i) := rfl
@[simp] theorem getDct_at (i : Nat) (ρ : WD.Env) : getDct i ρ = match (ρ[i]?).join with
  | some (.dict ds) => .ok ds
  | _ => .stk := rfl
@[simp] theorem mDSet_at (i : Nat) (k : WD.Env → Res D) (fin : Key → WD.Env → Out) (ρ : WD.Env) : mDSet i k fin ρ = (getDct i ρ).out fun ds => (k ρ).out fun dk => (ofO (keyOf dk)).out fun k => if ds.length < sizeLine then (match valD ds k with
  | none => fin k (ρ.set i (some (.dict (putD ds k (.list [])))))
  | some _ => fin k ρ) else .stk := rfl
@[simp] theorem mDL_at (i : Nat) (k : WD.Env → Res D) (fin : Key → WD.Env → Out) (ρ : WD.Env) : mDL i k fin ρ = (getDct i ρ).out fun _ => (k ρ).out fun dk => (ofO (keyOf dk)).out fun k => fin k ρ := rfl
@[simp] theorem finExt_at (i : Nat) (m : WD.Env → Res D) (k : Key) (ρ : WD.Env) : finExt i m k ρ = (getDct i ρ).out fun ds => (lstAt ds k).out fun xs => (m ρ).out fun d => (seqD d).out fun es => if xs.length + es.length ≤ sizeLine then .nx (ρ.set i (some (.dict (putD ds k (.list (xs ++ es)))))) else .stk := rfl
@[simp] theorem finApp_at (i : Nat) (m : WD.Env → Res D) (k : Key) (ρ : WD.Env) : finApp i m k ρ = (getDct i ρ).out fun ds => (lstAt ds k).out fun xs => (m ρ).out fun d => if xs.length < sizeLine then .nx (ρ.set i (some (.dict (putD ds k (.list (xs ++ [d])))))) else .stk := rfl
@[simp] theorem mDPut_at (i : Nat) (k v : WD.Env → Res D) (ρ : WD.Env) : mDPut i k v ρ = (v ρ).out fun v => (getDct i ρ).out fun ds => (k ρ).out fun k => (ofO (keyOf k)).out fun k => if ds.length < sizeLine then .nx (ρ.set i (some (.dict (putD ds k v)))) else .stk := rfl
@[simp] theorem mDPutN_at (i : Nat) (k : WD.Env → Res D) (v : WD.Env → Res (List D)) (ρ : WD.Env) : mDPutN i k v ρ = (v ρ).out fun v => (getDct i ρ).out fun ds => (k ρ).out fun k => (ofO (keyOf k)).out fun k => if ds.length < sizeLine ∧ valD ds k = none then .nx (ρ.set i (some (.dict (putD ds k (.list v))))) else .stk := rfl
@[simp] theorem mInS_at (w : Bool) (i : Nat) (k : WD.Env → Res D) (ρ : WD.Env) : mInS w i k ρ = (k ρ).bind fun y => (getDct i ρ).bind fun ds => (ofO (keyOf y)).bind fun k => .ok (.bool (w == (valD ds k).isSome)) := rfl
@[simp] theorem inX_dict (x : D) (ds : List (D × D)) : inX x (.dict ds) = (ofO (keyOf x)).bind fun k => .ok (.bool (valD ds k).isSome) := rfl
@[simp] theorem notInX_dict (x : D) (ds : List (D × D)) : notInX x (.dict ds) = ((ofO (keyOf x)).bind fun k => .ok (PyData.bool (valD ds k).isSome)).bind fun d => match d with
  | PyData.bool b => .ok (PyData.bool (!b))
  | _ => .stk := rfl
@[simp] theorem atX_dict (x : D) (ds : List (D × D)) : atX (.dict ds) x = (ofO (keyOf x)).bind fun k => ofO (valD ds k) := rfl
@[simp] theorem mRaise_at (x : Str) (fs : List Str) (m : WD.Env → Res (List D)) (ρ : WD.Env) : mRaise x fs m ρ = (m ρ).out fun ds => if ds.length = fs.length then .err ⟨x, (fs.zip ds).reverse⟩ else .stk := rfl
theorem mTry_at (tb : Tbl) (m : WD.Env → Res D) (fin : D → WD.Env → Out) (hs : List Sut) (ρ : WD.Env) : mTry tb m fin hs ρ = match m ρ with
  | .ok d => fin d ρ
  | .err x => hndl tb hs x ρ
  | .stk => .stk := rfl
/-! a dict, by functions of data -/
theorem valD_map {α : Type} (kf : α → D) (df : α → D) (k : Key) : ∀ L : List α, valD (L.map fun x => (kf x, df x)) k = (L.find? fun x => decide (keyOf (kf x) = some k)).map df
  | [] => rfl
  | x :: L => by
    have ih := valD_map kf df k L
    unfold valD at ih ⊢
    rw [List.map_cons, List.find?_cons, List.find?_cons]
    cases h : decide (keyOf (kf x) = some k) with
    | true => simp [h]
    | false => simp only [h]; exact ih
/-! one step of a for loop after the other, by what the loop carries -/
theorem forL_acc {α β : Type} {g : D → WD.Env → Option WD.Env} {b : WD.Env → Out} (dat : α → D) (st : β → WD.Env → Prop) (step : β → α → β) (P : α → Prop) (hs : ∀ x s ρ, P x → st s ρ → ∃ ρ1 ρ2, g (dat x) ρ = some ρ1 ∧ (b ρ1 = .nx ρ2 ∨ b ρ1 = .ct ρ2) ∧ st (step s x) ρ2) :
    ∀ (xs : List α) (s : β) (ρ : WD.Env), (∀ x ∈ xs, P x) → st s ρ → ∃ ρ', forL g b (xs.map dat) ρ = .nx ρ' ∧ st (xs.foldl step s) ρ'
  | [], s, ρ, _, h => ⟨ρ, rfl, h⟩
  | x :: xs, s, ρ, hp, h => by
    obtain ⟨ρ1, ρ2, e1, e2, h2⟩ := hs x s ρ (hp x (by simp)) h
    obtain ⟨ρ', e3, h3⟩ := forL_acc dat st step P hs xs (step s x) ρ2 (fun y hy => hp y (by simp [hy])) h2
    refine ⟨ρ', ?_, h3⟩
    rw [List.map_cons]
    unfold forL
    rw [e1]
    rcases e2 with e2 | e2 <;> simp only [e2] <;> exact e3
theorem compL_mapA {α : Type} {g : D → WD.Env → Option WD.Env} {t : WD.Env → Res Bool} {m : WD.Env → Res D} {ρ : WD.Env} (dat : α → D) (p : α → Bool) (f : α → D) : ∀ xs : List α, (∀ x ∈ xs, ∃ ρ1, g (dat x) ρ = some ρ1 ∧ t ρ1 = .ok (p x) ∧ (p x = true → m ρ1 = .ok (f x))) → compL g t m ρ (xs.map dat) = .ok ((xs.filter p).map f)
  | [], _ => rfl
  | x :: xs, h => by
    obtain ⟨ρ1, e1, e2, e3⟩ := h x (by simp)
    have ih := compL_mapA dat p f xs fun y hy => h y (by simp [hy])
    rw [List.map_cons]
    unfold compL
    cases hp : p x with
    | true => simp only [e1, e2, hp, e3 hp, noErr_okR, bind_okR, if_true, ih, List.filter_cons_of_pos hp, List.map_cons]
    | false =>
      have hn : ¬ p x = true := by rw [hp]; exact Bool.false_ne_true
      simp only [e1, e2, hp, noErr_okR, bind_okR, ih, List.filter_cons_of_neg hn]
      rfl
theorem rng1_is (n : Nat) (h : n ≤ 1000) : rng1D [.int (n : Int)] = .ok ((List.range n).map fun i => .int (i : Nat)) := by
  rw [rng1D_int (by omega) (by omega)]
  simp [rngD]
def nth (ds : List D) (i : Nat) : D := ds.getD i .none
theorem enumD_rng (ds : List D) : enumD ds = (List.range ds.length).map fun i => .tuple [.int (i : Nat), nth ds i] := by
  unfold enumD nth
  apply List.ext_getElem?
  intro i
  rw [List.getElem?_map, List.getElem?_map, List.getElem?_zipIdx]
  by_cases h : i < ds.length
  · rw [List.getElem?_range h, List.getElem?_eq_getElem h]
    simp [List.getD_eq_getElem?_getD, List.getElem?_eq_getElem h]
  · rw [List.getElem?_eq_none (by omega), List.getElem?_eq_none (by simpa using h)]
    rfl
theorem enumX_tup (ds : List D) : enumXD [.tuple ds] = .ok ((List.range ds.length).map fun i => .tuple [.int (i : Nat), nth ds i]) := by
  simp only [enumXD, enumD_rng]
theorem enumX_lst (ds : List D) : enumXD [.list ds] = .ok ((List.range ds.length).map fun i => .tuple [.int (i : Nat), nth ds i]) := by
  simp only [enumXD, enumD_rng]
theorem nth_some {ds : List D} {i : Nat} {d : D} (h : ds[i]? = some d) : nth ds i = d := by unfold nth; rw [List.getD_eq_getElem?_getD, h]; rfl
/-! dicts from names to lists of numbers -/
abbrev NL := List (List Nat × List Nat)
def nsD (xs : List Nat) : D := .list (xs.map fun i => .int (i : Nat))
def dc (s : NL) : List (D × D) := s.map fun p => (S p.1, nsD p.2)
def lk (s : NL) (n : List Nat) : Option (List Nat) := (s.find? fun p => p.1 == n).map (·.2)
def pt (s : NL) (n xs : List Nat) : NL := if (s.any fun p => p.1 == n) = true then s.map fun p => if p.1 = n then (p.1, xs) else p else s ++ [(n, xs)]
theorem key_dec (a n : List Nat) : decide (keyOf (S a) = some (.inr ⟨n.toArray⟩)) = (a == n) := by
  rw [keyOf_S]
  by_cases h : a = n
  · subst h; simp
  · have : ¬ ((⟨a.toArray⟩ : Str) = ⟨n.toArray⟩) := fun z => h (S_inj.mp z)
    rw [beq_eq_false_iff_ne.mpr h]
    simp [this]
theorem valD_dc (s : NL) (n : List Nat) : valD (dc s) (.inr ⟨n.toArray⟩) = (lk s n).map nsD := by
  unfold dc lk
  rw [valD_map (fun p : List Nat × List Nat => S p.1) (fun p => nsD p.2)]
  have e : (fun p : List Nat × List Nat => decide (keyOf (S p.1) = some (.inr ⟨n.toArray⟩))) = fun p => p.1 == n := by funext p; exact key_dec p.1 n
  rw [e, Option.map_map]
  rfl
theorem putD_dc (s : NL) (n xs : List Nat) : putD (dc s) (.inr ⟨n.toArray⟩) (nsD xs) = dc (pt s n xs) := by
  unfold putD pt
  have ea : ((dc s).any fun p => decide (keyOf p.1 = some (.inr ⟨n.toArray⟩))) = s.any fun p => p.1 == n := by
    unfold dc
    rw [List.any_map]
    congr 1
    funext p
    exact key_dec p.1 n
  rw [ea]
  split
  · unfold dc
    rw [List.map_map, List.map_map]
    apply List.map_congr_left
    intro p _
    have := key_dec p.1 n
    by_cases h : p.1 = n
    · have h2 : keyOf (S p.1) = some (.inr ⟨n.toArray⟩) := by rw [h]; rfl
      simp [h]
    · have h2 : ¬ keyOf (S p.1) = some (.inr ⟨n.toArray⟩) := fun z => by
        rw [decide_eq_true z] at this
        exact h (by simpa using this.symm)
      simp only [Function.comp, if_neg h2, if_neg h]
  · unfold dc
    rw [List.map_append]
    rfl
def grow (s : NL) (n r : List Nat) : NL := match lk s n with
  | some xs => pt s n (xs ++ r)
  | none => pt (pt s n []) n ([] ++ r)
theorem lk_none {s : NL} {n : List Nat} : lk s n = none ↔ (s.any fun p => p.1 == n) = false := by
  unfold lk
  rw [Option.map_eq_none_iff, List.find?_eq_none, List.any_eq_false]
theorem pt_new {s : NL} {n xs : List Nat} (h : lk s n = none) : pt s n xs = s ++ [(n, xs)] := by
  unfold pt
  rw [lk_none.mp h]
  rfl
theorem lk_pt (s : NL) (n m xs : List Nat) : lk (pt s n xs) m = if m = n then some xs else lk s m := by
  unfold pt
  split
  · rename_i h
    induction s with
    | nil => simp at h
    | cons p s ih =>
      unfold lk at ih ⊢
      rw [List.map_cons, List.find?_cons, List.find?_cons]
      by_cases e : p.1 = n
      · rw [if_pos e]
        by_cases e2 : m = n
        · subst e2; simp [e]
        · have n1 : (p.1 == m) = false := beq_eq_false_iff_ne.mpr fun z => e2 (by rw [← z, e])
          simp only [n1, if_neg e2]
          have hm : ∀ s : NL, ((s.map fun p => if p.1 = n then (p.1, xs) else p).find? fun p => p.1 == m) = s.find? fun p => p.1 == m := fun s => by
            induction s with
            | nil => rfl
            | cons q s ih =>
              rw [List.map_cons, List.find?_cons, List.find?_cons, ih]
              by_cases eq : q.1 = n
              · have : (q.1 == m) = false := beq_eq_false_iff_ne.mpr fun z => e2 (by rw [← z, eq])
                simp [eq, this]
                have e3 : (n == m) = false := beq_eq_false_iff_ne.mpr fun z => e2 z.symm
                simp [e3]
              · simp [eq]
          rw [hm]
      · rw [if_neg e]
        by_cases e3 : p.1 = m
        · have : ¬ m = n := fun z => e (e3.trans z)
          simp [e3, this]
        · have n1 : (p.1 == m) = false := beq_eq_false_iff_ne.mpr e3
          simp only [n1]
          have h' : (s.any fun p => p.1 == n) = true := by
            rw [List.any_cons] at h
            have : (p.1 == n) = false := beq_eq_false_iff_ne.mpr e
            simpa [this] using h
          exact ih h'
  · rename_i h
    have h : lk s n = none := lk_none.mpr (by cases q : (s.any fun p => p.1 == n) with | true => exact absurd q h | false => rfl)
    unfold lk at h ⊢
    rw [List.find?_append]
    by_cases e : m = n
    · subst e
      rw [Option.map_eq_none_iff] at h
      simp [h]
    · have n1 : (n == m) = false := beq_eq_false_iff_ne.mpr fun z => e z.symm
      simp [e, n1]
theorem lk_grow (s : NL) (n m r : List Nat) : lk (grow s n r) m = if m = n then some ((lk s n).getD [] ++ r) else lk s m := by
  unfold grow
  cases h : lk s n with
  | some xs => simp only [lk_pt, Option.getD_some]
  | none =>
    simp only [lk_pt, Option.getD_none]
    split <;> rfl
theorem keys_pt (s : NL) (n xs : List Nat) : (pt s n xs).map (·.1) = if (s.map (·.1)).contains n = true then s.map (·.1) else s.map (·.1) ++ [n] := by
  have e : (s.map (·.1)).contains n = s.any fun p => p.1 == n := by
    induction s with
    | nil => rfl
    | cons p s ih => rw [List.map_cons, List.contains_cons, List.any_cons, ih, Bool.beq_comm]
  unfold pt
  rw [e]
  split
  · rw [List.map_map]
    apply List.map_congr_left
    intro p _
    simp only [Function.comp]
    split <;> rfl
  · rw [List.map_append]; rfl
theorem keys_grow (s : NL) (n r : List Nat) : (grow s n r).map (·.1) = if (s.map (·.1)).contains n = true then s.map (·.1) else s.map (·.1) ++ [n] := by
  unfold grow
  cases h : lk s n with
  | some xs => simp only [keys_pt]
  | none =>
    simp only
    rw [keys_pt, keys_pt]
    by_cases c : (s.map (·.1)).contains n = true
    · rw [if_pos c, if_pos c]
    · have c' : (s.map (·.1)).contains n = false := by simpa using c
      simp only [c', Bool.false_eq_true, if_false]
      rw [if_pos]
      simp
/-- found.setdefault(n, []).extend(r) over such a dict -/
theorem dset_ext {i : Nat} {mk mv : WD.Env → Res D} {ρ : WD.Env} {s : NL} {n r : List Nat} (hi : ρ[i]? = some (some (.dict (dc s)))) (hk : mk ρ = .ok (S n)) (hv : ∀ ρ', (∀ j, j ≠ i → ρ'[j]? = ρ[j]?) → mv ρ' = .ok (nsD r)) (hs : s.length < 1000) (hr : ∀ xs, lk s n = some xs → xs.length + r.length ≤ 100000) (hr2 : r.length ≤ 100000) :
    mDSet i mk (finExt i mv) ρ = .nx (ρ.set i (some (.dict (dc (grow s n r))))) := by
  have hl : i < ρ.length := by
    rcases Nat.lt_or_ge i ρ.length with h | h
    · exact h
    · rw [List.getElem?_eq_none h] at hi; cases hi
  have s1 : (dc s).length < sizeLine := by unfold dc; rw [List.length_map, sl_eq]; omega
  have hj : (ρ[i]?).join = some (.dict (dc s)) := by rw [hi]; rfl
  rw [mDSet_at, getDct_at, hj]
  simp only [out_okR, hk, keyOf_S, ofO_some, if_pos s1, valD_dc]
  cases h : lk s n with
  | some xs =>
    have s2 : (xs.map fun i : Nat => PyData.int i).length + (r.map fun i : Nat => PyData.int i).length ≤ sizeLine := by
      have := hr xs h
      rw [List.length_map, List.length_map, sl_eq]; omega
    simp only [Option.map_some]
    rw [finExt_at, getDct_at, hj]
    simp only [out_okR, lstAt, valD_dc, h, Option.map_some, nsD, hv ρ (fun _ _ => rfl), seqD_list, if_pos s2]
    have e : PyData.list ((xs.map fun i : Nat => PyData.int i) ++ r.map fun i : Nat => PyData.int i) = nsD (xs ++ r) := by unfold nsD; rw [List.map_append]
    rw [e, putD_dc]
    unfold grow
    rw [h]
  | none =>
    simp only [Option.map_none]
    have e0 : (PyData.list []) = nsD [] := rfl
    rw [e0, putD_dc, finExt_at, getDct_at]
    have hj2 : ((ρ.set i (some (.dict (dc (pt s n [])))))[i]?).join = some (.dict (dc (pt s n []))) := by rw [List.getElem?_set_self hl]; rfl
    rw [hj2]
    have hv2 := hv (ρ.set i (some (.dict (dc (pt s n []))))) fun j hj => by rw [List.getElem?_set_ne (Ne.symm hj)]
    have s2 : (([] : List Nat).map fun i : Nat => PyData.int i).length + (r.map fun i : Nat => PyData.int i).length ≤ sizeLine := by
      rw [List.length_map, List.length_map, sl_eq, List.length_nil]; omega
    have hlk : lk (pt s n []) n = some [] := by rw [lk_pt, if_pos rfl]
    simp only [out_okR, lstAt, valD_dc, hlk, Option.map_some, nsD, hv2, seqD_list, if_pos s2]
    have e : PyData.list ((([] : List Nat).map fun i : Nat => PyData.int i) ++ r.map fun i : Nat => PyData.int i) = nsD ([] ++ r) := by unfold nsD; rw [List.map_append]
    rw [e, putD_dc, List.set_set]
    unfold grow
    rw [h]
end WD

namespace WK
open PySem PySem.Spec PyProof.Rows L2 WD
def topS (i : Nat) : Stmt := PySem.Challenge.pw_weft_k86_woven_positions.main.body.getD i (.Pass ⟨0, 0, 0, 0⟩)
def c_MARGIN : D := (.int 4)
structure Txt (K : PySem.W.Frag) (mg : Mg) : Prop where
  b_bool : mg "bool" = none
  b_enumerate : mg "enumerate" = none
  b_int : mg "int" = none
  b_isinstance : mg "isinstance" = none
  b_len : mg "len" = none
  b_range : mg "range" = none
  b_sorted : mg "sorted" = none
  b_str : mg "str" = none
  b_tuple : mg "tuple" = none
  b_zip : mg "zip" = none
  c_MARGIN : GlobC K mg "MARGIN" c_MARGIN
section
variable {P : Program} {w : World} {K : PySem.W.Frag} {mg : Mg} {base : Heap}
abbrev s_section_end : Stmt := topS 2
theorem sc_section_end : FnScope ["document", "head", "end"] ["document", "head"] (defScope s_section_end) := ⟨rfl, rfl, rfl, by decide +kernel, rfl, by decide +kernel, by decide +kernel⟩
def lb_section_end_0 : WD.Env → Out := (mAug incD 2 (mC (.int 1)))
def b_section_end : WD.Env → Out := (mSeq (mAsg 2 (mBin addD (mVar 1) (mC (.int 1)))) (mSeq (mWhile (fun _ => 300) (mAnd (mTru (mBin (cmpD ltI) (mVar 2) (mUn lenD (mVar 0)))) (mTru (mBin inD (mBin atD (mBin atD (mVar 0) (mVar 2)) (mC (.int 0))) (mTup (mCons (mC (S [99, 111, 100, 101])) (mCons (mC (S [117, 115, 101])) mNil)))))) lb_section_end_0) (mRet (mVar 2))))
def m_section_end : List D → Res D := mkFn 3 b_section_end
theorem ok_section_end {f : Addr} {fd : FuncData} (F : Fun K "section_end" "section_end" s_section_end f fd) (T : Txt K mg) : FnOk P w K mg base (L2N.CX P w) 1 f fd ["document", "head"] (spM mg K 2 m_section_end) :=
  fn_ok (κ := kdT []) (κe := _) F sc_section_end rfl (by decide) fun cdv A outer s H E hr => (ds2_of (ds_cons (ds_set (i := 2) rfl sc_section_end.nd rfl (by first | exact Or.inl rfl | exact Or.inr rfl) (de_add (db_of (dv 1)) (db_of de_int))) (ds_cons (ds_while pown (PW.pt (dw_and (dt_lt (db_of (dv 2)) (db_of (de_len rfl T.b_len (db_of (dv 0))))) (dw_and1 (dt_in (db_of (de_at (db_of (de_at (db_of (dv 0)) (db_of (dv 2)))) (db_of de_int))) (db_of (de_tup (da_cons (de_strS [99, 111, 100, 101]) (da_cons (de_strS [117, 115, 101]) da_nil)))))))) (show DSs _ _ _ _ lb_section_end_0 from (ds_one (ds_inc (i := 2) rfl sc_section_end.nd rfl (by first | exact Or.inl rfl | exact Or.inr rfl) de_int)))) (ds_one (ds_ret (dv 2))))))
abbrev s_woven_text : Stmt := topS 6
theorem sc_woven_text : FnScope ["line", "number", "numbers", "margin", "spaces", "target"] ["line", "number", "numbers"] (defScope s_woven_text) := ⟨rfl, rfl, rfl, by decide +kernel, rfl, by decide +kernel, by decide +kernel⟩
def b_woven_text : WD.Env → Out := (mSeq (mAsg 3 (mBin mulD (mC (S [32])) (mC c_MARGIN))) (mSeq (mIfS (mTru (mBin eqD (mBin atD (mVar 0) (mC (.int 0))) (mC (S [104, 101, 97, 100])))) (mRet (mJs [(mC (S [91])), (mUn fmtD (mVar 1)), (mC (S [93, 32])), (mUn fmtD (mBin atD (mVar 0) (mC (.int 1))))])) mNext) (mSeq (mIfS (mTru (mBin eqD (mBin atD (mVar 0) (mC (.int 0))) (mC (S [117, 115, 101])))) (mSeq (mAsg 4 (mBin mulD (mC (S [32])) (mBin atD (mVar 0) (mC (.int 1))))) (mSeq (mAsg 5 (mIf (mTru (mBin inX (mBin atD (mVar 0) (mC (.int 2))) (mVar 2))) (mBin atD (mBin atX (mVar 2) (mBin atD (mVar 0) (mC (.int 2)))) (mC (.int 0))) (mC (S [63])))) (mRet (mJs [(mUn fmtD (mVar 3)), (mUn fmtD (mVar 4)), (mC (S [60])), (mUn fmtD (mBin atD (mVar 0) (mC (.int 2)))), (mC (S [32])), (mUn fmtD (mVar 5)), (mC (S [62]))])))) mNext) (mSeq (mIfS (mAnd (mTru (mBin eqD (mBin atD (mVar 0) (mC (.int 0))) (mC (S [99, 111, 100, 101])))) (mTru (mBin neD (mBin atD (mVar 0) (mC (.int 1))) (mC (S []))))) (mRet (mBin addD (mVar 3) (mBin atD (mVar 0) (mC (.int 1))))) mNext) (mRet (mBin atD (mVar 0) (mC (.int 1))))))))
def m_woven_text : List D → Res D := mkFn 6 b_woven_text
theorem ok_woven_text {f : Addr} {fd : FuncData} (F : Fun K "woven_text" "woven_text" s_woven_text f fd) (T : Txt K mg) : FnOk P w K mg base (L2N.CX P w) 1 f fd ["line", "number", "numbers"] (spM mg K 3 m_woven_text) :=
  fn_ok (κ := kdT []) (κe := _) F sc_woven_text rfl (by decide) fun cdv A outer s H E hr => (ds2_of (ds_cons (ds_set (i := 3) rfl sc_woven_text.nd rfl (by first | exact Or.inl rfl | exact Or.inr rfl) (de_mul (db_of (de_strS [32])) (db_of (de_glob T.c_MARGIN rfl)))) (ds_cons (ds_if (dt_eq hr (db_of (de_at (db_of (dv 0)) (db_of de_int))) (db_of (de_strS [104, 101, 97, 100]))) (ds_one (ds_ret (de_joined (.cons (de_strS [91]) (.cons (de_fmt (dv 1)) (.cons (de_strS [93, 32]) (.cons (de_fmt (de_at (db_of (dv 0)) (db_of de_int))) .nil))))))) ds_nil) (ds_cons (ds_if (dt_eq hr (db_of (de_at (db_of (dv 0)) (db_of de_int))) (db_of (de_strS [117, 115, 101]))) (ds_cons (ds_set (i := 4) rfl sc_woven_text.nd rfl (by first | exact Or.inl rfl | exact Or.inr rfl) (de_mul (db_of (de_strS [32])) (db_of (de_at (db_of (dv 0)) (db_of de_int))))) (ds_cons (ds_set (i := 5) rfl sc_woven_text.nd rfl (by first | exact Or.inl rfl | exact Or.inr rfl) (de_if (dt_inX hr (db_of (de_at (db_of (dv 0)) (db_of de_int))) (db_of (dv 2))) (de_at (db_of (de_atX hr (db_of (dv 2)) (db_of (de_at (db_of (dv 0)) (db_of de_int))))) (db_of de_int)) (de_strS [63]))) (ds_one (ds_ret (de_joined (.cons (de_fmt (dv 3)) (.cons (de_fmt (dv 4)) (.cons (de_strS [60]) (.cons (de_fmt (de_at (db_of (dv 0)) (db_of de_int))) (.cons (de_strS [32]) (.cons (de_fmt (dv 5)) (.cons (de_strS [62]) .nil)))))))))))) ds_nil) (ds_cons (ds_if (PW.pt (dw_and (dt_eq hr (db_of (de_at (db_of (dv 0)) (db_of de_int))) (db_of (de_strS [99, 111, 100, 101]))) (dw_and1 (dt_ne hr (db_of (de_at (db_of (dv 0)) (db_of de_int))) (db_of (de_strS [])))))) (ds_one (ds_ret (de_add (db_of (dv 3)) (db_of (de_at (db_of (dv 0)) (db_of de_int)))))) ds_nil) (ds_one (ds_ret (de_at (db_of (dv 0)) (db_of de_int)))))))))
abbrev s_add_section : Stmt := topS 9
theorem sc_add_section : FnScope ["numbers", "key", "number", "own"] ["numbers", "key", "number"] (defScope s_add_section) := ⟨rfl, rfl, rfl, by decide +kernel, rfl, by decide +kernel, by decide +kernel⟩
def b_add_section : WD.Env → Out := (mIfS (mOr (mTru (mBin eqD (mVar 3) (mList (mLst mNil)))) (mTru (mBin neD (mBin atD (mVar 3) (mUn negD (mC (.int 1)))) (mVar 2)))) (mApp 3 (mVar 2)) mNext)
def m_add_section : List D → Res D := mkAdd b_add_section
theorem ok_add_section {f : Addr} {fd : FuncData} (F : Fun K "add_section" "add_section" s_add_section f fd) (T : Txt K mg) : FnOk P w K mg base (L2N.CX P w) 1 f fd ["numbers", "key", "number"] (spAdd K m_add_section) :=
  fn_okAdd F sc_add_section rfl (fun b cdv A outer s H E => ps_set (i := 3) sc_add_section.nd rfl (Or.inl rfl) (pe_dsetd (pe_var rfl (Or.inl rfl)) (pe_var rfl (Or.inl rfl)) (pe_lst pa_nil) ⟨rfl, rfl, rfl, rfl⟩)) fun p cdv A outer s H E hr => (ds_one (ds_if (PW.pt (dw_or (dt_eq hr (bv 3) (db_of (de_new (dn_lst da_nil)))) (dw_or1 (dt_ne hr (db_of (de_at (bv 3) (db_of (de_neg de_int)))) (db_of (dv 2)))))) (ds_one (ds_append (i := 3) rfl rfl (Or.inl rfl) (dv 2) (pe_bm PySem.F.plainAttrs_list PySem.F.slot_list_append PySem.F.type_list_append mt_append (pe_var rfl (Or.inl rfl)) (pa_cons (dv 2) pa_nil)))) ds_nil))
abbrev s_following_numbers : Stmt := topS 11
theorem sc_following_numbers : FnScope ["numbers", "following", "own", "number", "later"] ["numbers"] (defScope s_following_numbers) := ⟨rfl, rfl, rfl, by decide +kernel, rfl, by decide +kernel, by decide +kernel⟩
def lb_following_numbers_1 : WD.Env → Out := (mDPut 1 (mVar 3) (mVar 4))
def lb_following_numbers_0 : WD.Env → Out := (mFor (mBindA zip1D (mCons (mVar 2) (mCons (mCut (mVar 2) (mSome (mC (.int 1))) mNone) mNil))) (gTupD (lenG 2 (gConsD (gSet 3) (gConsD (gSet 4) gNilD)))) lb_following_numbers_1)
def b_following_numbers : WD.Env → Out := (mSeq (fun ρ => .nx (ρ.set 1 (some (.dict [])))) (mSeq (mFor (mValsX (mVar 0)) (gSet 2) lb_following_numbers_0) (mRet (mVar 1))))
def m_following_numbers : List D → Res D := mkFn 5 b_following_numbers
theorem ok_following_numbers {f : Addr} {fd : FuncData} (F : Fun K "following_numbers" "following_numbers" s_following_numbers f fd) (T : Txt K mg) : FnOk P w K mg base (L2N.CX P w) 1 f fd ["numbers"] (spM mg K 1 m_following_numbers) :=
  fn_ok (κ := kdT [(1, .ow)]) (κe := _) F sc_following_numbers rfl (by decide) fun cdv A outer s H E hr => (ds2_cons (ds_setD0 (i := 1) rfl sc_following_numbers.nd rfl (by first | exact Or.inl rfl | exact Or.inr rfl)) (ds2_cons (ds_for pown rfl (di_vals (dv 0)) (gn 2 sc_following_numbers.nd) (show DSs _ _ _ _ lb_following_numbers_0 from (ds_one (ds_for pown rfl (di_zip (pi_zip rfl T.b_zip (da_cons (dv 2) (da_cons (de_cut (db_of (dv 2)) (do_some de_int) do_none) da_nil)))) (dg_tup rfl (dgs_cons (gn 3 sc_following_numbers.nd) (dgs_cons (gn 4 sc_following_numbers.nd) dgs_nil))) (show DSs _ _ _ _ lb_following_numbers_1 from (ds_one (ds_dput (i := 1) hr rfl rfl (by first | exact Or.inl rfl | exact Or.inr (Or.inl rfl) | exact Or.inr (Or.inr rfl)) (dv 3) (dv 4)))))))) (ds2_freeze 1 (ds2_of (ds_one (ds_ret (dv 1)))) rfl) sg_for) sg_setD0)
abbrev s_listed : Stmt := topS 13
theorem sc_listed : FnScope ["numbers", "number"] ["numbers"] (defScope s_listed) := ⟨rfl, rfl, rfl, by decide +kernel, rfl, by decide +kernel, by decide +kernel⟩
def b_listed : WD.Env → Out := (mRet (mMt joinD (mC (S [44, 32])) (mCons (mList (mLc (mIt (mVar 0)) (gSet 1) mYes (mUn strD (mVar 1)) [1])) mNil)))
def m_listed : List D → Res D := mkFn 2 b_listed
theorem ok_listed {f : Addr} {fd : FuncData} (F : Fun K "listed" "listed" s_listed f fd) (T : Txt K mg) : FnOk P w K mg base (L2N.CX P w) 1 f fd ["numbers"] (spM mg K 1 m_listed) :=
  fn_ok (κ := kdT []) (κe := _) F sc_listed rfl (by decide) fun cdv A outer s H E hr => (ds2_of (ds_one (ds_ret (de_m PySem.F.slot_str_join PySem.F.type_str_join mt_join ops_join join_ne (de_strS [44, 32]) (da_cons (de_new (dn_lc (own := [("number", 1)]) rfl sc_listed.nd (dip_seq (db_of (dv 0))) (blkOk_by (N := ["numbers", "number"]) (sc := defScope s_listed) (own := [("number", 1)]) (by decide +kernel)) (by decide) (fun _ _ _ _ _ => (gn 1 sc_listed.nd)) (fun _ _ _ _ _ => dts_nil) (fun _ _ _ _ _ => (de_str1 rfl T.b_str (db_of (dv 1)))))) da_nil)))))
abbrev s_woven_shift : Stmt := topS 17
theorem sc_woven_shift : FnScope ["line", "text"] ["line", "text"] (defScope s_woven_shift) := ⟨rfl, rfl, rfl, by decide +kernel, rfl, by decide +kernel, by decide +kernel⟩
def b_woven_shift : WD.Env → Out := (mSeq (mIfS (mTru (mBin eqD (mBin atD (mVar 0) (mC (.int 0))) (mC (S [112, 114, 111, 115, 101])))) (mRet (mTup (mCons (mC (.int 0)) (mCons (mC (.int 0)) mNil)))) mNext) (mSeq (mIfS (mTru (mBin eqD (mBin atD (mVar 0) (mC (.int 0))) (mC (S [99, 111, 100, 101])))) (mRet (mTup (mCons (mC (.int 1)) (mCons (mIf (mTru (mBin neD (mVar 1) (mC (S [])))) (mBin subD (mC c_MARGIN) (mC (.int 1))) (mUn negD (mC (.int 1)))) mNil)))) mNext) (mSeq (mIfS (mTru (mBin eqD (mBin atD (mVar 0) (mC (.int 0))) (mC (S [104, 101, 97, 100])))) (mRet (mTup (mCons (mC (.int 2)) (mCons (mBin subD (mBin subD (mUn lenD (mVar 1)) (mUn lenD (mBin atD (mVar 0) (mC (.int 1))))) (mC (.int 2))) mNil)))) mNext) (mRet (mTup (mCons (mC .none) (mCons (mC (.int 0)) mNil)))))))
def m_woven_shift : List D → Res D := mkFn 2 b_woven_shift
theorem ok_woven_shift {f : Addr} {fd : FuncData} (F : Fun K "woven_shift" "woven_shift" s_woven_shift f fd) (T : Txt K mg) : FnOk P w K mg base (L2N.CX P w) 1 f fd ["line", "text"] (spM mg K 2 m_woven_shift) :=
  fn_ok (κ := kdT []) (κe := _) F sc_woven_shift rfl (by decide) fun cdv A outer s H E hr => (ds2_of (ds_cons (ds_if (dt_eq hr (db_of (de_at (db_of (dv 0)) (db_of de_int))) (db_of (de_strS [112, 114, 111, 115, 101]))) (ds_one (ds_ret (de_tup (da_cons de_int (da_cons de_int da_nil))))) ds_nil) (ds_cons (ds_if (dt_eq hr (db_of (de_at (db_of (dv 0)) (db_of de_int))) (db_of (de_strS [99, 111, 100, 101]))) (ds_one (ds_ret (de_tup (da_cons de_int (da_cons (de_if (dt_ne hr (db_of (dv 1)) (db_of (de_strS []))) (de_sub (db_of (de_glob T.c_MARGIN rfl)) (db_of de_int)) (de_neg de_int)) da_nil))))) ds_nil) (ds_cons (ds_if (dt_eq hr (db_of (de_at (db_of (dv 0)) (db_of de_int))) (db_of (de_strS [104, 101, 97, 100]))) (ds_one (ds_ret (de_tup (da_cons de_int (da_cons (de_sub (db_of (de_sub (db_of (de_len rfl T.b_len (db_of (dv 1)))) (db_of (de_len rfl T.b_len (db_of (de_at (db_of (dv 0)) (db_of de_int))))))) (db_of de_int)) da_nil))))) ds_nil) (ds_one (ds_ret (de_tup (da_cons de_non (da_cons de_int da_nil)))))))))
abbrev s_write_line : Stmt := topS 20
theorem sc_write_line : FnScope ["line", "spaces"] ["line"] (defScope s_write_line) := ⟨rfl, rfl, rfl, by decide +kernel, rfl, by decide +kernel, by decide +kernel⟩
def b_write_line : WD.Env → Out := (mSeq (mIfS (mTru (mBin eqD (mBin atD (mVar 0) (mC (.int 0))) (mC (S [104, 101, 97, 100])))) (mRet (mJs [(mC (S [61, 32])), (mUn fmtD (mBin atD (mVar 0) (mC (.int 1))))])) mNext) (mSeq (mIfS (mTru (mBin eqD (mBin atD (mVar 0) (mC (.int 0))) (mC (S [117, 115, 101])))) (mSeq (mAsg 1 (mBin mulD (mC (S [32])) (mBin atD (mVar 0) (mC (.int 1))))) (mRet (mJs [(mC (S [124])), (mUn fmtD (mVar 1)), (mC (S [60])), (mUn fmtD (mBin atD (mVar 0) (mC (.int 2)))), (mC (S [62]))]))) mNext) (mSeq (mIfS (mTru (mBin eqD (mBin atD (mVar 0) (mC (.int 0))) (mC (S [99, 111, 100, 101])))) (mRet (mJs [(mC (S [124])), (mUn fmtD (mBin atD (mVar 0) (mC (.int 1))))])) mNext) (mRet (mBin atD (mVar 0) (mC (.int 1)))))))
def m_write_line : List D → Res D := mkFn 2 b_write_line
theorem ok_write_line {f : Addr} {fd : FuncData} (F : Fun K "write_line" "write_line" s_write_line f fd) (T : Txt K mg) : FnOk P w K mg base (L2N.CX P w) 1 f fd ["line"] (spM mg K 1 m_write_line) :=
  fn_ok (κ := kdT []) (κe := _) F sc_write_line rfl (by decide) fun cdv A outer s H E hr => (ds2_of (ds_cons (ds_if (dt_eq hr (db_of (de_at (db_of (dv 0)) (db_of de_int))) (db_of (de_strS [104, 101, 97, 100]))) (ds_one (ds_ret (de_joined (.cons (de_strS [61, 32]) (.cons (de_fmt (de_at (db_of (dv 0)) (db_of de_int))) .nil))))) ds_nil) (ds_cons (ds_if (dt_eq hr (db_of (de_at (db_of (dv 0)) (db_of de_int))) (db_of (de_strS [117, 115, 101]))) (ds_cons (ds_set (i := 1) rfl sc_write_line.nd rfl (by first | exact Or.inl rfl | exact Or.inr rfl) (de_mul (db_of (de_strS [32])) (db_of (de_at (db_of (dv 0)) (db_of de_int))))) (ds_one (ds_ret (de_joined (.cons (de_strS [124]) (.cons (de_fmt (dv 1)) (.cons (de_strS [60]) (.cons (de_fmt (de_at (db_of (dv 0)) (db_of de_int))) (.cons (de_strS [62]) .nil))))))))) ds_nil) (ds_cons (ds_if (dt_eq hr (db_of (de_at (db_of (dv 0)) (db_of de_int))) (db_of (de_strS [99, 111, 100, 101]))) (ds_one (ds_ret (de_joined (.cons (de_strS [124]) (.cons (de_fmt (de_at (db_of (dv 0)) (db_of de_int))) .nil))))) ds_nil) (ds_one (ds_ret (de_at (db_of (dv 0)) (db_of de_int))))))))
abbrev s__law_cell : Stmt := topS 22
theorem sc__law_cell : FnScope ["script", "k"] ["script", "k"] (defScope s__law_cell) := ⟨rfl, rfl, rfl, by decide +kernel, rfl, by decide +kernel, by decide +kernel⟩
def b__law_cell : WD.Env → Out := (mSeq (mIfS (mTru (mBin (cmpD ltI) (mVar 1) (mUn lenD (mVar 0)))) (mRet (mBin atD (mVar 0) (mVar 1))) mNext) (mRet (mC (.int 0))))
def m__law_cell : List D → Res D := mkFn 2 b__law_cell
theorem ok__law_cell {f : Addr} {fd : FuncData} (F : Fun K "_law_cell" "_law_cell" s__law_cell f fd) (T : Txt K mg) : FnOk P w K mg base (L2N.CX P w) 1 f fd ["script", "k"] (spM mg K 2 m__law_cell) :=
  fn_ok (κ := kdT []) (κe := _) F sc__law_cell rfl (by decide) fun cdv A outer s H E hr => (ds2_of (ds_cons (ds_if (dt_lt (db_of (dv 1)) (db_of (de_len rfl T.b_len (db_of (dv 0))))) (ds_one (ds_ret (de_at (db_of (dv 0)) (db_of (dv 1))))) ds_nil) (ds_one (ds_ret de_int))))
abbrev s__law_draws : Stmt := topS 23
theorem sc__law_draws : FnScope ["cell", "count", "found", "is_wide", "k", "mixed"] ["cell", "count"] (defScope s__law_draws) := ⟨rfl, rfl, rfl, by decide +kernel, rfl, by decide +kernel, by decide +kernel⟩
def lb__law_draws_0 : WD.Env → Out := (mIfS (mTru (mVar 3)) (mSeq (mApp 2 (mBin modD (mUn intD (mVar 0)) (mC (.int 1009)))) (mAsg 0 (mBin fdivD (mVar 0) (mC (.int 1009))))) (mSeq (mAsg 5 (mBin modD (mUn intD (mBin addD (mBin mulD (mVar 0) (mC (.int 48271))) (mBin mulD (mVar 4) (mC (.int 69621))))) (mC (.int 2147483647)))) (mApp 2 (mBin modD (mUn intD (mBin addD (mBin addD (mBin mulD (mVar 5) (mVar 5)) (mBin mulD (mVar 0) (mC (.int 31)))) (mVar 4))) (mC (.int 1000003))))))
def b__law_draws : WD.Env → Out := (mSeq (mAsgN 2 (mLst mNil)) (mSeq (mAsg 3 (mBin (cmpD geI) (mVar 0) (mBin powD (mC (.int 10)) (mC (.int 18))))) (mSeq (mFor (mBindA rng1D (mCons (mVar 1) mNil)) (gSet 4) lb__law_draws_0) (mRet (mVar 2)))))
def m__law_draws : List D → Res D := mkFn 6 b__law_draws
theorem ok__law_draws {f : Addr} {fd : FuncData} (F : Fun K "_law_draws" "_law_draws" s__law_draws f fd) (T : Txt K mg) : FnOk P w K mg base (L2N.CX P w) 1 f fd ["cell", "count"] (spM mg K 2 m__law_draws) :=
  fn_ok (κ := kdT [(2, .ow)]) (κe := _) F sc__law_draws rfl (by decide) fun cdv A outer s H E hr => (ds2_cons (ds_setN (i := 2) rfl sc__law_draws.nd rfl (by first | exact Or.inl rfl | exact Or.inr rfl) (dn_lst da_nil)) (ds2_cons (ds_set (i := 3) rfl sc__law_draws.nd rfl (by first | exact Or.inl rfl | exact Or.inr rfl) (de_ge (db_of (dv 0)) (db_of (de_pow (db_of de_int) (db_of de_int))))) (ds2_cons (ds_for pown rfl (di_range1 rfl T.b_range (da_cons (dv 1) da_nil)) (gn 4 sc__law_draws.nd) (show DSs _ _ _ _ lb__law_draws_0 from (ds_one (ds_if (dt_truth (db_of (dv 3)) (by intro _; rfl)) (ds_cons (ds_append (i := 2) rfl rfl (Or.inl rfl) (de_mod (db_of (de_int1 rfl T.b_int (db_of (dv 0)))) (db_of de_int)) (pe_bm PySem.F.plainAttrs_list PySem.F.slot_list_append PySem.F.type_list_append mt_append (pe_var rfl (Or.inl rfl)) (pa_cons (de_mod (db_of (de_int1 rfl T.b_int (db_of (dv 0)))) (db_of de_int)) pa_nil))) (ds_one (ds_set (i := 0) rfl sc__law_draws.nd rfl (by first | exact Or.inl rfl | exact Or.inr rfl) (de_fdiv (db_of (dv 0)) (db_of de_int))))) (ds_cons (ds_set (i := 5) rfl sc__law_draws.nd rfl (by first | exact Or.inl rfl | exact Or.inr rfl) (de_mod (db_of (de_int1 rfl T.b_int (db_of (de_add (db_of (de_mul (db_of (dv 0)) (db_of de_int))) (db_of (de_mul (db_of (dv 4)) (db_of de_int))))))) (db_of de_int))) (ds_one (ds_append (i := 2) rfl rfl (Or.inl rfl) (de_mod (db_of (de_int1 rfl T.b_int (db_of (de_add (db_of (de_add (db_of (de_mul (db_of (dv 5)) (db_of (dv 5)))) (db_of (de_mul (db_of (dv 0)) (db_of de_int))))) (db_of (dv 4)))))) (db_of de_int)) (pe_bm PySem.F.plainAttrs_list PySem.F.slot_list_append PySem.F.type_list_append mt_append (pe_var rfl (Or.inl rfl)) (pa_cons (de_mod (db_of (de_int1 rfl T.b_int (db_of (de_add (db_of (de_add (db_of (de_mul (db_of (dv 5)) (db_of (dv 5)))) (db_of (de_mul (db_of (dv 0)) (db_of de_int))))) (db_of (dv 4)))))) (db_of de_int)) pa_nil))))))))) (ds2_freeze 2 (ds2_of (ds_one (ds_ret (dv 2)))) rfl) sg_for) sg_asg) sg_asgN)
abbrev s__law_code : Stmt := topS 25
theorem sc__law_code : FnScope ["draw", "words"] ["draw"] (defScope s__law_code) := ⟨rfl, rfl, rfl, by decide +kernel, rfl, by decide +kernel, by decide +kernel⟩
def b__law_code : WD.Env → Out := (mSeq (mAsg 1 (mList (mLst (mCons (mC (S [120])) (mCons (mC (S [])) (mCons (mC (S [105, 102, 32, 121, 58])) (mCons (mC (S [32, 32, 122])) (mCons (mC (S [32])) (mCons (mC (S [120, 32, 61, 32, 49])) (mCons (mC (S [60, 97])) (mCons (mC (S [97, 62])) (mCons (mC (S [120, 46, 121, 40, 122, 41])) (mCons (mC (S [60, 97, 32, 98, 62])) mNil))))))))))))) (mRet (mBin atD (mVar 1) (mBin modD (mVar 0) (mC (.int 10))))))
def m__law_code : List D → Res D := mkFn 2 b__law_code
theorem ok__law_code {f : Addr} {fd : FuncData} (F : Fun K "_law_code" "_law_code" s__law_code f fd) (T : Txt K mg) : FnOk P w K mg base (L2N.CX P w) 1 f fd ["draw"] (spM mg K 1 m__law_code) :=
  fn_ok (κ := kdT []) (κe := _) F sc__law_code rfl (by decide) fun cdv A outer s H E hr => (ds2_of (ds_cons (ds_set (i := 1) rfl sc__law_code.nd rfl (by first | exact Or.inl rfl | exact Or.inr rfl) (de_new (dn_lst (da_cons (de_strS [120]) (da_cons (de_strS []) (da_cons (de_strS [105, 102, 32, 121, 58]) (da_cons (de_strS [32, 32, 122]) (da_cons (de_strS [32]) (da_cons (de_strS [120, 32, 61, 32, 49]) (da_cons (de_strS [60, 97]) (da_cons (de_strS [97, 62]) (da_cons (de_strS [120, 46, 121, 40, 122, 41]) (da_cons (de_strS [60, 97, 32, 98, 62]) da_nil))))))))))))) (ds_one (ds_ret (de_at (db_of (dv 1)) (db_of (de_mod (db_of (dv 0)) (db_of de_int))))))))
abbrev s__law_first : Stmt := topS 27
theorem sc__law_first : FnScope ["line"] ["line"] (defScope s__law_first) := ⟨rfl, rfl, rfl, by decide +kernel, rfl, by decide +kernel, by decide +kernel⟩
def b__law_first : WD.Env → Out := (mRet (mBin atD (mList (mLst (mCons (mC (.int 0)) (mCons (mC (.int 1)) (mCons (mC (.int 2)) (mCons (mC (.int 99)) mNil)))))) (mIdx (mList (mLst (mCons (mC (S [112, 114, 111, 115, 101])) (mCons (mC (S [99, 111, 100, 101])) (mCons (mC (S [104, 101, 97, 100])) (mCons (mC (S [117, 115, 101])) mNil)))))) (mBin atD (mVar 0) (mC (.int 0))))))
def m__law_first : List D → Res D := mkFn 1 b__law_first
theorem ok__law_first {f : Addr} {fd : FuncData} (F : Fun K "_law_first" "_law_first" s__law_first f fd) (T : Txt K mg) : FnOk P w K mg base (L2N.CX P w) 1 f fd ["line"] (spM mg K 1 m__law_first) :=
  fn_ok (κ := kdT []) (κe := _) F sc__law_first rfl (by decide) fun cdv A outer s H E hr => (ds2_of (ds_one (ds_ret (de_at (db_of (de_new (dn_lst (da_cons de_int (da_cons de_int (da_cons de_int (da_cons de_int da_nil))))))) (db_of (de_index (db_of (de_new (dn_lst (da_cons (de_strS [112, 114, 111, 115, 101]) (da_cons (de_strS [99, 111, 100, 101]) (da_cons (de_strS [104, 101, 97, 100]) (da_cons (de_strS [117, 115, 101]) da_nil))))))) (db_of (de_at (db_of (dv 0)) (db_of de_int))) (pe_bm PySem.F.plainAttrs_list PySem.F.slot_list_index PySem.F.type_list_index mt_index (db_of (de_new (dn_lst (da_cons (de_strS [112, 114, 111, 115, 101]) (da_cons (de_strS [99, 111, 100, 101]) (da_cons (de_strS [104, 101, 97, 100]) (da_cons (de_strS [117, 115, 101]) da_nil))))))) (pa_cons (db_of (de_at (db_of (dv 0)) (db_of de_int))) pa_nil))))))))
abbrev s_sections : Stmt := topS 1
theorem sc_sections : FnScope ["document", "heads", "at", "line", "head"] ["document"] (defScope s_sections) := ⟨rfl, rfl, rfl, by decide +kernel, rfl, by decide +kernel, by decide +kernel⟩
def b_sections : WD.Env → Out := (mSeq (mAsg 1 (mList (mLc (mBindA enumXD (mCons (mVar 0) mNil)) (gTupD (lenG 2 (gConsD (gSet 2) (gConsD (gSet 3) gNilD)))) (mTru (mBin eqD (mBin atD (mVar 3) (mC (.int 0))) (mC (S [104, 101, 97, 100])))) (mVar 2) [2, 3]))) (mRet (mList (mLc (mIt (mVar 1)) (gSet 4) mYes (mTup (mCons (mBin atD (mBin atD (mVar 0) (mVar 4)) (mC (.int 1))) (mCons (mVar 4) (mCons (mCall m_section_end (mCons (mVar 0) (mCons (mVar 4) mNil))) mNil)))) [4]))))
def m_sections : List D → Res D := mkFn 5 b_sections
theorem ok_sections {f : Addr} {fd : FuncData} (F : Fun K "sections" "sections" s_sections f fd) (T : Txt K mg) (G_section_end : Fn P w K mg base 1 "section_end" ["document", "head"] m_section_end) : FnOk P w K mg base (L2N.CX P w) 2 f fd ["document"] (spM mg K 1 m_sections) :=
  fn_ok (κ := kdT []) (κe := _) F sc_sections rfl (by decide) fun cdv A outer s H E hr => (ds2_of (ds_cons (ds_setLc (own := [("at", 2), ("line", 3)]) rfl (by decide) (ps_setLc (own := [("at", 2), ("line", 3)]) (i := 1) rfl sc_sections.nd rfl rfl (sw_true rfl rfl rfl (by decide +kernel)) (dip_of (di_enumX rfl T.b_enumerate (da_cons (dv 0) da_nil))) (blkOk_by (N := ["document", "heads", "at", "line", "head"]) (sc := defScope s_sections) (own := [("at", 2), ("line", 3)]) (by decide +kernel)) (fun _ _ _ _ _ => (dg_tup rfl (dgs_cons (gn 2 sc_sections.nd) (dgs_cons (gn 3 sc_sections.nd) dgs_nil)))) (fun _ _ _ _ _ => (dts_one (dt_eq hr (db_of (de_at (db_of (dv 3)) (db_of de_int))) (db_of (de_strS [104, 101, 97, 100]))))) (fun _ _ _ _ _ => (dv 2)))) (ds_one (ds_ret (de_new (dn_lc (own := [("head", 4)]) rfl sc_sections.nd (dip_seq (db_of (dv 1))) (blkOk_by (N := ["document", "heads", "at", "line", "head"]) (sc := defScope s_sections) (own := [("head", 4)]) (by decide +kernel)) (by decide) (fun _ _ _ _ _ => (gn 4 sc_sections.nd)) (fun _ _ _ _ _ => dts_nil) (fun _ _ _ _ _ => (de_tup (da_cons (de_at (db_of (de_at (db_of (dv 0)) (db_of (dv 4)))) (db_of de_int)) (da_cons (dv 4) (da_cons (de_call G_section_end (hr.mono (by decide)) passL0 rfl (da_cons (dv 0) (da_cons (dv 4) da_nil)) rfl (mCons_len (mCons_len mNil_len))) da_nil)))))))))))
abbrev s_index_texts : Stmt := topS 12
theorem sc_index_texts : FnScope ["numbers", "name"] ["numbers"] (defScope s_index_texts) := ⟨rfl, rfl, rfl, by decide +kernel, rfl, by decide +kernel, by decide +kernel⟩
def b_index_texts : WD.Env → Out := (mSeq (mIfS (mTru (mBin eqX (mVar 0) (mC (.dict [])))) (mRet (mList (mLst mNil))) mNext) (mRet (mBin addD (mList (mLst (mCons (mC (S [])) mNil))) (mList (mLc (mIt (mList (mSortT (mVar 0)))) (gSet 1) mYes (mJs [(mUn fmtD (mVar 1)), (mC (S [58, 32])), (mUn fmtD (mCall m_listed (mCons (mBin atX (mVar 0) (mVar 1)) mNil)))]) [1])))))
def m_index_texts : List D → Res D := mkFn 2 b_index_texts
theorem ok_index_texts {f : Addr} {fd : FuncData} (F : Fun K "index_texts" "index_texts" s_index_texts f fd) (T : Txt K mg) (G_listed : Fn P w K mg base 1 "listed" ["numbers"] m_listed) : FnOk P w K mg base (L2N.CX P w) 2 f fd ["numbers"] (spM mg K 1 m_index_texts) :=
  fn_ok (κ := kdT []) (κe := _) F sc_index_texts rfl (by decide) fun cdv A outer s H E hr => (ds2_of (ds_cons (ds_if (dt_eqX hr (db_of (dv 0)) db_dict) (ds_one (ds_ret (de_new (dn_lst da_nil)))) ds_nil) (ds_one (ds_ret (de_add (db_of (de_new (dn_lst (da_cons (de_strS []) da_nil)))) (db_of (de_new (dn_lc (own := [("name", 1)]) rfl sc_index_texts.nd (dip_seq (db_of (de_new (dn_sortT rfl rfl T.b_sorted (db_of (dv 0)))))) (blkOk_by (N := ["numbers", "name"]) (sc := defScope s_index_texts) (own := [("name", 1)]) (by decide +kernel)) (by decide) (fun _ _ _ _ _ => (gn 1 sc_index_texts.nd)) (fun _ _ _ _ _ => dts_nil) (fun _ _ _ _ _ => (de_joined (.cons (de_fmt (dv 1)) (.cons (de_strS [58, 32]) (.cons (de_fmt (de_call G_listed (hr.mono (by decide)) passL0 rfl (da_cons (de_atX hr (db_of (dv 0)) (db_of (dv 1))) da_nil) rfl (mCons_len mNil_len))) .nil)))))))))))))
abbrev s_write : Stmt := topS 19
theorem sc_write : FnScope ["document", "line"] ["document"] (defScope s_write) := ⟨rfl, rfl, rfl, by decide +kernel, rfl, by decide +kernel, by decide +kernel⟩
def b_write : WD.Env → Out := (mRet (mMt joinD (mC (S [10])) (mCons (mList (mLc (mIt (mVar 0)) (gSet 1) mYes (mCall m_write_line (mCons (mVar 1) mNil)) [1])) mNil)))
def m_write : List D → Res D := mkFn 2 b_write
theorem ok_write {f : Addr} {fd : FuncData} (F : Fun K "write" "write" s_write f fd) (T : Txt K mg) (G_write_line : Fn P w K mg base 1 "write_line" ["line"] m_write_line) : FnOk P w K mg base (L2N.CX P w) 2 f fd ["document"] (spM mg K 1 m_write) :=
  fn_ok (κ := kdT []) (κe := _) F sc_write rfl (by decide) fun cdv A outer s H E hr => (ds2_of (ds_one (ds_ret (de_m PySem.F.slot_str_join PySem.F.type_str_join mt_join ops_join join_ne (de_strS [10]) (da_cons (de_new (dn_lc (own := [("line", 1)]) rfl sc_write.nd (dip_seq (db_of (dv 0))) (blkOk_by (N := ["document", "line"]) (sc := defScope s_write) (own := [("line", 1)]) (by decide +kernel)) (by decide) (fun _ _ _ _ _ => (gn 1 sc_write.nd)) (fun _ _ _ _ _ => dts_nil) (fun _ _ _ _ _ => (de_call G_write_line (hr.mono (by decide)) passL0 rfl (da_cons (dv 1) da_nil) rfl (mCons_len mNil_len))))) da_nil)))))
abbrev s__law_document : Stmt := topS 26
theorem sc__law_document : FnScope ["script", "start", "many", "loose", "made", "own", "k", "draws", "kind", "other", "name"] ["script", "start", "many", "loose"] (defScope s__law_document) := ⟨rfl, rfl, rfl, by decide +kernel, rfl, by decide +kernel, by decide +kernel⟩
def lb__law_document_0 : WD.Env → Out := (mSeq (mAsg 7 (mCall m__law_draws (mCons (mCall m__law_cell (mCons (mVar 0) (mCons (mBin addD (mVar 1) (mVar 6)) mNil))) (mCons (mC (.int 4)) mNil)))) (mSeq (mAsg 8 (mBin modD (mUn intD (mBin atD (mVar 7) (mC (.int 0)))) (mC (.int 10)))) (mIfS (mOr (mAnd (mTru (mBin (cmpD ltI) (mVar 5) (mC (.int 0)))) (mTru (mBin (cmpD ltI) (mVar 8) (mC (.int 7))))) (mOr (mTru (mBin eqD (mVar 8) (mC (.int 7)))) (mTru (mBin eqD (mVar 8) (mC (.int 8)))))) (mSeq (mAsg 5 (mBin modD (mUn intD (mBin atD (mVar 7) (mC (.int 1)))) (mC (.int 5)))) (mApp 4 (mTup (mCons (mC (S [104, 101, 97, 100])) (mCons (mBin atD (mC (S [97, 98, 99, 100, 101])) (mVar 5)) mNil))))) (mIfS (mTru (mBin eqD (mVar 8) (mC (.int 9)))) (mSeq (mApp 4 (mTup (mCons (mC (S [112, 114, 111, 115, 101])) (mCons (mBin atD (mList (mLst (mCons (mC (S [])) (mCons (mC (S [87, 111, 114, 100, 115, 32, 111, 102, 32, 105, 116, 46])) (mCons (mC (S [32, 32, 98])) (mCons (mC (S [60, 99, 62])) (mCons (mC (S [97, 32, 61, 32, 98])) mNil))))))) (mBin modD (mUn intD (mBin atD (mVar 7) (mC (.int 1)))) (mC (.int 5)))) mNil)))) (mAsg 5 (mUn negD (mC (.int 1))))) (mIfS (mAnd (mTru (mBin (cmpD ltI) (mVar 8) (mC (.int 3)))) (mTru (mBin (cmpD ltI) (mVar 5) (mC (.int 4))))) (mSeq (mAsg 9 (mBin addD (mBin addD (mVar 5) (mC (.int 1))) (mBin modD (mUn intD (mBin atD (mVar 7) (mC (.int 2)))) (mBin subD (mC (.int 4)) (mVar 5))))) (mSeq (mAsg 10 (mBin atD (mC (S [97, 98, 99, 100, 101])) (mVar 9))) (mSeq (mIfS (mAnd (mTru (mVar 3)) (mTru (mBin eqD (mBin modD (mUn intD (mBin atD (mVar 7) (mC (.int 3)))) (mC (.int 4))) (mC (.int 0))))) (mAsg 10 (mBin atD (mC (S [97, 98, 99, 100, 101, 122])) (mBin modD (mBin fdivD (mUn intD (mBin atD (mVar 7) (mC (.int 3)))) (mC (.int 4))) (mC (.int 6))))) mNext) (mApp 4 (mTup (mCons (mC (S [117, 115, 101])) (mCons (mBin modD (mUn intD (mBin atD (mVar 7) (mC (.int 1)))) (mC (.int 4))) (mCons (mVar 10) mNil)))))))) (mApp 4 (mTup (mCons (mC (S [99, 111, 100, 101])) (mCons (mCall m__law_code (mCons (mUn intD (mBin atD (mVar 7) (mC (.int 2)))) mNil)) mNil)))))))))
def b__law_document : WD.Env → Out := (mSeq (mAsgN 4 (mLst mNil)) (mSeq (mAsg 5 (mUn negD (mC (.int 1)))) (mSeq (mFor (mBindA rng1D (mCons (mVar 2) mNil)) (gSet 6) lb__law_document_0) (mRet (mUn tupleD (mVar 4))))))
def m__law_document : List D → Res D := mkFn 11 b__law_document
theorem ok__law_document {f : Addr} {fd : FuncData} (F : Fun K "_law_document" "_law_document" s__law_document f fd) (T : Txt K mg) (G__law_draws : Fn P w K mg base 1 "_law_draws" ["cell", "count"] m__law_draws) (G__law_cell : Fn P w K mg base 1 "_law_cell" ["script", "k"] m__law_cell) (G__law_code : Fn P w K mg base 1 "_law_code" ["draw"] m__law_code) : FnOk P w K mg base (L2N.CX P w) 2 f fd ["script", "start", "many", "loose"] (spM mg K 4 m__law_document) :=
  fn_ok (κ := kdT [(4, .ow)]) (κe := _) F sc__law_document rfl (by decide) fun cdv A outer s H E hr => (ds2_cons (ds_setN (i := 4) rfl sc__law_document.nd rfl (by first | exact Or.inl rfl | exact Or.inr rfl) (dn_lst da_nil)) (ds2_cons (ds_set (i := 5) rfl sc__law_document.nd rfl (by first | exact Or.inl rfl | exact Or.inr rfl) (de_neg de_int)) (ds2_cons (ds_for pown rfl (di_range1 rfl T.b_range (da_cons (dv 2) da_nil)) (gn 6 sc__law_document.nd) (show DSs _ _ _ _ lb__law_document_0 from (ds_cons (ds_set (i := 7) rfl sc__law_document.nd rfl (by first | exact Or.inl rfl | exact Or.inr rfl) (de_call G__law_draws (hr.mono (by decide)) pcx rfl (da_cons (de_call G__law_cell (hr.mono (by decide)) pcx rfl (da_cons (dv 0) (da_cons (de_add (db_of (dv 1)) (db_of (dv 6))) da_nil)) rfl (mCons_len (mCons_len mNil_len))) (da_cons de_int da_nil)) rfl (mCons_len (mCons_len mNil_len)))) (ds_cons (ds_set (i := 8) rfl sc__law_document.nd rfl (by first | exact Or.inl rfl | exact Or.inr rfl) (de_mod (db_of (de_int1 rfl T.b_int (db_of (de_at (db_of (dv 7)) (db_of de_int))))) (db_of de_int))) (ds_one (ds_if (PW.pt (dw_or (PW.pt (dw_and (dt_lt (db_of (dv 5)) (db_of de_int)) (dw_and1 (dt_lt (db_of (dv 8)) (db_of de_int))))) (dw_or (dt_eq hr (db_of (dv 8)) (db_of de_int)) (dw_or1 (dt_eq hr (db_of (dv 8)) (db_of de_int)))))) (ds_cons (ds_set (i := 5) rfl sc__law_document.nd rfl (by first | exact Or.inl rfl | exact Or.inr rfl) (de_mod (db_of (de_int1 rfl T.b_int (db_of (de_at (db_of (dv 7)) (db_of de_int))))) (db_of de_int))) (ds_one (ds_append (i := 4) rfl rfl (Or.inl rfl) (de_tup (da_cons (de_strS [104, 101, 97, 100]) (da_cons (de_at (db_of (de_strS [97, 98, 99, 100, 101])) (db_of (dv 5))) da_nil))) (pe_bm PySem.F.plainAttrs_list PySem.F.slot_list_append PySem.F.type_list_append mt_append (pe_var rfl (Or.inl rfl)) (pa_cons (de_tup (da_cons (de_strS [104, 101, 97, 100]) (da_cons (de_at (db_of (de_strS [97, 98, 99, 100, 101])) (db_of (dv 5))) da_nil))) pa_nil))))) (ds_one (ds_if (dt_eq hr (db_of (dv 8)) (db_of de_int)) (ds_cons (ds_append (i := 4) rfl rfl (Or.inl rfl) (de_tup (da_cons (de_strS [112, 114, 111, 115, 101]) (da_cons (de_at (db_of (de_new (dn_lst (da_cons (de_strS []) (da_cons (de_strS [87, 111, 114, 100, 115, 32, 111, 102, 32, 105, 116, 46]) (da_cons (de_strS [32, 32, 98]) (da_cons (de_strS [60, 99, 62]) (da_cons (de_strS [97, 32, 61, 32, 98]) da_nil)))))))) (db_of (de_mod (db_of (de_int1 rfl T.b_int (db_of (de_at (db_of (dv 7)) (db_of de_int))))) (db_of de_int)))) da_nil))) (pe_bm PySem.F.plainAttrs_list PySem.F.slot_list_append PySem.F.type_list_append mt_append (pe_var rfl (Or.inl rfl)) (pa_cons (de_tup (da_cons (de_strS [112, 114, 111, 115, 101]) (da_cons (de_at (db_of (de_new (dn_lst (da_cons (de_strS []) (da_cons (de_strS [87, 111, 114, 100, 115, 32, 111, 102, 32, 105, 116, 46]) (da_cons (de_strS [32, 32, 98]) (da_cons (de_strS [60, 99, 62]) (da_cons (de_strS [97, 32, 61, 32, 98]) da_nil)))))))) (db_of (de_mod (db_of (de_int1 rfl T.b_int (db_of (de_at (db_of (dv 7)) (db_of de_int))))) (db_of de_int)))) da_nil))) pa_nil))) (ds_one (ds_set (i := 5) rfl sc__law_document.nd rfl (by first | exact Or.inl rfl | exact Or.inr rfl) (de_neg de_int)))) (ds_one (ds_if (PW.pt (dw_and (dt_lt (db_of (dv 8)) (db_of de_int)) (dw_and1 (dt_lt (db_of (dv 5)) (db_of de_int))))) (ds_cons (ds_set (i := 9) rfl sc__law_document.nd rfl (by first | exact Or.inl rfl | exact Or.inr rfl) (de_add (db_of (de_add (db_of (dv 5)) (db_of de_int))) (db_of (de_mod (db_of (de_int1 rfl T.b_int (db_of (de_at (db_of (dv 7)) (db_of de_int))))) (db_of (de_sub (db_of de_int) (db_of (dv 5)))))))) (ds_cons (ds_set (i := 10) rfl sc__law_document.nd rfl (by first | exact Or.inl rfl | exact Or.inr rfl) (de_at (db_of (de_strS [97, 98, 99, 100, 101])) (db_of (dv 9)))) (ds_cons (ds_if (PW.pt (dw_and (dt_truth (db_of (dv 3)) (by intro _; rfl)) (dw_and1 (dt_eq hr (db_of (de_mod (db_of (de_int1 rfl T.b_int (db_of (de_at (db_of (dv 7)) (db_of de_int))))) (db_of de_int))) (db_of de_int))))) (ds_one (ds_set (i := 10) rfl sc__law_document.nd rfl (by first | exact Or.inl rfl | exact Or.inr rfl) (de_at (db_of (de_strS [97, 98, 99, 100, 101, 122])) (db_of (de_mod (db_of (de_fdiv (db_of (de_int1 rfl T.b_int (db_of (de_at (db_of (dv 7)) (db_of de_int))))) (db_of de_int))) (db_of de_int)))))) ds_nil) (ds_one (ds_append (i := 4) rfl rfl (Or.inl rfl) (de_tup (da_cons (de_strS [117, 115, 101]) (da_cons (de_mod (db_of (de_int1 rfl T.b_int (db_of (de_at (db_of (dv 7)) (db_of de_int))))) (db_of de_int)) (da_cons (dv 10) da_nil)))) (pe_bm PySem.F.plainAttrs_list PySem.F.slot_list_append PySem.F.type_list_append mt_append (pe_var rfl (Or.inl rfl)) (pa_cons (de_tup (da_cons (de_strS [117, 115, 101]) (da_cons (de_mod (db_of (de_int1 rfl T.b_int (db_of (de_at (db_of (dv 7)) (db_of de_int))))) (db_of de_int)) (da_cons (dv 10) da_nil)))) pa_nil))))))) (ds_one (ds_append (i := 4) rfl rfl (Or.inl rfl) (de_tup (da_cons (de_strS [99, 111, 100, 101]) (da_cons (de_call G__law_code (hr.mono (by decide)) pcx rfl (da_cons (de_int1 rfl T.b_int (db_of (de_at (db_of (dv 7)) (db_of de_int)))) da_nil) rfl (mCons_len mNil_len)) da_nil))) (pe_bm PySem.F.plainAttrs_list PySem.F.slot_list_append PySem.F.type_list_append mt_append (pe_var rfl (Or.inl rfl)) (pa_cons (de_tup (da_cons (de_strS [99, 111, 100, 101]) (da_cons (de_call G__law_code (hr.mono (by decide)) pcx rfl (da_cons (de_int1 rfl T.b_int (db_of (de_at (db_of (dv 7)) (db_of de_int)))) da_nil) rfl (mCons_len mNil_len)) da_nil))) pa_nil)))))))))))))) (ds2_freeze 4 (ds2_of (ds_one (ds_ret (de_tuple rfl T.b_tuple (db_of (dv 4)))))) rfl) sg_for) sg_asg) sg_asgN)
abbrev s_numbers_by_piece : Stmt := topS 7
theorem sc_numbers_by_piece : FnScope ["document", "numbers", "number", "name", "_"] ["document"] (defScope s_numbers_by_piece) := ⟨rfl, rfl, rfl, by decide +kernel, rfl, by decide +kernel, by decide +kernel⟩
def lb_numbers_by_piece_0 : WD.Env → Out := (mDSet 1 (mVar 3) (finApp 1 (mVar 2)))
def b_numbers_by_piece : WD.Env → Out := (mSeq (fun ρ => .nx (ρ.set 1 (some (.dict [])))) (mSeq (mFor (mBindA (enumSD 1) (mCons (mCall m_sections (mCons (mVar 0) mNil)) mNil)) (gTupD (lenG 2 (gConsD (gSet 2) (gConsD (gTupD (lenG 3 (gConsD (gSet 3) (gConsD (gSet 4) (gConsD (gSet 4) gNilD))))) gNilD)))) lb_numbers_by_piece_0) (mRet (mVar 1))))
def m_numbers_by_piece : List D → Res D := mkFn 5 b_numbers_by_piece
theorem ok_numbers_by_piece {f : Addr} {fd : FuncData} (F : Fun K "numbers_by_piece" "numbers_by_piece" s_numbers_by_piece f fd) (T : Txt K mg) (G_sections : Fn P w K mg base 2 "sections" ["document"] m_sections) : FnOk P w K mg base (L2N.CX P w) 3 f fd ["document"] (spM mg K 1 m_numbers_by_piece) :=
  fn_ok (κ := kdT [(1, .od)]) (κe := _) F sc_numbers_by_piece rfl (by decide) fun cdv A outer s H E hr => (ds2_cons (ds_setD0 (i := 1) rfl sc_numbers_by_piece.nd rfl (by first | exact Or.inl rfl | exact Or.inr rfl)) (ds2_cons (ds_for pown rfl (di_enumS rfl T.b_enumerate (da_cons (de_call G_sections (hr.mono (by decide)) pcx rfl (da_cons (dv 0) da_nil) rfl (mCons_len mNil_len)) da_nil)) (dg_tup rfl (dgs_cons (gn 2 sc_numbers_by_piece.nd) (dgs_cons (dg_tup rfl (dgs_cons (gn 3 sc_numbers_by_piece.nd) (dgs_cons (gn 4 sc_numbers_by_piece.nd) (dgs_cons (gn 4 sc_numbers_by_piece.nd) dgs_nil)))) dgs_nil))) (show DSs _ _ _ _ lb_numbers_by_piece_0 from (ds_one (ds_dset (i := 1) rfl rfl (by first | exact Or.inl rfl | exact Or.inr (Or.inl rfl) | exact Or.inr (Or.inr rfl)) (dv 3) fr_app (fun q => pe_bm PySem.F.plainAttrs_list PySem.F.slot_list_append PySem.F.type_list_append mt_append q (pa_cons (dv 2) pa_nil)))))) (ds2_freeze 1 (ds2_of (ds_one (ds_ret (dv 1)))) rfl) sg_for) sg_setD0)
abbrev s_users_by_name : Stmt := topS 8
theorem sc_users_by_name : FnScope ["document", "users", "number", "_", "head", "end", "line"] ["document"] (defScope s_users_by_name) := ⟨rfl, rfl, rfl, by decide +kernel, rfl, by decide +kernel, by decide +kernel⟩
def lb_users_by_name_1 : WD.Env → Out := (mIfS (mTru (mBin eqD (mBin atD (mVar 6) (mC (.int 0))) (mC (S [117, 115, 101])))) (mAddS 1 (mBin atD (mVar 6) (mC (.int 2))) (mVar 2) m_add_section) mNext)
def lb_users_by_name_0 : WD.Env → Out := (mFor (mIt (mCut (mVar 0) (mSome (mBin addD (mVar 4) (mC (.int 1)))) (mSome (mVar 5)))) (gSet 6) lb_users_by_name_1)
def b_users_by_name : WD.Env → Out := (mSeq (fun ρ => .nx (ρ.set 1 (some (.dict [])))) (mSeq (mFor (mBindA (enumSD 1) (mCons (mCall m_sections (mCons (mVar 0) mNil)) mNil)) (gTupD (lenG 2 (gConsD (gSet 2) (gConsD (gTupD (lenG 3 (gConsD (gSet 3) (gConsD (gSet 4) (gConsD (gSet 5) gNilD))))) gNilD)))) lb_users_by_name_0) (mRet (mVar 1))))
def m_users_by_name : List D → Res D := mkFn 7 b_users_by_name
theorem ok_users_by_name {f : Addr} {fd : FuncData} (F : Fun K "users_by_name" "users_by_name" s_users_by_name f fd) (T : Txt K mg) (G_sections : Fn P w K mg base 2 "sections" ["document"] m_sections) (G_add_section : FnAdd P w K mg base 1 "add_section" ["numbers", "key", "number"] m_add_section) : FnOk P w K mg base (L2N.CX P w) 3 f fd ["document"] (spM mg K 1 m_users_by_name) :=
  fn_ok (κ := kdT [(1, .od)]) (κe := _) F sc_users_by_name rfl (by decide) fun cdv A outer s H E hr => (ds2_cons (ds_setD0 (i := 1) rfl sc_users_by_name.nd rfl (by first | exact Or.inl rfl | exact Or.inr rfl)) (ds2_cons (ds_for pown rfl (di_enumS rfl T.b_enumerate (da_cons (de_call G_sections (hr.mono (by decide)) pcx rfl (da_cons (dv 0) da_nil) rfl (mCons_len mNil_len)) da_nil)) (dg_tup rfl (dgs_cons (gn 2 sc_users_by_name.nd) (dgs_cons (dg_tup rfl (dgs_cons (gn 3 sc_users_by_name.nd) (dgs_cons (gn 4 sc_users_by_name.nd) (dgs_cons (gn 5 sc_users_by_name.nd) dgs_nil)))) dgs_nil))) (show DSs _ _ _ _ lb_users_by_name_0 from (ds_one (ds_for pown rfl (di_seq (de_cut (db_of (dv 0)) (do_some (de_add (db_of (dv 4)) (db_of de_int))) (do_some (dv 5)))) (gn 6 sc_users_by_name.nd) (show DSs _ _ _ _ lb_users_by_name_1 from (ds_one (ds_if (dt_eq hr (db_of (de_at (db_of (dv 6)) (db_of de_int))) (db_of (de_strS [117, 115, 101]))) (ds_one (ds_addS (i := 1) G_add_section (hr.mono (by decide)) pcx rfl rfl rfl (by first | exact Or.inl rfl | exact Or.inr (Or.inl rfl) | exact Or.inr (Or.inr rfl)) (de_at (db_of (dv 6)) (db_of de_int)) (dv 2))) ds_nil))))))) (ds2_freeze 1 (ds2_of (ds_one (ds_ret (dv 1)))) rfl) sg_for) sg_setD0)
abbrev s_made_lines : Stmt := topS 10
theorem sc_made_lines : FnScope ["document", "numbers", "users", "following", "made", "number", "name", "_", "end", "texts"] ["document", "numbers"] (defScope s_made_lines) := ⟨rfl, rfl, rfl, by decide +kernel, rfl, by decide +kernel, by decide +kernel⟩
def lb_made_lines_0 : WD.Env → Out := (mForget [9] (mSeq (mAsgN 9 (mLst mNil)) (mSeq (mIfS (mAnd (mTru (mBin eqD (mVar 5) (mBin atD (mBin atX (mVar 1) (mVar 6)) (mC (.int 0))))) (mTru (mBin inX (mVar 6) (mVar 2)))) (mApp 9 (mJs [(mC (S [32, 32, 32, 32, 40, 117, 115, 101, 100, 32, 105, 110, 32])), (mUn fmtD (mCall m_listed (mCons (mBin atX (mVar 2) (mVar 6)) mNil))), (mC (S [41]))])) mNext) (mSeq (mIfS (mTru (mBin inX (mVar 5) (mVar 3))) (mApp 9 (mJs [(mC (S [32, 32, 32, 32, 40, 103, 111, 101, 115, 32, 111, 110, 32, 105, 110, 32])), (mUn fmtD (mBin atX (mVar 3) (mVar 5))), (mC (S [41]))])) mNext) (mDPut 4 (mBin subD (mVar 8) (mC (.int 1))) (mVar 9))))))
def b_made_lines : WD.Env → Out := (mSeq (mAsg 2 (mCall m_users_by_name (mCons (mVar 0) mNil))) (mSeq (mAsg 3 (mCall m_following_numbers (mCons (mVar 1) mNil))) (mSeq (fun ρ => .nx (ρ.set 4 (some (.dict [])))) (mSeq (mFor (mBindA (enumSD 1) (mCons (mCall m_sections (mCons (mVar 0) mNil)) mNil)) (gTupD (lenG 2 (gConsD (gSet 5) (gConsD (gTupD (lenG 3 (gConsD (gSet 6) (gConsD (gSet 7) (gConsD (gSet 8) gNilD))))) gNilD)))) lb_made_lines_0) (mRet (mVar 4))))))
def m_made_lines : List D → Res D := mkFn 10 b_made_lines
theorem ok_made_lines {f : Addr} {fd : FuncData} (F : Fun K "made_lines" "made_lines" s_made_lines f fd) (T : Txt K mg) (G_users_by_name : Fn P w K mg base 3 "users_by_name" ["document"] m_users_by_name) (G_following_numbers : Fn P w K mg base 1 "following_numbers" ["numbers"] m_following_numbers) (G_sections : Fn P w K mg base 2 "sections" ["document"] m_sections) (G_listed : Fn P w K mg base 1 "listed" ["numbers"] m_listed) : FnOk P w K mg base (L2N.CX P w) 4 f fd ["document", "numbers"] (spM mg K 2 m_made_lines) :=
  fn_ok (κ := kdT [(4, .ow), (9, .ow)]) (κe := _) F sc_made_lines rfl (by decide) fun cdv A outer s H E hr => (ds2_cons (ds_set (i := 2) rfl sc_made_lines.nd rfl (by first | exact Or.inl rfl | exact Or.inr rfl) (de_call G_users_by_name (hr.mono (by decide)) pcx rfl (da_cons (dv 0) da_nil) rfl (mCons_len mNil_len))) (ds2_cons (ds_set (i := 3) rfl sc_made_lines.nd rfl (by first | exact Or.inl rfl | exact Or.inr rfl) (de_call G_following_numbers (hr.mono (by decide)) pcx rfl (da_cons (dv 1) da_nil) rfl (mCons_len mNil_len))) (ds2_cons (ds_setD0 (i := 4) rfl sc_made_lines.nd rfl (by first | exact Or.inl rfl | exact Or.inr rfl)) (ds2_cons (ds_for pown rfl (di_enumS rfl T.b_enumerate (da_cons (de_call G_sections (hr.mono (by decide)) pcx rfl (da_cons (dv 0) da_nil) rfl (mCons_len mNil_len)) da_nil)) (dg_tup rfl (dgs_cons (gn 5 sc_made_lines.nd) (dgs_cons (dg_tup rfl (dgs_cons (gn 6 sc_made_lines.nd) (dgs_cons (gn 7 sc_made_lines.nd) (dgs_cons (gn 8 sc_made_lines.nd) dgs_nil)))) dgs_nil))) (show DSs _ _ _ _ lb_made_lines_0 from (ds2_forget [9] (ds2_cons (ds_setN (i := 9) rfl sc_made_lines.nd rfl (by first | exact Or.inl rfl | exact Or.inr rfl) (dn_lst da_nil)) (ds2_cons (ds_if (PW.pt (dw_and (dt_eq hr (db_of (dv 5)) (db_of (de_at (db_of (de_atX hr (db_of (dv 1)) (db_of (dv 6)))) (db_of de_int)))) (dw_and1 (dt_inX hr (db_of (dv 6)) (db_of (dv 2)))))) (ds_one (ds_append (i := 9) rfl rfl (Or.inl rfl) (de_joined (.cons (de_strS [32, 32, 32, 32, 40, 117, 115, 101, 100, 32, 105, 110, 32]) (.cons (de_fmt (de_call G_listed (hr.mono (by decide)) pcx rfl (da_cons (de_atX hr (db_of (dv 2)) (db_of (dv 6))) da_nil) rfl (mCons_len mNil_len))) (.cons (de_strS [41]) .nil)))) (pe_bm PySem.F.plainAttrs_list PySem.F.slot_list_append PySem.F.type_list_append mt_append (pe_var rfl (Or.inl rfl)) (pa_cons (de_joined (.cons (de_strS [32, 32, 32, 32, 40, 117, 115, 101, 100, 32, 105, 110, 32]) (.cons (de_fmt (de_call G_listed (hr.mono (by decide)) pcx rfl (da_cons (de_atX hr (db_of (dv 2)) (db_of (dv 6))) da_nil) rfl (mCons_len mNil_len))) (.cons (de_strS [41]) .nil)))) pa_nil)))) ds_nil) (ds2_cons (ds_if (dt_inX hr (db_of (dv 5)) (db_of (dv 3))) (ds_one (ds_append (i := 9) rfl rfl (Or.inl rfl) (de_joined (.cons (de_strS [32, 32, 32, 32, 40, 103, 111, 101, 115, 32, 111, 110, 32, 105, 110, 32]) (.cons (de_fmt (de_atX hr (db_of (dv 3)) (db_of (dv 5)))) (.cons (de_strS [41]) .nil)))) (pe_bm PySem.F.plainAttrs_list PySem.F.slot_list_append PySem.F.type_list_append mt_append (pe_var rfl (Or.inl rfl)) (pa_cons (de_joined (.cons (de_strS [32, 32, 32, 32, 40, 103, 111, 101, 115, 32, 111, 110, 32, 105, 110, 32]) (.cons (de_fmt (de_atX hr (db_of (dv 3)) (db_of (dv 5)))) (.cons (de_strS [41]) .nil)))) pa_nil)))) ds_nil) (ds2_freeze 9 (ds2_of (ds_one (ds_dput (i := 4) hr rfl rfl (by first | exact Or.inl rfl | exact Or.inr (Or.inl rfl) | exact Or.inr (Or.inr rfl)) (de_sub (db_of (dv 8)) (db_of de_int)) (dv 9)))) rfl) (sg_if sg_app sg_next)) (sg_if sg_app sg_next)) sg_asgN) (fun j hj => by simp [kdIm] at hj ⊢; simp [hj])))) (ds2_freeze 4 (ds2_freeze 9 (ds2_of (ds_one (ds_ret (dv 4)))) rfl) rfl) sg_for) sg_setD0) sg_asg) sg_asg)
abbrev s__law_same : Stmt := topS 24
theorem sc__law_same : FnScope ["actual", "expected", "k"] ["actual", "expected"] (defScope s__law_same) := ⟨rfl, rfl, rfl, by decide +kernel, rfl, by decide +kernel, by decide +kernel⟩
def lb__law_same_0 (m__law_same : List D → Res D) : WD.Env → Out := (mIfS (mNot (mTru (mCall m__law_same (mCons (mBin atD (mVar 0) (mVar 2)) (mCons (mBin atD (mVar 1) (mVar 2)) mNil))))) (mRet (mC (.bool false))) mNext)
def b__law_same (m__law_same : List D → Res D) : WD.Env → Out := (mSeq (mIfS (mTru (mUn (isiD "tuple") (mVar 1))) (mSeq (mIfS (mOr (mNot (mTru (mUn (isiD "tuple") (mVar 0)))) (mTru (mBin neD (mUn lenD (mVar 0)) (mUn lenD (mVar 1))))) (mRet (mC (.bool false))) mNext) (mSeq (mFor (mBindA rng1D (mCons (mUn lenD (mVar 1)) mNil)) (gSet 2) (lb__law_same_0 m__law_same)) (mRet (mC (.bool true))))) mNext) (mSeq (mIfS (mTru (mIsN (mVar 1))) (mRet (mIsN (mVar 0))) mNext) (mSeq (mIfS (mTru (mUn (isiD "str") (mVar 1))) (mRet (mAndV (mUn (isiD "str") (mVar 0)) (mBin eqD (mVar 0) (mVar 1)))) mNext) (mRet (mAndV (mUn (isiD "int") (mVar 0)) (mAndV (mNotV (mUn (isiD "bool") (mVar 0))) (mBin eqD (mVar 0) (mVar 1))))))))
def m__law_same_0 : List D → Res D := fun _ => .stk
def m__law_same_1 : List D → Res D := mkFn 3 (b__law_same m__law_same_0)
def m__law_same_2 : List D → Res D := mkFn 3 (b__law_same m__law_same_1)
def m__law_same_3 : List D → Res D := mkFn 3 (b__law_same m__law_same_2)
def m__law_same_4 : List D → Res D := mkFn 3 (b__law_same m__law_same_3)
abbrev m__law_same : List D → Res D := m__law_same_4
theorem ok__law_same {f : Addr} {fd : FuncData} {lev : Nat} (hlev : 0 ≤ lev) {m__law_same : List D → Res D} (F : Fun K "_law_same" "_law_same" s__law_same f fd) (T : Txt K mg) (G__law_same : Fn P w K mg base lev "_law_same" ["actual", "expected"] m__law_same) : FnOk P w K mg base (L2N.CX P w) (lev + 1) f fd ["actual", "expected"] (spM mg K 2 (mkFn 3 (b__law_same m__law_same))) :=
  fn_ok (κ := kdT []) (κe := _) F sc__law_same rfl (by decide) fun cdv A outer s H E hr => (ds2_of (ds_cons (ds_if (dt_truth (db_of (de_isi rfl T.b_isinstance rfl T.b_tuple (by decide +kernel) (db_of (dv 1)))) (by intro _; rfl)) (ds_cons (ds_if (PW.pt (dw_or (dt_not (dt_truth (db_of (de_isi rfl T.b_isinstance rfl T.b_tuple (by decide +kernel) (db_of (dv 0)))) (by intro _; rfl))) (dw_or1 (dt_ne hr (db_of (de_len rfl T.b_len (db_of (dv 0)))) (db_of (de_len rfl T.b_len (db_of (dv 1)))))))) (ds_one (ds_ret de_bl)) ds_nil) (ds_cons (ds_for pown rfl (di_range1 rfl T.b_range (da_cons (de_len rfl T.b_len (db_of (dv 1))) da_nil)) (gn 2 sc__law_same.nd) (show DSs _ _ _ _ (lb__law_same_0 m__law_same) from (ds_one (ds_if (dt_not (dt_truth (db_of (de_call G__law_same (hr.mono (by omega)) pcx rfl (da_cons (de_at (db_of (dv 0)) (db_of (dv 2))) (da_cons (de_at (db_of (dv 1)) (db_of (dv 2))) da_nil)) rfl (mCons_len (mCons_len mNil_len)))) (by intro _; rfl))) (ds_one (ds_ret de_bl)) ds_nil)))) (ds_one (ds_ret de_bl)))) ds_nil) (ds_cons (ds_if (dt_isN (db_of (dv 1))) (ds_one (ds_ret (de_isN (db_of (dv 0))))) ds_nil) (ds_cons (ds_if (dt_truth (db_of (de_isi rfl T.b_isinstance rfl T.b_str (by decide +kernel) (db_of (dv 1)))) (by intro _; rfl)) (ds_one (ds_ret (de_and (de_isi rfl T.b_isinstance rfl T.b_str (by decide +kernel) (db_of (dv 0))) (de_one (de_eq hr (db_of (dv 0)) (db_of (dv 1))))))) ds_nil) (ds_one (ds_ret (de_and (de_isi rfl T.b_isinstance rfl T.b_int (by decide +kernel) (db_of (dv 0))) (de_and (de_not (de_isi rfl T.b_isinstance rfl T.b_bool (by decide +kernel) (db_of (dv 0)))) (de_one (de_eq hr (db_of (dv 0)) (db_of (dv 1))))))))))))
abbrev s_weave : Stmt := topS 5
theorem sc_weave : FnScope ["document", "numbers", "made", "woven", "number", "at", "line", "text"] ["document"] (defScope s_weave) := ⟨rfl, rfl, rfl, by decide +kernel, rfl, by decide +kernel, by decide +kernel⟩
def lb_weave_0 : WD.Env → Out := (mSeq (mIfS (mTru (mBin eqD (mBin atD (mVar 6) (mC (.int 0))) (mC (S [104, 101, 97, 100])))) (mAug incD 4 (mC (.int 1))) mNext) (mSeq (mApp 3 (mTup (mCons (mCall m_woven_text (mCons (mVar 6) (mCons (mVar 4) (mCons (mVar 1) mNil)))) (mCons (mVar 5) mNil)))) (mExt 3 (mList (mLc (mIt (mGet2 (mVar 2) (mVar 5) (mList (mLst mNil)))) (gSet 7) mYes (mTup (mCons (mVar 7) (mCons (mC .none) mNil))) [7])))))
def b_weave : WD.Env → Out := (mSeq (mAsg 1 (mCall m_numbers_by_piece (mCons (mVar 0) mNil))) (mSeq (mAsg 2 (mCall m_made_lines (mCons (mVar 0) (mCons (mVar 1) mNil)))) (mSeq (mAsgN 3 (mLst mNil)) (mSeq (mAsg 4 (mC (.int 0))) (mSeq (mFor (mBindA enumXD (mCons (mVar 0) mNil)) (gTupD (lenG 2 (gConsD (gSet 5) (gConsD (gSet 6) gNilD)))) lb_weave_0) (mSeq (mExt 3 (mList (mLc (mIt (mCall m_index_texts (mCons (mVar 1) mNil))) (gSet 7) mYes (mTup (mCons (mVar 7) (mCons (mC .none) mNil))) [7]))) (mRet (mVar 3))))))))
def m_weave : List D → Res D := mkFn 8 b_weave
theorem ok_weave {f : Addr} {fd : FuncData} (F : Fun K "weave" "weave" s_weave f fd) (T : Txt K mg) (G_numbers_by_piece : Fn P w K mg base 3 "numbers_by_piece" ["document"] m_numbers_by_piece) (G_made_lines : Fn P w K mg base 4 "made_lines" ["document", "numbers"] m_made_lines) (G_woven_text : Fn P w K mg base 1 "woven_text" ["line", "number", "numbers"] m_woven_text) (G_index_texts : Fn P w K mg base 2 "index_texts" ["numbers"] m_index_texts) : FnOk P w K mg base (L2N.CX P w) 5 f fd ["document"] (spM mg K 1 m_weave) :=
  fn_ok (κ := kdT [(3, .ow)]) (κe := _) F sc_weave rfl (by decide) fun cdv A outer s H E hr => (ds2_cons (ds_set (i := 1) rfl sc_weave.nd rfl (by first | exact Or.inl rfl | exact Or.inr rfl) (de_call G_numbers_by_piece (hr.mono (by decide)) pcx rfl (da_cons (dv 0) da_nil) rfl (mCons_len mNil_len))) (ds2_cons (ds_set (i := 2) rfl sc_weave.nd rfl (by first | exact Or.inl rfl | exact Or.inr rfl) (de_call G_made_lines (hr.mono (by decide)) pcx rfl (da_cons (dv 0) (da_cons (dv 1) da_nil)) rfl (mCons_len (mCons_len mNil_len)))) (ds2_cons (ds_setN (i := 3) rfl sc_weave.nd rfl (by first | exact Or.inl rfl | exact Or.inr rfl) (dn_lst da_nil)) (ds2_cons (ds_set (i := 4) rfl sc_weave.nd rfl (by first | exact Or.inl rfl | exact Or.inr rfl) de_int) (ds2_cons (ds_for pown rfl (di_enumX rfl T.b_enumerate (da_cons (dv 0) da_nil)) (dg_tup rfl (dgs_cons (gn 5 sc_weave.nd) (dgs_cons (gn 6 sc_weave.nd) dgs_nil))) (show DSs _ _ _ _ lb_weave_0 from (ds_cons (ds_if (dt_eq hr (db_of (de_at (db_of (dv 6)) (db_of de_int))) (db_of (de_strS [104, 101, 97, 100]))) (ds_one (ds_inc (i := 4) rfl sc_weave.nd rfl (by first | exact Or.inl rfl | exact Or.inr rfl) de_int)) ds_nil) (ds_cons (ds_append (i := 3) rfl rfl (Or.inl rfl) (de_tup (da_cons (de_call G_woven_text (hr.mono (by decide)) pcx rfl (da_cons (dv 6) (da_cons (dv 4) (da_cons (dv 1) da_nil))) rfl (mCons_len (mCons_len (mCons_len mNil_len)))) (da_cons (dv 5) da_nil))) (pe_bm PySem.F.plainAttrs_list PySem.F.slot_list_append PySem.F.type_list_append mt_append (pe_var rfl (Or.inl rfl)) (pa_cons (de_tup (da_cons (de_call G_woven_text (hr.mono (by decide)) pcx rfl (da_cons (dv 6) (da_cons (dv 4) (da_cons (dv 1) da_nil))) rfl (mCons_len (mCons_len (mCons_len mNil_len)))) (da_cons (dv 5) da_nil))) pa_nil))) (ds_one (ds_extend (i := 3) rfl rfl (Or.inl rfl) (de_new (dn_lc (own := [("text", 7)]) rfl sc_weave.nd (dip_seq (db_of (de_get2 hr (db_of (dv 2)) (dv 5) (de_new (dn_lst da_nil))))) (blkOk_by (N := ["document", "numbers", "made", "woven", "number", "at", "line", "text"]) (sc := defScope s_weave) (own := [("text", 7)]) (by decide +kernel)) (by decide) (fun _ _ _ _ _ => (gn 7 sc_weave.nd)) (fun _ _ _ _ _ => dts_nil) (fun _ _ _ _ _ => (de_tup (da_cons (dv 7) (da_cons de_non da_nil)))))) (pe_bm PySem.F.plainAttrs_list PySem.F.slot_list_extend PySem.F.type_list_extend mt_extendA (pe_var rfl (Or.inl rfl)) (pa_cons (de_new (dn_lc (own := [("text", 7)]) rfl sc_weave.nd (dip_seq (db_of (de_get2 hr (db_of (dv 2)) (dv 5) (de_new (dn_lst da_nil))))) (blkOk_by (N := ["document", "numbers", "made", "woven", "number", "at", "line", "text"]) (sc := defScope s_weave) (own := [("text", 7)]) (by decide +kernel)) (by decide) (fun _ _ _ _ _ => (gn 7 sc_weave.nd)) (fun _ _ _ _ _ => dts_nil) (fun _ _ _ _ _ => (de_tup (da_cons (dv 7) (da_cons de_non da_nil)))))) pa_nil)))))))) (ds2_cons (ds_extend (i := 3) rfl rfl (Or.inl rfl) (de_new (dn_lc (own := [("text", 7)]) rfl sc_weave.nd (dip_seq (db_of (de_call G_index_texts (hr.mono (by decide)) pcx rfl (da_cons (dv 1) da_nil) rfl (mCons_len mNil_len)))) (blkOk_by (N := ["document", "numbers", "made", "woven", "number", "at", "line", "text"]) (sc := defScope s_weave) (own := [("text", 7)]) (by decide +kernel)) (by decide) (fun _ _ _ _ _ => (gn 7 sc_weave.nd)) (fun _ _ _ _ _ => dts_nil) (fun _ _ _ _ _ => (de_tup (da_cons (dv 7) (da_cons de_non da_nil)))))) (pe_bm PySem.F.plainAttrs_list PySem.F.slot_list_extend PySem.F.type_list_extend mt_extendA (pe_var rfl (Or.inl rfl)) (pa_cons (de_new (dn_lc (own := [("text", 7)]) rfl sc_weave.nd (dip_seq (db_of (de_call G_index_texts (hr.mono (by decide)) pcx rfl (da_cons (dv 1) da_nil) rfl (mCons_len mNil_len)))) (blkOk_by (N := ["document", "numbers", "made", "woven", "number", "at", "line", "text"]) (sc := defScope s_weave) (own := [("text", 7)]) (by decide +kernel)) (by decide) (fun _ _ _ _ _ => (gn 7 sc_weave.nd)) (fun _ _ _ _ _ => dts_nil) (fun _ _ _ _ _ => (de_tup (da_cons (dv 7) (da_cons de_non da_nil)))))) pa_nil))) (ds2_freeze 3 (ds2_of (ds_one (ds_ret (dv 3)))) rfl) sg_ext) sg_for) sg_asg) sg_asgN) sg_asg) sg_asg)
abbrev s_to_woven : Stmt := topS 15
theorem sc_to_woven : FnScope ["document", "line", "column", "at", "text", "given_by", "first", "shift"] ["document", "line", "column"] (defScope s_to_woven) := ⟨rfl, rfl, rfl, by decide +kernel, rfl, by decide +kernel, by decide +kernel⟩
def lb_to_woven_0 : WD.Env → Out := (mIfS (mTru (mBin eqD (mVar 5) (mVar 1))) (mSeq (mAsgG (gTupD (lenG 2 (gConsD (gSet 6) (gConsD (gSet 7) gNilD)))) (mCall m_woven_shift (mCons (mBin atD (mVar 0) (mVar 1)) (mCons (mVar 4) mNil)))) (mSeq (mIfS (mOr (mTru (mIsN (mVar 6))) (mTru (mBin (cmpD ltI) (mVar 2) (mVar 6)))) (mRet (mC .none)) mNext) (mRet (mTup (mCons (mVar 3) (mCons (mBin addD (mVar 2) (mVar 7)) mNil)))))) mNext)
def b_to_woven : WD.Env → Out := (mSeq (mFor (mBindA enumXD (mCons (mCall m_weave (mCons (mVar 0) mNil)) mNil)) (gTupD (lenG 2 (gConsD (gSet 3) (gConsD (gTupD (lenG 2 (gConsD (gSet 4) (gConsD (gSet 5) gNilD)))) gNilD)))) lb_to_woven_0) (mRet (mC .none)))
def m_to_woven : List D → Res D := mkFn 8 b_to_woven
theorem ok_to_woven {f : Addr} {fd : FuncData} (F : Fun K "to_woven" "to_woven" s_to_woven f fd) (T : Txt K mg) (G_weave : Fn P w K mg base 5 "weave" ["document"] m_weave) (G_woven_shift : Fn P w K mg base 1 "woven_shift" ["line", "text"] m_woven_shift) : FnOk P w K mg base (L2N.CX P w) 6 f fd ["document", "line", "column"] (spM mg K 3 m_to_woven) :=
  fn_ok (κ := kdT []) (κe := _) F sc_to_woven rfl (by decide) fun cdv A outer s H E hr => (ds2_of (ds_cons (ds_for pown rfl (di_enumX rfl T.b_enumerate (da_cons (de_call G_weave (hr.mono (by decide)) pcx rfl (da_cons (dv 0) da_nil) rfl (mCons_len mNil_len)) da_nil)) (dg_tup rfl (dgs_cons (gn 3 sc_to_woven.nd) (dgs_cons (dg_tup rfl (dgs_cons (gn 4 sc_to_woven.nd) (dgs_cons (gn 5 sc_to_woven.nd) dgs_nil))) dgs_nil))) (show DSs _ _ _ _ lb_to_woven_0 from (ds_one (ds_if (dt_eq hr (db_of (dv 5)) (db_of (dv 1))) (ds_cons (ds_asg (de_call G_woven_shift (hr.mono (by decide)) pcx rfl (da_cons (de_at (db_of (dv 0)) (db_of (dv 1))) (da_cons (dv 4) da_nil)) rfl (mCons_len (mCons_len mNil_len))) (dg_tup rfl (dgs_cons (gn 6 sc_to_woven.nd) (dgs_cons (gn 7 sc_to_woven.nd) dgs_nil)))) (ds_cons (ds_if (PW.pt (dw_or (dt_isN (db_of (dv 6))) (dw_or1 (dt_lt (db_of (dv 2)) (db_of (dv 6)))))) (ds_one (ds_ret de_non)) ds_nil) (ds_one (ds_ret (de_tup (da_cons (dv 3) (da_cons (de_add (db_of (dv 2)) (db_of (dv 7))) da_nil))))))) ds_nil)))) (ds_one (ds_ret de_non))))
abbrev s_from_woven : Stmt := topS 16
theorem sc_from_woven : FnScope ["document", "at", "column", "text", "line", "first", "shift"] ["document", "at", "column"] (defScope s_from_woven) := ⟨rfl, rfl, rfl, by decide +kernel, rfl, by decide +kernel, by decide +kernel⟩
def b_from_woven : WD.Env → Out := (mSeq (mAsgG (gTupD (lenG 2 (gConsD (gSet 3) (gConsD (gSet 4) gNilD)))) (mBin atD (mCall m_weave (mCons (mVar 0) mNil)) (mVar 1))) (mSeq (mIfS (mTru (mIsN (mVar 4))) (mRet (mC .none)) mNext) (mSeq (mAsgG (gTupD (lenG 2 (gConsD (gSet 5) (gConsD (gSet 6) gNilD)))) (mCall m_woven_shift (mCons (mBin atD (mVar 0) (mVar 4)) (mCons (mVar 3) mNil)))) (mSeq (mIfS (mOr (mTru (mIsN (mVar 5))) (mTru (mBin (cmpD ltI) (mBin subD (mVar 2) (mVar 6)) (mVar 5)))) (mRet (mC .none)) mNext) (mRet (mTup (mCons (mVar 4) (mCons (mBin subD (mVar 2) (mVar 6)) mNil))))))))
def m_from_woven : List D → Res D := mkFn 7 b_from_woven
theorem ok_from_woven {f : Addr} {fd : FuncData} (F : Fun K "from_woven" "from_woven" s_from_woven f fd) (T : Txt K mg) (G_woven_shift : Fn P w K mg base 1 "woven_shift" ["line", "text"] m_woven_shift) (G_weave : Fn P w K mg base 5 "weave" ["document"] m_weave) : FnOk P w K mg base (L2N.CX P w) 6 f fd ["document", "at", "column"] (spM mg K 3 m_from_woven) :=
  fn_ok (κ := kdT []) (κe := _) F sc_from_woven rfl (by decide) fun cdv A outer s H E hr => (ds2_of (ds_cons (ds_asg (de_at (db_of (de_call G_weave (hr.mono (by decide)) pcx rfl (da_cons (dv 0) da_nil) rfl (mCons_len mNil_len))) (db_of (dv 1))) (dg_tup rfl (dgs_cons (gn 3 sc_from_woven.nd) (dgs_cons (gn 4 sc_from_woven.nd) dgs_nil)))) (ds_cons (ds_if (dt_isN (db_of (dv 4))) (ds_one (ds_ret de_non)) ds_nil) (ds_cons (ds_asg (de_call G_woven_shift (hr.mono (by decide)) pcx rfl (da_cons (de_at (db_of (dv 0)) (db_of (dv 4))) (da_cons (dv 3) da_nil)) rfl (mCons_len (mCons_len mNil_len))) (dg_tup rfl (dgs_cons (gn 5 sc_from_woven.nd) (dgs_cons (gn 6 sc_from_woven.nd) dgs_nil)))) (ds_cons (ds_if (PW.pt (dw_or (dt_isN (db_of (dv 5))) (dw_or1 (dt_lt (db_of (de_sub (db_of (dv 2)) (db_of (dv 6)))) (db_of (dv 5)))))) (ds_one (ds_ret de_non)) ds_nil) (ds_one (ds_ret (de_tup (da_cons (dv 4) (da_cons (de_sub (db_of (dv 2)) (db_of (dv 6))) da_nil))))))))))
abbrev s_law : Stmt := topS 28
theorem sc_law : FnScope ["script", "document", "written", "woven", "reached", "k", "first", "column", "told", "text", "at"] ["script"] (defScope s_law) := ⟨rfl, rfl, rfl, by decide +kernel, rfl, by decide +kernel, by decide +kernel⟩
def lb_law_3 : WD.Env → Out := (mIfS (mAnd (mTru (mBin notInY (mTup (mCons (mVar 10) (mCons (mVar 7) mNil))) (mVar 4))) (mTru (mNotN (mCall m_from_woven (mCons (mVar 1) (mCons (mVar 10) (mCons (mVar 7) mNil))))))) (mRet (mC (.bool false))) mNext)
def lb_law_2 : WD.Env → Out := (mFor (mBindA rng1D (mCons (mBin addD (mUn lenD (mBin atD (mBin atD (mVar 3) (mVar 10)) (mC (.int 0)))) (mC (.int 1))) mNil)) (gSet 7) lb_law_3)
def lb_law_1 : WD.Env → Out := (mSeq (mAsg 8 (mCall m_to_woven (mCons (mVar 1) (mCons (mVar 5) (mCons (mVar 7) mNil))))) (mSeq (mIfS (mTru (mBin (cmpD ltI) (mVar 7) (mVar 6))) (mSeq (mIfS (mTru (mNotN (mVar 8))) (mRet (mC (.bool false))) mNext) .ct) mNext) (mSeq (mIfS (mOr (mNot (mTru (mUn (isiD "tuple") (mVar 8)))) (mOr (mTru (mBin neD (mUn lenD (mVar 8)) (mC (.int 2)))) (mTru (mBin neD (mBin atD (mBin atD (mVar 3) (mBin atD (mVar 8) (mC (.int 0)))) (mC (.int 1))) (mVar 5))))) (mRet (mC (.bool false))) mNext) (mSeq (mAsg 9 (mBin atD (mBin atD (mVar 3) (mBin atD (mVar 8) (mC (.int 0)))) (mC (.int 0)))) (mSeq (mIfS (mTru (mBin neD (mBin subD (mUn lenD (mVar 9)) (mBin atD (mVar 8) (mC (.int 1)))) (mBin subD (mUn lenD (mBin atD (mVar 2) (mVar 5))) (mVar 7)))) (mRet (mC (.bool false))) mNext) (mSeq (mIfS (mAnd (mTru (mBin (cmpD ltI) (mVar 7) (mUn lenD (mBin atD (mVar 2) (mVar 5))))) (mTru (mBin neD (mBin atD (mVar 9) (mBin atD (mVar 8) (mC (.int 1)))) (mBin atD (mBin atD (mVar 2) (mVar 5)) (mVar 7))))) (mRet (mC (.bool false))) mNext) (mSeq (mIfS (mNot (mTru (mCall m__law_same (mCons (mCall m_from_woven (mCons (mVar 1) (mCons (mBin atD (mVar 8) (mC (.int 0))) (mCons (mBin atD (mVar 8) (mC (.int 1))) mNil)))) (mCons (mTup (mCons (mVar 5) (mCons (mVar 7) mNil))) mNil))))) (mRet (mC (.bool false))) mNext) (mApp 4 (mVar 8)))))))))
def lb_law_0 : WD.Env → Out := (mSeq (mAsg 6 (mCall m__law_first (mCons (mBin atD (mVar 1) (mVar 5)) mNil))) (mFor (mBindA rng1D (mCons (mBin addD (mUn lenD (mBin atD (mVar 2) (mVar 5))) (mC (.int 1))) mNil)) (gSet 7) lb_law_1))
def b_law : WD.Env → Out := (mSeq (mAsg 1 (mCall m__law_document (mCons (mVar 0) (mCons (mC (.int 1)) (mCons (mBin addD (mC (.int 1)) (mBin modD (mCall m__law_cell (mCons (mVar 0) (mCons (mC (.int 0)) mNil))) (mC (.int 24)))) (mCons (mC (.bool true)) mNil)))))) (mSeq (mAsg 2 (mMt (s1D splitD) (mCall m_write (mCons (mVar 1) mNil)) (mCons (mC (S [10])) mNil))) (mSeq (mAsg 3 (mCall m_weave (mCons (mVar 1) mNil))) (mSeq (mAsgN 4 (mLst mNil)) (mSeq (mFor (mBindA rng1D (mCons (mUn lenD (mVar 1)) mNil)) (gSet 5) lb_law_0) (mSeq (mFor (mBindA rng1D (mCons (mUn lenD (mVar 3)) mNil)) (gSet 10) lb_law_2) (mRet (mC (.bool true)))))))))
def m_law : List D → Res D := mkFn 11 b_law
theorem ok_law {f : Addr} {fd : FuncData} (F : Fun K "law" "law" s_law f fd) (T : Txt K mg) (G__law_document : Fn P w K mg base 2 "_law_document" ["script", "start", "many", "loose"] m__law_document) (G_weave : Fn P w K mg base 5 "weave" ["document"] m_weave) (G__law_first : Fn P w K mg base 1 "_law_first" ["line"] m__law_first) (G_write : Fn P w K mg base 2 "write" ["document"] m_write) (G_to_woven : Fn P w K mg base 6 "to_woven" ["document", "line", "column"] m_to_woven) (G__law_cell : Fn P w K mg base 1 "_law_cell" ["script", "k"] m__law_cell) (G__law_same : Fn P w K mg base 4 "_law_same" ["actual", "expected"] m__law_same) (G_from_woven : Fn P w K mg base 6 "from_woven" ["document", "at", "column"] m_from_woven) : FnOk P w K mg base (L2N.CX P w) 7 f fd ["script"] (spM mg K 1 m_law) :=
  fn_ok (κ := kdT [(4, .ow)]) (κe := _) F sc_law rfl (by decide) fun cdv A outer s H E hr => (ds2_cons (ds_set (i := 1) rfl sc_law.nd rfl (by first | exact Or.inl rfl | exact Or.inr rfl) (de_call G__law_document (hr.mono (by decide)) pcx rfl (da_cons (dv 0) (da_cons de_int (da_cons (de_add (db_of de_int) (db_of (de_mod (db_of (de_call G__law_cell (hr.mono (by decide)) pcx rfl (da_cons (dv 0) (da_cons de_int da_nil)) rfl (mCons_len (mCons_len mNil_len)))) (db_of de_int)))) (da_cons de_bl da_nil)))) rfl (mCons_len (mCons_len (mCons_len (mCons_len mNil_len)))))) (ds2_cons (ds_set (i := 2) rfl sc_law.nd rfl (by first | exact Or.inl rfl | exact Or.inr rfl) (de_m PySem.F.slot_str_split PySem.F.type_str_split mt_split ops_split split_ne (de_call G_write (hr.mono (by decide)) pcx rfl (da_cons (dv 1) da_nil) rfl (mCons_len mNil_len)) (da_cons (de_strS [10]) da_nil))) (ds2_cons (ds_set (i := 3) rfl sc_law.nd rfl (by first | exact Or.inl rfl | exact Or.inr rfl) (de_call G_weave (hr.mono (by decide)) pcx rfl (da_cons (dv 1) da_nil) rfl (mCons_len mNil_len))) (ds2_cons (ds_setN (i := 4) rfl sc_law.nd rfl (by first | exact Or.inl rfl | exact Or.inr rfl) (dn_lst da_nil)) (ds2_cons (ds_for pown rfl (di_range1 rfl T.b_range (da_cons (de_len rfl T.b_len (db_of (dv 1))) da_nil)) (gn 5 sc_law.nd) (show DSs _ _ _ _ lb_law_0 from (ds_cons (ds_set (i := 6) rfl sc_law.nd rfl (by first | exact Or.inl rfl | exact Or.inr rfl) (de_call G__law_first (hr.mono (by decide)) pcx rfl (da_cons (de_at (db_of (dv 1)) (db_of (dv 5))) da_nil) rfl (mCons_len mNil_len))) (ds_one (ds_for pown rfl (di_range1 rfl T.b_range (da_cons (de_add (db_of (de_len rfl T.b_len (db_of (de_at (db_of (dv 2)) (db_of (dv 5)))))) (db_of de_int)) da_nil)) (gn 7 sc_law.nd) (show DSs _ _ _ _ lb_law_1 from (ds_cons (ds_set (i := 8) rfl sc_law.nd rfl (by first | exact Or.inl rfl | exact Or.inr rfl) (de_call G_to_woven (hr.mono (by decide)) pcx rfl (da_cons (dv 1) (da_cons (dv 5) (da_cons (dv 7) da_nil))) rfl (mCons_len (mCons_len (mCons_len mNil_len))))) (ds_cons (ds_if (dt_lt (db_of (dv 7)) (db_of (dv 6))) (ds_cons (ds_if (dt_notN (db_of (dv 8))) (ds_one (ds_ret de_bl)) ds_nil) (ds_one ds_continue)) ds_nil) (ds_cons (ds_if (PW.pt (dw_or (dt_not (dt_truth (db_of (de_isi rfl T.b_isinstance rfl T.b_tuple (by decide +kernel) (db_of (dv 8)))) (by intro _; rfl))) (dw_or (dt_ne hr (db_of (de_len rfl T.b_len (db_of (dv 8)))) (db_of de_int)) (dw_or1 (dt_ne hr (db_of (de_at (db_of (de_at (db_of (dv 3)) (db_of (de_at (db_of (dv 8)) (db_of de_int))))) (db_of de_int))) (db_of (dv 5))))))) (ds_one (ds_ret de_bl)) ds_nil) (ds_cons (ds_set (i := 9) rfl sc_law.nd rfl (by first | exact Or.inl rfl | exact Or.inr rfl) (de_at (db_of (de_at (db_of (dv 3)) (db_of (de_at (db_of (dv 8)) (db_of de_int))))) (db_of de_int))) (ds_cons (ds_if (dt_ne hr (db_of (de_sub (db_of (de_len rfl T.b_len (db_of (dv 9)))) (db_of (de_at (db_of (dv 8)) (db_of de_int))))) (db_of (de_sub (db_of (de_len rfl T.b_len (db_of (de_at (db_of (dv 2)) (db_of (dv 5)))))) (db_of (dv 7))))) (ds_one (ds_ret de_bl)) ds_nil) (ds_cons (ds_if (PW.pt (dw_and (dt_lt (db_of (dv 7)) (db_of (de_len rfl T.b_len (db_of (de_at (db_of (dv 2)) (db_of (dv 5))))))) (dw_and1 (dt_ne hr (db_of (de_at (db_of (dv 9)) (db_of (de_at (db_of (dv 8)) (db_of de_int))))) (db_of (de_at (db_of (de_at (db_of (dv 2)) (db_of (dv 5)))) (db_of (dv 7)))))))) (ds_one (ds_ret de_bl)) ds_nil) (ds_cons (ds_if (dt_not (dt_truth (db_of (de_call G__law_same (hr.mono (by decide)) pcx rfl (da_cons (de_call G_from_woven (hr.mono (by decide)) pcx rfl (da_cons (dv 1) (da_cons (de_at (db_of (dv 8)) (db_of de_int)) (da_cons (de_at (db_of (dv 8)) (db_of de_int)) da_nil))) rfl (mCons_len (mCons_len (mCons_len mNil_len)))) (da_cons (de_tup (da_cons (dv 5) (da_cons (dv 7) da_nil))) da_nil)) rfl (mCons_len (mCons_len mNil_len)))) (by intro _; rfl))) (ds_one (ds_ret de_bl)) ds_nil) (ds_one (ds_append (i := 4) rfl rfl (Or.inl rfl) (dv 8) (pe_bm PySem.F.plainAttrs_list PySem.F.slot_list_append PySem.F.type_list_append mt_append (pe_var rfl (Or.inl rfl)) (pa_cons (dv 8) pa_nil))))))))))))))))) (ds2_freeze 4 (ds2_of (ds_cons (ds_for pown rfl (di_range1 rfl T.b_range (da_cons (de_len rfl T.b_len (db_of (dv 3))) da_nil)) (gn 10 sc_law.nd) (show DSs _ _ _ _ lb_law_2 from (ds_one (ds_for pown rfl (di_range1 rfl T.b_range (da_cons (de_add (db_of (de_len rfl T.b_len (db_of (de_at (db_of (de_at (db_of (dv 3)) (db_of (dv 10)))) (db_of de_int))))) (db_of de_int)) da_nil)) (gn 7 sc_law.nd) (show DSs _ _ _ _ lb_law_3 from (ds_one (ds_if (PW.pt (dw_and (dt_notInY hr (db_of (de_tup (da_cons (dv 10) (da_cons (dv 7) da_nil)))) (db_of (dv 4))) (dw_and1 (dt_notN (db_of (de_call G_from_woven (hr.mono (by decide)) pcx rfl (da_cons (dv 1) (da_cons (dv 10) (da_cons (dv 7) da_nil))) rfl (mCons_len (mCons_len (mCons_len mNil_len))))))))) (ds_one (ds_ret de_bl)) ds_nil))))))) (ds_one (ds_ret de_bl)))) rfl) sg_for) sg_asgN) sg_asg) sg_asg) sg_asg)
end
/-! documents -/
inductive Ln where
  | head (n : List Nat) | prose (t : List Nat) | code (t : List Nat) | use (k : Nat) (n : List Nat)
def kHead : List Nat := [104, 101, 97, 100]
def kProse : List Nat := [112, 114, 111, 115, 101]
def kCode : List Nat := [99, 111, 100, 101]
def kUse : List Nat := [117, 115, 101]
def lnD : Ln → D
  | .head n => .tuple [S kHead, S n]
  | .prose t => .tuple [S kProse, S t]
  | .code t => .tuple [S kCode, S t]
  | .use k n => .tuple [S kUse, .int k, S n]
def lnK : Ln → List Nat
  | .head _ => kHead
  | .prose _ => kProse
  | .code _ => kCode
  | .use _ _ => kUse
def Ln.isHead : Ln → Bool
  | .head _ => true
  | _ => false
def Ln.isUse : Ln → Bool
  | .use _ _ => true
  | _ => false
def Ln.body : Ln → Bool
  | .code _ => true
  | .use _ _ => true
  | _ => false
def docD (ls : List Ln) : D := .tuple (ls.map lnD)
theorem ln0 (l : Ln) : atD (lnD l) (.int 0) = .ok (S (lnK l)) := by cases l <;> exact atD_tuple (k := 0) rfl
theorem doc_at {ls : List Ln} {i : Nat} {l : Ln} (h : ls[i]? = some l) : atD (docD ls) (.int i) = .ok (lnD l) := atD_tuple (by rw [List.getElem?_map, h]; rfl)
theorem k_head (l : Ln) : (lnK l == kHead) = l.isHead := by cases l <;> rfl
theorem k_use (l : Ln) : (lnK l == kUse) = l.isUse := by cases l <;> rfl
theorem sl (n : Nat) (h : n ≤ 1000) : n ≤ sizeLine := by rw [sl_eq]; omega
theorem sl' (n : Nat) (h : n ≤ 1000) : n < sizeLine := by rw [sl_eq]; omega
/-! x in (a, b), texts -/
theorem beqS (a b : List Nat) : ((⟨a.toArray⟩ : Str) == ⟨b.toArray⟩) = (a == b) := eqv_S a b
theorem inV_Ss (x : List Nat) : ∀ ys : List (List Nat), inV (vOf (S x)) ((ys.map S).map vOf) = ys.contains x
  | [] => rfl
  | y :: ys => by
    have ih := inV_Ss x ys
    rw [List.map_cons, List.map_cons, List.contains_cons]
    unfold inV at ih ⊢
    rw [List.any_cons, ih]
    show (((⟨y.toArray⟩ : Str) == ⟨x.toArray⟩) || ys.contains x) = _
    rw [beqS, Bool.beq_comm]
theorem flat_Ss : ∀ ys : List (List Nat), (ys.map S).all flatD = true
  | [] => rfl
  | y :: ys => by rw [List.map_cons, List.all_cons, flat_Ss ys]; rfl
theorem inD_Ss (x : List Nat) (ys : List (List Nat)) : inD (S x) (.list (ys.map S)) = .ok (.bool (ys.contains x)) := by
  have h : flatD (S x) = true ∧ (ys.map S).all flatD = true := ⟨rfl, flat_Ss ys⟩
  have e : inD (S x) (.list (ys.map S)) = if flatD (S x) = true ∧ (ys.map S).all flatD = true then .ok (.bool (inV (vOf (S x)) ((ys.map S).map vOf))) else .stk := rfl
  rw [e, if_pos h, inV_Ss]
theorem inD_St (x : List Nat) (ys : List (List Nat)) : inD (S x) (.tuple (ys.map S)) = .ok (.bool (ys.contains x)) := by
  have h : flatD (S x) = true ∧ (ys.map S).all flatD = true := ⟨rfl, flat_Ss ys⟩
  have e : inD (S x) (.tuple (ys.map S)) = if flatD (S x) = true ∧ (ys.map S).all flatD = true then .ok (.bool (inV (vOf (S x)) ((ys.map S).map vOf))) else .stk := rfl
  rw [e, if_pos h, inV_Ss]
theorem in_body (l : Ln) : inD (S (lnK l)) (.tuple [S kCode, S kUse]) = .ok (.bool l.body) := by
  have := inD_St (lnK l) [kCode, kUse]
  rw [show (List.map S [kCode, kUse]) = [S kCode, S kUse] from rfl] at this
  rw [this]; cases l <;> rfl
/-! where a section ends -/
def bodyLen : List Ln → Nat
  | [] => 0
  | l :: ls => if l.body = true then bodyLen ls + 1 else 0
theorem bodyLen_le : ∀ ls : List Ln, bodyLen ls ≤ ls.length
  | [] => Nat.le_refl _
  | l :: ls => by
    have := bodyLen_le ls
    unfold bodyLen
    split <;> simp <;> omega
def secEnd (ls : List Ln) (h : Nat) : Nat := h + 1 + bodyLen (ls.drop (h + 1))
theorem secEnd_le {ls : List Ln} {h : Nat} (hh : h < ls.length) : secEnd ls h ≤ ls.length := by
  have := bodyLen_le (ls.drop (h + 1))
  rw [List.length_drop] at this
  unfold secEnd
  omega
theorem while_body {c : WD.Env → Res Bool} {b : WD.Env → Out} {ls : List Ln} (R : Nat → WD.Env) (hc : ∀ e l, ls[e]? = some l → c (R e) = .ok l.body) (hc' : c (R ls.length) = .ok false) (hb : ∀ e, e < ls.length → b (R e) = .nx (R (e + 1))) :
    ∀ (n fuel e : Nat), ls.length - e = n → e ≤ ls.length → n < fuel → whileL c b fuel (R e) = .nx (R (e + bodyLen (ls.drop e))) := by
  intro n
  induction n with
  | zero =>
    intro fuel e hn he hf
    have : e = ls.length := by omega
    subst this
    cases fuel with
    | zero => omega
    | succ f =>
      unfold whileL
      rw [hc', List.drop_length]
      rfl
  | succ n ih =>
    intro fuel e hn he hf
    have hlt : e < ls.length := by omega
    cases fuel with
    | zero => omega
    | succ f =>
      have hg := List.getElem?_eq_getElem hlt
      have hd : ls.drop e = ls[e] :: ls.drop (e + 1) := List.drop_eq_getElem_cons hlt
      unfold whileL
      rw [hc e _ hg, hd]
      cases hbd : ls[e].body with
      | false => simp [bodyLen, hbd]
      | true =>
        simp only [hb e hlt]
        rw [ih f (e + 1) (by omega) (by omega) (by omega)]
        simp only [bodyLen, hbd, if_true]
        rw [show e + 1 + bodyLen (ls.drop (e + 1)) = e + (bodyLen (ls.drop (e + 1)) + 1) by omega]
/-! sections -/
theorem doc_len (ls : List Ln) : lenD (docD ls) = .ok (.int ls.length) := by unfold docD; rw [lenD_tuple, List.length_map]
theorem m_section_end_is {ls : List Ln} (hl : ls.length ≤ 200) {h : Nat} (hh : h < ls.length) : m_section_end [docD ls, .int h] = .ok (.int (secEnd ls h : Nat)) := by
  unfold m_section_end mkFn b_section_end
  have e0 : ((h : Int) + 1) = ((h + 1 : Nat) : Int) := by omega
  have ld := doc_len ls
  have w := while_body (c := mAnd (mTru (mBin (cmpD ltI) (mVar 2) (mUn lenD (mVar 0)))) (mTru (mBin inD (mBin atD (mBin atD (mVar 0) (mVar 2)) (mC (.int 0))) (mTup (mCons (mC (S [99, 111, 100, 101])) (mCons (mC (S [117, 115, 101])) mNil)))))) (b := lb_section_end_0) (ls := ls)
    (fun e => [some (docD ls), some (.int h), some (.int (e : Nat))]) (fun e l he => by
      have hlt : e < ls.length := (List.getElem?_eq_some_iff.mp he).1
      have := in_body l
      have s2 : 2 ≤ sizeLine := sl 2 (by omega)
      simp -implicitDefEqProofs [ld, doc_at he, ln0, ltI, hlt, s2]
      rw [show [99, 111, 100, 101] = kCode from rfl, show [117, 115, 101] = kUse from rfl, this]
      simp) (by simp -implicitDefEqProofs [ld, ltI]) (fun e he => by
      unfold lb_section_end_0
      simp -implicitDefEqProofs) (ls.length - (h + 1)) 300 (h + 1) rfl (by omega) (by omega)
  rw [← e0] at w
  simp -implicitDefEqProofs [w]
  rfl
def headAt (ls : List Ln) (i : Nat) : Bool := match ls[i]? with
  | some l => l.isHead
  | none => false
def lnN : Ln → List Nat
  | .head n => n
  | .use _ n => n
  | _ => []
def nameAt (ls : List Ln) (i : Nat) : List Nat := match ls[i]? with
  | some l => lnN l
  | none => []
def secs (ls : List Ln) : List Nat := (List.range ls.length).filter (headAt ls)
def secD (ls : List Ln) (h : Nat) : D := .tuple [S (nameAt ls h), .int (h : Nat), .int (secEnd ls h : Nat)]
theorem secs_lt {ls : List Ln} {h : Nat} (hh : h ∈ secs ls) : h < ls.length ∧ headAt ls h = true := by
  have := List.mem_filter.mp hh
  exact ⟨List.mem_range.mp this.1, this.2⟩
theorem secs_len (ls : List Ln) : (secs ls).length ≤ ls.length := by
  have := List.length_filter_le (headAt ls) (List.range ls.length)
  rw [List.length_range] at this
  exact this
theorem at_head {ls : List Ln} {h : Nat} (hh : headAt ls h = true) : ∃ n, ls[h]? = some (.head n) ∧ nameAt ls h = n := by
  unfold headAt at hh
  split at hh
  · rename_i l e
    cases l with
    | head n => exact ⟨n, e, by unfold nameAt; rw [e]; rfl⟩
    | _ => cases hh
  · cases hh
theorem m_sections_is {ls : List Ln} (hl : ls.length ≤ 200) : m_sections [docD ls] = .ok (.list ((secs ls).map (secD ls))) := by
  unfold m_sections mkFn b_sections
  have he : enumXD [docD ls] = .ok ((List.range ls.length).map fun i => .tuple [.int (i : Nat), nth (ls.map lnD) i]) := by
    have := enumX_tup (ls.map lnD)
    rw [List.length_map] at this
    exact this
  have c1 : compL (gTupD (lenG 2 (gConsD (gSet 2) (gConsD (gSet 3) gNilD)))) (mTru (mBin eqD (mBin atD (mVar 3) (mC (.int 0))) (mC (S [104, 101, 97, 100])))) (mVar 2) [some (docD ls), none, none, none, none] ((List.range ls.length).map fun i => .tuple [.int (i : Nat), nth (ls.map lnD) i]) = .ok ((secs ls).map fun i => .int (i : Nat)) := by
    refine compL_mapA _ (headAt ls) _ (List.range ls.length) fun i hi => ?_
    have hi : i < ls.length := List.mem_range.mp hi
    have hg := List.getElem?_eq_getElem hi
    have hd : nth (ls.map lnD) i = lnD ls[i] := nth_some (by rw [List.getElem?_map, hg]; rfl)
    refine ⟨[some (docD ls), none, some (.int (i : Nat)), some (lnD ls[i]), none], by rw [hd]; rfl, ?_, fun _ => rfl⟩
    have e : headAt ls i = ls[i].isHead := by unfold headAt; rw [hg]
    simp -implicitDefEqProofs [ln0]
    rw [show [104, 101, 97, 100] = kHead from rfl, k_head, e]
  have c2 : compL (gSet 4) mYes (mTup (mCons (mBin atD (mBin atD (mVar 0) (mVar 4)) (mC (.int 1))) (mCons (mVar 4) (mCons (mCall m_section_end (mCons (mVar 0) (mCons (mVar 4) mNil))) mNil)))) [some (docD ls), some (.list ((secs ls).map fun i => .int (i : Nat))), none, none, none] ((secs ls).map fun i => .int (i : Nat)) = .ok ((secs ls).map (secD ls)) := by
    have := compL_mapA (fun i : Nat => PyData.int (i : Nat)) (fun _ => true) (secD ls) (secs ls) (g := gSet 4) (t := mYes) (m := mTup (mCons (mBin atD (mBin atD (mVar 0) (mVar 4)) (mC (.int 1))) (mCons (mVar 4) (mCons (mCall m_section_end (mCons (mVar 0) (mCons (mVar 4) mNil))) mNil)))) (ρ := [some (docD ls), some (.list ((secs ls).map fun i => .int (i : Nat))), none, none, none]) fun h hh => by
      obtain ⟨hlt, hhd⟩ := secs_lt hh
      obtain ⟨n, hg, hn⟩ := at_head hhd
      refine ⟨_, gSet_at _ _ _, rfl, fun _ => ?_⟩
      have a1 : atD (lnD (.head n)) (.int 1) = .ok (S n) := atD_tuple (k := 1) rfl
      have s3 : 3 ≤ sizeLine := sl 3 (by omega)
      simp -implicitDefEqProofs [doc_at hg, a1, m_section_end_is hl hlt, s3, secD, hn]
    rw [this, List.filter_eq_self.mpr (fun _ _ => rfl)]
  have s1 : ls.length ≤ sizeLine := sl _ (by omega)
  have s2 : (secs ls).length ≤ sizeLine := sl _ (by have := secs_len ls; omega)
  simp -implicitDefEqProofs [he, s1, c1, s2, c2]

theorem sl5 (n : Nat) (h : n ≤ 100000) : n ≤ sizeLine := by rw [sl_eq]; omega

theorem law_cell (ns : List Int) (k : Nat) : m__law_cell [.list (ns.map PyData.int), .int k] = .ok (.int ((ns[k]?).getD 0)) := by
  unfold m__law_cell mkFn b__law_cell
  by_cases h : k < ns.length
  · have : (ns.map PyData.int)[k]? = some (.int ns[k]) := by simp [h]
    simp -implicitDefEqProofs [ltI, h, atD_list this]
  · simp -implicitDefEqProofs [ltI, h]
theorem cdiv1009 (c : Int) : CDiv c 1009 := by unfold CDiv; omega
theorem cmul_r {c k : Int} (h : -(2 ^ 64) < k ∧ k < 2 ^ 64) : CMul c k := .inr h
theorem draw_turn (c : Int) (n : D) (ds : List Int) (w : Bool) (k : Nat) (x5 : Option D) (hs : ds.length < 1000) (hk : k < 1000) : ∃ (c' d : Int) (x5' : Option D),
    lb__law_draws_0 [some (.int c), some n, some (.list (ds.map PyData.int)), some (.bool w), some (.int k), x5] = .nx [some (.int c'), some n, some (.list ((ds ++ [d]).map PyData.int)), some (.bool w), some (.int k), x5'] ∧ 0 ≤ d := by
  have small : ds.length < sizeLine := by rw [sl_eq]; omega
  unfold lb__law_draws_0
  cases w with
  | true =>
    refine ⟨c / 1009, c % 1009, x5, ?_, by omega⟩
    simp -implicitDefEqProofs [modD_int, fdivD_int (cdiv1009 c), small]
  | false =>
    have h0 : 0 ≤ (c * 48271 + (k : Int) * 69621) % 2147483647 := by omega
    have h1 : (c * 48271 + (k : Int) * 69621) % 2147483647 < 2147483647 := by omega
    refine ⟨c, ((c * 48271 + (k : Int) * 69621) % 2147483647 * ((c * 48271 + (k : Int) * 69621) % 2147483647) + c * 31 + k) % 1000003, some (.int ((c * 48271 + (k : Int) * 69621) % 2147483647)), ?_, by omega⟩
    simp -implicitDefEqProofs [modD_int, mulD_int (cmul_r (c := c) (k := 48271) (by decide)), mulD_int (cmul_r (c := (k : Int)) (k := 69621) (by decide)), small]
    rw [mulD_int (.inl (by omega))]
    simp -implicitDefEqProofs [modD_int, mulD_int (cmul_r (c := c) (k := 31) (by decide)), small]
theorem law_draws (c : Int) (n : Nat) (hn : n ≤ 1000) : ∃ ds : List Int, m__law_draws [.int c, .int n] = .ok (.list (ds.map PyData.int)) ∧ ds.length = n ∧ ∀ d ∈ ds, 0 ≤ d := by
  unfold m__law_draws mkFn b__law_draws
  have hp : powD (.int 10) (.int 18) = .ok (.int (10 ^ (18 : Int).toNat)) := powD_int (by decide)
  generalize (10 : Int) ^ (18 : Int).toNat = big at hp
  obtain ⟨w, hw⟩ : ∃ w, geI c big = w := ⟨_, rfl⟩
  obtain ⟨ρ', e, c', ds, x4, x5, rfl, hl, hd⟩ := forL_inv (fun j ρ => ∃ (c' : Int) (ds : List Int) (x4 x5 : Option D), ρ = [some (.int c'), some (.int n), some (.list (ds.map PyData.int)), some (.bool w), x4, x5] ∧ ds.length = j ∧ ∀ d ∈ ds, 0 ≤ d)
    (rngD 0 n) [some (.int c), some (.int n), some (.list []), some (.bool w), none, none] 0 ⟨c, [], none, none, rfl, rfl, by simp⟩ (b := lb__law_draws_0) (g := gSet 4) (fun i d ρ hd hI => by
      obtain ⟨c', ds, x4, x5, rfl, hl, h0⟩ := hI
      obtain ⟨hi, rfl⟩ := rngD_get hd
      obtain ⟨c2, d, x5', e, h1⟩ := draw_turn c' (.int n) ds w i x5 (by omega) (by omega)
      refine ⟨_, _, gSet_at _ _ _, .inl (by simpa using e), c2, ds ++ [d], _, x5', rfl, by simp [hl], fun d' hd' => ?_⟩
      rcases List.mem_append.mp hd' with hd' | hd'
      · exact h0 d' hd'
      · have : d' = d := by simpa using hd'
        omega)
  refine ⟨ds, ?_, by simpa [rngD_len] using hl, hd⟩
  simp -implicitDefEqProofs [hp, hw, rng1D_int (show (0 : Int) ≤ (n : Int) by omega) (show (n : Int) < 2 ^ 62 by omega), e]
@[simp] theorem mIsN_at (m : WD.Env → Res D) (ρ : WD.Env) : mIsN m ρ = (m ρ).bind fun d => .ok (.bool (isNoneD d)) := rfl
@[simp] theorem mNotN_at (m : WD.Env → Res D) (ρ : WD.Env) : mNotN m ρ = (m ρ).bind fun d => .ok (.bool (!isNoneD d)) := rfl

theorem js_is {ρ : WD.Env} : ∀ (ms : List (WD.Env → Res D)) (ls : List (List Nat)) (acc : List Nat), ms.map (fun m => m ρ) = ls.map (fun l => Res.ok (S l)) → acc.length + (ls.map List.length).sum ≤ 16777216 → joinsD ρ ms ⟨acc.toArray⟩ = .ok (S (acc ++ ls.flatten))
  | [], [], acc, _, _ => by rw [List.flatten_nil, List.append_nil]; rfl
  | m :: ms, l :: ls, acc, h, hl => by
    rw [List.map_cons, List.map_cons] at h
    obtain ⟨h1, h2⟩ := List.cons.inj h
    rw [List.map_cons, List.sum_cons] at hl
    have ih := js_is ms ls (acc ++ l) h2 (by rw [List.length_append]; omega)
    have hs : ((⟨acc.toArray⟩ : Str) ++ ⟨l.toArray⟩).length ≤ sizeLine := by rw [mk_append, len_mk, List.length_append, sl_eq]; omega
    unfold joinsD
    rw [h1, bind_okR]
    simp only [if_pos hs]
    rw [mk_append, ih, List.flatten_cons, List.append_assoc]
  | [], _ :: _, _, h, _ => by cases h
  | _ :: _, [], _, h, _ => by cases h
theorem mJs_is {ρ : WD.Env} (ms : List (WD.Env → Res D)) (ls : List (List Nat)) (h : ms.map (fun m => m ρ) = ls.map (fun l => Res.ok (S l))) (hl : (ls.map List.length).sum ≤ 16777216) : mJs ms ρ = .ok (S ls.flatten) := by
  have := js_is ms ls [] h (by simpa using hl)
  rw [List.nil_append] at this
  exact this
theorem fmtD_S {l : List Nat} (h : l.length ≤ 1000) : fmtD (S l) = .ok (S l) := by
  have : (⟨l.toArray⟩ : Str).length ≤ sizeLine := by rw [len_mk]; exact sl5 _ (by omega)
  unfold fmtD
  simp only [if_pos this]
def isS (r : Res D) (l : List Nat) : Bool := match r with
  | .ok (.str x) => decide (x.cps.toList = l)
  | _ => false
theorem isS_ok {r : Res D} {l : List Nat} (h : isS r l = true) : r = .ok (S l) := by
  unfold isS at h
  split at h
  · rename_i x
    rw [str_eta x, of_decide_eq_true h]
  · cases h

/-! the documents of the woven laws -/
theorem pick {L : List (List Nat)} {n : Nat} (hL : L.length = n) (hn : 0 < n) (d : Int) : ∃ t ∈ L, atD (.list (L.map S)) (.int (d % (n : Nat))) = .ok (S t) := by
  obtain ⟨k, hk, hd⟩ : ∃ k : Nat, k < n ∧ d % (n : Int) = (k : Int) := ⟨(d % (n : Int)).toNat, by have := Int.emod_lt_of_pos d (show (0 : Int) < n by omega); have := Int.emod_nonneg d (show (n : Int) ≠ 0 by omega); omega, by have := Int.emod_nonneg d (show (n : Int) ≠ 0 by omega); omega⟩
  refine ⟨L[k], List.getElem_mem _, ?_⟩
  rw [hd]
  exact atD_list (by rw [List.getElem?_map, List.getElem?_eq_getElem (by omega)]; rfl)
def nm (i : Nat) : List Nat := [97 + i]
def W10 : List (List Nat) := [[120], [], [105, 102, 32, 121, 58], [32, 32, 122], [32], [120, 32, 61, 32, 49], [60, 97], [97, 62], [120, 46, 121, 40, 122, 41], [60, 97, 32, 98, 62]]
def P5 : List (List Nat) := [[], [87, 111, 114, 100, 115, 32, 111, 102, 32, 105, 116, 46], [32, 32, 98], [60, 99, 62], [97, 32, 61, 32, 98]]
def N6 : List (List Nat) := [nm 0, nm 1, nm 2, nm 3, nm 4, [122]]
theorem law_code_is (d : Int) : ∃ t ∈ W10, m__law_code [.int d] = .ok (S t) := by
  have s10 : 10 ≤ sizeLine := sl 10 (by omega)
  obtain ⟨t, ht, e⟩ := pick (L := W10) (n := 10) rfl (by omega) d
  refine ⟨t, ht, ?_⟩
  have e : atD (.list [S [120], S [], S [105, 102, 32, 121, 58], S [32, 32, 122], S [32], S [120, 32, 61, 32, 49], S [60, 97], S [97, 62], S [120, 46, 121, 40, 122, 41], S [60, 97, 32, 98, 62]]) (.int (d % 10)) = .ok (S t) := e
  unfold m__law_code mkFn b__law_code
  simp -implicitDefEqProofs [modD_int, s10, e]
theorem at5k (k : Nat) (h : k < 5) : atD (S [97, 98, 99, 100, 101]) (.int (k : Nat)) = .ok (S (nm k)) := by
  refine atD_S (by simp) ?_
  match k, h with
  | 0, _ | 1, _ | 2, _ | 3, _ | 4, _ => rfl
theorem at6z (d : Int) : ∃ n ∈ N6, atD (S [97, 98, 99, 100, 101, 122]) (.int (d % 6)) = .ok (S n) := by
  obtain ⟨k, hk, hd⟩ : ∃ k : Nat, k < 6 ∧ d % 6 = (k : Int) := ⟨(d % 6).toNat, by omega, by omega⟩
  rw [hd]
  have hall : ∀ k : Nat, k < 6 → ∃ n, N6[k]? = some n ∧ [97, 98, 99, 100, 101, 122][k]? = some (n.headD 0) ∧ n = [n.headD 0] := by
    intro k h
    match k, h with
    | 0, _ => exact ⟨_, rfl, rfl, rfl⟩
    | 1, _ => exact ⟨_, rfl, rfl, rfl⟩
    | 2, _ => exact ⟨_, rfl, rfl, rfl⟩
    | 3, _ => exact ⟨_, rfl, rfl, rfl⟩
    | 4, _ => exact ⟨_, rfl, rfl, rfl⟩
    | 5, _ => exact ⟨_, rfl, rfl, rfl⟩
  obtain ⟨n, h1, h2, h3⟩ := hall k hk
  refine ⟨n, List.mem_of_getElem? h1, ?_⟩
  rw [h3]
  exact atD_S (by simp) h2
def LnW : Ln → Prop
  | .head n => ∃ i : Nat, i < 5 ∧ n = nm i
  | .prose t => t ∈ P5
  | .code t => t ∈ W10
  | .use k n => k ≤ 3 ∧ n ∈ N6
def notProse : Ln → Bool
  | .prose _ => false
  | _ => true
/-- own: the letter of the open section, or -1 -/
structure WdI (ls : List Ln) (own : Int) : Prop where
  ok : ∀ l ∈ ls, LnW l
  lim : -1 ≤ own ∧ own ≤ 4
  op : own = -1 ∨ ∃ q, ls.getLast? = some q ∧ notProse q = true
  /-- a line of code or a reference stands behind a line that is no prose -/
  wf : ∀ (A : List Ln) (l : Ln) (B : List Ln), ls = A ++ l :: B → l.body = true → ∃ q, A.getLast? = some q ∧ notProse q = true
theorem wf_snoc {ls : List Ln} {l : Ln} (h : ∀ (A : List Ln) (l : Ln) (B : List Ln), ls = A ++ l :: B → l.body = true → ∃ q, A.getLast? = some q ∧ notProse q = true) (hl : l.body = true → ∃ q, ls.getLast? = some q ∧ notProse q = true) : ∀ (A : List Ln) (l' : Ln) (B : List Ln), ls ++ [l] = A ++ l' :: B → l'.body = true → ∃ q, A.getLast? = some q ∧ notProse q = true := fun A l' B e hb => by
  rcases List.eq_nil_or_concat B with rfl | ⟨B', b, rfl⟩
  · have e2 : ls ++ [l] = A ++ [l'] := e
    obtain ⟨e3, e4⟩ := List.append_inj' e2 rfl
    subst e3
    cases e4
    exact hl hb
  · have e2 : ls ++ [l] = (A ++ l' :: B') ++ [b] := by rw [e, List.concat_eq_append, List.append_assoc]; rfl
    obtain ⟨e3, _⟩ := List.append_inj' e2 rfl
    exact h A l' B' e3 hb
theorem wd_turn (ns : List Int) (st : Int) (hst : 0 ≤ st) (a2 : Option D) (loose : Bool) (ls : List Ln) (own : Int) (k : Nat) (x7 x8 x9 x10 : Option D) (hl : ls.length ≤ 200) (I : WdI ls own) :
    ∃ l own' y7 y8 y9 y10, lb__law_document_0 [some (.list (ns.map PyData.int)), some (.int st), a2, some (.bool loose), some (.list (ls.map lnD)), some (.int own), some (.int (k : Nat)), x7, x8, x9, x10] = .nx [some (.list (ns.map PyData.int)), some (.int st), a2, some (.bool loose), some (.list ((ls ++ [l]).map lnD)), some (.int own'), some (.int (k : Nat)), y7, y8, y9, y10] ∧ WdI (ls ++ [l]) own' := by
  have hc : m__law_cell [.list (ns.map PyData.int), .int (st + (k : Int))] = .ok (.int ((ns[(st + (k : Int)).toNat]?).getD 0)) := by
    have := law_cell ns (st + (k : Int)).toNat
    rw [show (((st + (k : Int)).toNat : Nat) : Int) = st + (k : Int) by omega] at this
    exact this
  generalize ((ns[(st + (k : Int)).toNat]?).getD 0) = c at hc
  obtain ⟨ds, hd, hdl, -⟩ := law_draws c 4 (by omega)
  have hd : m__law_draws [.int c, .int 4] = .ok (.list (ds.map PyData.int)) := hd
  obtain ⟨d0, d1, d2, d3, hds⟩ : ∃ a b c d : Int, ds = [a, b, c, d] := by
    match ds, hdl with
    | [a, b, c, d], _ => exact ⟨a, b, c, d, rfl⟩
  have g0 : atD (.list (ds.map PyData.int)) (.int 0) = .ok (.int d0) := by rw [hds]; rfl
  have g1 : atD (.list (ds.map PyData.int)) (.int 1) = .ok (.int d1) := by rw [hds]; rfl
  have g2 : atD (.list (ds.map PyData.int)) (.int 2) = .ok (.int d2) := by rw [hds]; rfl
  have g3 : atD (.list (ds.map PyData.int)) (.int 3) = .ok (.int d3) := by rw [hds]; rfl
  clear hds hdl
  generalize ds.map PyData.int = DS at *
  have s2 : 2 ≤ sizeLine := sl 2 (by omega)
  have s3 : 3 ≤ sizeLine := sl 3 (by omega)
  have s5 : 5 ≤ sizeLine := sl 5 (by omega)
  have sm : (ls.map lnD).length < sizeLine := by rw [List.length_map]; exact sl' _ (by omega)
  have ap : ∀ l, (ls ++ [l]).map lnD = ls.map lnD ++ [lnD l] := fun l => by rw [List.map_append]; rfl
  have hown := I.lim
  generalize hsc : (PyData.list (ns.map PyData.int)) = sc at *
  have new : ∀ l own', LnW l → (-1 ≤ own' ∧ own' ≤ 4) → (own' = -1 ∨ notProse l = true) → (l.body = true → own ≠ -1) → WdI (ls ++ [l]) own' := fun l own' h1 h2 h3 h4 => by
    refine ⟨fun x hx => ?_, h2, ?_, wf_snoc I.wf fun hb => ?_⟩
    · rcases List.mem_append.mp hx with h | h
      · exact I.ok x h
      · rw [List.mem_singleton.mp h]; exact h1
    · rcases h3 with h | h
      · exact .inl h
      · exact .inr ⟨l, by simp, h⟩
    · rcases I.op with h | h
      · exact absurd h (h4 hb)
      · exact h
  by_cases b1 : (own < 0 ∧ d0 % 10 < 7) ∨ d0 % 10 = 7 ∨ d0 % 10 = 8
  · -- a head
    obtain ⟨i, hi5, hi⟩ : ∃ i : Nat, i < 5 ∧ d1 % 5 = (i : Int) := ⟨(d1 % 5).toNat, by omega, by omega⟩
    have a5 := at5k i hi5
    have el : (PyData.tuple [S [104, 101, 97, 100], S (nm i)]) = lnD (.head (nm i)) := rfl
    refine ⟨.head (nm i), i, some (.list DS), some (.int (d0 % 10)), x9, x10, ?_, new _ _ ⟨i, hi5, rfl⟩ (by omega) (.inr rfl) (fun h => by cases h)⟩
    rw [ap]
    generalize ls.map lnD = LS at *
    unfold lb__law_document_0
    by_cases c1 : own < 0
    · have t1 : ltI own 0 = true := by unfold ltI; simp; omega
      by_cases c2 : d0 % 10 < 7
      · have t2 : ltI (d0 % 10) 7 = true := by unfold ltI; simp; omega
        simp -implicitDefEqProofs [hc, hd, g0, g1, modD_int, t1, t2, hi, a5, s2, el, sm]
      · have t2 : ltI (d0 % 10) 7 = false := by unfold ltI; simp; omega
        by_cases c3 : d0 % 10 = 7
        · simp -implicitDefEqProofs [hc, hd, g0, g1, modD_int, t1, t2, c3, hi, a5, s2, el, sm, ltI]
        · have c4 : d0 % 10 = 8 := by omega
          simp -implicitDefEqProofs [hc, hd, g0, g1, modD_int, t1, t2, c4, hi, a5, s2, el, sm, ltI]
    · have t1 : ltI own 0 = false := by unfold ltI; simp; omega
      by_cases c3 : d0 % 10 = 7
      · simp -implicitDefEqProofs [hc, hd, g0, g1, modD_int, t1, c3, hi, a5, s2, el, sm]
      · have c4 : d0 % 10 = 8 := by omega
        simp -implicitDefEqProofs [hc, hd, g0, g1, modD_int, t1, c4, hi, a5, s2, el, sm]
  · have nb : ¬ (own < 0 ∧ d0 % 10 < 7) := fun z => b1 (.inl z)
    have n7 : d0 % 10 ≠ 7 := fun z => b1 (.inr (.inl z))
    have n8 : d0 % 10 ≠ 8 := fun z => b1 (.inr (.inr z))
    have e7 : (d0 % 10 == 7) = false := beq_eq_false_iff_ne.mpr n7
    have e8 : (d0 % 10 == 8) = false := beq_eq_false_iff_ne.mpr n8
    have first : mOr (mAnd (mTru (mBin (cmpD ltI) (mVar 5) (mC (.int 0)))) (mTru (mBin (cmpD ltI) (mVar 8) (mC (.int 7))))) (mOr (mTru (mBin eqD (mVar 8) (mC (.int 7)))) (mTru (mBin eqD (mVar 8) (mC (.int 8))))) [some sc, some (.int st), a2, some (.bool loose), some (.list (ls.map lnD)), some (.int own), some (.int (k : Nat)), some (.list DS), some (.int (d0 % 10)), x9, x10] = .ok false := by
      by_cases c1 : own < 0
      · have t1 : ltI own 0 = true := by unfold ltI; simp; omega
        have t2 : ltI (d0 % 10) 7 = false := by unfold ltI; simp; omega
        generalize ls.map lnD = LS at *
        simp -implicitDefEqProofs [t1, t2, n7, n8, e7, e8]
      · have t1 : ltI own 0 = false := by unfold ltI; simp; omega
        generalize ls.map lnD = LS at *
        simp -implicitDefEqProofs [t1, n7, n8, e7, e8]
    have st1 : ∀ o, (mIfS (mTru (mBin eqD (mVar 8) (mC (.int 9)))) (mSeq (mApp 4 (mTup (mCons (mC (S [112, 114, 111, 115, 101])) (mCons (mBin atD (mList (mLst (mCons (mC (S [])) (mCons (mC (S [87, 111, 114, 100, 115, 32, 111, 102, 32, 105, 116, 46])) (mCons (mC (S [32, 32, 98])) (mCons (mC (S [60, 99, 62])) (mCons (mC (S [97, 32, 61, 32, 98])) mNil))))))) (mBin modD (mUn intD (mBin atD (mVar 7) (mC (.int 1)))) (mC (.int 5)))) mNil)))) (mAsg 5 (mUn negD (mC (.int 1))))) (mIfS (mAnd (mTru (mBin (cmpD ltI) (mVar 8) (mC (.int 3)))) (mTru (mBin (cmpD ltI) (mVar 5) (mC (.int 4))))) (mSeq (mAsg 9 (mBin addD (mBin addD (mVar 5) (mC (.int 1))) (mBin modD (mUn intD (mBin atD (mVar 7) (mC (.int 2)))) (mBin subD (mC (.int 4)) (mVar 5))))) (mSeq (mAsg 10 (mBin atD (mC (S [97, 98, 99, 100, 101])) (mVar 9))) (mSeq (mIfS (mAnd (mTru (mVar 3)) (mTru (mBin eqD (mBin modD (mUn intD (mBin atD (mVar 7) (mC (.int 3)))) (mC (.int 4))) (mC (.int 0))))) (mAsg 10 (mBin atD (mC (S [97, 98, 99, 100, 101, 122])) (mBin modD (mBin fdivD (mUn intD (mBin atD (mVar 7) (mC (.int 3)))) (mC (.int 4))) (mC (.int 6))))) mNext) (mApp 4 (mTup (mCons (mC (S [117, 115, 101])) (mCons (mBin modD (mUn intD (mBin atD (mVar 7) (mC (.int 1)))) (mC (.int 4))) (mCons (mVar 10) mNil)))))))) (mApp 4 (mTup (mCons (mC (S [99, 111, 100, 101])) (mCons (mCall m__law_code (mCons (mUn intD (mBin atD (mVar 7) (mC (.int 2)))) mNil)) mNil)))))) [some sc, some (.int st), a2, some (.bool loose), some (.list (ls.map lnD)), some (.int own), some (.int (k : Nat)), some (.list DS), some (.int (d0 % 10)), x9, x10] = o → lb__law_document_0 [some sc, some (.int st), a2, some (.bool loose), some (.list (ls.map lnD)), some (.int own), some (.int (k : Nat)), x7, x8, x9, x10] = o := fun o ho => by
      unfold lb__law_document_0
      rw [mSeq_at]
      have w1 : mAsg 7 (mCall m__law_draws (mCons (mCall m__law_cell (mCons (mVar 0) (mCons (mBin addD (mVar 1) (mVar 6)) mNil))) (mCons (mC (.int 4)) mNil))) [some sc, some (.int st), a2, some (.bool loose), some (.list (ls.map lnD)), some (.int own), some (.int (k : Nat)), x7, x8, x9, x10] = .nx [some sc, some (.int st), a2, some (.bool loose), some (.list (ls.map lnD)), some (.int own), some (.int (k : Nat)), some (.list DS), x8, x9, x10] := by
        generalize ls.map lnD = LS at *
        simp -implicitDefEqProofs [hc, hd]
      rw [w1, then_nx, mSeq_at]
      have w2 : mAsg 8 (mBin modD (mUn intD (mBin atD (mVar 7) (mC (.int 0)))) (mC (.int 10))) [some sc, some (.int st), a2, some (.bool loose), some (.list (ls.map lnD)), some (.int own), some (.int (k : Nat)), some (.list DS), x8, x9, x10] = .nx [some sc, some (.int st), a2, some (.bool loose), some (.list (ls.map lnD)), some (.int own), some (.int (k : Nat)), some (.list DS), some (.int (d0 % 10)), x9, x10] := by
        generalize ls.map lnD = LS at *
        simp -implicitDefEqProofs [g0, modD_int]
      rw [w2, then_nx, mIfS_at, first]
      exact ho
    by_cases b9 : d0 % 10 = 9
    · obtain ⟨t, ht, e⟩ := pick (L := P5) (n := 5) rfl (by omega) d1
      have e : atD (.list [S [], S [87, 111, 114, 100, 115, 32, 111, 102, 32, 105, 116, 46], S [32, 32, 98], S [60, 99, 62], S [97, 32, 61, 32, 98]]) (.int (d1 % 5)) = .ok (S t) := e
      have el : (PyData.tuple [S [112, 114, 111, 115, 101], S t]) = lnD (.prose t) := rfl
      refine ⟨.prose t, -1, some (.list DS), some (.int (d0 % 10)), x9, x10, st1 _ ?_, new _ _ ht (by omega) (.inl rfl) (fun h => by cases h)⟩
      rw [ap]
      generalize ls.map lnD = LS at *
      simp -implicitDefEqProofs [b9, s5, s2, g1, modD_int, e, el, sm]
    · have e9 : (d0 % 10 == 9) = false := beq_eq_false_iff_ne.mpr b9
      have hpos : 0 ≤ own := by omega
      by_cases b3 : d0 % 10 < 3 ∧ own < 4
      · obtain ⟨c3, c4⟩ := b3
        have t3 : ltI (d0 % 10) 3 = true := by unfold ltI; simp; omega
        have t4 : ltI own 4 = true := by unfold ltI; simp; omega
        have hm : modD (.int d2) (.int (4 - own)) = .ok (.int (d2 % (4 - own))) := modD_int (by omega)
        have r0 : 0 ≤ d2 % (4 - own) := Int.emod_nonneg _ (by omega)
        have r1 : d2 % (4 - own) < 4 - own := Int.emod_lt_of_pos _ (by omega)
        obtain ⟨i, hi5, hi⟩ : ∃ i : Nat, i < 5 ∧ own + 1 + d2 % (4 - own) = (i : Int) := ⟨(own + 1 + d2 % (4 - own)).toNat, by omega, by omega⟩
        have a5 := at5k i hi5
        have hd4 : fdivD (.int d3) (.int 4) = .ok (.int (d3 / 4)) := fdivD_int (by unfold CDiv; omega)
        obtain ⟨nz, hnz, ez⟩ := at6z (d3 / 4)
        obtain ⟨k1, hk1⟩ : ∃ k1 : Nat, d1 % 4 = (k1 : Int) := ⟨(d1 % 4).toNat, by omega⟩
        have hk3 : k1 ≤ 3 := by omega
        have hnm : nm i ∈ N6 := by
          match i, hi5 with
          | 0, _ | 1, _ | 2, _ | 3, _ | 4, _ => decide
        have el : ∀ n : List Nat, (PyData.tuple [S [117, 115, 101], .int (k1 : Int), S n]) = lnD (.use k1 n) := fun _ => rfl
        by_cases c5 : loose = true ∧ d3 % 4 = 0
        · obtain ⟨rfl, c5⟩ := c5
          refine ⟨.use k1 nz, own, some (.list DS), some (.int (d0 % 10)), some (.int i), some (S nz), st1 _ ?_, new _ _ ⟨hk3, hnz⟩ hown (.inr rfl) (fun _ => by omega)⟩
          rw [ap]
          generalize ls.map lnD = LS at *
          simp -implicitDefEqProofs [b9, e9, t3, t4, g1, g2, g3, hm, hi, a5, modD_int, c5, hd4, ez, hk1, s3, el, sm]
        · refine ⟨.use k1 (nm i), own, some (.list DS), some (.int (d0 % 10)), some (.int i), some (S (nm i)), st1 _ ?_, new _ _ ⟨hk3, hnm⟩ hown (.inr rfl) (fun _ => by omega)⟩
          rw [ap]
          generalize ls.map lnD = LS at *
          cases loose with
          | false => simp -implicitDefEqProofs [b9, e9, t3, t4, g1, g2, hm, hi, a5, modD_int, hk1, s3, el, sm]
          | true =>
            have c6 : d3 % 4 ≠ 0 := fun z => c5 ⟨rfl, z⟩
            have c7 : (d3 % 4 == 0) = false := beq_eq_false_iff_ne.mpr c6
            simp -implicitDefEqProofs [b9, e9, t3, t4, g1, g2, g3, hm, hi, a5, modD_int, c6, c7, hk1, s3, el, sm]
      · obtain ⟨t, ht, e⟩ := law_code_is d2
        have el : (PyData.tuple [S [99, 111, 100, 101], S t]) = lnD (.code t) := rfl
        refine ⟨.code t, own, some (.list DS), some (.int (d0 % 10)), x9, x10, st1 _ ?_, new _ _ ht hown (.inr rfl) (fun _ => by omega)⟩
        rw [ap]
        have sm2 := sm
        generalize ls.map lnD = LS at *
        by_cases c3 : d0 % 10 < 3
        · have t3 : ltI (d0 % 10) 3 = true := by unfold ltI; simp; omega
          have t4 : ltI own 4 = false := by unfold ltI; simp; omega
          simp -implicitDefEqProofs [b9, e9, t3, t4, s2, g2, e, el, sm2]
        · have t3 : ltI (d0 % 10) 3 = false := by unfold ltI; simp; omega
          simp -implicitDefEqProofs [b9, e9, t3, s2, g2, e, el, sm2]
theorem wd_doc (ns : List Int) (st : Int) (hst : 0 ≤ st) (n : Nat) (hn : n ≤ 100) (loose : Bool) : ∃ ls own, m__law_document [.list (ns.map PyData.int), .int st, .int (n : Nat), .bool loose] = .ok (docD ls) ∧ ls.length = n ∧ WdI ls own := by
  obtain ⟨ρ', e, ls, own, x6, x7, x8, x9, x10, rfl, hl, I⟩ := forL_inv (fun j ρ => ∃ (ls : List Ln) (own : Int) (x6 x7 x8 x9 x10 : Option D), ρ = [some (.list (ns.map PyData.int)), some (.int st), some (.int (n : Nat)), some (.bool loose), some (.list (ls.map lnD)), some (.int own), x6, x7, x8, x9, x10] ∧ ls.length = j ∧ WdI ls own)
    (rngD 0 n) [some (.list (ns.map PyData.int)), some (.int st), some (.int (n : Nat)), some (.bool loose), some (.list []), some (.int (-1)), none, none, none, none, none] 0
    ⟨[], -1, none, none, none, none, none, rfl, rfl, ⟨fun _ h => (by cases h), by omega, .inl rfl, fun A l B h => by simp at h⟩⟩ (b := lb__law_document_0) (g := gSet 6) (fun i d ρ hd ⟨ls, own, x6, x7, x8, x9, x10, hρ, hl, I⟩ => by
      obtain ⟨hi, rfl⟩ := rngD_get hd
      subst hρ
      obtain ⟨l, own', y7, y8, y9, y10, e, I'⟩ := wd_turn ns st hst (some (.int (n : Nat))) loose ls own i x7 x8 x9 x10 (by omega) I
      exact ⟨_, _, gSet_at _ _ _, .inl (by simpa using e), ls ++ [l], own', _, y7, y8, y9, y10, rfl, by rw [List.length_append, hl]; simp, I'⟩)
  rw [rngD_len] at hl
  refine ⟨ls, own, ?_, by omega, I⟩
  have hr := rng1D_int (show (0 : Int) ≤ (n : Int) by omega) (show (n : Int) < 2 ^ 62 by omega)
  unfold m__law_document mkFn b__law_document
  have hd : docD ls = .tuple (ls.map lnD) := rfl
  rw [hd]
  generalize ls.map lnD = LS at *
  generalize (PyData.list (ns.map PyData.int)) = sc at *
  simp -implicitDefEqProofs [hr, e]

/-! the sections' numbers, by name -/
def nbF (ls : List Ln) : List Nat → Nat → NL → NL
  | [], _, s => s
  | h :: hs, j, s => nbF ls hs (j + 1) (grow s (nameAt ls h) [j])
def nums (ls : List Ln) (x : List Nat) : List Nat → Nat → List Nat
  | [], _ => []
  | h :: hs, j => (if nameAt ls h = x then [j] else []) ++ nums ls x hs (j + 1)
theorem nums_cons (ls : List Ln) (x : List Nat) (h : Nat) (hs : List Nat) (j : Nat) : nums ls x (h :: hs) j = (if nameAt ls h = x then [j] else []) ++ nums ls x hs (j + 1) := rfl
theorem nb_lk (ls : List Ln) (x : List Nat) : ∀ (hs : List Nat) (j : Nat) (s : NL), lk (nbF ls hs j s) x = if nums ls x hs j = [] then lk s x else some ((lk s x).getD [] ++ nums ls x hs j)
  | [], j, s => rfl
  | h :: hs, j, s => by
    unfold nbF
    rw [nb_lk ls x hs]
    rw [lk_grow]
    rw [nums_cons]
    by_cases c : nameAt ls h = x
    · subst c
      rw [if_pos rfl, if_pos rfl]
      have hne : ¬ ([j] ++ nums ls (nameAt ls h) hs (j + 1)) = [] := fun z => by cases z
      rw [if_neg hne]
      split
      · rename_i e; rw [e, List.append_nil]
      · rw [Option.getD_some, List.append_assoc]
    · rw [if_neg c, if_neg (Ne.symm c), List.nil_append]
theorem nums_le (ls : List Ln) (x : List Nat) : ∀ (hs : List Nat) (j k : Nat), k ∈ nums ls x hs j → j ≤ k ∧ k < j + hs.length
  | [], _, _, h => by cases h
  | h :: hs, j, k, hk => by
    rw [nums_cons] at hk
    rw [List.length_cons]
    rcases List.mem_append.mp hk with hk | hk
    · split at hk
      · rw [List.mem_singleton.mp hk]; omega
      · cases hk
    · have := nums_le ls x hs (j + 1) k hk
      omega
theorem nums_pair (ls : List Ln) (x : List Nat) : ∀ (hs : List Nat) (j : Nat), (nums ls x hs j).Pairwise (· < ·)
  | [], _ => List.Pairwise.nil
  | h :: hs, j => by
    rw [nums_cons, List.pairwise_append]
    refine ⟨by split <;> simp, nums_pair ls x hs (j + 1), fun a ha b hb => ?_⟩
    split at ha
    · rw [List.mem_singleton.mp ha]
      have := nums_le ls x hs (j + 1) b hb
      omega
    · cases ha
theorem nums_len (ls : List Ln) (x : List Nat) : ∀ (hs : List Nat) (j : Nat), (nums ls x hs j).length ≤ hs.length
  | [], _ => Nat.le_refl _
  | h :: hs, j => by
    have := nums_len ls x hs (j + 1)
    rw [nums_cons, List.length_append, List.length_cons]
    split <;> simp <;> omega
theorem nums_mem (ls : List Ln) (x : List Nat) : ∀ (hs : List Nat) (j i h : Nat), hs[i]? = some h → (j + i ∈ nums ls x hs j ↔ nameAt ls h = x)
  | [], _, _, _, e => by simp at e
  | g :: hs, j, 0, h, e => by
    cases e
    rw [nums_cons]
    constructor
    · intro m
      rcases List.mem_append.mp m with m | m
      · split at m
        · assumption
        · cases m
      · have := nums_le ls x hs (j + 1) _ m
        omega
    · intro c
      rw [if_pos c]; simp
  | g :: hs, j, i + 1, h, e => by
    have ih := nums_mem ls x hs (j + 1) i h (by simpa using e)
    rw [← ih, nums_cons, List.mem_append, show j + (i + 1) = j + 1 + i by omega]
    constructor
    · intro m
      rcases m with m | m
      · split at m
        · have := List.mem_singleton.mp m; omega
        · cases m
      · exact m
    · exact .inr

@[simp] theorem finApp_at (i : Nat) (mv : WD.Env → Res D) (k : Key) (ρ : WD.Env) : finApp i mv k ρ = (getDct i ρ).out fun ds => (lstAt ds k).out fun xs => (mv ρ).out fun d => if xs.length < sizeLine then .nx (ρ.set i (some (.dict (putD ds k (.list (xs ++ [d])))))) else .stk := rfl
theorem dset_app {i : Nat} {mk mv : WD.Env → Res D} {ρ : WD.Env} {s : NL} {n : List Nat} {r : Nat} (hi : ρ[i]? = some (some (.dict (dc s)))) (hk : mk ρ = .ok (S n)) (hv : ∀ ρ', (∀ j, j ≠ i → ρ'[j]? = ρ[j]?) → mv ρ' = .ok (.int (r : Nat))) (hs : s.length < 1000) (hr : ∀ xs, lk s n = some xs → xs.length ≤ 100000) :
    mDSet i mk (finApp i mv) ρ = .nx (ρ.set i (some (.dict (dc (grow s n [r]))))) := by
  have hl : i < ρ.length := by
    rcases Nat.lt_or_ge i ρ.length with h | h
    · exact h
    · rw [List.getElem?_eq_none h] at hi; cases hi
  have s1 : (dc s).length < sizeLine := by unfold dc; rw [List.length_map, sl_eq]; omega
  have hj : (ρ[i]?).join = some (.dict (dc s)) := by rw [hi]; rfl
  rw [mDSet_at, getDct_at, hj]
  simp only [out_okR, hk, keyOf_S, ofO_some, if_pos s1, valD_dc]
  have e1 : ∀ xs : List Nat, (PyData.list ((xs.map fun i : Nat => PyData.int i) ++ [PyData.int (r : Nat)])) = nsD (xs ++ [r]) := fun xs => by unfold nsD; rw [List.map_append]; rfl
  cases h : lk s n with
  | some xs =>
    have s2 : (xs.map fun i : Nat => PyData.int i).length < sizeLine := by
      have := hr xs h
      rw [List.length_map, sl_eq]; omega
    simp only [Option.map_some]
    rw [finApp_at, getDct_at, hj]
    simp only [out_okR, lstAt, valD_dc, h, Option.map_some, nsD, hv ρ (fun _ _ => rfl), if_pos s2]
    rw [e1, putD_dc]
    unfold grow
    rw [h]
  | none =>
    simp only [Option.map_none]
    have e0 : (PyData.list []) = nsD [] := rfl
    rw [e0, putD_dc, finApp_at, getDct_at]
    have hj2 : ((ρ.set i (some (.dict (dc (pt s n [])))))[i]?).join = some (.dict (dc (pt s n []))) := by rw [List.getElem?_set_self hl]; rfl
    rw [hj2]
    have hv2 := hv (ρ.set i (some (.dict (dc (pt s n []))))) fun j hj => by rw [List.getElem?_set_ne (Ne.symm hj)]
    have s2 : (([] : List Nat).map fun i : Nat => PyData.int i).length < sizeLine := by rw [List.length_map, sl_eq, List.length_nil]; omega
    have hlk : lk (pt s n []) n = some [] := by rw [lk_pt, if_pos rfl]
    simp only [out_okR, lstAt, valD_dc, hlk, Option.map_some, nsD, hv2, if_pos s2]
    rw [e1, putD_dc, List.set_set]
    unfold grow
    rw [h]
theorem grow_len (s : NL) (n r : List Nat) : (grow s n r).length ≤ s.length + 1 := by
  have pl : ∀ (s : NL) (n xs : List Nat), (pt s n xs).length ≤ s.length + 1 := fun s n xs => by unfold pt; split <;> simp
  unfold grow
  cases h : lk s n with
  | some xs => exact pl s n _
  | none =>
    show (pt (pt s n []) n ([] ++ r)).length ≤ _
    have h1 := pl s n []
    have h2 : (pt (pt s n []) n ([] ++ r)).length = (pt s n []).length := by
      have hlk : lk (pt s n []) n ≠ none := by rw [lk_pt, if_pos rfl]; simp
      rw [Ne, lk_none, Bool.not_eq_false] at hlk
      unfold pt at hlk ⊢
      rw [if_pos hlk]
      simp
    omega
theorem forL_go {g : D → WD.Env → Option WD.Env} {b : WD.Env → Out} {d : D} {ds : List D} {ρ ρ1 ρ2 : WD.Env} (h1 : g d ρ = some ρ1) (h2 : b ρ1 = .nx ρ2) : forL g b (d :: ds) ρ = forL g b ds ρ2 := by
  conv => lhs; unfold forL
  rw [h1]
  simp only [h2]
theorem seq_nx {A R : WD.Env → Out} {ρ ρ' : WD.Env} {o : Out} (h : A ρ = .nx ρ') (h2 : R ρ' = o) : mSeq A R ρ = o := by rw [mSeq_at, h, then_nx]; exact h2
/-- the sections with their numbers -/
def enS (ls : List Ln) : List Nat → Nat → List D
  | [], _ => []
  | h :: hs, j => .tuple [.int (j : Nat), secD ls h] :: enS ls hs (j + 1)
theorem enS_is (ls : List Ln) : ∀ (hs : List Nat) (j : Nat), enumK (j : Nat) (hs.map (secD ls)) = enS ls hs j := by
  have key : ∀ (hs : List Nat) (j n : Nat) (k : Int), k + (n : Int) = (j : Int) → ((hs.map (secD ls)).zipIdx n).map (fun p => PyData.tuple [.int (k + (p.2 : Int)), p.1]) = enS ls hs j := by
    intro hs
    induction hs with
    | nil => intro j n k e; rfl
    | cons h hs ih =>
      intro j n k e
      rw [List.map_cons, List.zipIdx_cons, List.map_cons, ih (j + 1) (n + 1) k (by omega), e]; rfl
  intro hs j
  have := key hs j 0 j (by simp)
  exact this
theorem numbers_loop (ls : List Ln) (a0 : Option D) : ∀ (hs : List Nat) (j : Nat) (s : NL) (x2 x3 x4 : Option D), s.length + hs.length ≤ 500 → (∀ n xs, lk s n = some xs → xs.length + hs.length ≤ 500) →
    ∃ y2 y3 y4, forL (gTupD (lenG 2 (gConsD (gSet 2) (gConsD (gTupD (lenG 3 (gConsD (gSet 3) (gConsD (gSet 4) (gConsD (gSet 4) gNilD))))) gNilD)))) lb_numbers_by_piece_0 (enS ls hs j) [a0, some (.dict (dc s)), x2, x3, x4] = .nx [a0, some (.dict (dc (nbF ls hs j s))), y2, y3, y4]
  | [], j, s, x2, x3, x4, _, _ => ⟨x2, x3, x4, rfl⟩
  | h :: hs, j, s, x2, x3, x4, h1, h2 => by
    rw [List.length_cons] at h1
    have gl := grow_len s (nameAt ls h) [j]
    obtain ⟨y2, y3, y4, ih⟩ := numbers_loop ls a0 hs (j + 1) (grow s (nameAt ls h) [j]) (some (.int (j : Nat))) (some (S (nameAt ls h))) (some (.int (secEnd ls h : Nat))) (by omega) (fun n xs e => by
      rw [lk_grow] at e
      split at e
      · cases e
        cases q : lk s (nameAt ls h) with
        | none => simp; omega
        | some ys =>
          have := h2 _ ys q
          rw [List.length_cons] at this
          simp; omega
      · have := h2 n xs e
        rw [List.length_cons] at this
        omega)
    refine ⟨y2, y3, y4, ?_⟩
    have step : lb_numbers_by_piece_0 [a0, some (.dict (dc s)), some (.int (j : Nat)), some (S (nameAt ls h)), some (.int (secEnd ls h : Nat))] = .nx [a0, some (.dict (dc (grow s (nameAt ls h) [j]))), some (.int (j : Nat)), some (S (nameAt ls h)), some (.int (secEnd ls h : Nat))] := by
      unfold lb_numbers_by_piece_0
      refine dset_app (s := s) (n := nameAt ls h) (r := j) rfl rfl (fun ρ' hρ => ?_) (by omega) (fun xs hx => by have := h2 _ _ hx; omega)
      have e2 := hρ 2 (by omega)
      simp -implicitDefEqProofs at e2
      simp -implicitDefEqProofs [e2]
    show forL _ _ (.tuple [.int (j : Nat), secD ls h] :: enS ls hs (j + 1)) _ = _
    rw [forL_go (ρ1 := [a0, some (.dict (dc s)), some (.int (j : Nat)), some (S (nameAt ls h)), some (.int (secEnd ls h : Nat))]) rfl step, ih]
    rfl
def nbL (ls : List Ln) : NL := nbF ls (secs ls) 1 []
theorem numbers_is {ls : List Ln} (hl : ls.length ≤ 200) : m_numbers_by_piece [docD ls] = .ok (.dict (dc (nbL ls))) := by
  have ms := m_sections_is hl
  have sl := secs_len ls
  obtain ⟨y2, y3, y4, e⟩ := numbers_loop ls (some (docD ls)) (secs ls) 1 [] none none none (by simp; omega) (fun n xs h => by cases h)
  have e : forL _ lb_numbers_by_piece_0 (enS ls (secs ls) 1) [some (docD ls), some (.dict []), none, none, none] = _ := e
  have en : enumSD 1 [.list ((secs ls).map (secD ls))] = .ok (enS ls (secs ls) 1) := by
    show Res.ok (enumK 1 _) = _
    rw [← enS_is]; rfl
  unfold m_numbers_by_piece mkFn b_numbers_by_piece
  show _ = Res.ok (PyData.dict (dc (nbF ls (secs ls) 1 [])))
  generalize (secs ls).map (secD ls) = SS at *
  generalize enS ls (secs ls) 1 = ES at *
  generalize dc (nbF ls (secs ls) 1 []) = ND at *
  generalize docD ls = DD at *
  simp -implicitDefEqProofs [ms, en, e]

/-! users -/
def adL (xs : List Nat) (j : Nat) : List Nat := if xs.getLast? = some j then xs else xs ++ [j]
def addU (s : NL) (x : List Nat) (j : Nat) : NL := match lk s x with
  | some xs => pt s x (adL xs j)
  | none => pt (pt s x []) x [j]
theorem lk_addU (s : NL) (x m : List Nat) (j : Nat) : lk (addU s x j) m = if m = x then some (adL ((lk s x).getD []) j) else lk s m := by
  unfold addU
  cases h : lk s x with
  | some xs => rw [lk_pt]; rfl
  | none =>
    show lk (pt (pt s x []) x [j]) m = _
    rw [lk_pt, lk_pt]
    by_cases c : m = x
    · rw [if_pos c, if_pos c]; rfl
    · rw [if_neg c, if_neg c, if_neg c]
theorem adL_len (xs : List Nat) (j : Nat) : (adL xs j).length ≤ xs.length + 1 := by unfold adL; split <;> simp
theorem ixN_last {n : Nat} (h : 0 < n) : ixN n (-1) = some (n - 1) := by
  unfold ixN
  simp
  omega
theorem at_lastD {ds : List D} {d : D} (h : ds.getLast? = some d) : atD (.list ds) (.int (-1)) = .ok d := by
  have hne : ds ≠ [] := fun z => by rw [z] at h; cases h
  have hp : 0 < ds.length := List.length_pos_iff.mpr hne
  have : atI ds (-1) = some d := by
    unfold atI
    rw [ixN_last hp]
    rw [List.getLast?_eq_getElem?] at h
    exact h
  simp only [atD, this, ofO_some]
theorem last_ints (xs : List Nat) : (xs.map fun i : Nat => PyData.int (i : Nat)).getLast? = (xs.getLast?).map fun i : Nat => PyData.int (i : Nat) := by rw [List.getLast?_map]
theorem plain_ints (n : Nat) (xs : List Nat) : plainD (n + 1) (nsD xs) = true := plain_list fun d hd => by
  obtain ⟨x, _, rfl⟩ := List.mem_map.mp hd
  exact plain_int _ _
theorem eq_nil (xs : List Nat) : eqD (nsD xs) (.list []) = .ok (.bool (decide (xs = []))) := by
  have h2 : plainD 40 (PyData.list []) = true := rfl
  have e : eqD (nsD xs) (.list []) = .ok (.bool (PyData.eqv (nsD xs) (.list []))) := by
    unfold eqD
    rw [if_pos ⟨plain_ints 39 xs, h2⟩]
  rw [e]
  cases xs with
  | nil => rfl
  | cons x xs =>
    congr 2
theorem add_sec_is (xs : List Nat) (j : Nat) (h : xs.length ≤ 90000) : m_add_section [.int (j : Nat), nsD xs] = .ok (nsD (adL xs j)) := by
  have s0 : 0 ≤ sizeLine := Nat.zero_le _
  have sz : (xs.map fun i : Nat => PyData.int (i : Nat)).length < sizeLine := by rw [List.length_map, sl_eq]; omega
  have en := eq_nil xs
  have ap : (xs.map fun i : Nat => PyData.int (i : Nat)) ++ [.int (j : Nat)] = (xs ++ [j]).map fun i : Nat => PyData.int (i : Nat) := by rw [List.map_append]; rfl
  show addOut (b_add_section [none, none, some (.int (j : Nat)), some (nsD xs)]) = _
  unfold b_add_section adL
  cases q : xs.getLast? with
  | none =>
    have e0 : xs = [] := List.getLast?_eq_none_iff.mp q
    subst e0
    have en : eqD (nsD []) (.list []) = .ok (.bool true) := en
    have hs : ([] : List D).length < sizeLine := sz
    rw [if_neg (by simp)]
    show addOut (mIfS _ _ _ [none, none, some (.int (j : Nat)), some (.list [])]) = .ok (.list [.int (j : Nat)])
    have en : eqD (.list []) (.list []) = .ok (.bool true) := en
    simp -implicitDefEqProofs [s0, en, hs]; rfl
  | some k =>
    have hne : xs ≠ [] := fun z => by rw [z] at q; cases q
    have en : eqD (nsD xs) (.list []) = .ok (.bool false) := by rw [en, decide_eq_false hne]
    have al : atD (nsD xs) (.int (-1)) = .ok (.int (k : Nat)) := at_lastD (by rw [last_ints, q]; rfl)
    have hN : nsD xs = .list (xs.map fun i : Nat => PyData.int (i : Nat)) := rfl
    by_cases c : k = j
    · subst c
      rw [if_pos rfl]
      generalize nsD xs = ND at *
      simp -implicitDefEqProofs [s0, en, al]; rfl
    · have c2 : ¬ (some k = some j) := fun z => c (Option.some.inj z)
      rw [if_neg c2]
      have ck : ((k : Int) == (j : Int)) = false := beq_eq_false_iff_ne.mpr (by omega)
      have e2 : nsD (xs ++ [j]) = .list ((xs.map fun i : Nat => PyData.int (i : Nat)) ++ [.int (j : Nat)]) := by rw [ap]; rfl
      rw [e2]
      rw [hN] at en al ⊢
      generalize xs.map (fun i : Nat => PyData.int (i : Nat)) = L at *
      have cj : ¬ k = j := c
      simp -implicitDefEqProofs [s0, en, al, ck, cj, sz]; rfl
/-- one use told -/
theorem add_step {i : Nat} {mk mn : WD.Env → Res D} {ρ : WD.Env} {s : NL} {x : List Nat} {j : Nat} (hi : ρ[i]? = some (some (.dict (dc s)))) (hk : mk ρ = .ok (S x)) (hn : mn ρ = .ok (.int (j : Nat))) (hs : s.length < 90000) (hl : ∀ xs, lk s x = some xs → xs.length ≤ 90000) : mAddS i mk mn m_add_section ρ = .nx (ρ.set i (some (.dict (dc (addU s x j))))) := by
  have s1 : (dc s).length < sizeLine := by unfold dc; rw [List.length_map, sl_eq]; omega
  have hj : (ρ[i]?).join = some (.dict (dc s)) := by rw [hi]; rfl
  have e : mAddS i mk mn m_add_section ρ = (getDct i ρ).out fun ds => (mk ρ).out fun dk => (ofO (keyOf dk)).out fun q => (mn ρ).out fun dn => if ds.length < sizeLine then (match valD ds q with
    | none => addFin i q ρ (putD ds q (.list [])) [] m_add_section dn
    | some (.list xs) => addFin i q ρ ds xs m_add_section dn
    | some _ => .stk) else .stk := rfl
  rw [e, getDct_at, hj]
  simp only [out_okR, hk, keyOf_S, ofO_some, hn, if_pos s1, valD_dc]
  have fin : ∀ (s2 : NL) (xs : List Nat), xs.length ≤ 90000 → addFin i (.inr ⟨x.toArray⟩) ρ (dc s2) (xs.map fun i : Nat => PyData.int (i : Nat)) m_add_section (.int (j : Nat)) = .nx (ρ.set i (some (.dict (dc (pt s2 x (adL xs j)))))) := fun s2 xs h => by
    have a : m_add_section [.int (j : Nat), .list (xs.map fun i : Nat => PyData.int (i : Nat))] = .ok (.list ((adL xs j).map fun i : Nat => PyData.int (i : Nat))) := add_sec_is xs j h
    unfold addFin
    rw [a]
    simp only [noErr_okR, out_okR]
    have := putD_dc s2 x (adL xs j)
    unfold nsD at this
    rw [this]
  unfold addU
  cases h : lk s x with
  | some xs => exact fin s xs (hl xs h)
  | none =>
    have e0 : (PyData.list []) = nsD [] := rfl
    simp only [Option.map_none]
    rw [e0, putD_dc]
    exact fin (pt s x []) [] (by simp)

def usB (j : Nat) : List Ln → NL → NL
  | [], s => s
  | .use _ n :: r, s => usB j r (addU s n j)
  | _ :: r, s => usB j r s
def bdL (ls : List Ln) (h : Nat) : List Ln := (ls.take (secEnd ls h)).drop (h + 1)
def usF (ls : List Ln) : List Nat → Nat → NL → NL
  | [], _, s => s
  | h :: hs, j, s => usF ls hs (j + 1) (usB j (bdL ls h) s)
theorem pt_len (s : NL) (n xs : List Nat) : (pt s n xs).length ≤ s.length + 1 := by unfold pt; split <;> simp
theorem pt_same {s : NL} {n xs : List Nat} (h : lk s n ≠ none) : (pt s n xs).length = s.length := by
  rw [Ne, lk_none, Bool.not_eq_false] at h
  unfold pt
  rw [if_pos h]; simp
theorem addU_len (s : NL) (x : List Nat) (j : Nat) : (addU s x j).length ≤ s.length + 1 := by
  unfold addU
  cases h : lk s x with
  | some xs => exact pt_len _ _ _
  | none =>
    show (pt (pt s x []) x [j]).length ≤ _
    rw [pt_same (by rw [lk_pt, if_pos rfl]; simp)]
    exact pt_len _ _ _
/-- all lists and the dict itself hold at most m entries -/
def Bnd (s : NL) (m : Nat) : Prop := s.length ≤ m ∧ ∀ n xs, lk s n = some xs → xs.length ≤ m
theorem Bnd.add {s : NL} {m : Nat} (h : Bnd s m) (x : List Nat) (j : Nat) : Bnd (addU s x j) (m + 1) := by
  refine ⟨by have := addU_len s x j; have := h.1; omega, fun n xs e => ?_⟩
  rw [lk_addU] at e
  split at e
  · cases e
    have := adL_len ((lk s x).getD []) j
    cases q : lk s x with
    | none => rw [q] at this; simp at this ⊢; omega
    | some ys => rw [q] at this; have := h.2 x ys q; simp at *; omega
  · have := h.2 n xs e; omega
theorem Bnd.mono {s : NL} {m m' : Nat} (h : Bnd s m) (l : m ≤ m') : Bnd s m' := ⟨by have := h.1; omega, fun n xs e => by have := h.2 n xs e; omega⟩
theorem usB_bnd (j : Nat) : ∀ (r : List Ln) {s : NL} {m : Nat}, Bnd s m → Bnd (usB j r s) (m + r.length)
  | [], s, m, h => h
  | l :: r, s, m, h => by
    rw [List.length_cons]
    cases l with
    | use k n => exact (usB_bnd j r (h.add n j)).mono (by omega)
    | head n => exact (usB_bnd j r h).mono (by omega)
    | prose t => exact (usB_bnd j r h).mono (by omega)
    | code t => exact (usB_bnd j r h).mono (by omega)
theorem useK (l : Ln) : eqD (S (lnK l)) (S [117, 115, 101]) = .ok (.bool l.isUse) := by rw [eqD_S, show [117, 115, 101] = kUse from rfl, k_use]
theorem headK (l : Ln) : eqD (S (lnK l)) (S [104, 101, 97, 100]) = .ok (.bool l.isHead) := by rw [eqD_S, show [104, 101, 97, 100] = kHead from rfl, k_head]
theorem use2 (k : Nat) (n : List Nat) : atD (lnD (.use k n)) (.int 2) = .ok (S n) := atD_tuple (k := 2) rfl
theorem users_body (a0 a3 a4 a5 : Option D) (j : Nat) : ∀ (r : List Ln) (s : NL) (m : Nat) (x6 : Option D), Bnd s m → m + r.length ≤ 80000 → ∃ y6, forL (gSet 6) lb_users_by_name_1 (r.map lnD) [a0, some (.dict (dc s)), some (.int (j : Nat)), a3, a4, a5, x6] = .nx [a0, some (.dict (dc (usB j r s))), some (.int (j : Nat)), a3, a4, a5, y6]
  | [], s, m, x6, _, _ => ⟨x6, rfl⟩
  | l :: r, s, m, x6, hb, hm => by
    rw [List.length_cons] at hm
    have l0 := ln0 l
    have ku := useK l
    have skip : l.isUse = false → lb_users_by_name_1 [a0, some (.dict (dc s)), some (.int (j : Nat)), a3, a4, a5, some (lnD l)] = .nx [a0, some (.dict (dc s)), some (.int (j : Nat)), a3, a4, a5, some (lnD l)] := fun hu => by
      rw [hu] at ku
      unfold lb_users_by_name_1
      generalize lnD l = LD at *
      generalize dc s = SD at *
      simp -implicitDefEqProofs [l0, ku]
    cases l with
    | use k n =>
      obtain ⟨y6, ih⟩ := users_body a0 a3 a4 a5 j r (addU s n j) (m + 1) (some (lnD (.use k n))) (hb.add n j) (by omega)
      refine ⟨y6, ?_⟩
      have u2 := use2 k n
      have ku : eqD (S (lnK (.use k n))) (S [117, 115, 101]) = .ok (.bool true) := ku
      have hlen := hb.1
      have hli : ∀ xs, lk s n = some xs → xs.length ≤ 90000 := fun xs e => by have := hb.2 n xs e; omega
      have st := add_step (i := 1) (mk := mBin atD (mVar 6) (mC (.int 2))) (mn := mVar 2) (ρ := [a0, some (.dict (dc s)), some (.int (j : Nat)), a3, a4, a5, some (lnD (.use k n))]) (s := s) (x := n) (j := j) rfl (by simp -implicitDefEqProofs [u2]) rfl (by omega) hli
      have step : lb_users_by_name_1 [a0, some (.dict (dc s)), some (.int (j : Nat)), a3, a4, a5, some (lnD (.use k n))] = .nx [a0, some (.dict (dc (addU s n j))), some (.int (j : Nat)), a3, a4, a5, some (lnD (.use k n))] := by
        unfold lb_users_by_name_1
        have t : mTru (mBin eqD (mBin atD (mVar 6) (mC (.int 0))) (mC (S [117, 115, 101]))) [a0, some (.dict (dc s)), some (.int (j : Nat)), a3, a4, a5, some (lnD (.use k n))] = .ok true := by
          generalize lnD (.use k n) = LD at *
          generalize dc s = SD at *
          simp -implicitDefEqProofs [l0, ku]
        rw [mIfS_at, t]
        exact st
      rw [List.map_cons, forL_go (gSet_at _ _ _) step, ih]; rfl
    | head n =>
      obtain ⟨y6, ih⟩ := users_body a0 a3 a4 a5 j r s m (some (lnD (.head n))) hb (by omega)
      exact ⟨y6, by rw [List.map_cons, forL_go (gSet_at _ _ _) (skip rfl), ih]; rfl⟩
    | prose t =>
      obtain ⟨y6, ih⟩ := users_body a0 a3 a4 a5 j r s m (some (lnD (.prose t))) hb (by omega)
      exact ⟨y6, by rw [List.map_cons, forL_go (gSet_at _ _ _) (skip rfl), ih]; rfl⟩
    | code t =>
      obtain ⟨y6, ih⟩ := users_body a0 a3 a4 a5 j r s m (some (lnD (.code t))) hb (by omega)
      exact ⟨y6, by rw [List.map_cons, forL_go (gSet_at _ _ _) (skip rfl), ih]; rfl⟩
theorem cut_range {α : Type} (l : List α) (a b : Nat) : cutL l (some (a : Int)) (some (b : Int)) = (l.take b).drop a := by
  unfold cutL
  rw [sIx_nat', sIx_nat', List.drop_take]
  by_cases h : a ≤ l.length
  · rw [Nat.min_eq_left h]
    by_cases g : b ≤ l.length
    · rw [Nat.min_eq_left g]
    · rw [Nat.min_eq_right (show l.length ≤ b by omega), List.take_of_length_le (by rw [List.length_drop]; omega), List.take_of_length_le (by rw [List.length_drop]; omega)]
  · rw [Nat.min_eq_right (show l.length ≤ a by omega), List.drop_eq_nil_of_le (Nat.le_refl _), List.drop_eq_nil_of_le (by omega)]; simp
theorem doc_range (ls : List Ln) (a b : Nat) : cutD (docD ls) (some (a : Int)) (some (b : Int)) = .ok (docD ((ls.take b).drop a)) := by
  show Res.ok (PyData.tuple (cutL (ls.map lnD) (some (a : Int)) (some (b : Int)))) = _
  rw [cut_range]; unfold docD; rw [List.map_drop, List.map_take]
theorem bd_len {ls : List Ln} (h : Nat) : (bdL ls h).length = bodyLen (ls.drop (h + 1)) := by
  unfold bdL secEnd
  rw [List.length_drop, List.length_take]
  have := bodyLen_le (ls.drop (h + 1))
  rw [List.length_drop] at this
  by_cases c : h + 1 ≤ ls.length
  · omega
  · rw [List.drop_eq_nil_of_le (by omega)]
    show _ = 0
    simp [bodyLen]
    omega
theorem users_loop {ls : List Ln} (hl : ls.length ≤ 200) : ∀ (hs : List Nat) (j : Nat) (s : NL) (m : Nat) (x2 x3 x4 x5 x6 : Option D), (∀ h ∈ hs, h < ls.length) → Bnd s m → m + 200 * hs.length ≤ 70000 →
    ∃ y2 y3 y4 y5 y6, forL (gTupD (lenG 2 (gConsD (gSet 2) (gConsD (gTupD (lenG 3 (gConsD (gSet 3) (gConsD (gSet 4) (gConsD (gSet 5) gNilD))))) gNilD)))) lb_users_by_name_0 (enS ls hs j) [some (docD ls), some (.dict (dc s)), x2, x3, x4, x5, x6] = .nx [some (docD ls), some (.dict (dc (usF ls hs j s))), y2, y3, y4, y5, y6]
  | [], j, s, m, x2, x3, x4, x5, x6, _, _, _ => ⟨x2, x3, x4, x5, x6, rfl⟩
  | h :: hs, j, s, m, x2, x3, x4, x5, x6, hh, hb, hm => by
    rw [List.length_cons] at hm
    have hlt := hh h (by simp)
    have bl := bd_len (ls := ls) h
    have bl2 := bodyLen_le (ls.drop (h + 1))
    rw [List.length_drop] at bl2
    have hb2 := (usB_bnd j (bdL ls h) hb).mono (show m + (bdL ls h).length ≤ m + 200 by omega)
    obtain ⟨z6, e6⟩ := users_body (some (docD ls)) (some (S (nameAt ls h))) (some (.int (h : Nat))) (some (.int (secEnd ls h : Nat))) j (bdL ls h) s m x6 hb (by omega)
    obtain ⟨y2, y3, y4, y5, y6, ih⟩ := users_loop hl hs (j + 1) (usB j (bdL ls h) s) (m + 200) (some (.int (j : Nat))) (some (S (nameAt ls h))) (some (.int (h : Nat))) (some (.int (secEnd ls h : Nat))) z6 (fun g hg => hh g (by simp [hg])) hb2 (by omega)
    refine ⟨y2, y3, y4, y5, y6, ?_⟩
    have cr := doc_range ls (h + 1) (secEnd ls h)
    rw [show ((h + 1 : Nat) : Int) = (h : Int) + 1 by omega] at cr
    have cr : cutD (docD ls) (some ((h : Int) + 1)) (some (secEnd ls h : Int)) = .ok (docD (bdL ls h)) := cr
    have hi : itD (docD (bdL ls h)) = .ok ((bdL ls h).map lnD) := rfl
    have step : lb_users_by_name_0 [some (docD ls), some (.dict (dc s)), some (.int (j : Nat)), some (S (nameAt ls h)), some (.int (h : Nat)), some (.int (secEnd ls h : Nat)), x6] = .nx [some (docD ls), some (.dict (dc (usB j (bdL ls h) s))), some (.int (j : Nat)), some (S (nameAt ls h)), some (.int (h : Nat)), some (.int (secEnd ls h : Nat)), z6] := by
      unfold lb_users_by_name_0
      generalize (bdL ls h).map lnD = BL at *
      generalize docD (bdL ls h) = BD at *
      generalize docD ls = DD at *
      generalize dc s = SD at *
      generalize dc (usB j (bdL ls h) s) = SE at *
      generalize S (nameAt ls h) = NM at *
      simp -implicitDefEqProofs [cr, hi, e6]
    show forL _ _ (.tuple [.int (j : Nat), secD ls h] :: enS ls hs (j + 1)) _ = _
    rw [forL_go (ρ1 := [some (docD ls), some (.dict (dc s)), some (.int (j : Nat)), some (S (nameAt ls h)), some (.int (h : Nat)), some (.int (secEnd ls h : Nat)), x6]) rfl step, ih]
    rfl
def usL (ls : List Ln) : NL := usF ls (secs ls) 1 []
theorem users_is {ls : List Ln} (hl : ls.length ≤ 200) : m_users_by_name [docD ls] = .ok (.dict (dc (usL ls))) := by
  have ms := m_sections_is hl
  have sl := secs_len ls
  obtain ⟨y2, y3, y4, y5, y6, e⟩ := users_loop hl (secs ls) 1 [] 0 none none none none none (fun h hh => (secs_lt hh).1) ⟨Nat.le_refl _, fun n xs h => by cases h⟩ (by omega)
  have e : forL _ lb_users_by_name_0 (enS ls (secs ls) 1) [some (docD ls), some (.dict []), none, none, none, none, none] = _ := e
  have en : enumSD 1 [.list ((secs ls).map (secD ls))] = .ok (enS ls (secs ls) 1) := by
    show Res.ok (enumK 1 _) = _
    rw [← enS_is]; rfl
  unfold m_users_by_name mkFn b_users_by_name
  show _ = Res.ok (PyData.dict (dc (usF ls (secs ls) 1 [])))
  generalize (secs ls).map (secD ls) = SS at *
  generalize enS ls (secs ls) 1 = ES at *
  generalize dc (usF ls (secs ls) 1 []) = ND at *
  generalize docD ls = DD at *
  simp -implicitDefEqProofs [ms, en, e]

/-! dicts from numbers -/
section
variable {β : Type}
abbrev ID (β : Type) := List (Nat × β)
def dI (df : β → D) (s : ID β) : List (D × D) := s.map fun p => (.int (p.1 : Nat), df p.2)
def li (s : ID β) (n : Nat) : Option β := (s.find? fun p => p.1 == n).map (·.2)
def pi (s : ID β) (n : Nat) (x : β) : ID β := if (s.any fun p => p.1 == n) = true then s.map fun p => if p.1 = n then (p.1, x) else p else s ++ [(n, x)]
theorem key_decI (a n : Nat) : decide (keyOf (.int (a : Nat)) = some (.inl (n : Int))) = (a == n) := by
  rw [keyOf_int]
  by_cases h : a = n
  · subst h; simp
  · rw [beq_eq_false_iff_ne.mpr h]
    simp
    omega
theorem valD_dI (df : β → D) (s : ID β) (n : Nat) : valD (dI df s) (.inl (n : Int)) = (li s n).map df := by
  unfold dI li
  rw [valD_map (fun p : Nat × β => .int (p.1 : Nat)) (fun p => df p.2)]
  have e : (fun p : Nat × β => decide (keyOf (.int (p.1 : Nat)) = some (.inl (n : Int)))) = fun p => p.1 == n := by funext p; exact key_decI p.1 n
  rw [e, Option.map_map]
  rfl
theorem putD_dI (df : β → D) (s : ID β) (n : Nat) (x : β) : putD (dI df s) (.inl (n : Int)) (df x) = dI df (pi s n x) := by
  unfold putD pi
  have ea : ((dI df s).any fun p => decide (keyOf p.1 = some (.inl (n : Int)))) = s.any fun p => p.1 == n := by
    unfold dI
    rw [List.any_map]
    congr 1
    funext p
    exact key_decI p.1 n
  rw [ea]
  split
  · unfold dI
    rw [List.map_map, List.map_map]
    apply List.map_congr_left
    intro p _
    have := key_decI p.1 n
    by_cases h : p.1 = n
    · have h2 : keyOf (.int (p.1 : Nat)) = some (.inl (n : Int)) := by rw [h]; rfl
      simp [h]
    · have h2 : ¬ keyOf (.int (p.1 : Nat)) = some (.inl (n : Int)) := fun z => by
        rw [decide_eq_true z] at this
        exact h (by simpa using this.symm)
      simp only [Function.comp, if_neg h2, if_neg h]
  · unfold dI
    rw [List.map_append]
    rfl
theorem li_none {s : ID β} {n : Nat} : li s n = none ↔ (s.any fun p => p.1 == n) = false := by
  unfold li
  rw [Option.map_eq_none_iff, List.find?_eq_none, List.any_eq_false]
theorem li_pi (s : ID β) (n m : Nat) (x : β) : li (pi s n x) m = if m = n then some x else li s m := by
  unfold pi
  split
  · rename_i h
    induction s with
    | nil => simp at h
    | cons p s ih =>
      unfold li at ih ⊢
      rw [List.map_cons, List.find?_cons, List.find?_cons]
      by_cases e : p.1 = n
      · rw [if_pos e]
        by_cases e2 : m = n
        · subst e2; simp [e]
        · have n1 : (p.1 == m) = false := beq_eq_false_iff_ne.mpr fun z => e2 (by rw [← z, e])
          simp only [n1, if_neg e2]
          have hm : ∀ s : ID β, ((s.map fun p => if p.1 = n then (p.1, x) else p).find? fun p => p.1 == m).map (·.2) = (s.find? fun p => p.1 == m).map (·.2) := fun s => by
            induction s with
            | nil => rfl
            | cons q s ih =>
              rw [List.map_cons, List.find?_cons, List.find?_cons]
              by_cases eq : q.1 = n
              · have z1 : (q.1 == m) = false := beq_eq_false_iff_ne.mpr fun z => e2 (by rw [← z, eq])
                rw [if_pos eq]
                simp only [z1]
                exact ih
              · rw [if_neg eq]
                cases z1 : (q.1 == m) with
                | true => rfl
                | false => exact ih
          exact hm s
      · rw [if_neg e]
        by_cases e3 : p.1 = m
        · have : ¬ m = n := fun z => e (e3.trans z)
          simp [e3, this]
        · have n1 : (p.1 == m) = false := beq_eq_false_iff_ne.mpr e3
          simp only [n1]
          have h' : (s.any fun p => p.1 == n) = true := by
            rw [List.any_cons] at h
            have : (p.1 == n) = false := beq_eq_false_iff_ne.mpr e
            simpa [this] using h
          exact ih h'
  · rename_i h
    have h : li s n = none := li_none.mpr (by cases q : (s.any fun p => p.1 == n) with | true => exact absurd q h | false => rfl)
    unfold li at h ⊢
    rw [List.find?_append]
    by_cases e : m = n
    · subst e
      rw [Option.map_eq_none_iff] at h
      simp [h]
    · have n1 : (n == m) = false := beq_eq_false_iff_ne.mpr fun z => e z.symm
      simp [e, n1]
theorem keys_pi (s : ID β) (n : Nat) (x : β) : (pi s n x).map (·.1) = if li s n = none then s.map (·.1) ++ [n] else s.map (·.1) := by
  unfold pi
  cases h : li s n with
  | none =>
    rw [li_none.mp h]
    simp
  | some y =>
    have : (s.any fun p => p.1 == n) = true := by
      cases q : (s.any fun p => p.1 == n) with
      | true => rfl
      | false => rw [li_none.mpr q] at h; cases h
    rw [if_pos this, if_neg (by simp), List.map_map]
    apply List.map_congr_left
    intro p _
    simp only [Function.comp]
    split <;> rfl
theorem li_mem {s : ID β} {n : Nat} : n ∈ s.map (·.1) ↔ li s n ≠ none := by
  rw [Ne, li_none, List.any_eq_false]
  constructor
  · intro h z
    obtain ⟨p, hp, rfl⟩ := List.mem_map.mp h
    exact z p hp (by simp)
  · intro h
    refine Classical.byContradiction fun z => h fun p hp w => z ?_
    rw [← eq_of_beq w]
    exact List.mem_map.mpr ⟨p, hp, rfl⟩
theorem keys_nd {s : ID β} (h : (s.map (·.1)).Nodup) (n : Nat) (x : β) : ((pi s n x).map (·.1)).Nodup := by
  rw [keys_pi]
  split
  · rename_i z
    rw [List.nodup_append]
    refine ⟨h, by simp, fun a ha b hb e => li_mem.mp ha ?_⟩
    rw [List.mem_singleton.mp hb] at e
    rw [e]; exact z
  · exact h
theorem len_subG {α : Type} [DecidableEq α] : ∀ (B L : List α), B.Nodup → (∀ b ∈ B, b ∈ L) → B.length ≤ L.length
  | [], _, _, _ => Nat.zero_le _
  | b :: B, L, h, hs => by
    obtain ⟨h1, h2⟩ := List.nodup_cons.mp h
    have hb := hs b (by simp)
    have ih := len_subG B (L.erase b) h2 fun x hx => (List.mem_erase_of_ne (fun e => h1 (by rw [← e]; exact hx))).mpr (hs x (by simp [hx]))
    rw [List.length_erase_of_mem hb] at ih
    have : 0 < L.length := List.length_pos_of_mem hb
    rw [List.length_cons]
    omega
theorem keys_lt {s : ID β} (h : (s.map (·.1)).Nodup) {n : Nat} (hs : ∀ m ∈ s.map (·.1), m < n) : s.length ≤ n := by
  have := len_subG _ (List.range n) h fun b hb => List.mem_range.mpr (hs b hb)
  rwa [List.length_map, List.length_range] at this
end

/-! following_numbers -/
theorem keys_pt (s : NL) (n xs : List Nat) : (pt s n xs).map (·.1) = if lk s n = none then s.map (·.1) ++ [n] else s.map (·.1) := by
  unfold pt
  by_cases h : (s.any fun p => p.1 == n) = true
  · rw [if_pos h, if_neg (by rw [lk_none, h]; simp), List.map_map]
    apply List.map_congr_left
    intro p _
    show (if p.1 = n then (p.1, xs) else p).1 = p.1
    split <;> rfl
  · rw [if_neg h, if_pos (lk_none.mpr (by rw [Bool.not_eq_true] at h; exact h)), List.map_append]; rfl
def Uq (s : NL) : Prop := (s.map (·.1)).Nodup
theorem Uq.pt {s : NL} (h : Uq s) (n xs : List Nat) : Uq (pt s n xs) := by
  unfold Uq at *
  rw [keys_pt]
  split
  · rename_i e
    rw [List.nodup_append]
    refine ⟨h, by simp, fun a ha b hb => ?_⟩
    rw [List.mem_singleton.mp hb]
    intro z
    subst z
    rw [lk_none] at e
    obtain ⟨p, hp, e2⟩ := List.mem_map.mp ha
    have := List.any_eq_false.mp e p hp
    simp [e2] at this
  · exact h
theorem Uq.grow {s : NL} (h : Uq s) (n r : List Nat) : Uq (grow s n r) := by
  unfold WD.grow
  cases lk s n with
  | some xs => exact h.pt _ _
  | none => exact (h.pt _ _).pt _ _
theorem nbF_uq (ls : List Ln) : ∀ (hs : List Nat) (j : Nat) {s : NL}, Uq s → Uq (nbF ls hs j s)
  | [], _, _, h => h
  | a :: hs, j, s, h => nbF_uq ls hs (j + 1) (h.grow _ _)
theorem Uq.mem {s : NL} (h : Uq s) {p : List Nat × List Nat} (hp : p ∈ s) : lk s p.1 = some p.2 := by
  unfold Uq at h
  induction s with
  | nil => cases hp
  | cons q s ih =>
    rw [List.map_cons, List.nodup_cons] at h
    unfold lk
    rw [List.find?_cons]
    rcases List.mem_cons.mp hp with e | e
    · subst e; simp
    · have n1 : (q.1 == p.1) = false := beq_eq_false_iff_ne.mpr fun z => h.1 (by rw [z]; exact List.mem_map_of_mem e)
      simp only [n1]
      exact ih h.2 e
theorem lk_mem {s : NL} {n xs : List Nat} (h : lk s n = some xs) : (n, xs) ∈ s := by
  unfold lk at h
  rw [Option.map_eq_some_iff] at h
  obtain ⟨p, h1, h2⟩ := h
  have := List.find?_some h1
  have m := List.mem_of_find?_eq_some h1
  have e : p.1 = n := by simpa using this
  have : p = (n, xs) := by cases p; simp at e h2; rw [e, h2]
  rw [← this]; exact m
def nxt : List Nat → Nat → Option Nat
  | a :: b :: r, k => if k = a then some b else nxt (b :: r) k
  | _, _ => none
theorem nxt_out : ∀ (xs : List Nat) (k : Nat), k ∉ xs → nxt xs k = none
  | [], _, _ => rfl
  | [_], _, _ => rfl
  | a :: b :: r, k, h => by
    have h1 : ¬ k = a := fun z => h (by simp [z])
    show (if k = a then some b else nxt (b :: r) k) = none
    rw [if_neg h1]
    exact nxt_out (b :: r) k fun z => h (List.mem_cons_of_mem _ z)
def fwF : List Nat → ID Nat → ID Nat
  | a :: b :: r, f => fwF (b :: r) (pi f a b)
  | _, f => f
theorem fwF_li : ∀ (xs : List Nat) (f : ID Nat) (k : Nat), xs.Pairwise (· < ·) → li (fwF xs f) k = (nxt xs k).or (li f k)
  | [], _, _, _ => rfl
  | [_], _, _, _ => rfl
  | a :: b :: r, f, k, h => by
    show li (fwF (b :: r) (pi f a b)) k = (if k = a then some b else nxt (b :: r) k).or (li f k)
    rw [fwF_li (b :: r) _ k (List.pairwise_cons.mp h).2, li_pi]
    by_cases c : k = a
    · subst c
      have : nxt (b :: r) k = none := nxt_out _ _ fun z => by have := (List.pairwise_cons.mp h).1 k z; omega
      rw [this, if_pos rfl, if_pos rfl]; rfl
    · rw [if_neg c, if_neg c]
def fwL : NL → ID Nat → ID Nat
  | [], f => f
  | p :: s, f => fwL s (fwF p.2 f)
theorem fwL_a (xs : List Nat) (k : Nat) : ∀ (s : NL) (f : ID Nat), (∀ p ∈ s, p.2.Pairwise (· < ·)) → (∀ p ∈ s, k ∈ p.2 → p.2 = xs) → li f k = nxt xs k → li (fwL s f) k = nxt xs k
  | [], _, _, _, h => h
  | p :: s, f, h1, h2, h => by
    refine fwL_a xs k s _ (fun q hq => h1 q (by simp [hq])) (fun q hq => h2 q (by simp [hq])) ?_
    rw [fwF_li _ _ _ (h1 p (by simp))]
    by_cases c : k ∈ p.2
    · rw [h2 p (by simp) c, h]
      cases nxt xs k <;> rfl
    · rw [nxt_out _ _ c, h]; rfl
theorem fwL_b (xs : List Nat) (k : Nat) : ∀ (s : NL) (f : ID Nat), (∀ p ∈ s, p.2.Pairwise (· < ·)) → (∀ p ∈ s, k ∈ p.2 → p.2 = xs) → (∃ p ∈ s, p.2 = xs) → li f k = none → li (fwL s f) k = nxt xs k
  | [], _, _, _, ⟨p, hp, _⟩, _ => by cases hp
  | p :: s, f, h1, h2, h3, h => by
    have e := fwF_li p.2 f k (h1 p (by simp))
    by_cases c : p.2 = xs
    · refine fwL_a xs k s _ (fun q hq => h1 q (by simp [hq])) (fun q hq => h2 q (by simp [hq])) ?_
      rw [e, h, c]
      cases nxt xs k <;> rfl
    · refine fwL_b xs k s _ (fun q hq => h1 q (by simp [hq])) (fun q hq => h2 q (by simp [hq])) ?_ ?_
      · obtain ⟨q, hq, e2⟩ := h3
        rcases List.mem_cons.mp hq with z | z
        · subst z; exact absurd e2 c
        · exact ⟨q, z, e2⟩
      · rw [e, h, nxt_out _ _ fun z => c (h2 p (by simp) z)]; rfl
theorem fwF_len : ∀ (xs : List Nat) (f : ID Nat), (fwF xs f).length ≤ f.length + xs.length
  | [], _ => Nat.le_refl _
  | [_], _ => by simp [fwF]
  | a :: b :: r, f => by
    have ih := fwF_len (b :: r) (pi f a b)
    have : (pi f a b).length ≤ f.length + 1 := by unfold pi; split <;> simp
    show (fwF (b :: r) (pi f a b)).length ≤ _
    simp only [List.length_cons] at *
    omega
def intD (n : Nat) : D := .int (n : Nat)
theorem zip_nil (xs : List D) : zipD xs [] = [] := by cases xs <;> rfl
theorem pairs_loop (a0 a2 : Option D) : ∀ (xs : List Nat) (f : ID Nat) (x3 x4 : Option D), f.length + xs.length ≤ 100000 → ∃ y3 y4, forL (gTupD (lenG 2 (gConsD (gSet 3) (gConsD (gSet 4) gNilD)))) lb_following_numbers_1 (zipD (xs.map intD) (xs.tail.map intD)) [a0, some (.dict (dI intD f)), a2, x3, x4] = .nx [a0, some (.dict (dI intD (fwF xs f))), a2, y3, y4]
  | [], f, x3, x4, _ => ⟨x3, x4, rfl⟩
  | [_], f, x3, x4, _ => ⟨x3, x4, rfl⟩
  | a :: b :: r, f, x3, x4, h => by
    have pl : (pi f a b).length ≤ f.length + 1 := by unfold pi; split <;> simp
    simp only [List.length_cons] at h
    obtain ⟨y3, y4, ih⟩ := pairs_loop a0 a2 (b :: r) (pi f a b) (some (intD a)) (some (intD b)) (by simp only [List.length_cons]; omega)
    refine ⟨y3, y4, ?_⟩
    have s1 : (dI intD f).length < sizeLine := by unfold dI; rw [List.length_map, sl_eq]; omega
    have pe := putD_dI intD f a b
    have step : lb_following_numbers_1 [a0, some (.dict (dI intD f)), a2, some (.int (a : Nat)), some (.int (b : Nat))] = .nx [a0, some (.dict (dI intD (pi f a b))), a2, some (.int (a : Nat)), some (.int (b : Nat))] := by
      have pe : putD (dI intD f) (.inl (a : Int)) (.int (b : Nat)) = dI intD (pi f a b) := pe
      unfold lb_following_numbers_1
      generalize dI intD f = FD at *
      generalize dI intD (pi f a b) = FE at *
      simp -implicitDefEqProofs [pe, s1]
    show forL _ _ (.tuple [.int (a : Nat), .int (b : Nat)] :: zipD ((b :: r).map intD) (r.map intD)) _ = _
    rw [forL_go (ρ1 := [a0, some (.dict (dI intD f)), a2, some (.int (a : Nat)), some (.int (b : Nat))]) rfl step]
    exact ih
theorem vals_loop (a0 : Option D) : ∀ (s : NL) (f : ID Nat) (x2 x3 x4 : Option D) (m : Nat), (∀ p ∈ s, p.2.length ≤ 200) → f.length + 200 * s.length ≤ 90000 → ∃ y2 y3 y4, forL (gSet 2) lb_following_numbers_0 ((dc s).map (·.2)) [a0, some (.dict (dI intD f)), x2, x3, x4] = .nx [a0, some (.dict (dI intD (fwL s f))), y2, y3, y4]
  | [], f, x2, x3, x4, _, _, _ => ⟨x2, x3, x4, rfl⟩
  | p :: s, f, x2, x3, x4, m, h1, h2 => by
    have hp := h1 p (by simp)
    have fl := fwF_len p.2 f
    rw [List.length_cons] at h2
    obtain ⟨z3, z4, e⟩ := pairs_loop a0 (some (nsD p.2)) p.2 f x3 x4 (by omega)
    obtain ⟨y2, y3, y4, ih⟩ := vals_loop a0 s (fwF p.2 f) (some (nsD p.2)) z3 z4 m (fun q hq => h1 q (by simp [hq])) (by omega)
    refine ⟨y2, y3, y4, ?_⟩
    have cut : cutD (nsD p.2) (some 1) none = .ok (.list (p.2.tail.map intD)) := by
      have : cutL (p.2.map intD) (some ((1 : Nat) : Int)) none = p.2.tail.map intD := by
        unfold cutL
        rw [sIx_nat', HT.sIx_none]
        cases p.2 with
        | nil => rfl
        | cons x r =>
          rw [Nat.min_eq_left (by simp)]
          exact List.take_of_length_le (by simp)
      show Res.ok (PyData.list (cutL (p.2.map intD) (some 1) none)) = _
      rw [← this]; rfl
    have zp : zip1D [nsD p.2, .list (p.2.tail.map intD)] = .ok (zipD (p.2.map intD) (p.2.tail.map intD)) := rfl
    have step : lb_following_numbers_0 [a0, some (.dict (dI intD f)), some (nsD p.2), x3, x4] = .nx [a0, some (.dict (dI intD (fwF p.2 f))), some (nsD p.2), z3, z4] := by
      unfold lb_following_numbers_0
      generalize zipD (p.2.map intD) (p.2.tail.map intD) = ZD at *
      generalize PyData.list (p.2.tail.map intD) = TD at *
      generalize nsD p.2 = ND at *
      generalize dI intD f = FD at *
      generalize dI intD (fwF p.2 f) = FE at *
      simp -implicitDefEqProofs [cut, zp, e]
    show forL _ _ (nsD p.2 :: (dc s).map (·.2)) _ = _
    rw [forL_go (ρ1 := [a0, some (.dict (dI intD f)), some (nsD p.2), x3, x4]) rfl step]
    exact ih
theorem following_is {s : NL} (h1 : ∀ p ∈ s, p.2.length ≤ 200) (h2 : s.length ≤ 400) : m_following_numbers [.dict (dc s)] = .ok (.dict (dI intD (fwL s []))) := by
  obtain ⟨y2, y3, y4, e⟩ := vals_loop (some (.dict (dc s))) s [] none none none 0 h1 (by simp; omega)
  have e : forL (gSet 2) lb_following_numbers_0 ((dc s).map (·.2)) [some (.dict (dc s)), some (.dict []), none, none, none] = _ := e
  unfold m_following_numbers mkFn b_following_numbers
  generalize dI intD (fwL s []) = FE at *
  generalize dc s = SD at *
  simp -implicitDefEqProofs [e]

/-! numbers as texts -/
def dg (n : Nat) : List Nat := match strD (.int (n : Int)) with
  | .ok (.str x) => x.cps.toList
  | _ => []
theorem dg_all : ∀ n : Nat, n < 200 → (isS (strD (.int (n : Int))) (dg n) && isS (fmtD (.int (n : Int))) (dg n) && decide ((dg n).length ≤ 5)) = true := by decide +kernel
theorem str_dg {n : Nat} (h : n < 200) : strD (.int (n : Int)) = .ok (S (dg n)) := by
  have := dg_all n h
  simp only [Bool.and_eq_true] at this
  exact isS_ok this.1.1
theorem fmt_dg {n : Nat} (h : n < 200) : fmtD (.int (n : Int)) = .ok (S (dg n)) := by
  have := dg_all n h
  simp only [Bool.and_eq_true] at this
  exact isS_ok this.1.2
theorem dg_len {n : Nat} (h : n < 200) : (dg n).length ≤ 5 := by
  have := dg_all n h
  simp only [Bool.and_eq_true, decide_eq_true_eq] at this
  exact this.2
theorem compL_mapB {α : Type} {g : D → WD.Env → Option WD.Env} {t : WD.Env → Res Bool} {m : WD.Env → Res D} {ρ : WD.Env} (f h : α → D) : ∀ as : List α, (∀ a ∈ as, ∃ ρ1, g (f a) ρ = some ρ1 ∧ t ρ1 = .ok true ∧ m ρ1 = .ok (h a)) → compL g t m ρ (as.map f) = .ok (as.map h)
  | [], _ => rfl
  | a :: as, q => by
    obtain ⟨ρ1, e1, e2, e3⟩ := q a (by simp)
    have ih := compL_mapB f h as fun b hb => q b (by simp [hb])
    rw [List.map_cons]
    unfold compL
    simp only [e1, e2, e3, noErr_okR, bind_okR, if_true, ih, List.map_cons]
def lsT (p : List Nat) : List Nat := TL.joinL [44, 32] (p.map dg)
theorem sum_le5 : ∀ {q : List (List Nat)}, (∀ l ∈ q, l.length ≤ 5) → (q.map List.length).sum ≤ 5 * q.length
  | [], _ => by simp
  | l :: q, h => by
    have := h l (by simp)
    have := sum_le5 (q := q) fun m hm => h m (by simp [hm])
    simp only [List.map_cons, List.sum_cons, List.length_cons]
    omega
theorem joinL_len2 : ∀ (q : List (List Nat)), (TL.joinL [44, 32] q).length ≤ (q.map List.length).sum + 2 * q.length
  | [] => by simp [TL.joinL]
  | [p] => by simp [TL.joinL]
  | p :: q :: r => by
    have := joinL_len2 (q :: r)
    have e : TL.joinL [44, 32] (p :: q :: r) = p ++ ([44, 32] ++ TL.joinL [44, 32] (q :: r)) := by simp [TL.joinL]
    rw [e]
    simp only [List.length_append, List.map_cons, List.sum_cons, List.length_cons, List.length_nil] at *
    omega
theorem dgs_len {p : List Nat} (hp : ∀ r ∈ p, r < 200) : ((p.map dg).map List.length).sum ≤ 5 * p.length := by
  have := sum_le5 (q := p.map dg) fun l hl => by
    obtain ⟨r, hr, rfl⟩ := List.mem_map.mp hl
    exact dg_len (hp r hr)
  rwa [List.length_map] at this
theorem lsT_len {p : List Nat} (hp : ∀ r ∈ p, r < 200) : (lsT p).length ≤ 7 * p.length := by
  have a := joinL_len2 (p.map dg)
  have b := dgs_len hp
  rw [List.length_map] at a
  unfold lsT
  omega
theorem join_lsT {p : List Nat} (hp : ∀ r ∈ p, r < 200) (hl : p.length ≤ 100) : joinD ⟨[44, 32].toArray⟩ [.list ((p.map dg).map S)] = .ok (S (lsT p)) := by
  have b := dgs_len hp
  exact joinD_S (by rw [List.length_map]; simp only [List.length_cons, List.length_nil]; omega)
theorem listed_is {p : List Nat} (hp : ∀ r ∈ p, r < 200) (hl : p.length ≤ 100) : m_listed [nsD p] = .ok (S (lsT p)) := by
  have jn := join_lsT hp hl
  have hi : itD (nsD p) = .ok (p.map fun i : Nat => .int (i : Nat)) := rfl
  have c : compL (gSet 1) mYes (mUn strD (mVar 1)) [some (nsD p), none] (p.map fun i : Nat => .int (i : Nat)) = .ok (p.map fun n => S (dg n)) := by
    refine compL_mapB (fun i : Nat => PyData.int (i : Nat)) (fun n => S (dg n)) p fun a ha => ?_
    have sd := str_dg (hp a ha)
    generalize nsD p = ND
    refine ⟨[some ND, some (.int (a : Nat))], by simp -implicitDefEqProofs, by simp -implicitDefEqProofs, by simp -implicitDefEqProofs [sd]⟩
  have e : (p.map fun n => S (dg n)) = (p.map dg).map S := by rw [List.map_map]; rfl
  rw [e] at c
  have hs : (p.map fun i : Nat => PyData.int (i : Nat)).length ≤ sizeLine := by rw [List.length_map]; exact sl5 _ (by omega)
  unfold m_listed mkFn b_listed
  generalize (p.map dg).map S = TS at *
  generalize (p.map fun i : Nat => PyData.int (i : Nat)) = IS at *
  generalize nsD p = ND at *
  simp -implicitDefEqProofs [hi, c, jn, hs]

/-! sections, line by line -/
def hdx : List Ln → Nat → List Nat
  | [], _ => []
  | .head _ :: R, k => k :: hdx R (k + 1)
  | _ :: R, k => hdx R (k + 1)
theorem headAt_app (A : List Ln) (l : Ln) (R : List Ln) : headAt (A ++ l :: R) A.length = l.isHead := by
  unfold headAt
  rw [List.getElem?_append_right (Nat.le_refl _), Nat.sub_self]; rfl
theorem nameAt_app (A : List Ln) (n : List Nat) (R : List Ln) : nameAt (A ++ .head n :: R) A.length = n := by
  unfold nameAt
  rw [List.getElem?_append_right (Nat.le_refl _), Nat.sub_self]; rfl
theorem app_cons (A : List Ln) (l : Ln) (R : List Ln) : A ++ l :: R = (A ++ [l]) ++ R := by rw [List.append_assoc]; rfl
theorem len_snoc (A : List Ln) (l : Ln) : (A ++ [l]).length = A.length + 1 := by rw [List.length_append]; rfl
theorem hdx_is : ∀ (R A : List Ln), (List.range' A.length R.length).filter (headAt (A ++ R)) = hdx R A.length
  | [], A => rfl
  | l :: R, A => by
    have ih := hdx_is R (A ++ [l])
    rw [len_snoc, ← app_cons] at ih
    rw [List.length_cons, List.range'_succ]
    have h := headAt_app A l R
    generalize headAt (A ++ l :: R) = f at *
    cases l with
    | head n => rw [List.filter_cons_of_pos h, ih]; rfl
    | prose t => rw [List.filter_cons_of_neg (by rw [h]; exact Bool.false_ne_true), ih]; rfl
    | code t => rw [List.filter_cons_of_neg (by rw [h]; exact Bool.false_ne_true), ih]; rfl
    | use k n => rw [List.filter_cons_of_neg (by rw [h]; exact Bool.false_ne_true), ih]; rfl
theorem secs_hdx (ls : List Ln) : secs ls = hdx ls 0 := by
  have := hdx_is ls []
  unfold secs
  rw [List.range_eq_range']
  exact this
theorem drop_mid (A : List Ln) (l : Ln) (R : List Ln) : (A ++ l :: R).drop (A.length + 1) = R := by
  rw [app_cons, ← len_snoc A l, List.drop_left]
theorem secEnd_app (A : List Ln) (l : Ln) (R : List Ln) : secEnd (A ++ l :: R) A.length = A.length + 1 + bodyLen R := by
  unfold secEnd
  rw [drop_mid]
theorem bdL_app (A : List Ln) (l : Ln) (R : List Ln) : bdL (A ++ l :: R) A.length = R.take (bodyLen R) := by
  unfold bdL
  rw [secEnd_app, List.drop_take, drop_mid, Nat.add_sub_cancel_left]
/-- users, the lines gone through once -/
def uq : List Ln → Nat → NL → NL
  | [], _, s => s
  | .head _ :: R, j, s => uq R (j + 1) (usB j (R.take (bodyLen R)) s)
  | _ :: R, j, s => uq R j s
theorem usF_uq : ∀ (R A : List Ln) (j : Nat) (s : NL), usF (A ++ R) (hdx R A.length) j s = uq R j s
  | [], A, j, s => rfl
  | l :: R, A, j, s => by
    have ih := fun j s => usF_uq R (A ++ [l]) j s
    rw [len_snoc, ← app_cons] at ih
    have b := bdL_app A l R
    cases l with
    | head n =>
      show usF _ (hdx R (A.length + 1)) (j + 1) (usB j (bdL _ A.length) s) = _
      rw [ih, b]; rfl
    | prose t => exact ih j s
    | code t => exact ih j s
    | use k n => exact ih j s
theorem usL_uq (ls : List Ln) : usL ls = uq ls 1 [] := by
  unfold usL
  rw [secs_hdx]
  exact usF_uq ls [] 1 []
def uv : Bool → List Ln → Nat → NL → NL
  | _, [], _, s => s
  | _, .head _ :: R, j, s => uv true R (j + 1) s
  | _, .prose _ :: R, j, s => uv false R j s
  | b, .code _ :: R, j, s => uv b R j s
  | b, .use _ n :: R, j, s => uv b R j (if b then addU s n j else s)
theorem uq_uv : ∀ (R : List Ln) (j : Nat) (s : NL), uq R (j + 1) (usB j (R.take (bodyLen R)) s) = uv true R j s ∧ uq R (j + 1) s = uv false R j s
  | [], j, s => ⟨rfl, rfl⟩
  | .head n :: R, j, s => by
    have ih := (uq_uv R (j + 1) s).1
    exact ⟨ih, ih⟩
  | .prose t :: R, j, s => by
    have ih := (uq_uv R j s).2
    exact ⟨ih, ih⟩
  | .code t :: R, j, s => by
    obtain ⟨i1, i2⟩ := uq_uv R j s
    refine ⟨?_, i2⟩
    have e : bodyLen (.code t :: R) = bodyLen R + 1 := by simp [bodyLen, Ln.body]
    rw [e, List.take_succ_cons]
    exact i1
  | .use k n :: R, j, s => by
    obtain ⟨i1, i2⟩ := uq_uv R j (addU s n j)
    refine ⟨?_, (uq_uv R j s).2⟩
    have e : bodyLen (.use k n :: R) = bodyLen R + 1 := by simp [bodyLen, Ln.body]
    rw [e, List.take_succ_cons]
    exact i1

/-! the heads' names -/
def hdN : List Ln → List (List Nat)
  | [] => []
  | .head n :: R => n :: hdN R
  | _ :: R => hdN R
def nmF (x : List Nat) : Nat → List (List Nat) → List Nat
  | _, [] => []
  | j, n :: N => (if n = x then [j] else []) ++ nmF x (j + 1) N
theorem hdx_names : ∀ (R A : List Ln), (hdx R A.length).map (nameAt (A ++ R)) = hdN R
  | [], _ => rfl
  | l :: R, A => by
    have ih := hdx_names R (A ++ [l])
    rw [len_snoc, ← app_cons] at ih
    cases l with
    | head n =>
      show nameAt _ A.length :: (hdx R (A.length + 1)).map _ = n :: hdN R
      rw [ih, nameAt_app]
    | prose t => exact ih
    | code t => exact ih
    | use k n => exact ih
theorem secs_names (ls : List Ln) : (secs ls).map (nameAt ls) = hdN ls := by
  rw [secs_hdx]; exact hdx_names ls []
theorem nums_nm (ls : List Ln) (x : List Nat) : ∀ (hs : List Nat) (j : Nat), nums ls x hs j = nmF x j (hs.map (nameAt ls))
  | [], _ => rfl
  | h :: hs, j => by rw [nums_cons, nums_nm ls x hs]; rfl
def ownL (ls : List Ln) (x : List Nat) : List Nat := nmF x 1 (hdN ls)
theorem own_nums (ls : List Ln) (x : List Nat) : nums ls x (secs ls) 1 = ownL ls x := by rw [nums_nm, secs_names]; rfl
theorem nb_own (ls : List Ln) (x : List Nat) : lk (nbL ls) x = if ownL ls x = [] then none else some (ownL ls x) := by
  unfold nbL
  rw [nb_lk, own_nums]
  split
  · rfl
  · rfl
theorem own_pair (ls : List Ln) (x : List Nat) : (ownL ls x).Pairwise (· < ·) := by rw [← own_nums]; exact nums_pair _ _ _ _
theorem own_le {ls : List Ln} {x : List Nat} {k : Nat} (h : k ∈ ownL ls x) : 1 ≤ k ∧ k ≤ (hdN ls).length := by
  rw [← own_nums] at h
  have := nums_le ls x (secs ls) 1 k h
  rw [← secs_names, List.length_map]
  omega
theorem nm_mem (x : List Nat) : ∀ (N : List (List Nat)) (j i : Nat), (j + i ∈ nmF x j N ↔ N[i]? = some x)
  | [], j, i => by simp [nmF]
  | n :: N, j, i => by
    have low : ∀ (N : List (List Nat)) (j k : Nat), k ∈ nmF x j N → j ≤ k := by
      intro N
      induction N with
      | nil => intro j k h; cases h
      | cons a N ih =>
        intro j k h
        rcases List.mem_append.mp (show k ∈ (if a = x then [j] else []) ++ nmF x (j + 1) N from h) with z | z
        · split at z
          · rw [List.mem_singleton.mp z]; omega
          · cases z
        · have := ih (j + 1) k z; omega
    have e : nmF x j (n :: N) = (if n = x then [j] else []) ++ nmF x (j + 1) N := rfl
    rw [e, List.mem_append]
    cases i with
    | zero =>
      rw [List.getElem?_cons_zero]
      constructor
      · rintro (z | z)
        · split at z
          · rename_i c; rw [c]
          · cases z
        · have := low _ _ _ z; omega
      · intro z
        cases z
        left; rw [if_pos rfl]; simp
    | succ i =>
      have ih := nm_mem x N (j + 1) i
      rw [List.getElem?_cons_succ, ← ih, show j + (i + 1) = j + 1 + i by omega]
      constructor
      · rintro (z | z)
        · split at z
          · have := List.mem_singleton.mp z; omega
          · cases z
        · exact z
      · exact .inr
theorem own_mem {ls : List Ln} {x : List Nat} {i : Nat} : (i + 1 ∈ ownL ls x ↔ (hdN ls)[i]? = some x) := by
  have := nm_mem x (hdN ls) 1 i
  rw [Nat.add_comm] at this
  exact this
/-! body lines stand in sections only -/
def WfL : Bool → List Ln → Prop
  | _, [] => True
  | _, .head _ :: R => WfL true R
  | _, .prose _ :: R => WfL false R
  | b, .code _ :: R => b = true ∧ WfL true R
  | b, .use _ _ :: R => b = true ∧ WfL true R
theorem wf_of : ∀ (R A : List Ln) (b : Bool), (b = false → ∀ q, A.getLast? = some q → notProse q = false) → (∀ (A' : List Ln) (l : Ln) (B : List Ln), A ++ R = A' ++ l :: B → l.body = true → ∃ q, A'.getLast? = some q ∧ notProse q = true) → WfL b R
  | [], _, _, _, _ => trivial
  | l :: R, A, b, hb, h => by
    have h2 : ∀ (A' : List Ln) (l' : Ln) (B : List Ln), (A ++ [l]) ++ R = A' ++ l' :: B → l'.body = true → ∃ q, A'.getLast? = some q ∧ notProse q = true := fun A' l' B e => h A' l' B (by rw [← e, ← app_cons])
    have lastq : ∀ q, (A ++ [l]).getLast? = some q → q = l := fun q e => by rw [List.getLast?_concat] at e; exact (Option.some.inj e).symm
    have need : l.body = true → b = true := fun z => by
      obtain ⟨q, e1, e2⟩ := h A l R rfl z
      cases b with
      | true => rfl
      | false => rw [hb rfl q e1] at e2; cases e2
    cases l with
    | head n => exact wf_of R _ true (fun z => by cases z) h2
    | prose t => exact wf_of R _ false (fun _ q e => by rw [lastq q e]; rfl) h2
    | code t => exact ⟨need rfl, wf_of R _ true (fun z => by cases z) h2⟩
    | use k n => exact ⟨need rfl, wf_of R _ true (fun z => by cases z) h2⟩
theorem WdI.wfL {ls : List Ln} {own : Int} (I : WdI ls own) : WfL false ls := wf_of ls [] false (fun _ q e => by cases e) I.wf
/-! users of a name, in the law's way -/
def uw (x : List Nat) : List Ln → Nat → List Nat → List Nat
  | [], _, u => u
  | .head _ :: R, i, u => uw x R (i + 1) u
  | .use _ n :: R, i, u => uw x R i (if n = x ∧ i ∉ u then u ++ [i] else u)
  | _ :: R, i, u => uw x R i u
def opt (u : List Nat) : Option (List Nat) := if u = [] then none else some u
theorem adL_is {u : List Nat} {i : Nat} (hp : u.Pairwise (· < ·)) (hl : ∀ k ∈ u, k ≤ i) : adL u i = if i ∉ u then u ++ [i] else u := by
  unfold adL
  by_cases c : u.getLast? = some i
  · rw [if_pos c, if_neg fun z => z (List.mem_of_getLast? c)]
  · rw [if_neg c]
    by_cases m : i ∈ u
    · exfalso
      rcases List.eq_nil_or_concat u with rfl | ⟨u', b, rfl⟩
      · cases m
      · rw [List.concat_eq_append] at *
        rw [List.getLast?_concat] at c
        rcases List.mem_append.mp m with z | z
        · have h1 := (List.pairwise_append.mp hp).2.2 i z b (by simp)
          have h2 := hl b (by simp)
          omega
        · exact c (by rw [List.mem_singleton.mp z])
    · rw [if_pos m]
theorem uv_lk (x : List Nat) : ∀ (R : List Ln) (b : Bool) (i : Nat) (s : NL) (u : List Nat), WfL b R → u.Pairwise (· < ·) → (∀ k ∈ u, k ≤ i) → lk s x = opt u → lk (uv b R i s) x = opt (uw x R i u)
  | [], _, _, _, _, _, _, _, h => h
  | .head n :: R, b, i, s, u, w, hp, hl, h => uv_lk x R true (i + 1) s u w hp (fun k hk => by have := hl k hk; omega) h
  | .prose t :: R, b, i, s, u, w, hp, hl, h => uv_lk x R false i s u w hp hl h
  | .code t :: R, b, i, s, u, w, hp, hl, h => by
    obtain ⟨rfl, w⟩ := w
    exact uv_lk x R true i s u w hp hl h
  | .use k n :: R, b, i, s, u, w, hp, hl, h => by
    obtain ⟨rfl, w⟩ := w
    show lk (uv true R i (addU s n i)) x = opt (uw x R i _)
    have key : lk (addU s n i) x = opt (if n = x ∧ i ∉ u then u ++ [i] else u) := by
      rw [lk_addU]
      by_cases c : x = n
      · subst c
        have e : (lk s x).getD [] = u := by rw [h]; unfold opt; split <;> simp_all
        rw [if_pos rfl, e, adL_is hp hl]
        unfold opt
        by_cases m : i ∉ u
        · simp [m]
        · have m := Decidable.not_not.mp m
          have : u ≠ [] := fun z => by rw [z] at m; cases m
          simp [m, this]
      · rw [if_neg c, h, if_neg fun z => c z.1.symm]
    refine uv_lk x R true i _ _ w ?_ ?_ key
    · split
      · rename_i c
        rw [List.pairwise_append]
        refine ⟨hp, by simp, fun a ha z hz => ?_⟩
        rw [List.mem_singleton.mp hz]
        have := hl a ha
        have : a ≠ i := fun q => c.2 (q ▸ ha)
        omega
      · exact hp
    · intro k hk
      split at hk
      · rcases List.mem_append.mp hk with z | z
        · exact hl k z
        · rw [List.mem_singleton.mp z]; exact Nat.le_refl _
      · exact hl k hk
def usN (ls : List Ln) (x : List Nat) : List Nat := uw x ls 0 []
theorem us_lk {ls : List Ln} (w : WfL false ls) (x : List Nat) : lk (usL ls) x = opt (usN ls x) := by
  rw [usL_uq, (uq_uv ls 0 []).2]
  exact uv_lk x ls false 0 [] [] w List.Pairwise.nil (fun k hk => by cases hk) rfl

/-! what is told below a section -/
def tUsed : List Nat := [32, 32, 32, 32, 40, 117, 115, 101, 100, 32, 105, 110, 32]
def tGoes : List Nat := [32, 32, 32, 32, 40, 103, 111, 101, 115, 32, 111, 110, 32, 105, 110, 32]
def usedT (own us : List Nat) (j : Nat) : List (List Nat) := if own.head? = some j ∧ us ≠ [] then [tUsed ++ lsT us ++ [41]] else []
def goesT (own : List Nat) (j : Nat) : List (List Nat) := match nxt own j with
  | some m => [tGoes ++ dg m ++ [41]]
  | none => []
def mdT (ls : List Ln) (j : Nat) (n : List Nat) : List (List Nat) := usedT (ownL ls n) (usN ls n) j ++ goesT (ownL ls n) j
def tsD (ts : List (List Nat)) : D := .list (ts.map S)
theorem pair_len : ∀ (u : List Nat) (m a : Nat), u.Pairwise (· < ·) → (∀ k ∈ u, a ≤ k ∧ k < m) → u.length ≤ m - a
  | [], _, _, _, _ => Nat.zero_le _
  | x :: u, m, a, hp, hm => by
    have h0 := hm x (by simp)
    have := pair_len u m (x + 1) (List.pairwise_cons.mp hp).2 fun k hk => ⟨(List.pairwise_cons.mp hp).1 k hk, (hm k (by simp [hk])).2⟩
    rw [List.length_cons]; omega
theorem own_len (ls : List Ln) (x : List Nat) : (ownL ls x).length ≤ (hdN ls).length := by
  have := pair_len (ownL ls x) ((hdN ls).length + 1) 1 (own_pair ls x) fun k hk => by have := own_le hk; omega
  omega
theorem hd_len : ∀ ls : List Ln, (hdN ls).length ≤ ls.length
  | [] => Nat.le_refl _
  | .head n :: R => by have := hd_len R; simp only [hdN, List.length_cons]; omega
  | .prose t :: R => by have := hd_len R; simp only [hdN, List.length_cons]; omega
  | .code t :: R => by have := hd_len R; simp only [hdN, List.length_cons]; omega
  | .use k n :: R => by have := hd_len R; simp only [hdN, List.length_cons]; omega
theorem uw_ok (x : List Nat) : ∀ (R : List Ln) (i : Nat) (u : List Nat), u.Pairwise (· < ·) → (∀ k ∈ u, k ≤ i) → (uw x R i u).Pairwise (· < ·) ∧ ∀ k ∈ uw x R i u, k ≤ i + (hdN R).length
  | [], i, u, hp, hl => ⟨hp, fun k hk => by have := hl k hk; simp [hdN]; omega⟩
  | .head n :: R, i, u, hp, hl => by
    obtain ⟨h1, h2⟩ := uw_ok x R (i + 1) u hp fun k hk => by have := hl k hk; omega
    exact ⟨h1, fun k hk => by have := h2 k hk; simp only [hdN, List.length_cons]; omega⟩
  | .prose t :: R, i, u, hp, hl => uw_ok x R i u hp hl
  | .code t :: R, i, u, hp, hl => uw_ok x R i u hp hl
  | .use k n :: R, i, u, hp, hl => by
    refine uw_ok x R i _ ?_ ?_
    · split
      · rename_i c
        rw [List.pairwise_append]
        refine ⟨hp, by simp, fun a ha z hz => ?_⟩
        rw [List.mem_singleton.mp hz]
        have := hl a ha
        have : a ≠ i := fun q => c.2 (q ▸ ha)
        omega
      · exact hp
    · intro k hk
      split at hk
      · rcases List.mem_append.mp hk with z | z
        · exact hl k z
        · rw [List.mem_singleton.mp z]; exact Nat.le_refl _
      · exact hl k hk
theorem us_le {ls : List Ln} {x : List Nat} {k : Nat} (h : k ∈ usN ls x) : k ≤ (hdN ls).length := by
  have := (uw_ok x ls 0 [] List.Pairwise.nil (fun k hk => by cases hk)).2 k h
  omega
theorem us_len (ls : List Ln) (x : List Nat) : (usN ls x).length ≤ (hdN ls).length + 1 := by
  have := pair_len (usN ls x) ((hdN ls).length + 1) 0 (uw_ok x ls 0 [] List.Pairwise.nil (fun k hk => by cases hk)).1 fun k hk => ⟨Nat.zero_le _, by have := us_le hk; omega⟩
  omega
theorem own_head {own : List Nat} {a : Nat} (h : own.head? = some a) : atD (nsD own) (.int 0) = .ok (.int (a : Nat)) := by
  cases own with
  | nil => cases h
  | cons b r => cases h; exact atD_list (k := 0) rfl
theorem made_used {a0 a4 a7 a8 : Option D} {nb us : NL} {FD : List (D × D)} {own u : List Nat} {n : List Nat} {j : Nat} (h1 : lk nb n = some own) (h2 : lk us n = opt u) (hne : own ≠ []) (hu : ∀ r ∈ u, r < 200) (hl : u.length ≤ 100) :
    mIfS (mAnd (mTru (mBin eqD (mVar 5) (mBin atD (mBin atX (mVar 1) (mVar 6)) (mC (.int 0))))) (mTru (mBin inX (mVar 6) (mVar 2)))) (mApp 9 (mJs [(mC (S [32, 32, 32, 32, 40, 117, 115, 101, 100, 32, 105, 110, 32])), (mUn fmtD (mCall m_listed (mCons (mBin atX (mVar 2) (mVar 6)) mNil))), (mC (S [41]))])) mNext
      [a0, some (.dict (dc nb)), some (.dict (dc us)), some (.dict FD), a4, some (.int (j : Nat)), some (S n), a7, a8, some (.list [])] =
    .nx [a0, some (.dict (dc nb)), some (.dict (dc us)), some (.dict FD), a4, some (.int (j : Nat)), some (S n), a7, a8, some (tsD (usedT own u j))] := by
  obtain ⟨a, ha⟩ : ∃ a, own.head? = some a := by cases own with
    | nil => exact absurd rfl hne
    | cons a r => exact ⟨a, rfl⟩
  have v1 : valD (dc nb) (.inr ⟨n.toArray⟩) = some (nsD own) := by rw [valD_dc, h1]; rfl
  have v2 : valD (dc us) (.inr ⟨n.toArray⟩) = if u = [] then none else some (nsD u) := by rw [valD_dc, h2]; unfold opt; split <;> rfl
  have h0 := own_head ha
  have li := listed_is hu hl
  have fl : fmtD (S (lsT u)) = .ok (S (lsT u)) := fmtD_S (by have := lsT_len hu; omega)
  have ej : eqD (.int (j : Nat)) (.int (a : Nat)) = .ok (.bool (decide (j = a))) := by
    rw [eqD_int]
    congr 2
    exact decide_eq_decide.mpr (by omega)
  unfold usedT
  rw [ha]
  generalize hSL : S (lsT u) = SL at *
  have js : ∀ ρ : WD.Env, mCall m_listed (mCons (mBin atX (mVar 2) (mVar 6)) mNil) ρ = .ok SL → mJs [(mC (S [32, 32, 32, 32, 40, 117, 115, 101, 100, 32, 105, 110, 32])), (mUn fmtD (mCall m_listed (mCons (mBin atX (mVar 2) (mVar 6)) mNil))), (mC (S [41]))] ρ = .ok (S (tUsed ++ lsT u ++ [41])) := fun ρ hρ => by
    have := mJs_is (ρ := ρ) [(mC (S [32, 32, 32, 32, 40, 117, 115, 101, 100, 32, 105, 110, 32])), (mUn fmtD (mCall m_listed (mCons (mBin atX (mVar 2) (mVar 6)) mNil))), (mC (S [41]))] [tUsed, lsT u, [41]] (by
      simp only [List.map_cons, List.map_nil, mUn_at, hρ, bind_okR, fl, hSL]
      rfl) (by have := lsT_len hu; simp only [List.map_cons, List.map_nil, List.sum_cons, List.sum_nil, List.length_cons, List.length_nil, tUsed]; omega)
    rw [this]
    simp
  by_cases c : j = a
  · subst c
    by_cases z : u = []
    · rw [if_neg fun q => q.2 z]
      rw [if_pos z] at v2
      generalize dc nb = NB at *
      generalize dc us = US at *
      generalize nsD own = OD at *
      generalize hms : mJs [(mC (S [32, 32, 32, 32, 40, 117, 115, 101, 100, 32, 105, 110, 32])), (mUn fmtD (mCall m_listed (mCons (mBin atX (mVar 2) (mVar 6)) mNil))), (mC (S [41]))] = MJ at *
      simp -implicitDefEqProofs [v1, v2, h0, ej]
      rfl
    · rw [if_pos ⟨rfl, z⟩]
      rw [if_neg z] at v2
      generalize dc nb = NB at *
      generalize dc us = US at *
      generalize nsD own = OD at *
      generalize nsD u = UD at *
      have js := js [a0, some (.dict NB), some (.dict US), some (.dict FD), a4, some (.int (j : Nat)), some (S n), a7, a8, some (.list [])] (by simp -implicitDefEqProofs [v2, li])
      generalize hms : mJs [(mC (S [32, 32, 32, 32, 40, 117, 115, 101, 100, 32, 105, 110, 32])), (mUn fmtD (mCall m_listed (mCons (mBin atX (mVar 2) (mVar 6)) mNil))), (mC (S [41]))] = MJ at *
      simp -implicitDefEqProofs [v1, v2, h0, ej, js]
      rfl
  · have c2 : ¬ (some a = some j ∧ u ≠ []) := fun q => c (Option.some.inj q.1).symm
    rw [if_neg c2]
    generalize dc nb = NB at *
    generalize dc us = US at *
    generalize nsD own = OD at *
    generalize hms : mJs [(mC (S [32, 32, 32, 32, 40, 117, 115, 101, 100, 32, 105, 110, 32])), (mUn fmtD (mCall m_listed (mCons (mBin atX (mVar 2) (mVar 6)) mNil))), (mC (S [41]))] = MJ at *
    simp -implicitDefEqProofs [v1, v2, h0, ej, c]
    rfl

theorem nxt_mem : ∀ (xs : List Nat) (k m : Nat), nxt xs k = some m → m ∈ xs
  | [], _, _, h => by cases h
  | [_], _, _, h => by cases h
  | a :: b :: r, k, m, h => by
    have h : (if k = a then some b else nxt (b :: r) k) = some m := h
    split at h
    · cases h; simp
    · exact List.mem_cons_of_mem _ (nxt_mem (b :: r) k m h)
theorem made_goes {a0 a1 a2 a4 a6 a7 a8 : Option D} {f : ID Nat} {own : List Nat} {j : Nat} {ts : List (List Nat)} (h1 : li f j = nxt own j) (ho : ∀ r ∈ own, r < 200) (ht : ts.length ≤ 100) :
    mIfS (mTru (mBin inX (mVar 5) (mVar 3))) (mApp 9 (mJs [(mC (S [32, 32, 32, 32, 40, 103, 111, 101, 115, 32, 111, 110, 32, 105, 110, 32])), (mUn fmtD (mBin atX (mVar 3) (mVar 5))), (mC (S [41]))])) mNext
      [a0, a1, a2, some (.dict (dI intD f)), a4, some (.int (j : Nat)), a6, a7, a8, some (tsD ts)] =
    .nx [a0, a1, a2, some (.dict (dI intD f)), a4, some (.int (j : Nat)), a6, a7, a8, some (tsD (ts ++ goesT own j))] := by
  have v1 := valD_dI intD f j
  rw [h1] at v1
  unfold goesT
  cases e : nxt own j with
  | none =>
    rw [e] at v1
    have v1 : valD (dI intD f) (.inl (j : Int)) = none := v1
    rw [List.append_nil]
    generalize dI intD f = FD at *
    generalize tsD ts = TD at *
    generalize hms : mJs [(mC (S [32, 32, 32, 32, 40, 103, 111, 101, 115, 32, 111, 110, 32, 105, 110, 32])), (mUn fmtD (mBin atX (mVar 3) (mVar 5))), (mC (S [41]))] = MJ at *
    simp -implicitDefEqProofs [v1]
  | some m =>
    rw [e] at v1
    have v1 : valD (dI intD f) (.inl (j : Int)) = some (.int (m : Nat)) := v1
    have hm := ho m (nxt_mem _ _ _ e)
    have fd := fmt_dg hm
    generalize dI intD f = FD at *
    have js : mJs [(mC (S [32, 32, 32, 32, 40, 103, 111, 101, 115, 32, 111, 110, 32, 105, 110, 32])), (mUn fmtD (mBin atX (mVar 3) (mVar 5))), (mC (S [41]))] [a0, a1, a2, some (.dict FD), a4, some (.int (j : Nat)), a6, a7, a8, some (tsD ts)] = .ok (S (tGoes ++ dg m ++ [41])) := by
      have := mJs_is (ρ := [a0, a1, a2, some (.dict FD), a4, some (.int (j : Nat)), a6, a7, a8, some (tsD ts)]) [(mC (S [32, 32, 32, 32, 40, 103, 111, 101, 115, 32, 111, 110, 32, 105, 110, 32])), (mUn fmtD (mBin atX (mVar 3) (mVar 5))), (mC (S [41]))] [tGoes, dg m, [41]] (by
        have : mBin atX (mVar 3) (mVar 5) [a0, a1, a2, some (.dict FD), a4, some (.int (j : Nat)), a6, a7, a8, some (tsD ts)] = .ok (.int (m : Nat)) := by simp -implicitDefEqProofs [v1]
        simp only [List.map_cons, List.map_nil, mUn_at, this, bind_okR, fd]
        rfl) (by have := dg_len hm; simp only [List.map_cons, List.map_nil, List.sum_cons, List.sum_nil, List.length_cons, List.length_nil, tGoes]; omega)
      rw [this]; simp
    have e3 : tsD (ts ++ [tGoes ++ dg m ++ [41]]) = .list (ts.map S ++ [S (tGoes ++ dg m ++ [41])]) := by unfold tsD; rw [List.map_append]; rfl
    have s1 : (ts.map S).length < sizeLine := by rw [List.length_map, sl_eq]; omega
    show _ = Out.nx [a0, a1, a2, some (.dict FD), a4, some (.int (j : Nat)), a6, a7, a8, some (tsD (ts ++ [tGoes ++ dg m ++ [41]]))]
    rw [e3]
    generalize S (tGoes ++ dg m ++ [41]) = GD at *
    generalize hms : mJs [(mC (S [32, 32, 32, 32, 40, 103, 111, 101, 115, 32, 111, 110, 32, 105, 110, 32])), (mUn fmtD (mBin atX (mVar 3) (mVar 5))), (mC (S [41]))] = MJ at *
    unfold tsD at *
    generalize ts.map S = TS at *
    simp -implicitDefEqProofs [v1, js, s1]
/-- the texts below the sections, by the last line of each -/
def mdF (ls : List Ln) : List Nat → Nat → ID (List (List Nat)) → ID (List (List Nat))
  | [], _, f => f
  | h :: hs, j, f => mdF ls hs (j + 1) (pi f (secEnd ls h - 1) (mdT ls j (nameAt ls h)))
theorem following_at {ls : List Ln} {n : List Nat} {j : Nat} (h : j ∈ ownL ls n) : li (fwL (nbL ls) []) j = nxt (ownL ls n) j := by
  have uq : Uq (nbL ls) := nbF_uq ls (secs ls) 1 List.nodup_nil
  have each : ∀ p ∈ nbL ls, p.2 = ownL ls p.1 := fun p hp => by
    have := uq.mem hp
    rw [nb_own] at this
    split at this
    · cases this
    · exact (Option.some.inj this).symm
  refine fwL_b (ownL ls n) j (nbL ls) [] (fun p hp => by rw [each p hp]; exact own_pair _ _) (fun p hp hj => ?_) ?_ rfl
  · rw [each p hp] at hj ⊢
    obtain ⟨i, rfl⟩ : ∃ i, j = i + 1 := ⟨j - 1, by have := own_le h; omega⟩
    have a := own_mem.mp hj
    have b := own_mem.mp h
    rw [a] at b
    rw [Option.some.inj b]
  · have : ownL ls n ≠ [] := fun z => by rw [z] at h; cases h
    have lkn := nb_own ls n
    rw [if_neg this] at lkn
    exact ⟨(n, ownL ls n), lk_mem lkn, rfl⟩

theorem mForget_nx {is : List Nat} {m : WD.Env → Out} {ρ ρ' : WD.Env} (h : m ρ = .nx ρ') : mForget is m ρ = .nx (forget is ρ') := by rw [mForget_at, h]
theorem made_loop {ls : List Ln} (hl : ls.length ≤ 90) (w : WfL false ls) : ∀ (hs : List Nat) (j : Nat) (f : ID (List (List Nat))) (x5 x6 x7 x8 x9 : Option D), 1 ≤ j → (∀ i h, hs[i]? = some h → (hdN ls)[j - 1 + i]? = some (nameAt ls h)) → f.length + hs.length ≤ 1000 →
    ∃ y5 y6 y7 y8 y9, forL (gTupD (lenG 2 (gConsD (gSet 5) (gConsD (gTupD (lenG 3 (gConsD (gSet 6) (gConsD (gSet 7) (gConsD (gSet 8) gNilD))))) gNilD)))) lb_made_lines_0 (enS ls hs j) [some (docD ls), some (.dict (dc (nbL ls))), some (.dict (dc (usL ls))), some (.dict (dI intD (fwL (nbL ls) []))), some (.dict (dI tsD f)), x5, x6, x7, x8, x9] = .nx [some (docD ls), some (.dict (dc (nbL ls))), some (.dict (dc (usL ls))), some (.dict (dI intD (fwL (nbL ls) []))), some (.dict (dI tsD (mdF ls hs j f))), y5, y6, y7, y8, y9]
  | [], j, f, x5, x6, x7, x8, x9, _, _, _ => ⟨x5, x6, x7, x8, x9, rfl⟩
  | h :: hs, j, f, x5, x6, x7, x8, x9, hj, hn, hf => by
    have n0 := hn 0 h rfl
    have pl : (pi f (secEnd ls h - 1) (mdT ls j (nameAt ls h))).length ≤ f.length + 1 := by unfold pi; split <;> simp
    rw [List.length_cons] at hf
    obtain ⟨y5, y6, y7, y8, y9, ih⟩ := made_loop hl w hs (j + 1) (pi f (secEnd ls h - 1) (mdT ls j (nameAt ls h))) (some (.int (j : Nat))) (some (S (nameAt ls h))) (some (.int (h : Nat))) (some (.int (secEnd ls h : Nat))) none (by omega) (fun i g hg => by
      have := hn (i + 1) g (by simpa using hg)
      rw [← this]; congr 1; omega) (by omega)
    refine ⟨y5, y6, y7, y8, y9, ?_⟩
    have jm : j ∈ ownL ls (nameAt ls h) := by
      obtain ⟨i, rfl⟩ : ∃ i, j = i + 1 := ⟨j - 1, by omega⟩
      exact own_mem.mpr (by simpa using n0)
    have ne : ownL ls (nameAt ls h) ≠ [] := fun z => by rw [z] at jm; cases jm
    have hdl := hd_len ls
    have l1 : lk (nbL ls) (nameAt ls h) = some (ownL ls (nameAt ls h)) := by rw [nb_own, if_neg ne]
    have A := fun a4 a7 a8 => made_used (a0 := some (docD ls)) (a4 := a4) (a7 := a7) (a8 := a8) (FD := dI intD (fwL (nbL ls) [])) (j := j) l1 (us_lk w (nameAt ls h)) ne (fun r hr => by have := us_le hr; omega) (by have := us_len ls (nameAt ls h); omega)
    have tl : (usedT (ownL ls (nameAt ls h)) (usN ls (nameAt ls h)) j).length ≤ 100 := by unfold usedT; split <;> simp
    have B := fun a0 a1 a2 a4 a6 a7 a8 => made_goes (a0 := a0) (a1 := a1) (a2 := a2) (a4 := a4) (a6 := a6) (a7 := a7) (a8 := a8) (following_at jm) (fun r hr => by have := own_le hr; omega) tl
    have e1 : tsD (usedT (ownL ls (nameAt ls h)) (usN ls (nameAt ls h)) j ++ goesT (ownL ls (nameAt ls h)) j) = tsD (mdT ls j (nameAt ls h)) := rfl
    rw [e1] at B
    have pe : putD (dI tsD f) (.inl ((secEnd ls h : Int) - 1)) (tsD (mdT ls j (nameAt ls h))) = dI tsD (pi f (secEnd ls h - 1) (mdT ls j (nameAt ls h))) := by
      have : ((secEnd ls h : Int) - 1) = ((secEnd ls h - 1 : Nat) : Int) := by unfold secEnd; omega
      rw [this]
      exact putD_dI tsD f _ _
    have s1 : (dI tsD f).length < sizeLine := by unfold dI; rw [List.length_map, sl_eq]; omega
    have step : lb_made_lines_0 [some (docD ls), some (.dict (dc (nbL ls))), some (.dict (dc (usL ls))), some (.dict (dI intD (fwL (nbL ls) []))), some (.dict (dI tsD f)), some (.int (j : Nat)), some (S (nameAt ls h)), some (.int (h : Nat)), some (.int (secEnd ls h : Nat)), x9] = .nx [some (docD ls), some (.dict (dc (nbL ls))), some (.dict (dc (usL ls))), some (.dict (dI intD (fwL (nbL ls) []))), some (.dict (dI tsD (pi f (secEnd ls h - 1) (mdT ls j (nameAt ls h))))), some (.int (j : Nat)), some (S (nameAt ls h)), some (.int (h : Nat)), some (.int (secEnd ls h : Nat)), none] := by
      unfold lb_made_lines_0
      generalize tsD (mdT ls j (nameAt ls h)) = MT at *
      generalize tsD (usedT (ownL ls (nameAt ls h)) (usN ls (nameAt ls h)) j) = UT at *
      generalize dI tsD (pi f (secEnd ls h - 1) (mdT ls j (nameAt ls h))) = DE at *
      generalize dI tsD f = DF at *
      generalize dI intD (fwL (nbL ls) []) = FD at *
      generalize dc (nbL ls) = NB at *
      generalize dc (usL ls) = US at *
      generalize docD ls = DD at *
      generalize S (nameAt ls h) = NM at *
      refine (mForget_nx (ρ' := [some DD, some (.dict NB), some (.dict US), some (.dict FD), some (.dict DE), some (.int (j : Nat)), some NM, some (.int (h : Nat)), some (.int (secEnd ls h : Nat)), some MT]) ?_).trans rfl
      refine seq_nx (ρ' := [some DD, some (.dict NB), some (.dict US), some (.dict FD), some (.dict DF), some (.int (j : Nat)), some NM, some (.int (h : Nat)), some (.int (secEnd ls h : Nat)), some (.list [])]) (by simp -implicitDefEqProofs) ?_
      refine seq_nx (A _ _ _) ?_
      refine seq_nx (B _ _ _ _ _ _ _) ?_
      simp -implicitDefEqProofs [pe, s1]
    show forL _ _ (.tuple [.int (j : Nat), secD ls h] :: enS ls hs (j + 1)) _ = _
    rw [forL_go (ρ1 := [some (docD ls), some (.dict (dc (nbL ls))), some (.dict (dc (usL ls))), some (.dict (dI intD (fwL (nbL ls) []))), some (.dict (dI tsD f)), some (.int (j : Nat)), some (S (nameAt ls h)), some (.int (h : Nat)), some (.int (secEnd ls h : Nat)), x9]) rfl step]
    exact ih
def mdL (ls : List Ln) : ID (List (List Nat)) := mdF ls (secs ls) 1 []
theorem made_is {ls : List Ln} (hl : ls.length ≤ 90) (w : WfL false ls) : m_made_lines [docD ls, .dict (dc (nbL ls))] = .ok (.dict (dI tsD (mdL ls))) := by
  have ms := m_sections_is (ls := ls) (by omega)
  have sl := secs_len ls
  have ui := users_is (ls := ls) (by omega)
  have hdl := hd_len ls
  have uq : Uq (nbL ls) := nbF_uq ls (secs ls) 1 List.nodup_nil
  have nbl : (nbL ls).length ≤ 400 := by
    have key : ∀ (hs : List Nat) (j : Nat) (s : NL), (nbF ls hs j s).length ≤ s.length + hs.length := by
      intro hs
      induction hs with
      | nil => intro j s; exact Nat.le_refl _
      | cons h hs ih =>
        intro j s
        have := ih (j + 1) (grow s (nameAt ls h) [j])
        have := grow_len s (nameAt ls h) [j]
        show (nbF ls hs (j + 1) _).length ≤ _
        rw [List.length_cons]; omega
    have := key (secs ls) 1 []
    unfold nbL
    simp at this
    omega
  have fi := following_is (s := nbL ls) (fun p hp => by
    have := uq.mem hp
    rw [nb_own] at this
    split at this
    · cases this
    · rw [← Option.some.inj this]; have := own_len ls p.1; omega) nbl
  obtain ⟨y5, y6, y7, y8, y9, e⟩ := made_loop hl w (secs ls) 1 [] none none none none none (by omega) (fun i h hi => by rw [← secs_names, List.getElem?_map]; simp [hi]) (by simp; omega)
  have e : forL _ lb_made_lines_0 (enS ls (secs ls) 1) [some (docD ls), some (.dict (dc (nbL ls))), some (.dict (dc (usL ls))), some (.dict (dI intD (fwL (nbL ls) []))), some (.dict []), none, none, none, none, none] = _ := e
  have en : enumSD 1 [.list ((secs ls).map (secD ls))] = .ok (enS ls (secs ls) 1) := by
    show Res.ok (enumK 1 _) = _
    rw [← enS_is]; rfl
  unfold m_made_lines mkFn b_made_lines
  show _ = Res.ok (PyData.dict (dI tsD (mdF ls (secs ls) 1 [])))
  generalize dI tsD (mdF ls (secs ls) 1 []) = MD at *
  generalize dI intD (fwL (nbL ls) []) = FD at *
  generalize dc (nbL ls) = NB at *
  generalize dc (usL ls) = US at *
  generalize (secs ls).map (secD ls) = SS at *
  generalize enS ls (secs ls) 1 = ES at *
  generalize docD ls = DD at *
  simp -implicitDefEqProofs [ms, en, ui, fi, e]

/-! a line as it is woven -/
def sh (own : List Nat) : List Nat := match own.head? with
  | some a => dg a
  | none => [63]
def wt (ls : List Ln) (l : Ln) (i : Nat) : List Nat := match l with
  | .head n => [91] ++ dg i ++ [93, 32] ++ n
  | .prose t => t
  | .code t => if t = [] then [] else [32, 32, 32, 32] ++ t
  | .use k n => [32, 32, 32, 32] ++ List.replicate k 32 ++ [60] ++ n ++ [32] ++ sh (ownL ls n) ++ [62]
def LnB (l : Ln) : Prop := match l with
  | .head n => n.length ≤ 20
  | .prose t => t.length ≤ 40
  | .code t => t.length ≤ 40
  | .use k n => k ≤ 3 ∧ n.length ≤ 20
theorem lnB {l : Ln} (h : LnW l) : LnB l := by
  cases l with
  | head n => obtain ⟨i, hi, rfl⟩ := h; exact (by decide : (1 : Nat) ≤ 20)
  | prose t =>
    have : ∀ t ∈ P5, t.length ≤ 40 := by decide
    exact this t h
  | code t =>
    have : ∀ t ∈ W10, t.length ≤ 40 := by decide
    exact this t h
  | use k n =>
    have : ∀ t ∈ N6, t.length ≤ 20 := by decide
    exact ⟨h.1, this n h.2⟩
theorem margin_is : mBin mulD (mC (S [32])) (mC c_MARGIN) = fun _ => mulD (S [32]) c_MARGIN := rfl
theorem mul4 : mulD (S [32]) c_MARGIN = .ok (S [32, 32, 32, 32]) := isS_ok (by decide +kernel)
theorem mulk {k : Nat} (h : k ≤ 3) : mulD (S [32]) (.int (k : Nat)) = .ok (S (List.replicate k 32)) := by
  have : ∀ k : Nat, k < 4 → isS (mulD (S [32]) (.int (k : Nat))) (List.replicate k 32) = true := by decide +kernel
  exact isS_ok (this k (by omega))
theorem codeK (l : Ln) : eqD (S (lnK l)) (S [99, 111, 100, 101]) = .ok (.bool (match l with | .code _ => true | _ => false)) := by rw [eqD_S]; cases l <;> rfl
theorem proseK (l : Ln) : eqD (S (lnK l)) (S [112, 114, 111, 115, 101]) = .ok (.bool (!notProse l)) := by rw [eqD_S]; cases l <;> rfl
theorem woven_is {ls : List Ln} {l : Ln} {i : Nat} (hb : LnB l) (hi : i < 200) (hN : (hdN ls).length < 200) : m_woven_text [lnD l, .int (i : Nat), .dict (dc (nbL ls))] = .ok (S (wt ls l i)) := by
  have l0 := ln0 l
  have kh := headK l
  have ku := useK l
  have kc := codeK l
  have m4 := mul4
  have f4 : fmtD (S [32, 32, 32, 32]) = .ok (S [32, 32, 32, 32]) := fmtD_S (by decide)
  have fi := fmt_dg hi
  have dl := dg_len hi
  cases l with
  | head n =>
    have l1 : atD (lnD (.head n)) (.int 1) = .ok (S n) := atD_tuple (k := 1) rfl
    have fn : fmtD (S n) = .ok (S n) := fmtD_S (by have : n.length ≤ 20 := hb; omega)
    have kh : eqD (S (lnK (.head n))) (S [104, 101, 97, 100]) = .ok (.bool true) := kh
    have js : ∀ ρ : WD.Env, mVar 1 ρ = .ok (.int (i : Nat)) → mBin atD (mVar 0) (mC (.int 1)) ρ = .ok (S n) → mJs [(mC (S [91])), (mUn fmtD (mVar 1)), (mC (S [93, 32])), (mUn fmtD (mBin atD (mVar 0) (mC (.int 1))))] ρ = .ok (S ([91] ++ dg i ++ [93, 32] ++ n)) := fun ρ q1 q2 => by
      have := mJs_is (ρ := ρ) [(mC (S [91])), (mUn fmtD (mVar 1)), (mC (S [93, 32])), (mUn fmtD (mBin atD (mVar 0) (mC (.int 1))))] [[91], dg i, [93, 32], n] (by
        simp only [List.map_cons, List.map_nil, mUn_at, q1, q2, bind_okR, fi, fn]
        rfl) (by have : n.length ≤ 20 := hb; simp only [List.map_cons, List.map_nil, List.sum_cons, List.sum_nil, List.length_cons, List.length_nil]; omega)
      rw [this]; simp
    unfold m_woven_text mkFn b_woven_text
    show _ = Res.ok (S ([91] ++ dg i ++ [93, 32] ++ n))
    generalize lnD (.head n) = LD at *
    generalize dc (nbL ls) = NB at *
    have js := js [some LD, some (.int (i : Nat)), some (.dict NB), some (S [32, 32, 32, 32]), none, none] rfl (by simp -implicitDefEqProofs [l1])
    generalize hms : mJs [(mC (S [91])), (mUn fmtD (mVar 1)), (mC (S [93, 32])), (mUn fmtD (mBin atD (mVar 0) (mC (.int 1))))] = MJ at *
    generalize S ([91] ++ dg i ++ [93, 32] ++ n) = RS at *
    simp -implicitDefEqProofs [l0, kh, m4, js]
  | prose t =>
    have l1 : atD (lnD (.prose t)) (.int 1) = .ok (S t) := atD_tuple (k := 1) rfl
    have kh : eqD (S (lnK (.prose t))) (S [104, 101, 97, 100]) = .ok (.bool false) := kh
    have ku : eqD (S (lnK (.prose t))) (S [117, 115, 101]) = .ok (.bool false) := ku
    have kc : eqD (S (lnK (.prose t))) (S [99, 111, 100, 101]) = .ok (.bool false) := kc
    unfold m_woven_text mkFn b_woven_text
    show _ = Res.ok (S t)
    generalize lnD (.prose t) = LD at *
    generalize dc (nbL ls) = NB at *
    generalize mJs _ = MJ at *
    simp -implicitDefEqProofs [l0, kh, ku, kc, m4, l1]
  | code t =>
    have l1 : atD (lnD (.code t)) (.int 1) = .ok (S t) := atD_tuple (k := 1) rfl
    have kh : eqD (S (lnK (.code t))) (S [104, 101, 97, 100]) = .ok (.bool false) := kh
    have ku : eqD (S (lnK (.code t))) (S [117, 115, 101]) = .ok (.bool false) := ku
    have kc : eqD (S (lnK (.code t))) (S [99, 111, 100, 101]) = .ok (.bool true) := kc
    have ne : neD (S t) (S []) = .ok (.bool (!decide (t = []))) := by rw [neD_S]; cases t <;> rfl
    have ad : addD (S [32, 32, 32, 32]) (S t) = .ok (S ([32, 32, 32, 32] ++ t)) := addD_S (by have : t.length ≤ 40 := hb; simp; omega)
    unfold m_woven_text mkFn b_woven_text
    show _ = Res.ok (S (if t = [] then [] else [32, 32, 32, 32] ++ t))
    generalize lnD (.code t) = LD at *
    generalize dc (nbL ls) = NB at *
    generalize mJs _ = MJ at *
    by_cases c : t = []
    · subst c
      simp -implicitDefEqProofs [l0, kh, ku, kc, m4, l1, ne]
    · rw [if_neg c]
      generalize S ([32, 32, 32, 32] ++ t) = RS at *
      simp -implicitDefEqProofs [l0, kh, ku, kc, m4, l1, ne, c, ad]
  | use k n =>
    obtain ⟨hk, hn⟩ := (show k ≤ 3 ∧ n.length ≤ 20 from hb)
    have l1 : atD (lnD (.use k n)) (.int 1) = .ok (.int (k : Nat)) := atD_tuple (k := 1) rfl
    have l2 : atD (lnD (.use k n)) (.int 2) = .ok (S n) := atD_tuple (k := 2) rfl
    have kh : eqD (S (lnK (.use k n))) (S [104, 101, 97, 100]) = .ok (.bool false) := kh
    have ku : eqD (S (lnK (.use k n))) (S [117, 115, 101]) = .ok (.bool true) := ku
    have mk := mulk hk
    have fk : fmtD (S (List.replicate k 32)) = .ok (S (List.replicate k 32)) := fmtD_S (by rw [List.length_replicate]; omega)
    have fn : fmtD (S n) = .ok (S n) := fmtD_S (by omega)
    have v1 : valD (dc (nbL ls)) (.inr ⟨n.toArray⟩) = if ownL ls n = [] then none else some (nsD (ownL ls n)) := by
      rw [valD_dc, nb_own]; split <;> rfl
    obtain ⟨TD, hT, fT, hsl⟩ : ∃ TD, (if ownL ls n = [] then Res.ok (S [63]) else atD (nsD (ownL ls n)) (.int 0)) = .ok TD ∧ fmtD TD = .ok (S (sh (ownL ls n))) ∧ (sh (ownL ls n)).length ≤ 10 := by
      unfold sh
      cases e : (ownL ls n).head? with
      | none =>
        have : ownL ls n = [] := List.head?_eq_none_iff.mp e
        rw [if_pos this]
        exact ⟨_, rfl, fmtD_S (by decide), by decide⟩
      | some a =>
        have m : a ∈ ownL ls n := List.mem_of_mem_head? e
        have ha := own_le m
        rw [if_neg fun z => by rw [z] at m; cases m]
        exact ⟨_, own_head e, fmt_dg (by omega), by have := dg_len (show a < 200 by omega); show (dg a).length ≤ 10; omega⟩
    have js : ∀ ρ : WD.Env, mVar 3 ρ = .ok (S [32, 32, 32, 32]) → mVar 4 ρ = .ok (S (List.replicate k 32)) → mVar 5 ρ = .ok TD → mBin atD (mVar 0) (mC (.int 2)) ρ = .ok (S n) → mJs [(mUn fmtD (mVar 3)), (mUn fmtD (mVar 4)), (mC (S [60])), (mUn fmtD (mBin atD (mVar 0) (mC (.int 2)))), (mC (S [32])), (mUn fmtD (mVar 5)), (mC (S [62]))] ρ = .ok (S ([32, 32, 32, 32] ++ List.replicate k 32 ++ [60] ++ n ++ [32] ++ sh (ownL ls n) ++ [62])) := fun ρ q1 q2 q3 q4 => by
      have := mJs_is (ρ := ρ) [(mUn fmtD (mVar 3)), (mUn fmtD (mVar 4)), (mC (S [60])), (mUn fmtD (mBin atD (mVar 0) (mC (.int 2)))), (mC (S [32])), (mUn fmtD (mVar 5)), (mC (S [62]))] [[32, 32, 32, 32], List.replicate k 32, [60], n, [32], sh (ownL ls n), [62]] (by
        simp only [List.map_cons, List.map_nil, mUn_at, q1, q2, q3, q4, bind_okR, f4, fk, fn, fT]
        rfl) (by simp only [List.map_cons, List.map_nil, List.sum_cons, List.sum_nil, List.length_cons, List.length_nil, List.length_replicate]; omega)
      rw [this]; simp
    unfold m_woven_text mkFn b_woven_text
    show _ = Res.ok (S ([32, 32, 32, 32] ++ List.replicate k 32 ++ [60] ++ n ++ [32] ++ sh (ownL ls n) ++ [62]))
    generalize S ([32, 32, 32, 32] ++ List.replicate k 32 ++ [60] ++ n ++ [32] ++ sh (ownL ls n) ++ [62]) = RS at *
    generalize lnD (.use k n) = LD at *
    generalize dc (nbL ls) = NB at *
    generalize S (List.replicate k 32) = KS at *
    have js := js [some LD, some (.int (i : Nat)), some (.dict NB), some (S [32, 32, 32, 32]), some KS, some TD] rfl rfl rfl (by simp -implicitDefEqProofs [l2])
    generalize hms : mJs [(mUn fmtD (mVar 3)), (mUn fmtD (mVar 4)), (mC (S [60])), (mUn fmtD (mBin atD (mVar 0) (mC (.int 2)))), (mC (S [32])), (mUn fmtD (mVar 5)), (mC (S [62]))] = MJ at *
    generalize nsD (ownL ls n) = OD at *
    by_cases c : ownL ls n = []
    · rw [if_pos c] at v1 hT
      cases hT
      generalize mJs _ = MK at *
      simp -implicitDefEqProofs [l0, kh, ku, m4, l1, l2, mk, v1, js]
    · rw [if_neg c] at v1 hT
      generalize mJs _ = MK at *
      simp -implicitDefEqProofs [l0, kh, ku, m4, l1, l2, mk, v1, hT, js]

/-! the texts below sections, the lines gone through once -/
def gq (ls : List Ln) : List Ln → Nat → Nat → Nat → Option (List (List Nat))
  | [], _, _, _ => none
  | .head n :: R, k, j, a => (gq ls R (k + 1) (j + 1) a).or (if a = k + bodyLen R then some (mdT ls j n) else none)
  | _ :: R, k, j, a => gq ls R (k + 1) j a
theorem mdF_gq : ∀ (R A : List Ln) (j : Nat) (f : ID (List (List Nat))) (a : Nat), li (mdF (A ++ R) (hdx R A.length) j f) a = (gq (A ++ R) R A.length j a).or (li f a)
  | [], A, j, f, a => rfl
  | l :: R, A, j, f, a => by
    have ih := fun j f => mdF_gq R (A ++ [l]) j f a
    rw [len_snoc, ← app_cons] at ih
    cases l with
    | head n =>
      have e := secEnd_app A (.head n) R
      have nn := nameAt_app A n R
      show li (mdF _ (hdx R (A.length + 1)) (j + 1) (pi f (secEnd _ A.length - 1) (mdT _ j (nameAt _ A.length)))) a = _
      rw [ih, e, nn, li_pi, show A.length + 1 + bodyLen R - 1 = A.length + bodyLen R by omega]
      show _ = ((gq _ R (A.length + 1) (j + 1) a).or _).or _
      rw [Option.or_assoc]
      congr 1
      split <;> rfl
    | prose t => exact ih j f
    | code t => exact ih j f
    | use k n => exact ih j f
theorem md_gq (ls : List Ln) (a : Nat) : li (mdL ls) a = gq ls ls 0 1 a := by
  have : li (mdF ls (hdx ls 0) 1 []) a = (gq ls ls 0 1 a).or none := mdF_gq ls [] 1 [] a
  unfold mdL
  rw [secs_hdx, this, Option.or_none]
theorem gq_low (ls : List Ln) : ∀ (R : List Ln) (k j a : Nat), a < k → gq ls R k j a = none
  | [], _, _, _, _ => rfl
  | .head n :: R, k, j, a, h => by
    show (gq ls R (k + 1) (j + 1) a).or _ = none
    rw [gq_low ls R _ _ _ (by omega), if_neg (by omega)]; rfl
  | .prose _ :: R, k, j, a, h => gq_low ls R _ _ _ (by omega)
  | .code _ :: R, k, j, a, h => gq_low ls R _ _ _ (by omega)
  | .use _ _ :: R, k, j, a, h => gq_low ls R _ _ _ (by omega)
/-- what is still to be found for the line a, in the section i of the name n -/
def got (ls : List Ln) (b : Bool) (R : List Ln) (k i : Nat) (n : List Nat) (a : Nat) : Option (List (List Nat)) := (gq ls R k (i + 1) a).or (if b = true ∧ a + 1 = k + bodyLen R then some (mdT ls i n) else none)
def nxB (b : Bool) : Ln → Bool
  | .head _ => true
  | .prose _ => false
  | _ => b
def nxI (i : Nat) (l : Ln) : Nat := if l.isHead = true then i + 1 else i
def nxN (n : List Nat) : Ln → List Nat
  | .head m => m
  | _ => n
theorem got_step (ls : List Ln) (b : Bool) (l : Ln) (R : List Ln) (k i : Nat) (n : List Nat) (w : WfL b (l :: R)) (a : Nat) (ha : k ≤ a) : got ls b (l :: R) k i n a = got ls (nxB b l) R (k + 1) (nxI i l) (nxN n l) a := by
  cases l with
  | head m =>
    show ((gq ls R (k + 1) (i + 2) a).or _).or (if b = true ∧ a + 1 = k + 0 then _ else none) = (gq ls R (k + 1) (i + 2) a).or _
    have e1 : ¬ (b = true ∧ a + 1 = k + 0) := fun z => by omega
    rw [if_neg e1, Option.or_none]
    congr 1
    by_cases c : a = k + bodyLen R
    · rw [if_pos c, if_pos ⟨rfl, by omega⟩]; rfl
    · rw [if_neg c, if_neg fun z => c (by have := z.2; omega)]
  | prose t =>
    simp only [got, gq, nxB, nxI, nxN, bodyLen, Ln.body, Ln.isHead]
    simp
    rw [if_neg fun z => by omega, Option.or_none]
  | code t =>
    obtain ⟨rfl, w⟩ := w
    show (gq ls R (k + 1) (i + 1) a).or (if true = true ∧ a + 1 = k + (bodyLen R + 1) then _ else none) = (gq ls R (k + 1) (i + 1) a).or (if true = true ∧ a + 1 = k + 1 + bodyLen R then _ else none)
    rw [show k + (bodyLen R + 1) = k + 1 + bodyLen R by omega]; rfl
  | use q m =>
    obtain ⟨rfl, w⟩ := w
    show (gq ls R (k + 1) (i + 1) a).or (if true = true ∧ a + 1 = k + (bodyLen R + 1) then _ else none) = (gq ls R (k + 1) (i + 1) a).or (if true = true ∧ a + 1 = k + 1 + bodyLen R then _ else none)
    rw [show k + (bodyLen R + 1) = k + 1 + bodyLen R by omega]; rfl
theorem got_at (ls : List Ln) (b : Bool) (R : List Ln) (k i : Nat) (n : List Nat) : got ls b R (k + 1) i n k = if b = true ∧ bodyLen R = 0 then some (mdT ls i n) else none := by
  unfold got
  rw [gq_low ls R _ _ _ (by omega)]
  by_cases c : b = true ∧ bodyLen R = 0
  · rw [if_pos c, if_pos ⟨c.1, by omega⟩]; rfl
  · rw [if_neg c, if_neg fun z => c ⟨z.1, by omega⟩]; rfl
theorem got_0 (ls : List Ln) (n : List Nat) (a : Nat) : got ls false ls 0 0 n a = li (mdL ls) a := by
  unfold got
  rw [md_gq]
  simp

/-! the woven lines -/
abbrev WL := List (List Nat × Option Nat)
def pD (p : List Nat × Option Nat) : D := .tuple [S p.1, match p.2 with | some k => .int (k : Nat) | none => .none]
def noL (ts : List (List Nat)) : WL := ts.map fun t => (t, none)
def wvL (ls : List Ln) : List Ln → Nat → Nat → List Nat → WL
  | [], _, _, _ => []
  | l :: R, k, i, n => (wt ls l (nxI i l), some k) :: ((if notProse l = true ∧ bodyLen R = 0 then noL (mdT ls (nxI i l) (nxN n l)) else []) ++ wvL ls R (k + 1) (nxI i l) (nxN n l))
def enL : List Ln → Nat → List D
  | [], _ => []
  | l :: R, k => .tuple [.int (k : Nat), lnD l] :: enL R (k + 1)
theorem enL_is : ∀ (R : List Ln) (k : Nat), ((R.map lnD).zipIdx k).map (fun p => PyData.tuple [.int (p.2 : Int), p.1]) = enL R k
  | [], _ => rfl
  | l :: R, k => by rw [List.map_cons, List.zipIdx_cons, List.map_cons, enL_is R (k + 1)]; rfl
theorem enumX_doc (ls : List Ln) : enumXD [docD ls] = .ok (enL ls 0) := by
  rw [← enL_is]; rfl
theorem nxB_np {b : Bool} {l : Ln} {R : List Ln} (w : WfL b (l :: R)) : nxB b l = notProse l := by
  cases l with
  | head n => rfl
  | prose t => rfl
  | code t => exact w.1
  | use k n => exact w.1
theorem WfL.nx {b : Bool} {l : Ln} {R : List Ln} (w : WfL b (l :: R)) : WfL (nxB b l) R := by
  cases l with
  | head n => exact w
  | prose t => exact w
  | code t => obtain ⟨rfl, w⟩ := w; exact w
  | use k n => obtain ⟨rfl, w⟩ := w; exact w
theorem mdT_len (ls : List Ln) (j : Nat) (n : List Nat) : (mdT ls j n).length ≤ 2 := by
  unfold mdT usedT goesT
  rw [List.length_append]
  have : ∀ {p : Prop} [Decidable p] (t : List Nat), (if p then [t] else []).length ≤ 1 := by intro p _ t; split <;> simp
  have h1 := this (p := (ownL ls n).head? = some j ∧ usN ls n ≠ []) (tUsed ++ lsT (usN ls n) ++ [41])
  cases nxt (ownL ls n) j <;> simp at * <;> omega
theorem more_is {ρ : WD.Env} {md : List (D × D)} {k : Nat} {ts : Option (List (List Nat))} (h2 : ρ[2]? = some (some (.dict md))) (h5 : ρ[5]? = some (some (.int (k : Nat)))) (h7 : ρ.length = 8) (hv : valD md (.inl (k : Int)) = ts.map tsD) (hl : (ts.getD []).length ≤ 10) :
    mList (mLc (mIt (mGet2 (mVar 2) (mVar 5) (mList (mLst mNil)))) (gSet 7) mYes (mTup (mCons (mVar 7) (mCons (mC .none) mNil))) [7]) ρ = .ok (.list ((noL (ts.getD [])).map pD)) := by
  have g : mGet2 (mVar 2) (mVar 5) (mList (mLst mNil)) ρ = .ok (tsD (ts.getD [])) := by
    have e2 : mVar 2 ρ = .ok (.dict md) := by simp -implicitDefEqProofs [h2]
    have e5 : mVar 5 ρ = .ok (.int (k : Nat)) := by simp -implicitDefEqProofs [h5]
    rw [mGet2_at, e2, e5]
    cases ts with
    | none =>
      have hv : valD md (.inl (k : Int)) = none := hv
      simp -implicitDefEqProofs [hv]
      rfl
    | some t =>
      have hv : valD md (.inl (k : Int)) = some (tsD t) := hv
      simp -implicitDefEqProofs [hv]
  have hi : itD (tsD (ts.getD [])) = .ok ((ts.getD []).map S) := rfl
  have c : compL (gSet 7) mYes (mTup (mCons (mVar 7) (mCons (mC .none) mNil))) (ρ.set 7 none) ((ts.getD []).map S) = .ok ((ts.getD []).map fun t => pD (t, none)) := by
    refine compL_mapB S (fun t => pD (t, none)) (ts.getD []) fun t ht => ?_
    have h3 : (ρ.set 7 (some (S t)))[7]? = some (some (S t)) := by rw [List.getElem?_set_self (by omega)]
    exact ⟨ρ.set 7 (some (S t)), by rw [gSet_at, List.set_set], rfl, by simp -implicitDefEqProofs [h3]; rfl⟩
  have e : (noL (ts.getD [])).map pD = (ts.getD []).map fun t => pD (t, none) := by unfold noL; rw [List.map_map]; rfl
  have s1 : ((ts.getD []).map S).length ≤ sizeLine := by rw [List.length_map]; exact sl5 _ (by omega)
  rw [e]
  generalize hG : mGet2 (mVar 2) (mVar 5) (mList (mLst mNil)) = G at *
  generalize (ts.getD []).map S = TS at *
  generalize (ts.getD []).map (fun t => pD (t, none)) = PS at *
  generalize tsD (ts.getD []) = TD at *
  simp -implicitDefEqProofs [g, hi, c, s1]

theorem weave_turn {ls : List Ln} {b : Bool} {l : Ln} {R : List Ln} {k i : Nat} {n : List Nat} {acc : WL} {x5 x6 : Option D} (hN : (hdN ls).length < 100) (hB : LnB l) (hi : i < 150) (ha : acc.length ≤ 1000) (w : WfL b (l :: R)) (G : ∀ a, k ≤ a → li (mdL ls) a = got ls b (l :: R) k i n a) :
    lb_weave_0 [some (docD ls), some (.dict (dc (nbL ls))), some (.dict (dI tsD (mdL ls))), some (.list (acc.map pD)), some (.int (i : Nat)), some (.int (k : Nat)), some (lnD l), none] =
    .nx [some (docD ls), some (.dict (dc (nbL ls))), some (.dict (dI tsD (mdL ls))), some (.list ((acc ++ ((wt ls l (nxI i l), some k) :: (if notProse l = true ∧ bodyLen R = 0 then noL (mdT ls (nxI i l) (nxN n l)) else []))).map pD)), some (.int (nxI i l : Nat)), some (.int (k : Nat)), some (lnD l), none] := by
  have l0 := ln0 l
  have kh := headK l
  have hi2 : nxI i l < 200 := by unfold nxI; split <;> omega
  have wo := woven_is (ls := ls) hB hi2 (by omega)
  have g : li (mdL ls) k = if notProse l = true ∧ bodyLen R = 0 then some (mdT ls (nxI i l) (nxN n l)) else none := by
    rw [G k (Nat.le_refl _), got_step ls b l R k i n w k (Nat.le_refl _), got_at, nxB_np w]
  have hv : valD (dI tsD (mdL ls)) (.inl (k : Int)) = (if notProse l = true ∧ bodyLen R = 0 then some (mdT ls (nxI i l) (nxN n l)) else none).map tsD := by rw [valD_dI, g]
  have hg : ((if notProse l = true ∧ bodyLen R = 0 then some (mdT ls (nxI i l) (nxN n l)) else none).getD []) = (if notProse l = true ∧ bodyLen R = 0 then mdT ls (nxI i l) (nxN n l) else []) := by split <;> rfl
  have hlen : ((if notProse l = true ∧ bodyLen R = 0 then some (mdT ls (nxI i l) (nxN n l)) else none).getD []).length ≤ 10 := by
    rw [hg]
    split
    · have := mdT_len ls (nxI i l) (nxN n l); omega
    · simp
  have hno : (if notProse l = true ∧ bodyLen R = 0 then noL (mdT ls (nxI i l) (nxN n l)) else []) = noL (if notProse l = true ∧ bodyLen R = 0 then mdT ls (nxI i l) (nxN n l) else []) := by split <;> rfl
  rw [hno]
  have s1 : (acc.map pD).length < sizeLine := by rw [List.length_map, sl_eq]; omega
  have s2 : (acc.map pD ++ [pD (wt ls l (nxI i l), some k)]).length + ((noL (if notProse l = true ∧ bodyLen R = 0 then mdT ls (nxI i l) (nxN n l) else [])).map pD).length ≤ sizeLine := by
    rw [← hg]
    simp only [List.length_append, List.length_map, noL, List.length_cons, List.length_nil]
    exact sl5 _ (by omega)
  have e4 : (acc ++ ((wt ls l (nxI i l), some k) :: noL (if notProse l = true ∧ bodyLen R = 0 then mdT ls (nxI i l) (nxN n l) else []))).map pD = (acc.map pD ++ [pD (wt ls l (nxI i l), some k)]) ++ (noL (if notProse l = true ∧ bodyLen R = 0 then mdT ls (nxI i l) (nxN n l) else [])).map pD := by
    rw [List.map_append, List.map_cons, List.append_assoc]; rfl
  rw [e4]
  have mo := fun (x1 : Option D) (ρ0 : Option D) (q3 q4 q6 : Option D) => more_is (ρ := [ρ0, x1, some (.dict (dI tsD (mdL ls))), q3, q4, some (.int (k : Nat)), q6, none]) (ts := if notProse l = true ∧ bodyLen R = 0 then some (mdT ls (nxI i l) (nxN n l)) else none) rfl rfl rfl hv hlen
  rw [hg] at mo
  have pe : pD (wt ls l (nxI i l), some k) = .tuple [S (wt ls l (nxI i l)), .int (k : Nat)] := rfl
  rw [pe] at s2 ⊢
  generalize (noL (if notProse l = true ∧ bodyLen R = 0 then mdT ls (nxI i l) (nxN n l) else [])).map pD = ML at *
  generalize S (wt ls l (nxI i l)) = WT at *
  generalize dI tsD (mdL ls) = MD at *
  generalize dc (nbL ls) = NB at *
  generalize docD ls = DD at *
  generalize acc.map pD = AC at *
  unfold lb_weave_0
  refine seq_nx (ρ' := [some DD, some (.dict NB), some (.dict MD), some (.list AC), some (.int (nxI i l : Nat)), some (.int (k : Nat)), some (lnD l), none]) ?_ ?_
  · unfold nxI
    cases c : l.isHead with
    | true =>
      rw [c] at kh
      generalize lnD l = LD at *
      simp -implicitDefEqProofs [l0, kh]
    | false =>
      rw [c] at kh
      generalize lnD l = LD at *
      simp -implicitDefEqProofs [l0, kh]
  · refine seq_nx (ρ' := [some DD, some (.dict NB), some (.dict MD), some (.list (AC ++ [.tuple [WT, .int (k : Nat)]])), some (.int (nxI i l : Nat)), some (.int (k : Nat)), some (lnD l), none]) ?_ ?_
    · have s2' : (2 : Nat) ≤ sizeLine := sl5 _ (by omega)
      generalize lnD l = LD at *
      generalize nxI i l = I2 at *
      simp -implicitDefEqProofs [wo, s1, s2']
    · have mo := mo (some (.dict NB)) (some DD) (some (.list (AC ++ [.tuple [WT, .int (k : Nat)]]))) (some (.int (nxI i l : Nat))) (some (lnD l))
      generalize hM : mList (mLc (mIt (mGet2 (mVar 2) (mVar 5) (mList (mLst mNil)))) (gSet 7) mYes (mTup (mCons (mVar 7) (mCons (mC .none) mNil))) [7]) = MM at *
      generalize lnD l = LD at *
      rw [mExt_at, mo]
      simp -implicitDefEqProofs only [getL_at, List.getElem?_cons_succ, List.getElem?_cons_zero, Option.join_some, out_okR, seqD_list]
      rw [if_pos s2]
      rfl

theorem LnB_all {ls : List Ln} {own : Int} (I : WdI ls own) : ∀ l ∈ ls, LnB l := fun l hl => lnB (I.ok l hl)
theorem weave_loop {ls : List Ln} (hN : (hdN ls).length < 100) : ∀ (R : List Ln) (b : Bool) (k i : Nat) (n : List Nat) (acc : WL) (x5 x6 : Option D), (∀ l ∈ R, LnB l) → i + R.length < 150 → acc.length + 3 * R.length ≤ 1000 → WfL b R → (∀ a, k ≤ a → li (mdL ls) a = got ls b R k i n a) →
    ∃ y4 y5 y6, forL (gTupD (lenG 2 (gConsD (gSet 5) (gConsD (gSet 6) gNilD)))) lb_weave_0 (enL R k) [some (docD ls), some (.dict (dc (nbL ls))), some (.dict (dI tsD (mdL ls))), some (.list (acc.map pD)), some (.int (i : Nat)), x5, x6, none] =
    .nx [some (docD ls), some (.dict (dc (nbL ls))), some (.dict (dI tsD (mdL ls))), some (.list ((acc ++ wvL ls R k i n).map pD)), y4, y5, y6, none]
  | [], b, k, i, n, acc, x5, x6, _, _, _, _, _ => ⟨some (.int (i : Nat)), x5, x6, by rw [show wvL ls [] k i n = [] from rfl, List.append_nil]; rfl⟩
  | l :: R, b, k, i, n, acc, x5, x6, hB, hi, ha, w, G => by
    rw [List.length_cons] at hi ha
    have t := weave_turn (acc := acc) (x5 := x5) (x6 := x6) hN (hB l (by simp)) (by omega) (by omega) w G
    have hI : nxI i l ≤ i + 1 := by unfold nxI; split <;> omega
    obtain ⟨y4, y5, y6, ih⟩ := weave_loop hN R (nxB b l) (k + 1) (nxI i l) (nxN n l) (acc ++ ((wt ls l (nxI i l), some k) :: (if notProse l = true ∧ bodyLen R = 0 then noL (mdT ls (nxI i l) (nxN n l)) else []))) (some (.int (k : Nat))) (some (lnD l)) (fun q hq => hB q (by simp [hq])) (by omega) (by
      have : (if notProse l = true ∧ bodyLen R = 0 then noL (mdT ls (nxI i l) (nxN n l)) else []).length ≤ 2 := by
        split
        · unfold noL; rw [List.length_map]; exact mdT_len _ _ _
        · simp
      rw [List.length_append, List.length_cons]; omega) w.nx (fun a h => by rw [G a (by omega), got_step ls b l R k i n w a (by omega)])
    refine ⟨y4, y5, y6, ?_⟩
    show forL _ _ (.tuple [.int (k : Nat), lnD l] :: enL R (k + 1)) _ = _
    rw [forL_go (ρ1 := [some (docD ls), some (.dict (dc (nbL ls))), some (.dict (dI tsD (mdL ls))), some (.list (acc.map pD)), some (.int (i : Nat)), some (.int (k : Nat)), some (lnD l), none]) rfl t, ih]
    rw [List.append_assoc]; rfl

/-! the index -/
def mkS (n : List Nat) : Str := ⟨n.toArray⟩
theorem mkS_list (n : List Nat) : (mkS n).cps.toList = n := rfl
theorem keyTs_dc : ∀ s : NL, keyTs (dc s) = some (s.map fun p => mkS p.1)
  | [] => rfl
  | p :: s => by
    have ih := keyTs_dc s
    show (keyTs (dc s)).map (mkS p.1 :: ·) = _
    rw [ih]; rfl
def srtN (N : List (List Nat)) : List (List Nat) := (srtT (N.map mkS)).map fun x => x.cps.toList
theorem srtN_str (N : List (List Nat)) : (srtT (N.map mkS)).map PyData.str = (srtN N).map S := by
  unfold srtN
  rw [List.map_map]
  apply List.map_congr_left
  intro x _
  exact congrArg PyData.str (by cases x; rfl)
theorem srtN_perm (N : List (List Nat)) : (srtN N).Perm N := by
  have := (srtT_perm (N.map mkS)).map fun x : Str => x.cps.toList
  rw [List.map_map] at this
  have e : (N.map ((fun x : Str => x.cps.toList) ∘ mkS)) = N := by
    conv => rhs; rw [← List.map_id N]
    apply List.map_congr_left
    intro x _; rfl
  rw [e] at this
  exact this
theorem srtN_pair (N : List (List Nat)) : (srtN N).Pairwise (· ≤ ·) := by
  unfold srtN
  rw [List.pairwise_map]
  exact (srtT_pair _).imp fun h => leS_le.mp h
def keysL (ls : List Ln) : List (List Nat) := (nbL ls).map (·.1)
def ixT (ls : List Ln) (n : List Nat) : List Nat := n ++ [58, 32] ++ lsT (ownL ls n)
def ixL (ls : List Ln) : List (List Nat) := if nbL ls = [] then [] else [] :: (srtN (keysL ls)).map (ixT ls)
theorem eqX_empty (s : NL) : eqX (.dict (dc s)) (.dict []) = .ok (.bool (decide (s = []))) := by
  have h1 : plainK (dc s) = true := List.all_eq_true.mpr fun p hp => by
    obtain ⟨q, _, rfl⟩ := List.mem_map.mp hp
    exact plain_ints 29 q.2
  have h2 : plainK ([] : List (D × D)) = true := rfl
  show (if plainK (dc s) = true ∧ plainK [] = true then Res.ok (PyData.bool (eqKL (dc s) [])) else .stk) = _
  rw [if_pos ⟨h1, h2⟩]
  cases s with
  | nil => rfl
  | cons p s => rfl
theorem own_of_key {ls : List Ln} {n : List Nat} (h : n ∈ keysL ls) : lk (nbL ls) n = some (ownL ls n) := by
  have uq : Uq (nbL ls) := nbF_uq ls (secs ls) 1 List.nodup_nil
  obtain ⟨p, hp, rfl⟩ := List.mem_map.mp h
  have := uq.mem hp
  rw [nb_own] at this ⊢
  split at this
  · cases this
  · rename_i c; rw [if_neg c]
theorem index_is {ls : List Ln} (hN : (hdN ls).length < 100) (hk : ∀ n ∈ keysL ls, n.length ≤ 20) (hl : (nbL ls).length < 63) : m_index_texts [.dict (dc (nbL ls))] = .ok (tsD (ixL ls)) := by
  have e := eqX_empty (nbL ls)
  unfold ixL
  by_cases c : nbL ls = []
  · rw [if_pos c]
    rw [decide_eq_true c] at e
    unfold m_index_texts mkFn b_index_texts
    show _ = Res.ok (PyData.list [])
    generalize dc (nbL ls) = NB at *
    generalize mBin addD _ _ = MB at *
    simp -implicitDefEqProofs [e]
  · rw [if_neg c]
    rw [decide_eq_false c] at e
    have kt := keyTs_dc (nbL ls)
    have sr : (srtT ((nbL ls).map fun p => mkS p.1)).map PyData.str = (srtN (keysL ls)).map S := by
      rw [← srtN_str]; unfold keysL; rw [List.map_map]; rfl
    have kl : ((nbL ls).map fun p => mkS p.1).length < 64 := by rw [List.length_map]; omega
    have hi : itD (.list ((srtN (keysL ls)).map S)) = .ok ((srtN (keysL ls)).map S) := rfl
    have hsl : (srtN (keysL ls)).length < 63 := by rw [(srtN_perm _).length_eq]; unfold keysL; rw [List.length_map]; exact hl
    have s1 : ((srtN (keysL ls)).map S).length ≤ sizeLine := by rw [List.length_map]; exact sl5 _ (by omega)
    have cc : compL (gSet 1) mYes (mJs [(mUn fmtD (mVar 1)), (mC (S [58, 32])), (mUn fmtD (mCall m_listed (mCons (mBin atX (mVar 0) (mVar 1)) mNil)))]) [some (.dict (dc (nbL ls))), none] ((srtN (keysL ls)).map S) = .ok ((srtN (keysL ls)).map fun n => S (ixT ls n)) := by
      refine compL_mapB S (fun n => S (ixT ls n)) _ fun n hn => ?_
      have hm : n ∈ keysL ls := (srtN_perm _).mem_iff.mp hn
      have v1 : valD (dc (nbL ls)) (.inr ⟨n.toArray⟩) = some (nsD (ownL ls n)) := by rw [valD_dc, own_of_key hm]; rfl
      have nl := hk n hm
      have ol := own_len ls n
      have hr : ∀ r ∈ ownL ls n, r < 200 := fun r hr => by have := own_le hr; omega
      have li := listed_is hr (by omega)
      have tl := lsT_len hr
      have fn : fmtD (S n) = .ok (S n) := fmtD_S (by omega)
      have fl : fmtD (S (lsT (ownL ls n))) = .ok (S (lsT (ownL ls n))) := fmtD_S (by omega)
      refine ⟨[some (.dict (dc (nbL ls))), some (S n)], rfl, rfl, ?_⟩
      have q2 : mCall m_listed (mCons (mBin atX (mVar 0) (mVar 1)) mNil) [some (.dict (dc (nbL ls))), some (S n)] = .ok (S (lsT (ownL ls n))) := by
        generalize nsD (ownL ls n) = OD at *
        generalize dc (nbL ls) = NB at *
        simp -implicitDefEqProofs [v1, li]
      have q1 : mVar 1 [some (.dict (dc (nbL ls))), some (S n)] = .ok (S n) := rfl
      have := mJs_is (ρ := [some (.dict (dc (nbL ls))), some (S n)]) [(mUn fmtD (mVar 1)), (mC (S [58, 32])), (mUn fmtD (mCall m_listed (mCons (mBin atX (mVar 0) (mVar 1)) mNil)))] [n, [58, 32], lsT (ownL ls n)] (by
        simp only [List.map_cons, List.map_nil, mUn_at, q1, q2, bind_okR, fn, fl]
        rfl) (by simp only [List.map_cons, List.map_nil, List.sum_cons, List.sum_nil, List.length_cons, List.length_nil]; omega)
      rw [this]
      unfold ixT
      simp
    have ex : tsD ([] :: (srtN (keysL ls)).map (ixT ls)) = .list ([S []] ++ (srtN (keysL ls)).map fun n => S (ixT ls n)) := by
      unfold tsD; rw [List.map_cons, List.map_map]; rfl
    have ad : addD (.list [S []]) (.list ((srtN (keysL ls)).map fun n => S (ixT ls n))) = .ok (.list ([S []] ++ (srtN (keysL ls)).map fun n => S (ixT ls n))) := by
      exact addD_list (by rw [List.length_map]; simp only [List.length_cons, List.length_nil]; omega)
    rw [ex]
    have sm : mSortT (mVar 0) [some (.dict (dc (nbL ls))), none] = .ok ((srtN (keysL ls)).map S) := by
      generalize (srtN (keysL ls)).map S = SN at *
      generalize dc (nbL ls) = NB at *
      generalize ((nbL ls).map fun p => mkS p.1) = KS at *
      simp -implicitDefEqProofs [kt, sr, kl]
    have one : (1 : Nat) ≤ sizeLine := sl5 _ (by omega)
    unfold m_index_texts mkFn b_index_texts
    generalize ([S []] ++ (srtN (keysL ls)).map fun n => S (ixT ls n)) = RS at *
    generalize ((srtN (keysL ls)).map fun n => S (ixT ls n)) = TS at *
    generalize (srtN (keysL ls)).map S = SN at *
    generalize dc (nbL ls) = NB at *
    generalize mSortT (mVar 0) = MS at *
    generalize hM : mJs [(mUn fmtD (mVar 1)), (mC (S [58, 32])), (mUn fmtD (mCall m_listed (mCons (mBin atX (mVar 0) (mVar 1)) mNil)))] = MJ at *
    simp -implicitDefEqProofs [e, sm, hi, s1, cc, ad, one]

theorem nbF_len (ls : List Ln) : ∀ (hs : List Nat) (j : Nat) (s : NL), (nbF ls hs j s).length ≤ s.length + hs.length
  | [], _, _ => Nat.le_refl _
  | h :: hs, j, s => by
    have := nbF_len ls hs (j + 1) (grow s (nameAt ls h) [j])
    have := grow_len s (nameAt ls h) [j]
    show (nbF ls hs (j + 1) _).length ≤ _
    rw [List.length_cons]; omega
theorem nbL_len (ls : List Ln) : (nbL ls).length ≤ ls.length := by
  have := nbF_len ls (secs ls) 1 []
  have := secs_len ls
  unfold nbL
  simp at *
  omega
theorem hd_mem {n : List Nat} : ∀ {ls : List Ln}, n ∈ hdN ls → .head n ∈ ls
  | [], h => by cases h
  | .head m :: R, h => by
    rcases List.mem_cons.mp (show n ∈ m :: hdN R from h) with z | z
    · rw [z]; simp
    · exact List.mem_cons_of_mem _ (hd_mem z)
  | .prose t :: R, h => List.mem_cons_of_mem _ (hd_mem (ls := R) h)
  | .code t :: R, h => List.mem_cons_of_mem _ (hd_mem (ls := R) h)
  | .use k m :: R, h => List.mem_cons_of_mem _ (hd_mem (ls := R) h)
theorem mem_hd {n : List Nat} : ∀ {ls : List Ln}, .head n ∈ ls → n ∈ hdN ls
  | [], h => by cases h
  | .head m :: R, h => by
    show n ∈ m :: hdN R
    rcases List.mem_cons.mp h with z | z
    · cases z; simp
    · exact List.mem_cons_of_mem _ (mem_hd z)
  | .prose t :: R, h => mem_hd (ls := R) (by rcases List.mem_cons.mp h with z | z; · cases z
                                             · exact z)
  | .code t :: R, h => mem_hd (ls := R) (by rcases List.mem_cons.mp h with z | z; · cases z
                                            · exact z)
  | .use k m :: R, h => mem_hd (ls := R) (by rcases List.mem_cons.mp h with z | z; · cases z
                                             · exact z)
theorem key_hd {ls : List Ln} {n : List Nat} : n ∈ keysL ls ↔ n ∈ hdN ls := by
  constructor
  · intro h
    have a := own_of_key h
    rw [nb_own] at a
    split at a
    · cases a
    · rename_i c
      obtain ⟨k, hk⟩ := List.exists_mem_of_ne_nil _ c
      obtain ⟨i, rfl⟩ : ∃ i, k = i + 1 := ⟨k - 1, by have := own_le hk; omega⟩
      exact List.mem_of_getElem? (own_mem.mp hk)
  · intro h
    obtain ⟨i, hi⟩ := List.mem_iff_getElem?.mp h
    have m := own_mem.mpr hi
    have ne : ownL ls n ≠ [] := fun z => by rw [z] at m; cases m
    have a := nb_own ls n
    rw [if_neg ne] at a
    exact List.mem_map.mpr ⟨_, lk_mem a, rfl⟩
theorem weave_is {ls : List Ln} {own : Int} (I : WdI ls own) (hl : ls.length ≤ 61) : m_weave [docD ls] = .ok (.list ((wvL ls ls 0 0 [] ++ noL (ixL ls)).map pD)) := by
  have w := I.wfL
  have hB := LnB_all I
  have hdl := hd_len ls
  have nl := nbL_len ls
  have ni := numbers_is (ls := ls) (by omega)
  have mi := made_is (ls := ls) (by omega) w
  have ii := index_is (ls := ls) (by omega) (fun n hn => hB _ (hd_mem (key_hd.mp hn))) (by omega)
  obtain ⟨y4, y5, y6, e⟩ := weave_loop (ls := ls) (by omega) ls false 0 0 [] [] none none hB (by omega) (by simp; omega) w (fun a _ => (got_0 ls [] a).symm)
  have e : forL (gTupD (lenG 2 (gConsD (gSet 5) (gConsD (gSet 6) gNilD)))) lb_weave_0 (enL ls 0) [some (docD ls), some (.dict (dc (nbL ls))), some (.dict (dI tsD (mdL ls))), some (.list []), some (.int 0), none, none, none] = .nx [some (docD ls), some (.dict (dc (nbL ls))), some (.dict (dI tsD (mdL ls))), some (.list ((wvL ls ls 0 0 []).map pD)), y4, y5, y6, none] := e
  have wl : ∀ (R : List Ln) (k i : Nat) (n : List Nat), (wvL ls R k i n).length ≤ 3 * R.length := by
    intro R
    induction R with
    | nil => intro k i n; exact Nat.le_refl _
    | cons l R ih =>
      intro k i n
      have := ih (k + 1) (nxI i l) (nxN n l)
      have h2 : (if notProse l = true ∧ bodyLen R = 0 then noL (mdT ls (nxI i l) (nxN n l)) else []).length ≤ 2 := by
        split
        · unfold noL; rw [List.length_map]; exact mdT_len _ _ _
        · simp
      show (_ :: (_ ++ _)).length ≤ _
      rw [List.length_cons, List.length_append, List.length_cons]
      omega
  have wl := wl ls 0 0 []
  have il : (ixL ls).length ≤ 100 := by
    unfold ixL
    split
    · simp
    · rw [List.length_cons, List.length_map, (srtN_perm _).length_eq]; unfold keysL; rw [List.length_map]; omega
  have ed := enumX_doc ls
  have hi : itD (tsD (ixL ls)) = .ok ((ixL ls).map S) := rfl
  have s1 : ((ixL ls).map S).length ≤ sizeLine := by rw [List.length_map]; exact sl5 _ (by omega)
  have c : compL (gSet 7) mYes (mTup (mCons (mVar 7) (mCons (mC .none) mNil))) [some (docD ls), some (.dict (dc (nbL ls))), some (.dict (dI tsD (mdL ls))), some (.list ((wvL ls ls 0 0 []).map pD)), y4, y5, y6, none] ((ixL ls).map S) = .ok ((ixL ls).map fun t => pD (t, none)) := by
    refine compL_mapB S (fun t => pD (t, none)) (ixL ls) fun t ht => ?_
    have s2' : (2 : Nat) ≤ sizeLine := sl5 _ (by omega)
    refine ⟨[some (docD ls), some (.dict (dc (nbL ls))), some (.dict (dI tsD (mdL ls))), some (.list ((wvL ls ls 0 0 []).map pD)), y4, y5, y6, some (S t)], rfl, rfl, ?_⟩
    generalize (wvL ls ls 0 0 []).map pD = WV
    generalize dI tsD (mdL ls) = MD
    generalize dc (nbL ls) = NB
    generalize docD ls = DD
    simp -implicitDefEqProofs [s2']
    rfl
  have ep : (wvL ls ls 0 0 [] ++ noL (ixL ls)).map pD = (wvL ls ls 0 0 []).map pD ++ (ixL ls).map fun t => pD (t, none) := by
    rw [List.map_append]; unfold noL; rw [List.map_map]; rfl
  have s2 : ((wvL ls ls 0 0 []).map pD).length + ((ixL ls).map fun t => pD (t, none)).length ≤ sizeLine := by
    rw [List.length_map, List.length_map]; exact sl5 _ (by omega)
  rw [ep]
  unfold m_weave mkFn b_weave
  generalize (ixL ls).map (fun t => pD (t, none)) = PS at *
  generalize (ixL ls).map S = TS at *
  generalize tsD (ixL ls) = TD at *
  generalize (wvL ls ls 0 0 []).map pD = WV at *
  generalize dI tsD (mdL ls) = MD at *
  generalize dc (nbL ls) = NB at *
  generalize enL ls 0 = EL at *
  generalize docD ls = DD at *
  simp -implicitDefEqProofs [ni, mi, ed, e, ii, hi, s1, c, s2]

theorem wv_len (ls : List Ln) : ∀ (R : List Ln) (k i : Nat) (n : List Nat), (wvL ls R k i n).length ≤ 3 * R.length := by
  intro R
  induction R with
  | nil => intro k i n; exact Nat.le_refl _
  | cons l R ih =>
    intro k i n
    have := ih (k + 1) (nxI i l) (nxN n l)
    have h2 : (if notProse l = true ∧ bodyLen R = 0 then noL (mdT ls (nxI i l) (nxN n l)) else []).length ≤ 2 := by
      split
      · unfold noL; rw [List.length_map]; exact mdT_len _ _ _
      · simp
    show (_ :: (_ ++ _)).length ≤ _
    rw [List.length_cons, List.length_append, List.length_cons]
    omega
theorem ix_len (ls : List Ln) : (ixL ls).length ≤ 1 + (nbL ls).length := by
  unfold ixL
  split
  · simp
  · rw [List.length_cons, List.length_map, (srtN_perm _).length_eq]; unfold keysL; rw [List.length_map]; omega

/-! the document as it is written -/
def wl : Ln → List Nat
  | .head n => 61 :: 32 :: n
  | .use k n => 124 :: (List.replicate k 32 ++ (60 :: n ++ [62]))
  | .code t => 124 :: t
  | .prose t => t
def goodW (l : Ln) : Bool := isS (m_write_line [lnD l]) (wl l) && (decide ((wl l).length ≤ 20) && !decide (10 ∈ wl l))
theorem w_heads : ∀ i : Nat, i < 5 → goodW (.head (nm i)) = true := by decide +kernel
theorem w_uses : ∀ k : Nat, k < 4 → ∀ n ∈ N6, goodW (.use k n) = true := by decide +kernel
theorem w_codes : ∀ t ∈ W10, goodW (.code t) = true := by decide +kernel
theorem w_prose : ∀ t ∈ P5, goodW (.prose t) = true := by decide +kernel
structure WOk (l : Ln) : Prop where
  w : m_write_line [lnD l] = .ok (S (wl l))
  n : (wl l).length ≤ 20
  z : 10 ∉ wl l
theorem wok {l : Ln} (h : LnW l) : WOk l := by
  have g : goodW l = true := by
    cases l with
    | head n => obtain ⟨j, hj, rfl⟩ := h; exact w_heads j hj
    | prose t => exact w_prose t h
    | code t => exact w_codes t h
    | use k m => exact w_uses k (by have := h.1; omega) m h.2
  unfold goodW at g
  simp only [Bool.and_eq_true, decide_eq_true_eq, Bool.not_eq_true', decide_eq_false_iff_not] at g
  exact ⟨isS_ok g.1, g.2.1, g.2.2⟩
def txD (ls : List Ln) : List Nat := TL.joinL [10] (ls.map wl)
theorem sum_leB {B : Nat} : ∀ {ls : List (List Nat)}, (∀ l ∈ ls, l.length ≤ B) → (ls.map List.length).sum ≤ B * ls.length
  | [], _ => by simp
  | l :: ls, h => by
    have := h l (by simp)
    have := sum_leB (ls := ls) fun m hm => h m (by simp [hm])
    simp only [List.map_cons, List.sum_cons, List.length_cons]
    rw [Nat.mul_add]; omega
theorem joinL_len : ∀ (ls : List (List Nat)), (TL.joinL [10] ls).length ≤ (ls.map List.length).sum + ls.length
  | [] => by simp [TL.joinL]
  | [p] => by simp [TL.joinL]
  | p :: q :: r => by
    have := joinL_len (q :: r)
    have e : TL.joinL [10] (p :: q :: r) = p ++ ([10] ++ TL.joinL [10] (q :: r)) := by simp [TL.joinL]
    rw [e]
    simp only [List.length_append, List.map_cons, List.sum_cons, List.length_cons, List.length_nil] at *
    omega
theorem wls_len {ls : List Ln} (h : ∀ l ∈ ls, WOk l) (hn : ls.length ≤ 1000) : ((ls.map wl).map List.length).sum ≤ 20000 := by
  have := sum_leB (B := 20) (ls := ls.map wl) fun l hl => by
    obtain ⟨x, hx, rfl⟩ := List.mem_map.mp hl
    exact (h x hx).n
  rw [List.length_map] at this
  omega
theorem write_is {ls : List Ln} (h : ∀ l ∈ ls, WOk l) (hn : ls.length ≤ 1000) : m_write [docD ls] = .ok (S (txD ls)) := by
  have hc : compL (gSet 1) mYes (mCall m_write_line (mCons (mVar 1) mNil)) [some (docD ls), none] (ls.map lnD) = .ok ((ls.map wl).map S) := by
    have := compL_mapB (g := gSet 1) (t := mYes) (m := mCall m_write_line (mCons (mVar 1) mNil)) (ρ := [some (docD ls), none]) lnD (fun l => S (wl l)) ls (fun l hl => ⟨_, gSet_at _ _ _, rfl, by simp -implicitDefEqProofs [(h l hl).w]⟩)
    rw [this, List.map_map]; rfl
  have hw := wls_len h hn
  have hj : joinD ⟨[10].toArray⟩ [.list ((ls.map wl).map S)] = .ok (S (txD ls)) := joinD_S (by rw [List.length_map]; simp only [List.length_cons, List.length_nil]; omega)
  have it : itD (docD ls) = .ok (ls.map lnD) := rfl
  have hl : (ls.map lnD).length ≤ sizeLine := by rw [List.length_map]; exact sl5 _ (by omega)
  unfold m_write mkFn b_write
  generalize (ls.map wl).map S = WS at *
  generalize ls.map lnD = LS at *
  generalize docD ls = DD at *
  simp -implicitDefEqProofs [hc, it, hl, hj]
theorem split_is {ls : List Ln} (h : ∀ l ∈ ls, WOk l) (hn : ls.length ≤ 1000) (h0 : ls ≠ []) : s1D splitD ⟨(txD ls).toArray⟩ [S [10]] = .ok (.list ((ls.map wl).map S)) := by
  have hl : (txD ls).length + 2 ≤ sizeLine := by
    have a := joinL_len (ls.map wl)
    have b := wls_len h hn
    rw [List.length_map] at a
    rw [sl_eq]
    show (TL.joinL [10] (ls.map wl)).length + 2 ≤ 16777216
    omega
  have hj : (⟨(txD ls).toArray⟩ : Str) = Txt.join ⟨[10].toArray⟩ ((ls.map wl).map fun l => (⟨l.toArray⟩ : Str)) := (join_mk [10] (ls.map wl)).symm
  have hp : Txt.split ⟨(txD ls).toArray⟩ ⟨[10].toArray⟩ = (ls.map wl).map fun l => (⟨l.toArray⟩ : Str) := by
    rw [hj]
    refine TL.split_join (s := 10) (S := []) rfl (by decide +kernel) (by simpa using h0) fun p hp => ?_
    obtain ⟨l, hl, rfl⟩ := List.mem_map.mp hp
    obtain ⟨x, hx, rfl⟩ := List.mem_map.mp hl
    exact (h x hx).z
  have hc : ((⟨[10].toArray⟩ : Str).length == 0) = false ∧ (⟨(txD ls).toArray⟩ : Str).length + 2 ≤ sizeLine := ⟨rfl, by rw [len_mk]; exact hl⟩
  simp only [s1D, splitD, if_pos hc, hp, List.map_map]
  rfl

/-! where the lines of a document stand in its woven text -/
def wvT (ls : List Ln) : WL := wvL ls ls 0 0 [] ++ noL (ixL ls)
theorem noL_none {ts : List (List Nat)} {p : List Nat × Option Nat} (h : p ∈ noL ts) : p.2 = none := by
  obtain ⟨t, _, rfl⟩ := List.mem_map.mp h; rfl
theorem wvL_cons (ls : List Ln) (l : Ln) (R : List Ln) (k i : Nat) (n : List Nat) : wvL ls (l :: R) k i n = (wt ls l (nxI i l), some k) :: ((if notProse l = true ∧ bodyLen R = 0 then noL (mdT ls (nxI i l) (nxN n l)) else []) ++ wvL ls R (k + 1) (nxI i l) (nxN n l)) := rfl
theorem if_none {ls : List Ln} {l : Ln} {R : List Ln} {i : Nat} {n : List Nat} {p : List Nat × Option Nat} (h : p ∈ (if notProse l = true ∧ bodyLen R = 0 then noL (mdT ls i n) else [])) : p.2 = none := by
  split at h
  · exact noL_none h
  · cases h
theorem nxI_le (i : Nat) (l : Ln) : nxI i l ≤ i + 1 := by unfold nxI; split <;> omega
theorem wvL_mem (ls : List Ln) : ∀ (R : List Ln) (k i : Nat) (n : List Nat) (p : List Nat × Option Nat), p ∈ wvL ls R k i n → ∀ a, p.2 = some a → k ≤ a ∧ ∃ l j, R[a - k]? = some l ∧ p.1 = wt ls l j ∧ j ≤ i + R.length
  | [], _, _, _, _, h, _, _ => by cases h
  | l :: R, k, i, n, p, h, a, e => by
    have ni := nxI_le i l
    rw [wvL_cons] at h
    rcases List.mem_cons.mp h with rfl | h
    · cases e
      exact ⟨Nat.le_refl _, l, nxI i l, by rw [Nat.sub_self]; rfl, rfl, by rw [List.length_cons]; omega⟩
    · rcases List.mem_append.mp h with h | h
      · rw [if_none h] at e; cases e
      · obtain ⟨h1, l', j, h2, h3, h4⟩ := wvL_mem ls R (k + 1) _ _ p h a e
        refine ⟨by omega, l', j, ?_, h3, by rw [List.length_cons]; omega⟩
        rw [show a - k = (a - (k + 1)) + 1 by omega, List.getElem?_cons_succ]
        exact h2
theorem wvL_pair (ls : List Ln) : ∀ (R : List Ln) (k i : Nat) (n : List Nat), (wvL ls R k i n).Pairwise fun p q => ∀ a, p.2 = some a → q.2 ≠ some a
  | [], _, _, _ => List.Pairwise.nil
  | l :: R, k, i, n => by
    rw [wvL_cons, List.pairwise_cons]
    refine ⟨fun q hq a e z => ?_, ?_⟩
    · cases e
      rcases List.mem_append.mp hq with h | h
      · rw [if_none h] at z; cases z
      · have := (wvL_mem ls R (k + 1) _ _ q h _ z).1; omega
    · rw [List.pairwise_append]
      refine ⟨List.pairwise_of_forall_mem_list fun p hp q hq a e => (by rw [if_none hp] at e; cases e), wvL_pair ls R _ _ _, fun p hp q hq a e => (by rw [if_none hp] at e; cases e)⟩
theorem wvL_at (ls : List Ln) : ∀ (R : List Ln) (k i : Nat) (n : List Nat) (a : Nat) (l : Ln), R[a]? = some l → ∃ p ∈ wvL ls R k i n, p.2 = some (k + a)
  | [], _, _, _, _, _, h => by simp at h
  | l :: R, k, i, n, 0, l', h => ⟨_, by rw [wvL_cons]; exact List.mem_cons_self, rfl⟩
  | l :: R, k, i, n, a + 1, l', h => by
    obtain ⟨p, hp, e⟩ := wvL_at ls R (k + 1) (nxI i l) (nxN n l) a l' (by simpa using h)
    exact ⟨p, by rw [wvL_cons]; exact List.mem_cons_of_mem _ (List.mem_append_right _ hp), by rw [e]; congr 1; omega⟩
theorem wvT_mem {ls : List Ln} {p : List Nat × Option Nat} (hp : p ∈ wvT ls) {a : Nat} (e : p.2 = some a) : ∃ l j, ls[a]? = some l ∧ p.1 = wt ls l j ∧ j ≤ ls.length := by
  rcases List.mem_append.mp hp with h | h
  · obtain ⟨_, l, j, h1, h2, h3⟩ := wvL_mem ls ls 0 0 [] p h a e
    exact ⟨l, j, h1, h2, by omega⟩
  · rw [noL_none h] at e; cases e
theorem wvT_pair (ls : List Ln) : (wvT ls).Pairwise fun p q => ∀ a, p.2 = some a → q.2 ≠ some a := by
  unfold wvT
  rw [List.pairwise_append]
  refine ⟨wvL_pair _ _ _ _ _, List.pairwise_of_forall_mem_list fun p hp q hq a e => (by rw [noL_none hp] at e; cases e), fun p hp q hq a e => (by rw [noL_none hq]; exact fun z => by cases z)⟩
theorem wvT_at {ls : List Ln} {a : Nat} {l : Ln} (h : ls[a]? = some l) : ∃ (at' : Nat) (t : List Nat), (wvT ls)[at']? = some (t, some a) := by
  obtain ⟨p, hp, e⟩ := wvL_at ls ls 0 0 [] a l h
  rw [Nat.zero_add] at e
  obtain ⟨i, hi⟩ := List.mem_iff_getElem?.mp (show p ∈ wvT ls from List.mem_append_left _ hp)
  exact ⟨i, p.1, by rw [hi, ← e]⟩
theorem wvT_inj {ls : List Ln} {x y : Nat} {s t : List Nat} {a : Nat} (hx : (wvT ls)[x]? = some (s, some a)) (hy : (wvT ls)[y]? = some (t, some a)) : x = y := by
  have key : ∀ (x y : Nat) (s t : List Nat), (wvT ls)[x]? = some (s, some a) → (wvT ls)[y]? = some (t, some a) → ¬ x < y := fun x y s t hx hy c => by
    obtain ⟨x1, x2⟩ := List.getElem?_eq_some_iff.mp hx
    obtain ⟨y1, y2⟩ := List.getElem?_eq_some_iff.mp hy
    have := List.pairwise_iff_getElem.mp (wvT_pair ls) x y x1 y1 c a (by rw [x2])
    exact this (by rw [y2])
  have h1 := key x y s t hx hy
  have h2 := key y x t s hy hx
  omega
theorem wvT_len (ls : List Ln) : (wvT ls).length ≤ 3 * ls.length + 1 + (nbL ls).length := by
  have := ix_len ls
  have := wv_len ls ls 0 0 []
  unfold wvT
  rw [List.length_append]; unfold noL; rw [List.length_map]; omega
/-! how a line stands in its woven line -/
def fsO : Ln → Option Nat
  | .prose _ => some 0
  | .code _ => some 1
  | .head _ => some 2
  | .use _ _ => none
def fsD (o : Option Nat) : D := match o with | some f => .int (f : Nat) | none => .none
def shf (l : Ln) (t : List Nat) : Int := match l with
  | .prose _ => 0
  | .code _ => if t = [] then -1 else 3
  | .head n => (t.length : Int) - (n.length : Int) - 2
  | .use _ _ => 0
theorem shift_is {l : Ln} {t : List Nat} (hB : LnB l) (ht : t.length ≤ 1000) : m_woven_shift [lnD l, S t] = .ok (.tuple [fsD (fsO l), .int (shf l t)]) := by
  have l0 := ln0 l
  have kh := headK l
  have kp := proseK l
  have kc := codeK l
  have s2' : (2 : Nat) ≤ sizeLine := sl5 _ (by omega)
  have m1 : subD c_MARGIN (.int 1) = .ok (.int 3) := rfl
  unfold m_woven_shift mkFn b_woven_shift
  cases l with
  | head n =>
    have kh : eqD (S (lnK (.head n))) (S [104, 101, 97, 100]) = .ok (.bool true) := kh
    have kp : eqD (S (lnK (.head n))) (S [112, 114, 111, 115, 101]) = .ok (.bool false) := kp
    have kc : eqD (S (lnK (.head n))) (S [99, 111, 100, 101]) = .ok (.bool false) := kc
    have l1 : atD (lnD (.head n)) (.int 1) = .ok (S n) := atD_tuple (k := 1) rfl
    have hn : n.length ≤ 20 := hB
    have ln1 : lenD (S n) = .ok (.int (n.length : Nat)) := lenD_S (by omega)
    have ln2 : lenD (S t) = .ok (.int (t.length : Nat)) := lenD_S (by omega)
    show _ = Res.ok (PyData.tuple [.int 2, .int ((t.length : Int) - (n.length : Int) - 2)])
    generalize lnD (.head n) = LD at *
    generalize S t = T at *
    generalize S n = NN at *
    simp -implicitDefEqProofs [l0, kh, kp, kc, l1, ln1, ln2, s2']
  | prose q =>
    have kp : eqD (S (lnK (.prose q))) (S [112, 114, 111, 115, 101]) = .ok (.bool true) := kp
    show _ = Res.ok (PyData.tuple [.int 0, .int 0])
    generalize lnD (.prose q) = LD at *
    generalize S t = T at *
    simp -implicitDefEqProofs [l0, kp, s2']
  | code q =>
    have kp : eqD (S (lnK (.code q))) (S [112, 114, 111, 115, 101]) = .ok (.bool false) := kp
    have kc : eqD (S (lnK (.code q))) (S [99, 111, 100, 101]) = .ok (.bool true) := kc
    show _ = Res.ok (PyData.tuple [.int 1, .int (if t = [] then -1 else 3)])
    by_cases c : t = []
    · have ne : neD (S t) (S []) = .ok (.bool false) := by rw [neD_S, c]; rfl
      rw [if_pos c]
      generalize lnD (.code q) = LD at *
      generalize S t = T at *
      simp -implicitDefEqProofs [l0, kp, kc, ne, s2']
    · have ne : neD (S t) (S []) = .ok (.bool true) := by
        rw [neD_S]
        cases t with
        | nil => exact absurd rfl c
        | cons a r => rfl
      rw [if_neg c]
      generalize lnD (.code q) = LD at *
      generalize S t = T at *
      simp -implicitDefEqProofs [l0, kp, kc, ne, m1, s2']
  | use q n =>
    have kh : eqD (S (lnK (.use q n))) (S [104, 101, 97, 100]) = .ok (.bool false) := kh
    have kp : eqD (S (lnK (.use q n))) (S [112, 114, 111, 115, 101]) = .ok (.bool false) := kp
    have kc : eqD (S (lnK (.use q n))) (S [99, 111, 100, 101]) = .ok (.bool false) := kc
    show _ = Res.ok (PyData.tuple [.none, .int 0])
    generalize lnD (.use q n) = LD at *
    generalize S t = T at *
    simp -implicitDefEqProofs [l0, kh, kp, kc, s2']
theorem line_split {ls : List Ln} {l : Ln} {j f : Nat} (h : fsO l = some f) : ∃ pre wp own, wt ls l j = pre ++ own ∧ wl l = wp ++ own ∧ wp.length = f ∧ shf l (wt ls l j) = (pre.length : Int) - (f : Int) := by
  cases l with
  | head n => cases h; exact ⟨[91] ++ dg j ++ [93, 32], [61, 32], n, rfl, rfl, rfl, by
      show ((([91] ++ dg j ++ [93, 32] ++ n).length : Int) - (n.length : Int) - 2) = _
      rw [List.length_append]; omega⟩
  | prose t => cases h; exact ⟨[], [], t, rfl, rfl, rfl, rfl⟩
  | code t =>
    cases h
    by_cases c : t = []
    · subst c
      exact ⟨[], [124], [], rfl, rfl, rfl, by rfl⟩
    · refine ⟨[32, 32, 32, 32], [124], t, ?_, rfl, rfl, ?_⟩
      · show (if t = [] then [] else [32, 32, 32, 32] ++ t) = _
        rw [if_neg c]
      · show (if (if t = [] then [] else [32, 32, 32, 32] ++ t) = [] then (-1 : Int) else 3) = _
        rw [if_neg c, if_neg (by simp)]; rfl
  | use k n => cases h
theorem wt_len {ls : List Ln} {l : Ln} {j : Nat} (hN : (hdN ls).length < 200) (hB : LnB l) (hj : j < 200) : (wt ls l j).length ≤ 60 := by
  have dl := dg_len hj
  cases l with
  | head n =>
    have : n.length ≤ 20 := hB
    show ([91] ++ dg j ++ [93, 32] ++ n).length ≤ 60
    simp; omega
  | prose t => exact Nat.le_trans hB (by omega)
  | code t =>
    have : t.length ≤ 40 := hB
    show (if t = [] then [] else [32, 32, 32, 32] ++ t).length ≤ 60
    split <;> simp; omega
  | use k n =>
    obtain ⟨h1, h2⟩ : k ≤ 3 ∧ n.length ≤ 20 := hB
    have : (sh (ownL ls n)).length ≤ 5 := by
      unfold sh
      cases e : (ownL ls n).head? with
      | none => exact (by decide : (1 : Nat) ≤ 5)
      | some a => exact dg_len (by have := own_le (List.mem_of_head? e); omega)
    show ([32, 32, 32, 32] ++ List.replicate k 32 ++ [60] ++ n ++ [32] ++ sh (ownL ls n) ++ [62]).length ≤ 60
    simp; omega

/-! from one text to the other -/
theorem forL_rt {g : D → WD.Env → Option WD.Env} {b : WD.Env → Out} {d : D} {ds : List D} {ρ ρ1 : WD.Env} {r : D} (h1 : g d ρ = some ρ1) (h2 : b ρ1 = .rt r) : forL g b (d :: ds) ρ = .rt r := by
  conv => lhs; unfold forL
  rw [h1]
  simp only [h2]
theorem md_lens {ls : List Ln} (hN : (hdN ls).length < 100) {j : Nat} {n : List Nat} : ∀ t ∈ mdT ls j n, t.length ≤ 1000 := fun t ht => by
  have uL := us_len ls n
  have ul := lsT_len (p := usN ls n) fun r hr => by have := us_le hr; omega
  rcases List.mem_append.mp ht with h | h
  · unfold usedT at h
    split at h
    · rw [List.mem_singleton.mp h]
      simp only [List.length_append, tUsed, List.length_cons, List.length_nil]; omega
    · cases h
  · unfold goesT at h
    cases e : nxt (ownL ls n) j with
    | none => rw [e] at h; cases h
    | some m =>
      rw [e] at h
      have := dg_len (n := m) (by have := own_le (nxt_mem _ _ _ e); omega)
      rw [List.mem_singleton.mp h]
      simp only [List.length_append, tGoes, List.length_cons, List.length_nil]; omega
theorem wvL_lens {ls : List Ln} (hN : (hdN ls).length < 100) : ∀ (R : List Ln) (k i : Nat) (n : List Nat), (∀ l ∈ R, LnB l) → i + R.length < 200 → ∀ p ∈ wvL ls R k i n, p.1.length ≤ 1000
  | [], _, _, _, _, _, _, h => by cases h
  | l :: R, k, i, n, hB, hi, p, h => by
    have ni := nxI_le i l
    rw [List.length_cons] at hi
    rw [wvL_cons] at h
    rcases List.mem_cons.mp h with rfl | h
    · exact Nat.le_trans (wt_len (by omega) (hB l (by simp)) (by omega)) (by omega)
    · rcases List.mem_append.mp h with h | h
      · split at h
        · obtain ⟨t, ht, rfl⟩ := List.mem_map.mp h
          exact md_lens hN t ht
        · cases h
      · exact wvL_lens hN R _ _ _ (fun m hm => hB m (by simp [hm])) (by omega) p h
theorem wvT_lens {ls : List Ln} (hl : ls.length < 100) (hB : ∀ l ∈ ls, LnB l) : ∀ p ∈ wvT ls, p.1.length ≤ 1000 := fun p h => by
  have hdl := hd_len ls
  rcases List.mem_append.mp h with h | h
  · exact wvL_lens (by omega) ls 0 0 [] hB (by omega) p h
  · obtain ⟨t, ht, rfl⟩ := List.mem_map.mp h
    unfold ixL at ht
    split at ht
    · cases ht
    · rcases List.mem_cons.mp ht with rfl | ht
      · exact Nat.zero_le _
      · obtain ⟨n, hn, rfl⟩ := List.mem_map.mp ht
        have hk : n ∈ keysL ls := (srtN_perm _).mem_iff.mp hn
        have : n.length ≤ 20 := hB _ (hd_mem (key_hd.mp hk))
        have ol := own_len ls n
        have := lsT_len (p := ownL ls n) fun r hr => by have := own_le hr; omega
        show (ixT ls n).length ≤ 1000
        unfold ixT
        simp only [List.length_append, List.length_cons, List.length_nil]; omega
def oD (o : Option Nat) : D := match o with | some k => .int (k : Nat) | none => .none
theorem eq_oD (o : Option Nat) (a : Nat) : eqD (oD o) (.int (a : Nat)) = .ok (.bool (decide (o = some a))) := by
  cases o with
  | none => rfl
  | some b =>
    show eqD (.int (b : Nat)) (.int (a : Nat)) = _
    rw [eqD_int]
    congr 2
    rw [Bool.eq_iff_iff]
    simp
    omega
def enW : WL → Nat → List D
  | [], _ => []
  | p :: W, k => .tuple [.int (k : Nat), pD p] :: enW W (k + 1)
theorem enW_is : ∀ (W : WL) (k : Nat), ((W.map pD).zipIdx k).map (fun p => PyData.tuple [.int (p.2 : Int), p.1]) = enW W k
  | [], _ => rfl
  | p :: W, k => by rw [List.map_cons, List.zipIdx_cons, List.map_cons, enW_is W (k + 1)]; rfl
theorem enumX_wl (W : WL) : enumXD [.list (W.map pD)] = .ok (enW W 0) := by rw [← enW_is]; rfl
def twD (o : Option Nat) (at' : Nat) (sf : Int) (c : Int) : D := match o with
  | none => .none
  | some f => if c < (f : Int) then .none else .tuple [.int (at' : Nat), .int (c + sf)]
theorem tw_loop {ls : List Ln} {a : Nat} {l : Ln} (hl : ls[a]? = some l) (hB : LnB l) {t : List Nat} (ht : t.length ≤ 1000) (c : Int) : ∀ (W : WL) (k at' : Nat) (x3 x4 x5 x6 x7 : Option D), W[at']? = some (t, some a) → (∀ y, y < at' → ∀ q, W[y]? = some q → q.2 ≠ some a) →
    forL (gTupD (lenG 2 (gConsD (gSet 3) (gConsD (gTupD (lenG 2 (gConsD (gSet 4) (gConsD (gSet 5) gNilD)))) gNilD)))) lb_to_woven_0 (enW W k) [some (docD ls), some (.int (a : Nat)), some (.int c), x3, x4, x5, x6, x7] = .rt (twD (fsO l) (k + at') (shf l t) c)
  | [], k, at', x3, x4, x5, x6, x7, h, _ => by simp at h
  | p :: W, k, 0, x3, x4, x5, x6, x7, h, _ => by
    have h : p = (t, some a) := by simpa using h
    subst h
    have da := doc_at hl
    have si := shift_is (l := l) hB ht
    have ee := eq_oD (some a) a
    rw [decide_eq_true rfl] at ee
    have ee : eqD (.int (a : Nat)) (.int (a : Nat)) = .ok (.bool true) := ee
    have s2' : (2 : Nat) ≤ sizeLine := sl5 _ (by omega)
    refine forL_rt (ρ1 := [some (docD ls), some (.int (a : Nat)), some (.int c), some (.int (k : Nat)), some (S t), some (.int (a : Nat)), x6, x7]) rfl ?_
    unfold lb_to_woven_0
    show _ = Out.rt (twD (fsO l) k (shf l t) c)
    generalize shf l t = SF at *
    generalize lnD l = LD at *
    generalize S t = T at *
    generalize docD ls = DD at *
    generalize (a : Int) = A at *
    cases e : fsO l with
    | none =>
      rw [e] at si
      have si : m_woven_shift [LD, T] = .ok (.tuple [.none, .int SF]) := si
      have g : ∀ x6 x7 : Option D, gTupD (lenG 2 (gConsD (gSet 6) (gConsD (gSet 7) gNilD))) (.tuple [.none, .int SF]) [some DD, some (.int A), some (.int c), some (.int (k : Nat)), some T, some (.int A), x6, x7] = some [some DD, some (.int A), some (.int c), some (.int (k : Nat)), some T, some (.int A), some .none, some (.int SF)] := fun _ _ => rfl
      simp -implicitDefEqProofs [ee, da, si, g, isNoneD, mIsN, twD]
    | some f =>
      rw [e] at si
      have si : m_woven_shift [LD, T] = .ok (.tuple [.int (f : Nat), .int SF]) := si
      have g : ∀ x6 x7 : Option D, gTupD (lenG 2 (gConsD (gSet 6) (gConsD (gSet 7) gNilD))) (.tuple [.int (f : Nat), .int SF]) [some DD, some (.int A), some (.int c), some (.int (k : Nat)), some T, some (.int A), x6, x7] = some [some DD, some (.int A), some (.int c), some (.int (k : Nat)), some T, some (.int A), some (.int (f : Nat)), some (.int SF)] := fun _ _ => rfl
      by_cases q : c < (f : Int)
      · have q2 : ltI c (f : Nat) = true := by unfold ltI; exact decide_eq_true q
        simp -implicitDefEqProofs [ee, da, si, g, isNoneD, mIsN, twD, q, q2]
      · have q2 : ltI c (f : Nat) = false := by unfold ltI; exact decide_eq_false q
        simp -implicitDefEqProofs [ee, da, si, g, isNoneD, mIsN, twD, q, q2, s2']
  | p :: W, k, at' + 1, x3, x4, x5, x6, x7, h, hn => by
    have h0 := hn 0 (by omega) p rfl
    have ee := eq_oD p.2 a
    rw [decide_eq_false h0] at ee
    have ih := tw_loop hl hB ht c W (k + 1) at' (some (.int (k : Nat))) (some (S p.1)) (some (oD p.2)) x6 x7 (by simpa using h) fun y hy q hq => hn (y + 1) (by omega) q (by simpa using hq)
    have step : lb_to_woven_0 [some (docD ls), some (.int (a : Nat)), some (.int c), some (.int (k : Nat)), some (S p.1), some (oD p.2), x6, x7] = .nx [some (docD ls), some (.int (a : Nat)), some (.int c), some (.int (k : Nat)), some (S p.1), some (oD p.2), x6, x7] := by
      unfold lb_to_woven_0
      generalize oD p.2 = O at *
      generalize docD ls = DD at *
      generalize S p.1 = T at *
      simp -implicitDefEqProofs [ee]
    show forL _ _ (.tuple [.int (k : Nat), pD p] :: enW W (k + 1)) _ = _
    rw [forL_go (ρ1 := [some (docD ls), some (.int (a : Nat)), some (.int c), some (.int (k : Nat)), some (S p.1), some (oD p.2), x6, x7]) rfl step, ih]
    rw [show k + 1 + at' = k + (at' + 1) by omega]
theorem to_woven_is {ls : List Ln} {own : Int} (I : WdI ls own) (hl : ls.length ≤ 61) {at' : Nat} {t : List Nat} {a : Nat} {l : Ln} (hw : (wvT ls)[at']? = some (t, some a)) (ha : ls[a]? = some l) (c : Int) : m_to_woven [docD ls, .int (a : Nat), .int c] = .ok (twD (fsO l) at' (shf l t) c) := by
  have hB := LnB_all I
  have we : m_weave [docD ls] = .ok (.list ((wvT ls).map pD)) := weave_is I hl
  have tl := wvT_lens (by omega) hB _ (List.mem_of_getElem? hw)
  have lp := tw_loop ha (hB l (List.mem_of_getElem? ha)) tl c (wvT ls) 0 at' none none none none none hw fun y hy q hq e => by
    have : (wvT ls)[y]? = some (q.1, some a) := by rw [hq, ← e]
    have := wvT_inj this hw
    omega
  rw [Nat.zero_add] at lp
  have en := enumX_wl (wvT ls)
  unfold m_to_woven mkFn b_to_woven
  generalize enW (wvT ls) 0 = EN at *
  generalize (wvT ls).map pD = WV at *
  generalize docD ls = DD at *
  simp -implicitDefEqProofs [we, en, lp]
def fwD (o : Option Nat) (a : Nat) (sf : Int) (c : Int) : D := match o with
  | none => .none
  | some f => if c - sf < (f : Int) then .none else .tuple [.int (a : Nat), .int (c - sf)]
theorem from_none {ls : List Ln} {own : Int} (I : WdI ls own) (hl : ls.length ≤ 61) {at' : Nat} {t : List Nat} (hw : (wvT ls)[at']? = some (t, none)) (c : Int) : m_from_woven [docD ls, .int (at' : Nat), .int c] = .ok .none := by
  have we : m_weave [docD ls] = .ok (.list ((wvT ls).map pD)) := weave_is I hl
  have ga : atD (.list ((wvT ls).map pD)) (.int (at' : Nat)) = .ok (.tuple [S t, .none]) := atD_list (k := at') (by rw [List.getElem?_map, hw]; rfl)
  unfold m_from_woven mkFn b_from_woven
  generalize (wvT ls).map pD = WV at *
  generalize docD ls = DD at *
  generalize S t = T at *
  have g : gTupD (lenG 2 (gConsD (gSet 3) (gConsD (gSet 4) gNilD))) (.tuple [T, .none]) [some DD, some (.int (at' : Nat)), some (.int c), none, none, none, none] = some [some DD, some (.int (at' : Nat)), some (.int c), some T, some .none, none, none] := rfl
  simp -implicitDefEqProofs [we, ga, g, isNoneD, mIsN]
theorem from_some {ls : List Ln} {own : Int} (I : WdI ls own) (hl : ls.length ≤ 61) {at' : Nat} {t : List Nat} {a : Nat} {l : Ln} (hw : (wvT ls)[at']? = some (t, some a)) (ha : ls[a]? = some l) (c : Int) : m_from_woven [docD ls, .int (at' : Nat), .int c] = .ok (fwD (fsO l) a (shf l t) c) := by
  have hB := LnB_all I
  have we : m_weave [docD ls] = .ok (.list ((wvT ls).map pD)) := weave_is I hl
  have tl := wvT_lens (by omega) hB _ (List.mem_of_getElem? hw)
  have ga : atD (.list ((wvT ls).map pD)) (.int (at' : Nat)) = .ok (.tuple [S t, .int (a : Nat)]) := atD_list (k := at') (by rw [List.getElem?_map, hw]; rfl)
  have da := doc_at ha
  have si := shift_is (l := l) (hB l (List.mem_of_getElem? ha)) tl
  have s2' : (2 : Nat) ≤ sizeLine := sl5 _ (by omega)
  unfold m_from_woven mkFn b_from_woven
  generalize (wvT ls).map pD = WV at *
  generalize shf l t = SF at *
  generalize lnD l = LD at *
  generalize docD ls = DD at *
  generalize S t = T at *
  generalize hA : (a : Int) = A at *
  unfold fwD
  rw [hA]
  have g : gTupD (lenG 2 (gConsD (gSet 3) (gConsD (gSet 4) gNilD))) (.tuple [T, .int A]) [some DD, some (.int (at' : Nat)), some (.int c), none, none, none, none] = some [some DD, some (.int (at' : Nat)), some (.int c), some T, some (.int A), none, none] := rfl
  cases e : fsO l with
  | none =>
    rw [e] at si
    have si : m_woven_shift [LD, T] = .ok (.tuple [.none, .int SF]) := si
    have g2 : gTupD (lenG 2 (gConsD (gSet 5) (gConsD (gSet 6) gNilD))) (.tuple [.none, .int SF]) [some DD, some (.int (at' : Nat)), some (.int c), some T, some (.int A), none, none] = some [some DD, some (.int (at' : Nat)), some (.int c), some T, some (.int A), some .none, some (.int SF)] := rfl
    simp -implicitDefEqProofs [we, ga, g, da, si, g2, isNoneD, mIsN]
  | some f =>
    rw [e] at si
    have si : m_woven_shift [LD, T] = .ok (.tuple [.int (f : Nat), .int SF]) := si
    have g2 : gTupD (lenG 2 (gConsD (gSet 5) (gConsD (gSet 6) gNilD))) (.tuple [.int (f : Nat), .int SF]) [some DD, some (.int (at' : Nat)), some (.int c), some T, some (.int A), none, none] = some [some DD, some (.int (at' : Nat)), some (.int c), some T, some (.int A), some (.int (f : Nat)), some (.int SF)] := rfl
    by_cases q : c - SF < (f : Int)
    · have q2 : ltI (c - SF) (f : Nat) = true := by unfold ltI; exact decide_eq_true q
      simp -implicitDefEqProofs [we, ga, g, da, si, g2, isNoneD, mIsN, q, q2]
    · have q2 : ltI (c - SF) (f : Nat) = false := by unfold ltI; exact decide_eq_false q
      simp -implicitDefEqProofs [we, ga, g, da, si, g2, isNoneD, mIsN, q, q2, s2']

/-! positions in a list -/
def prD (q : Nat × Nat) : D := .tuple [.int (q.1 : Nat), .int (q.2 : Nat)]
theorem eqv_pr (a b : Nat × Nat) : PyData.eqv (prD a) (prD b) = decide (a = b) := by
  obtain ⟨a1, a2⟩ := a
  obtain ⟨b1, b2⟩ := b
  unfold prD
  simp only [PyData.eqv, PyData.eqvAll, Bool.and_true, Prod.mk.injEq]
  rw [Bool.eq_iff_iff]
  simp
  try omega
theorem plain_prs (n : Nat) (q : List (Nat × Nat)) : plainD (n + 3) (.list (q.map prD)) = true := plain_list fun d hd => by
  obtain ⟨a, _, rfl⟩ := List.mem_map.mp hd
  exact plain_tuple fun d hd => by
    simp only [List.mem_cons, List.not_mem_nil, or_false] at hd
    rcases hd with rfl | rfl <;> exact plain_int _ _
theorem plain_pr (n : Nat) (q : Nat × Nat) : plainD (n + 2) (prD q) = true := plain_tuple fun d hd => by
  simp only [List.mem_cons, List.not_mem_nil, or_false] at hd
  rcases hd with rfl | rfl <;> exact plain_int _ _
theorem notin_pr (a : Nat × Nat) (q : List (Nat × Nat)) : notInY (prD a) (.list (q.map prD)) = .ok (.bool (!decide (a ∈ q))) := by
  have an : (q.map prD).any (fun z => PyData.eqv z (prD a)) = decide (a ∈ q) := by
    rw [Bool.eq_iff_iff, List.any_eq_true, decide_eq_true_eq]
    constructor
    · rintro ⟨d, hd, e⟩
      obtain ⟨b, hb, rfl⟩ := List.mem_map.mp hd
      rw [eqv_pr] at e
      rw [← of_decide_eq_true e]; exact hb
    · intro h
      exact ⟨prD a, List.mem_map.mpr ⟨a, h, rfl⟩, by rw [eqv_pr]; simp⟩
  show (if plainD deep (prD a) = true ∧ plainD deep (.list (q.map prD)) = true then Res.ok (PyData.bool (!((q.map prD).any fun z => PyData.eqv z (prD a)))) else Res.stk) = _
  rw [if_pos ⟨plain_pr 38 a, plain_prs 37 q⟩, an]
/-! one column -/
def f99 (l : Ln) : Nat := (fsO l).getD 99
def kdN : Ln → Nat
  | .prose _ => 0
  | .code _ => 1
  | .head _ => 2
  | .use _ _ => 3
theorem first_is (l : Ln) : m__law_first [lnD l] = .ok (.int (f99 l : Nat)) := by
  have l0 := ln0 l
  have s4 : (4 : Nat) ≤ sizeLine := sl5 _ (by omega)
  have ix : ∀ l : Ln, idxD (.list [S [112, 114, 111, 115, 101], S [99, 111, 100, 101], S [104, 101, 97, 100], S [117, 115, 101]]) (S (lnK l)) = .ok (.int ((kdN l : Nat) : Int)) := fun l => by
    cases l <;> rfl
  have ix := ix l
  have a4 : atD (.list [.int 0, .int 1, .int 2, .int 99]) (.int ((kdN l : Nat) : Int)) = .ok (.int (f99 l : Nat)) := by
    cases l <;> rfl
  unfold m__law_first mkFn b__law_first
  generalize ((kdN l : Nat) : Int) = q at *
  generalize lnD l = LD at *
  simp -implicitDefEqProofs [l0, s4, mIdx, ix, a4]
theorem same_S (m : List D → Res D) (a : List Nat) : mkFn 3 (b__law_same m) [S a, S a] = .ok (.bool true) := by
  unfold mkFn b__law_same
  simp -implicitDefEqProofs [isNoneD]
theorem same_int (m : List D → Res D) (k : Int) : mkFn 3 (b__law_same m) [.int k, .int k] = .ok (.bool true) := by
  unfold mkFn b__law_same
  simp -implicitDefEqProofs [isNoneD]
theorem same_none (m : List D → Res D) : mkFn 3 (b__law_same m) [.none, .none] = .ok (.bool true) := by
  unfold mkFn b__law_same
  simp -implicitDefEqProofs [isNoneD]
theorem same_tup (m : List D → Res D) (ds : List D) (hn : ds.length ≤ 1000) (h : ∀ d ∈ ds, m [d, d] = .ok (.bool true)) : mkFn 3 (b__law_same m) [.tuple ds, .tuple ds] = .ok (.bool true) := by
  unfold mkFn b__law_same
  obtain ⟨ρ', e, x, rfl⟩ := forL_inv (fun j ρ => ∃ x : Option D, ρ = [some (.tuple ds), some (.tuple ds), x]) (rngD 0 ds.length) [some (.tuple ds), some (.tuple ds), none] 0 ⟨none, rfl⟩ (b := lb__law_same_0 m) (g := gSet 2) (fun i d ρ hd hI => by
    obtain ⟨x, rfl⟩ := hI
    obtain ⟨hi, rfl⟩ := rngD_get hd
    obtain ⟨y, hy, hm⟩ := get_some hi
    have ha : atD (.tuple ds) (.int i) = .ok y := atD_tuple hy
    refine ⟨_, _, gSet_at _ _ _, .inl ?_, some (.int (0 + (i : Int))), rfl⟩
    unfold lb__law_same_0
    simp -implicitDefEqProofs [ha, h y hm])
  simp -implicitDefEqProofs [rng1D_int (show (0 : Int) ≤ (ds.length : Int) by omega) (show (ds.length : Int) < 2 ^ 62 by omega), e]
theorem same_pr (q : Nat × Nat) : m__law_same [prD q, prD q] = .ok (.bool true) := same_tup _ _ (by simp) fun d hd => by
  simp only [List.mem_cons, List.not_mem_nil, or_false] at hd
  rcases hd with rfl | rfl <;> exact same_int _ _
def nxL (l : Ln) (at' : Nat) (t : List Nat) (c : Nat) (L : List (Nat × Nat)) : List (Nat × Nat) := match fsO l with
  | none => L
  | some f => if c < f then L else L ++ [(at', ((c : Int) + shf l t).toNat)]
theorem goF {t : WD.Env → Res Bool} {A B : WD.Env → Out} {ρ : WD.Env} (h : t ρ = .ok false) : mIfS t A B ρ = B ρ := by rw [mIfS_at, h]; rfl
theorem goT {t : WD.Env → Res Bool} {A B : WD.Env → Out} {ρ : WD.Env} (h : t ρ = .ok true) : mIfS t A B ρ = A ρ := by rw [mIfS_at, h]; rfl
theorem col86 {ls : List Ln} {own : Int} (I : WdI ls own) (hl : ls.length ≤ 61) (hN : (hdN ls).length < 100) {k : Nat} {l : Ln} {at' : Nat} {t : List Nat} (hk : ls[k]? = some l) (hw : (wvT ls)[at']? = some (t, some k)) {c : Nat} (hc : c ≤ (wl l).length) {L : List (Nat × Nat)} (hL : L.length ≤ 10000) (c0 x8 x9 x10 : Option D) :
    ∃ y8 y9, (lb_law_1 [c0, some (docD ls), some (.list ((ls.map wl).map S)), some (.list ((wvT ls).map pD)), some (.list (L.map prD)), some (.int (k : Nat)), some (.int (f99 l : Nat)), some (.int (c : Nat)), x8, x9, x10] = .nx [c0, some (docD ls), some (.list ((ls.map wl).map S)), some (.list ((wvT ls).map pD)), some (.list ((nxL l at' t c L).map prD)), some (.int (k : Nat)), some (.int (f99 l : Nat)), some (.int (c : Nat)), y8, y9, x10] ∨
      lb_law_1 [c0, some (docD ls), some (.list ((ls.map wl).map S)), some (.list ((wvT ls).map pD)), some (.list (L.map prD)), some (.int (k : Nat)), some (.int (f99 l : Nat)), some (.int (c : Nat)), x8, x9, x10] = .ct [c0, some (docD ls), some (.list ((ls.map wl).map S)), some (.list ((wvT ls).map pD)), some (.list ((nxL l at' t c L).map prD)), some (.int (k : Nat)), some (.int (f99 l : Nat)), some (.int (c : Nat)), y8, y9, x10]) := by
  have hB := LnB_all I
  have wok' := wok (I.ok l (List.mem_of_getElem? hk))
  have w20 := wok'.n
  have tw := to_woven_is I hl hw hk (c : Int)
  have tl := wvT_lens (by omega) hB _ (List.mem_of_getElem? hw)
  have tl : t.length ≤ 1000 := tl
  obtain ⟨l', j, h1, h2, h3⟩ := wvT_mem (List.mem_of_getElem? hw) rfl
  rw [hk] at h1
  cases h1
  have h2 : t = wt ls l j := h2
  have low : twD (fsO l) at' (shf l t) c = .none → (c : Int) < (f99 l : Nat) → nxL l at' t c L = L → ∃ y8 y9, (lb_law_1 [c0, some (docD ls), some (.list ((ls.map wl).map S)), some (.list ((wvT ls).map pD)), some (.list (L.map prD)), some (.int (k : Nat)), some (.int (f99 l : Nat)), some (.int (c : Nat)), x8, x9, x10] = .nx [c0, some (docD ls), some (.list ((ls.map wl).map S)), some (.list ((wvT ls).map pD)), some (.list ((nxL l at' t c L).map prD)), some (.int (k : Nat)), some (.int (f99 l : Nat)), some (.int (c : Nat)), y8, y9, x10] ∨
      lb_law_1 [c0, some (docD ls), some (.list ((ls.map wl).map S)), some (.list ((wvT ls).map pD)), some (.list (L.map prD)), some (.int (k : Nat)), some (.int (f99 l : Nat)), some (.int (c : Nat)), x8, x9, x10] = .ct [c0, some (docD ls), some (.list ((ls.map wl).map S)), some (.list ((wvT ls).map pD)), some (.list ((nxL l at' t c L).map prD)), some (.int (k : Nat)), some (.int (f99 l : Nat)), some (.int (c : Nat)), y8, y9, x10]) := fun e1 e2 e3 => by
    rw [e1] at tw
    rw [e3]
    refine ⟨some .none, x9, .inr ?_⟩
    have q : ltI (c : Nat) (f99 l : Nat) = true := by unfold ltI; exact decide_eq_true e2
    unfold lb_law_1
    clear e1 e2 e3 hw
    generalize (f99 l : Int) = F at *
    generalize (wvT ls).map pD = WV at *
    generalize (ls.map wl).map S = WR at *
    generalize docD ls = DD at *
    generalize L.map prD = LD at *
    simp -implicitDefEqProofs [tw, q, mNotN, isNoneD]
  cases e : fsO l with
  | none =>
    refine low (by rw [e]; rfl) ?_ (by unfold nxL; rw [e])
    unfold f99; rw [e]; show (c : Int) < (99 : Nat); omega
  | some f =>
    by_cases q : c < f
    · refine low ?_ ?_ ?_
      · rw [e]; unfold twD; simp only; rw [if_pos (by omega)]
      · unfold f99; rw [e]; show (c : Int) < (f : Nat); omega
      · unfold nxL; rw [e]; simp only; rw [if_pos q]
    · obtain ⟨pre, wp, own', p1, p2, p3, p4⟩ := line_split (ls := ls) (j := j) e
      rw [← h2] at p1 p4
      obtain ⟨i, hi⟩ : ∃ i, c = f + i := ⟨c - f, by omega⟩
      have hlw : (wl l).length = f + own'.length := by rw [p2, List.length_append, p3]
      have hlt : t.length = pre.length + own'.length := by rw [p1, List.length_append]
      have hd : (c : Int) + shf l t = ((pre.length + i : Nat) : Int) := by rw [p4]; omega
      have nl : nxL l at' t c L = L ++ [(at', pre.length + i)] := by
        unfold nxL; rw [e]; simp only; rw [if_neg q, hd]; rfl
      rw [nl]
      have ff : f99 l = f := by unfold f99; rw [e]; rfl
      rw [ff]
      have tw : m_to_woven [docD ls, .int (k : Nat), .int (c : Nat)] = .ok (prD (at', pre.length + i)) := by
        rw [tw, e]; unfold twD; simp only; rw [if_neg (by omega), hd]; rfl
      have fw : m_from_woven [docD ls, .int (at' : Nat), .int ((pre.length + i : Nat) : Int)] = .ok (prD (k, c)) := by
        rw [from_some I hl hw hk, e]; unfold fwD; simp only
        rw [if_neg (by omega), show ((pre.length + i : Nat) : Int) - shf l t = (c : Int) by omega]; rfl
      have q1 : ltI (c : Nat) (f : Nat) = false := by unfold ltI; exact decide_eq_false (by omega)
      have it : isiD "tuple" (prD (at', pre.length + i)) = .ok (.bool true) := isi_self (d := .tuple _)
      have lt2 : lenD (prD (at', pre.length + i)) = .ok (.int 2) := rfl
      have t0 : atD (prD (at', pre.length + i)) (.int 0) = .ok (.int (at' : Nat)) := atD_tuple (k := 0) rfl
      have t1 : atD (prD (at', pre.length + i)) (.int 1) = .ok (.int ((pre.length + i : Nat) : Int)) := atD_tuple (k := 1) rfl
      have gw : atD (.list ((wvT ls).map pD)) (.int (at' : Nat)) = .ok (pD (t, some k)) := atD_list (k := at') (by rw [List.getElem?_map, hw]; rfl)
      have g0 : atD (pD (t, some k)) (.int 0) = .ok (S t) := atD_tuple (k := 0) rfl
      have g1 : atD (pD (t, some k)) (.int 1) = .ok (.int (k : Nat)) := atD_tuple (k := 1) rfl
      have gr : atD (.list ((ls.map wl).map S)) (.int (k : Nat)) = .ok (S (wl l)) := atD_list (k := k) (by rw [List.getElem?_map, List.getElem?_map, hk]; rfl)
      have n2 : neD (.int 2) (.int 2) = .ok (.bool false) := by rw [neD_int]; simp
      have nk : neD (.int (k : Nat)) (.int (k : Nat)) = .ok (.bool false) := by rw [neD_int]; simp
      have lt : lenD (S t) = .ok (.int (t.length : Nat)) := lenD_S (by omega)
      have lw : lenD (S (wl l)) = .ok (.int ((wl l).length : Nat)) := lenD_S (by omega)
      have nd : neD (.int ((t.length : Int) - ((pre.length + i : Nat) : Int))) (.int (((wl l).length : Int) - (c : Int))) = .ok (.bool false) := by
        rw [neD_int, show ((t.length : Int) - ((pre.length + i : Nat) : Int)) = (((wl l).length : Int) - (c : Int)) by omega]; simp
      have sp := same_pr (k, c)
      have tp : mTup (mCons (mVar 5) (mCons (mVar 7) mNil)) = mTup (mCons (mVar 5) (mCons (mVar 7) mNil)) := rfl
      have s1 : (L.map prD).length < sizeLine := by rw [List.length_map, sl_eq]; omega
      have s2' : (2 : Nat) ≤ sizeLine := sl5 _ (by omega)
      have e1 : (L ++ [(at', pre.length + i)]).map prD = L.map prD ++ [prD (at', pre.length + i)] := by rw [List.map_append]; rfl
      rw [e1]
      have kc : prD (k, c) = .tuple [.int (k : Nat), .int (c : Nat)] := rfl
      refine ⟨some (prD (at', pre.length + i)), some (S t), .inl ?_⟩
      unfold lb_law_1
      have ch : mAnd (mTru (mBin (cmpD ltI) (mVar 7) (mUn lenD (mBin atD (mVar 2) (mVar 5))))) (mTru (mBin neD (mBin atD (mVar 9) (mBin atD (mVar 8) (mC (.int 1)))) (mBin atD (mBin atD (mVar 2) (mVar 5)) (mVar 7)))) [c0, some (docD ls), some (.list ((ls.map wl).map S)), some (.list ((wvT ls).map pD)), some (.list (L.map prD)), some (.int (k : Nat)), some (.int (f : Nat)), some (.int (c : Nat)), some (prD (at', pre.length + i)), some (S t), x10] = .ok false := by
        by_cases z : i < own'.length
        · have q3 : ltI (c : Nat) ((wl l).length : Nat) = true := by unfold ltI; exact decide_eq_true (by omega)
          have z1 : t[pre.length + i]? = some own'[i] := by rw [p1, List.getElem?_append_right (by omega), Nat.add_sub_cancel_left]; exact List.getElem?_eq_getElem z
          have z2 : (wl l)[c]? = some own'[i] := by rw [p2, List.getElem?_append_right (by omega), show c - wp.length = i by omega]; exact List.getElem?_eq_getElem z
          have z3 : atD (S t) (.int ((pre.length + i : Nat) : Int)) = .ok (S [own'[i]]) := atD_S (by omega) z1
          have z4 : atD (S (wl l)) (.int (c : Nat)) = .ok (S [own'[i]]) := atD_S (by omega) z2
          have z5 : neD (S [own'[i]]) (S [own'[i]]) = .ok (.bool false) := by rw [neD_S]; simp
          generalize own'[i] = ch at *
          generalize S [ch] = CH at *
          generalize ((wl l).length : Int) = WL' at *
          generalize (pre.length + i : Nat) = d at *
          generalize hT : S t = T at *
          generalize hW : S (wl l) = W at *
          generalize prD (at', d) = P at *
          generalize (wvT ls).map pD = WV at *
          generalize (ls.map wl).map S = WR at *
          generalize docD ls = DD at *
          generalize L.map prD = LD at *
          simp -implicitDefEqProofs only [mAnd_at, mTru_at, mBin_at, mUn_at, mVar_at, mC_at, List.getElem?_cons_succ, List.getElem?_cons_zero, Option.join_some, ofO_some, bind_okR, truD_bool, gr, lw, cmpD_int, q3, if_true, t1, z3, z4, z5]
        · have q3 : ltI (c : Nat) ((wl l).length : Nat) = false := by unfold ltI; exact decide_eq_false (by omega)
          generalize ((wl l).length : Int) = WL' at *
          generalize (pre.length + i : Nat) = d at *
          generalize hT : S t = T at *
          generalize hW : S (wl l) = W at *
          generalize prD (at', d) = P at *
          generalize (wvT ls).map pD = WV at *
          generalize (ls.map wl).map S = WR at *
          generalize docD ls = DD at *
          generalize L.map prD = LD at *
          simp -implicitDefEqProofs only [mAnd_at, mTru_at, mBin_at, mUn_at, mVar_at, mC_at, List.getElem?_cons_succ, List.getElem?_cons_zero, Option.join_some, ofO_some, bind_okR, truD_bool, gr, lw, cmpD_int, q3, Bool.false_eq_true, if_false]
      generalize hCH : mAnd (mTru (mBin (cmpD ltI) (mVar 7) (mUn lenD (mBin atD (mVar 2) (mVar 5))))) (mTru (mBin neD (mBin atD (mVar 9) (mBin atD (mVar 8) (mC (.int 1)))) (mBin atD (mBin atD (mVar 2) (mVar 5)) (mVar 7)))) = CHK at *
      rw [kc] at sp fw
      generalize ((wl l).length : Int) = WL' at *
      generalize (pre.length + i : Nat) = d at *
      generalize (t.length : Int) = TL' at *
      generalize hT : S t = T at *
      generalize hW : S (wl l) = W at *
      generalize prD (at', d) = P at *
      generalize hG : pD (t, some k) = G at *
      generalize (wvT ls).map pD = WV at *
      generalize (ls.map wl).map S = WR at *
      generalize docD ls = DD at *
      generalize L.map prD = LD at *
      refine seq_nx (ρ' := [c0, some DD, some (.list WR), some (.list WV), some (.list LD), some (.int (k : Nat)), some (.int (f : Nat)), some (.int (c : Nat)), some P, x9, x10]) (by simp -implicitDefEqProofs [tw]) ?_
      refine seq_nx (ρ' := [c0, some DD, some (.list WR), some (.list WV), some (.list LD), some (.int (k : Nat)), some (.int (f : Nat)), some (.int (c : Nat)), some P, x9, x10]) (goF (by simp -implicitDefEqProofs [q1])) ?_
      refine seq_nx (ρ' := [c0, some DD, some (.list WR), some (.list WV), some (.list LD), some (.int (k : Nat)), some (.int (f : Nat)), some (.int (c : Nat)), some P, x9, x10]) (goF (by simp -implicitDefEqProofs [it, lt2, n2, t0, gw, g1, nk, -neD_int])) ?_
      refine seq_nx (ρ' := [c0, some DD, some (.list WR), some (.list WV), some (.list LD), some (.int (k : Nat)), some (.int (f : Nat)), some (.int (c : Nat)), some P, some T, x10]) (by simp -implicitDefEqProofs [t0, gw, g0]) ?_
      refine seq_nx (ρ' := [c0, some DD, some (.list WR), some (.list WV), some (.list LD), some (.int (k : Nat)), some (.int (f : Nat)), some (.int (c : Nat)), some P, some T, x10]) (goF (by simp -implicitDefEqProofs [lt, t1, gr, lw, nd, -neD_int])) ?_
      refine seq_nx (ρ' := [c0, some DD, some (.list WR), some (.list WV), some (.list LD), some (.int (k : Nat)), some (.int (f : Nat)), some (.int (c : Nat)), some P, some T, x10]) (goF ch) ?_
      refine seq_nx (ρ' := [c0, some DD, some (.list WR), some (.list WV), some (.list LD), some (.int (k : Nat)), some (.int (f : Nat)), some (.int (c : Nat)), some P, some T, x10]) (goF (by simp -implicitDefEqProofs [t0, t1, fw, s2', sp])) ?_
      simp -implicitDefEqProofs [s1]

/-! all columns that are reached -/
def RC (ls : List Ln) (L : List (Nat × Nat)) (K C : Nat) : Prop := ∀ (a : Nat) (l : Ln) (at' : Nat) (t : List Nat) (f d : Nat), ls[a]? = some l → (wvT ls)[at']? = some (t, some a) → fsO l = some f → (f : Int) ≤ (d : Int) - shf l t → d ≤ t.length → (a < K ∨ (a = K ∧ (d : Int) - shf l t < (C : Int))) → (at', d) ∈ L
theorem nxL_sub {l : Ln} {at' : Nat} {t : List Nat} {c : Nat} {L : List (Nat × Nat)} {q : Nat × Nat} (h : q ∈ L) : q ∈ nxL l at' t c L := by
  unfold nxL
  split
  · exact h
  · split
    · exact h
    · exact List.mem_append_left _ h
theorem nxL_len (l : Ln) (at' : Nat) (t : List Nat) (c : Nat) (L : List (Nat × Nat)) : (nxL l at' t c L).length ≤ L.length + 1 := by
  unfold nxL
  split
  · omega
  · split
    · omega
    · rw [List.length_append, List.length_singleton]; exact Nat.le_refl _
theorem RC_col {ls : List Ln} {L : List (Nat × Nat)} {k c : Nat} {l : Ln} {at' : Nat} {t : List Nat} (hk : ls[k]? = some l) (hw : (wvT ls)[at']? = some (t, some k)) (h : RC ls L k c) : RC ls (nxL l at' t c L) k (c + 1) := fun a l2 at2 t2 f d h1 h2 h3 h4 h5 h6 => by
  by_cases z : a < k ∨ (a = k ∧ (d : Int) - shf l2 t2 < (c : Int))
  · exact nxL_sub (h a l2 at2 t2 f d h1 h2 h3 h4 h5 z)
  · have ea : a = k := by
      rcases h6 with q | q
      · exact absurd (.inl q) z
      · exact q.1
    subst ea
    rw [hk] at h1
    cases h1
    have e1 := wvT_inj h2 hw
    subst e1
    rw [hw] at h2
    cases h2
    have hd : (d : Int) - shf l t = (c : Int) := by
      have q1 : ¬ (d : Int) - shf l t < (c : Int) := fun q => z (.inr ⟨rfl, q⟩)
      rcases h6 with q | q
      · omega
      · have := q.2; omega
    unfold nxL
    rw [h3]
    simp only
    rw [if_neg (by omega), show (c : Int) + shf l t = (d : Int) by omega]
    exact List.mem_append_right _ (by simp)
theorem wl_eq {ls : List Ln} {a : Nat} {l : Ln} {at' : Nat} {t : List Nat} {f : Nat} (hk : ls[a]? = some l) (hw : (wvT ls)[at']? = some (t, some a)) (e : fsO l = some f) : (t.length : Int) - shf l t = ((wl l).length : Nat) := by
  obtain ⟨l', j, h1, h2, h3⟩ := wvT_mem (List.mem_of_getElem? hw) rfl
  rw [hk] at h1
  cases h1
  have h2 : t = wt ls l j := h2
  obtain ⟨pre, wp, own', p1, p2, p3, p4⟩ := line_split (ls := ls) (j := j) e
  rw [← h2] at p1 p4
  rw [p4, p2, p1, List.length_append, List.length_append]
  omega
theorem RC_row {ls : List Ln} {L : List (Nat × Nat)} {k : Nat} {l : Ln} (hk : ls[k]? = some l) (h : RC ls L k ((wl l).length + 1)) : RC ls L (k + 1) 0 := fun a l2 at2 t2 f d h1 h2 h3 h4 h5 h6 => by
  refine h a l2 at2 t2 f d h1 h2 h3 h4 h5 ?_
  by_cases z : a < k
  · exact .inl z
  · have ea : a = k := by omega
    subst ea
    rw [hk] at h1
    cases h1
    have := wl_eq hk h2 h3
    exact .inr ⟨rfl, by omega⟩
theorem row86 {ls : List Ln} {own : Int} (I : WdI ls own) (hl : ls.length ≤ 61) {k : Nat} {l : Ln} (hk : ls[k]? = some l) {L : List (Nat × Nat)} (hL : L.length ≤ 21 * k) (hR : RC ls L k 0) (c0 x6 x7 x8 x9 x10 : Option D) :
    ∃ L' y6 y7 y8 y9, lb_law_0 [c0, some (docD ls), some (.list ((ls.map wl).map S)), some (.list ((wvT ls).map pD)), some (.list (L.map prD)), some (.int (k : Nat)), x6, x7, x8, x9, x10] = .nx [c0, some (docD ls), some (.list ((ls.map wl).map S)), some (.list ((wvT ls).map pD)), some (.list (L'.map prD)), some (.int (k : Nat)), y6, y7, y8, y9, x10] ∧ L'.length ≤ 21 * (k + 1) ∧ RC ls L' (k + 1) 0 := by
  have klt := (List.getElem?_eq_some_iff.mp hk).1
  have w20 := (wok (I.ok l (List.mem_of_getElem? hk))).n
  have hdl := hd_len ls
  obtain ⟨at', t, hw⟩ := wvT_at hk
  obtain ⟨ρ', e, L', y7, y8, y9, rfl, hL', hR'⟩ := forL_inv (fun j ρ => ∃ (L' : List (Nat × Nat)) (y7 y8 y9 : Option D), ρ = [c0, some (docD ls), some (.list ((ls.map wl).map S)), some (.list ((wvT ls).map pD)), some (.list (L'.map prD)), some (.int (k : Nat)), some (.int (f99 l : Nat)), y7, y8, y9, x10] ∧ L'.length ≤ 21 * k + j ∧ RC ls L' k j)
    (rngD 0 ((wl l).length + 1)) [c0, some (docD ls), some (.list ((ls.map wl).map S)), some (.list ((wvT ls).map pD)), some (.list (L.map prD)), some (.int (k : Nat)), some (.int (f99 l : Nat)), x7, x8, x9, x10] 0 ⟨L, x7, x8, x9, rfl, by omega, hR⟩ (b := lb_law_1) (g := gSet 7) (fun i d ρ hd hI => by
      obtain ⟨L', z7, z8, z9, rfl, h1, h2⟩ := hI
      obtain ⟨hi, rfl⟩ := rngD_get hd
      have hi : i < (wl l).length + 1 := by omega
      obtain ⟨y8, y9, q⟩ := col86 I hl (by omega) hk hw (c := i) (by omega) (L := L') (by omega) c0 z8 z9 x10
      refine ⟨[c0, some (docD ls), some (.list ((ls.map wl).map S)), some (.list ((wvT ls).map pD)), some (.list (L'.map prD)), some (.int (k : Nat)), some (.int (f99 l : Nat)), some (.int (i : Nat)), z8, z9, x10], _, ?_, q, _, _, _, _, rfl, ?_, ?_⟩
      · rw [gSet_at, Int.zero_add]; rfl
      · have := nxL_len l at' t i L'; omega
      · rw [Nat.zero_add] at h2 ⊢; exact RC_col hk hw h2)
  rw [rngD_len] at hL' hR'
  refine ⟨L', some (.int (f99 l : Nat)), y7, y8, y9, ?_, by omega, RC_row hk (by rw [Nat.zero_add] at hR'; exact hR')⟩
  have da := doc_at hk
  have fi := first_is l
  have gr : atD (.list ((ls.map wl).map S)) (.int (k : Nat)) = .ok (S (wl l)) := atD_list (k := k) (by rw [List.getElem?_map, List.getElem?_map, hk]; rfl)
  have lw : lenD (S (wl l)) = .ok (.int ((wl l).length : Nat)) := lenD_S (by omega)
  have hr : rng1D [.int (((wl l).length + 1 : Nat) : Int)] = .ok (rngD 0 ((wl l).length + 1)) := by rw [rng1D_int (show (0 : Int) ≤ (((wl l).length + 1 : Nat) : Int) by omega) (show (((wl l).length + 1 : Nat) : Int) < 2 ^ 62 by omega), Int.toNat_natCast]
  have hr : rng1D [.int (((wl l).length : Int) + 1)] = .ok (rngD 0 ((wl l).length + 1)) := hr
  unfold lb_law_0
  generalize rngD 0 ((wl l).length + 1) = RG at *
  generalize ((wl l).length : Int) = WL' at *
  generalize lnD l = LD at *
  generalize S (wl l) = W at *
  generalize (wvT ls).map pD = WV at *
  generalize (ls.map wl).map S = WR at *
  generalize docD ls = DD at *
  generalize L.map prD = LA at *
  generalize L'.map prD = LB at *
  simp -implicitDefEqProofs [da, fi, gr, lw, hr, e]
theorem ncol86 {ls : List Ln} {own : Int} (I : WdI ls own) (hl : ls.length ≤ 61) {L : List (Nat × Nat)} (hR : RC ls L ls.length 0) {at' d : Nat} {t : List Nat} {o : Option Nat} (hw : (wvT ls)[at']? = some (t, o)) (hd : d ≤ t.length) (c0 x2 x3 x5 x6 x8 x9 : Option D) :
    lb_law_3 [c0, some (docD ls), x2, x3, some (.list (L.map prD)), x5, x6, some (.int (d : Nat)), x8, x9, some (.int (at' : Nat))] = .nx [c0, some (docD ls), x2, x3, some (.list (L.map prD)), x5, x6, some (.int (d : Nat)), x8, x9, some (.int (at' : Nat))] := by
  have ni := notin_pr (at', d) L
  have pe : prD (at', d) = .tuple [.int (at' : Nat), .int (d : Nat)] := rfl
  have s2' : (2 : Nat) ≤ sizeLine := sl5 _ (by omega)
  by_cases m : (at', d) ∈ L
  · rw [decide_eq_true m, pe] at ni
    unfold lb_law_3
    generalize L.map prD = LD at *
    generalize docD ls = DD at *
    simp -implicitDefEqProofs [ni, s2']
  · rw [decide_eq_false m, pe] at ni
    have fw : m_from_woven [docD ls, .int (at' : Nat), .int (d : Nat)] = .ok .none := by
      cases o with
      | none => exact from_none I hl hw _
      | some a =>
        obtain ⟨l, j, h1, h2, h3⟩ := wvT_mem (List.mem_of_getElem? hw) rfl
        rw [from_some I hl hw h1]
        cases e : fsO l with
        | none => rfl
        | some f =>
          unfold fwD
          simp only
          by_cases q : (d : Int) - shf l t < (f : Int)
          · rw [if_pos q]
          · exact absurd (hR a l at' t f d h1 hw e (by omega) hd (.inl (List.getElem?_eq_some_iff.mp h1).1)) m
    unfold lb_law_3
    generalize L.map prD = LD at *
    generalize docD ls = DD at *
    simp -implicitDefEqProofs [ni, s2', fw, mNotN, isNoneD]
theorem nrow86 {ls : List Ln} {own : Int} (I : WdI ls own) (hl : ls.length ≤ 61) {L : List (Nat × Nat)} (hR : RC ls L ls.length 0) {at' : Nat} (ha : at' < (wvT ls).length) (c0 x2 x5 x6 x7 x8 x9 : Option D) :
    ∃ y7, lb_law_2 [c0, some (docD ls), x2, some (.list ((wvT ls).map pD)), some (.list (L.map prD)), x5, x6, x7, x8, x9, some (.int (at' : Nat))] = .nx [c0, some (docD ls), x2, some (.list ((wvT ls).map pD)), some (.list (L.map prD)), x5, x6, y7, x8, x9, some (.int (at' : Nat))] := by
  obtain ⟨⟨t, o⟩, hw⟩ : ∃ p, (wvT ls)[at']? = some p := ⟨_, List.getElem?_eq_getElem ha⟩
  have tl : t.length ≤ 1000 := wvT_lens (by omega) (LnB_all I) _ (List.mem_of_getElem? hw)
  obtain ⟨ρ', e, y7, rfl⟩ := forL_inv (fun j ρ => ∃ y7 : Option D, ρ = [c0, some (docD ls), x2, some (.list ((wvT ls).map pD)), some (.list (L.map prD)), x5, x6, y7, x8, x9, some (.int (at' : Nat))])
    (rngD 0 (t.length + 1)) [c0, some (docD ls), x2, some (.list ((wvT ls).map pD)), some (.list (L.map prD)), x5, x6, x7, x8, x9, some (.int (at' : Nat))] 0 ⟨x7, rfl⟩ (b := lb_law_3) (g := gSet 7) (fun i d ρ hd hI => by
      obtain ⟨z7, rfl⟩ := hI
      obtain ⟨hi, rfl⟩ := rngD_get hd
      have hi : i < t.length + 1 := by omega
      refine ⟨[c0, some (docD ls), x2, some (.list ((wvT ls).map pD)), some (.list (L.map prD)), x5, x6, some (.int (i : Nat)), x8, x9, some (.int (at' : Nat))], _, ?_, .inl (ncol86 I hl hR hw (d := i) (by omega) c0 x2 (some (.list ((wvT ls).map pD))) x5 x6 x8 x9), _, rfl⟩
      rw [gSet_at, Int.zero_add]; rfl)
  refine ⟨y7, ?_⟩
  have gw : atD (.list ((wvT ls).map pD)) (.int (at' : Nat)) = .ok (pD (t, o)) := atD_list (k := at') (by rw [List.getElem?_map, hw]; rfl)
  have g0 : atD (pD (t, o)) (.int 0) = .ok (S t) := atD_tuple (k := 0) rfl
  have lt : lenD (S t) = .ok (.int (t.length : Nat)) := lenD_S (by omega)
  have hr : rng1D [.int ((t.length + 1 : Nat) : Int)] = .ok (rngD 0 (t.length + 1)) := by rw [rng1D_int (show (0 : Int) ≤ ((t.length + 1 : Nat) : Int) by omega) (show ((t.length + 1 : Nat) : Int) < 2 ^ 62 by omega), Int.toNat_natCast]
  have hr : rng1D [.int ((t.length : Int) + 1)] = .ok (rngD 0 (t.length + 1)) := hr
  unfold lb_law_2
  generalize rngD 0 (t.length + 1) = RG at *
  generalize (t.length : Int) = TL' at *
  generalize pD (t, o) = P at *
  generalize S t = T at *
  generalize (wvT ls).map pD = WV at *
  generalize docD ls = DD at *
  generalize L.map prD = LA at *
  simp -implicitDefEqProofs [gw, g0, lt, hr, e]
theorem law_true (ns : List Int) (h : ns.length ≤ 63) : m_law [.list (ns.map PyData.int)] = .ok (.bool true) := by
  have c0 : m__law_cell [.list (ns.map PyData.int), .int 0] = .ok (.int ((ns[0]?).getD 0)) := law_cell ns 0
  obtain ⟨n, hn, hn2⟩ : ∃ n : Nat, (1 : Int) + ((ns[0]?).getD 0) % 24 = (n : Int) ∧ 1 ≤ n ∧ n ≤ 24 := ⟨((1 : Int) + ((ns[0]?).getD 0) % 24).toNat, by omega, by omega⟩
  obtain ⟨ls, own, hdoc, hl, I⟩ := wd_doc ns 1 (by omega) n (by omega) true
  have we : m_weave [docD ls] = .ok (.list ((wvT ls).map pD)) := weave_is I (by omega)
  have hW : ∀ l ∈ ls, WOk l := fun l hl => wok (I.ok l hl)
  have hne : ls ≠ [] := fun z => by rw [z] at hl; simp at hl; omega
  have wi := write_is hW (by omega)
  have si := split_is hW (by omega) hne
  have wl' := wvT_len ls
  have nl := nbL_len ls
  have dl := doc_len ls
  have hlen : lenD (.list ((wvT ls).map pD)) = .ok (.int ((wvT ls).length : Nat)) := by rw [lenD_list, List.length_map]
  have hr1 : rng1D [.int (ls.length : Nat)] = .ok (rngD 0 ls.length) := by rw [rng1D_int (show (0 : Int) ≤ (ls.length : Int) by omega) (show (ls.length : Int) < 2 ^ 62 by omega), Int.toNat_natCast]
  have hr2 : rng1D [.int ((wvT ls).length : Nat)] = .ok (rngD 0 (wvT ls).length) := by rw [rng1D_int (show (0 : Int) ≤ ((wvT ls).length : Int) by omega) (show ((wvT ls).length : Int) < 2 ^ 62 by omega), Int.toNat_natCast]
  have s0 : 0 ≤ sizeLine := Nat.zero_le _
  obtain ⟨ρ1, e1, L, y5, y6, y7, y8, y9, rfl, hL, hR⟩ := forL_inv (fun j ρ => ∃ (L : List (Nat × Nat)) (y5 y6 y7 y8 y9 : Option D), ρ = [some (.list (ns.map PyData.int)), some (docD ls), some (.list ((ls.map wl).map S)), some (.list ((wvT ls).map pD)), some (.list (L.map prD)), y5, y6, y7, y8, y9, none] ∧ L.length ≤ 21 * j ∧ RC ls L j 0)
    (rngD 0 ls.length) [some (.list (ns.map PyData.int)), some (docD ls), some (.list ((ls.map wl).map S)), some (.list ((wvT ls).map pD)), some (.list (([] : List (Nat × Nat)).map prD)), none, none, none, none, none, none] 0 ⟨[], none, none, none, none, none, rfl, Nat.zero_le _, fun a l at' t f d _ _ _ h4 _ h6 => by
      exfalso
      rcases h6 with q | q
      · omega
      · have := q.2; omega⟩ (b := lb_law_0) (g := gSet 5) (fun i d ρ hd hI => by
      obtain ⟨L, z5, z6, z7, z8, z9, rfl, h1, h2⟩ := hI
      obtain ⟨hi, rfl⟩ := rngD_get hd
      have hi : i < ls.length := by omega
      rw [Nat.zero_add] at h1 h2
      obtain ⟨L', y6, y7, y8, y9, q, q1, q2⟩ := row86 I (by omega) (List.getElem?_eq_getElem hi) h1 h2 (some (.list (ns.map PyData.int))) z6 z7 z8 z9 none
      refine ⟨[some (.list (ns.map PyData.int)), some (docD ls), some (.list ((ls.map wl).map S)), some (.list ((wvT ls).map pD)), some (.list (L.map prD)), some (.int (i : Nat)), z6, z7, z8, z9, none], _, ?_, .inl q, L', _, _, _, _, _, rfl, by omega, by rw [Nat.zero_add]; exact q2⟩
      rw [gSet_at, Int.zero_add]; rfl)
  rw [rngD_len] at hL hR
  have hR : RC ls L ls.length 0 := by rw [Nat.zero_add] at hR; exact hR
  have e1 : forL (gSet 5) lb_law_0 (rngD 0 ls.length) [some (.list (ns.map PyData.int)), some (docD ls), some (.list ((ls.map wl).map S)), some (.list ((wvT ls).map pD)), some (.list []), none, none, none, none, none, none] = _ := e1
  obtain ⟨ρ2, e2, z7, z10, rfl⟩ := forL_inv (fun j ρ => ∃ (z7 z10 : Option D), ρ = [some (.list (ns.map PyData.int)), some (docD ls), some (.list ((ls.map wl).map S)), some (.list ((wvT ls).map pD)), some (.list (L.map prD)), y5, y6, z7, y8, y9, z10])
    (rngD 0 (wvT ls).length) [some (.list (ns.map PyData.int)), some (docD ls), some (.list ((ls.map wl).map S)), some (.list ((wvT ls).map pD)), some (.list (L.map prD)), y5, y6, y7, y8, y9, none] 0 ⟨y7, none, rfl⟩ (b := lb_law_2) (g := gSet 10) (fun i d ρ hd hI => by
      obtain ⟨z7, z10, rfl⟩ := hI
      obtain ⟨hi, rfl⟩ := rngD_get hd
      have hi : i < (wvT ls).length := by omega
      obtain ⟨y7', q⟩ := nrow86 I (by omega) hR hi (some (.list (ns.map PyData.int))) (some (.list ((ls.map wl).map S))) y5 y6 z7 y8 y9
      refine ⟨[some (.list (ns.map PyData.int)), some (docD ls), some (.list ((ls.map wl).map S)), some (.list ((wvT ls).map pD)), some (.list (L.map prD)), y5, y6, z7, y8, y9, some (.int (i : Nat))], _, ?_, .inl q, _, _, rfl⟩
      rw [gSet_at, Int.zero_add]; rfl)
  unfold m_law mkFn b_law
  generalize rngD 0 (wvT ls).length = R2 at *
  generalize rngD 0 ls.length = R1 at *
  generalize (wvT ls).map pD = WV at *
  generalize (ls.map wl).map S = WR at *
  generalize docD ls = DD at *
  generalize (PyData.list (ns.map PyData.int)) = sc at *
  generalize ((ns[0]?).getD 0) = z0 at *
  generalize txD ls = TX at *
  generalize L.map prD = LA at *
  clear hR
  simp -implicitDefEqProofs [c0, modD_int, hn, hdoc, we, wi, si, hlen, dl, hr1, hr2, s0, e1, e2]
theorem law_sp {K : PySem.W.Frag} {mg : Mg} {vs : List V} {H : Hp} {Q : VK} {E : XK} (h : spLaw K vs H Q E) : spM mg K 1 m_law vs H Q E := law_spM law_true h

theorem all_mk {l : PySem.W.OpenLaw} {w : World} {K : PySem.W.Frag} {h : Heap} {mg : Str → Option Value} {fa : Addr} (X : K.In h) (G : h.Ns mainGlobals mg) (hfa : mg "law" = some (.ref fa))
    {f1 f2 f3 f4 f5 f6 f7 f8 f9 f10 f11 f12 f13 f14 f15 f16 f17 f18 f19 f20 f21 f22 f23 : Addr} {od1 an1 od2 an2 od3 an3 od4 an4 od5 an5 od6 an6 od7 an7 od8 an8 od9 an9 od10 an10 od11 an11 od12 an12 od13 an13 od14 an14 od15 an15 od16 an16 od17 an17 od18 an18 od19 an19 od20 an20 od21 an21 od22 an22 od23 an23 : Option Addr} {sl1 sl2 sl3 sl4 sl5 sl6 sl7 sl8 sl9 sl10 sl11 sl12 sl13 sl14 sl15 sl16 sl17 sl18 sl19 sl20 sl21 sl22 sl23 : Array (Option Value)} {oc1 kV1 dc1 pm1 cd1 ct1 oc2 kV2 dc2 pm2 cd2 ct2 oc3 kV3 dc3 pm3 cd3 ct3 oc4 kV4 dc4 pm4 cd4 ct4 oc5 kV5 dc5 pm5 cd5 ct5 oc6 kV6 dc6 pm6 cd6 ct6 oc7 kV7 dc7 pm7 cd7 ct7 oc8 kV8 dc8 pm8 cd8 ct8 oc9 kV9 dc9 pm9 cd9 ct9 oc10 kV10 dc10 pm10 cd10 ct10 oc11 kV11 dc11 pm11 cd11 ct11 oc12 kV12 dc12 pm12 cd12 ct12 oc13 kV13 dc13 pm13 cd13 ct13 oc14 kV14 dc14 pm14 cd14 ct14 oc15 kV15 dc15 pm15 cd15 ct15 oc16 kV16 dc16 pm16 cd16 ct16 oc17 kV17 dc17 pm17 cd17 ct17 oc18 kV18 dc18 pm18 cd18 ct18 oc19 kV19 dc19 pm19 cd19 ct19 oc20 kV20 dc20 pm20 cd20 ct20 oc21 kV21 dc21 pm21 cd21 ct21 oc22 kV22 dc22 pm22 cd22 ct22 oc23 kV23 dc23 pm23 cd23 ct23 : Value}
    (a1 : PySem.W.nsIn K mainGlobals "section_end" = some (some (.ref f1))) (l1 : K.lookup f1 = some ⟨oc1, od1, .func (PySem.W.fnOf "section_end" "section_end" (defArgs s_section_end) (defBody s_section_end) (defScope s_section_end) .none kV1 dc1 pm1 an1 cd1 ct1), sl1⟩) (q1 : PySem.W.codeIn K cd1 "section_end" = true) (k1 : PySem.W.keepIn K (.ref f1) = true)
    (a2 : PySem.W.nsIn K mainGlobals "woven_text" = some (some (.ref f2))) (l2 : K.lookup f2 = some ⟨oc2, od2, .func (PySem.W.fnOf "woven_text" "woven_text" (defArgs s_woven_text) (defBody s_woven_text) (defScope s_woven_text) .none kV2 dc2 pm2 an2 cd2 ct2), sl2⟩) (q2 : PySem.W.codeIn K cd2 "woven_text" = true) (k2 : PySem.W.keepIn K (.ref f2) = true)
    (a3 : PySem.W.nsIn K mainGlobals "add_section" = some (some (.ref f3))) (l3 : K.lookup f3 = some ⟨oc3, od3, .func (PySem.W.fnOf "add_section" "add_section" (defArgs s_add_section) (defBody s_add_section) (defScope s_add_section) .none kV3 dc3 pm3 an3 cd3 ct3), sl3⟩) (q3 : PySem.W.codeIn K cd3 "add_section" = true) (k3 : PySem.W.keepIn K (.ref f3) = true)
    (a4 : PySem.W.nsIn K mainGlobals "following_numbers" = some (some (.ref f4))) (l4 : K.lookup f4 = some ⟨oc4, od4, .func (PySem.W.fnOf "following_numbers" "following_numbers" (defArgs s_following_numbers) (defBody s_following_numbers) (defScope s_following_numbers) .none kV4 dc4 pm4 an4 cd4 ct4), sl4⟩) (q4 : PySem.W.codeIn K cd4 "following_numbers" = true) (k4 : PySem.W.keepIn K (.ref f4) = true)
    (a5 : PySem.W.nsIn K mainGlobals "listed" = some (some (.ref f5))) (l5 : K.lookup f5 = some ⟨oc5, od5, .func (PySem.W.fnOf "listed" "listed" (defArgs s_listed) (defBody s_listed) (defScope s_listed) .none kV5 dc5 pm5 an5 cd5 ct5), sl5⟩) (q5 : PySem.W.codeIn K cd5 "listed" = true) (k5 : PySem.W.keepIn K (.ref f5) = true)
    (a6 : PySem.W.nsIn K mainGlobals "woven_shift" = some (some (.ref f6))) (l6 : K.lookup f6 = some ⟨oc6, od6, .func (PySem.W.fnOf "woven_shift" "woven_shift" (defArgs s_woven_shift) (defBody s_woven_shift) (defScope s_woven_shift) .none kV6 dc6 pm6 an6 cd6 ct6), sl6⟩) (q6 : PySem.W.codeIn K cd6 "woven_shift" = true) (k6 : PySem.W.keepIn K (.ref f6) = true)
    (a7 : PySem.W.nsIn K mainGlobals "write_line" = some (some (.ref f7))) (l7 : K.lookup f7 = some ⟨oc7, od7, .func (PySem.W.fnOf "write_line" "write_line" (defArgs s_write_line) (defBody s_write_line) (defScope s_write_line) .none kV7 dc7 pm7 an7 cd7 ct7), sl7⟩) (q7 : PySem.W.codeIn K cd7 "write_line" = true) (k7 : PySem.W.keepIn K (.ref f7) = true)
    (a8 : PySem.W.nsIn K mainGlobals "_law_cell" = some (some (.ref f8))) (l8 : K.lookup f8 = some ⟨oc8, od8, .func (PySem.W.fnOf "_law_cell" "_law_cell" (defArgs s__law_cell) (defBody s__law_cell) (defScope s__law_cell) .none kV8 dc8 pm8 an8 cd8 ct8), sl8⟩) (q8 : PySem.W.codeIn K cd8 "_law_cell" = true) (k8 : PySem.W.keepIn K (.ref f8) = true)
    (a9 : PySem.W.nsIn K mainGlobals "_law_draws" = some (some (.ref f9))) (l9 : K.lookup f9 = some ⟨oc9, od9, .func (PySem.W.fnOf "_law_draws" "_law_draws" (defArgs s__law_draws) (defBody s__law_draws) (defScope s__law_draws) .none kV9 dc9 pm9 an9 cd9 ct9), sl9⟩) (q9 : PySem.W.codeIn K cd9 "_law_draws" = true) (k9 : PySem.W.keepIn K (.ref f9) = true)
    (a10 : PySem.W.nsIn K mainGlobals "_law_code" = some (some (.ref f10))) (l10 : K.lookup f10 = some ⟨oc10, od10, .func (PySem.W.fnOf "_law_code" "_law_code" (defArgs s__law_code) (defBody s__law_code) (defScope s__law_code) .none kV10 dc10 pm10 an10 cd10 ct10), sl10⟩) (q10 : PySem.W.codeIn K cd10 "_law_code" = true) (k10 : PySem.W.keepIn K (.ref f10) = true)
    (a11 : PySem.W.nsIn K mainGlobals "_law_first" = some (some (.ref f11))) (l11 : K.lookup f11 = some ⟨oc11, od11, .func (PySem.W.fnOf "_law_first" "_law_first" (defArgs s__law_first) (defBody s__law_first) (defScope s__law_first) .none kV11 dc11 pm11 an11 cd11 ct11), sl11⟩) (q11 : PySem.W.codeIn K cd11 "_law_first" = true) (k11 : PySem.W.keepIn K (.ref f11) = true)
    (a12 : PySem.W.nsIn K mainGlobals "sections" = some (some (.ref f12))) (l12 : K.lookup f12 = some ⟨oc12, od12, .func (PySem.W.fnOf "sections" "sections" (defArgs s_sections) (defBody s_sections) (defScope s_sections) .none kV12 dc12 pm12 an12 cd12 ct12), sl12⟩) (q12 : PySem.W.codeIn K cd12 "sections" = true) (k12 : PySem.W.keepIn K (.ref f12) = true)
    (a13 : PySem.W.nsIn K mainGlobals "index_texts" = some (some (.ref f13))) (l13 : K.lookup f13 = some ⟨oc13, od13, .func (PySem.W.fnOf "index_texts" "index_texts" (defArgs s_index_texts) (defBody s_index_texts) (defScope s_index_texts) .none kV13 dc13 pm13 an13 cd13 ct13), sl13⟩) (q13 : PySem.W.codeIn K cd13 "index_texts" = true) (k13 : PySem.W.keepIn K (.ref f13) = true)
    (a14 : PySem.W.nsIn K mainGlobals "write" = some (some (.ref f14))) (l14 : K.lookup f14 = some ⟨oc14, od14, .func (PySem.W.fnOf "write" "write" (defArgs s_write) (defBody s_write) (defScope s_write) .none kV14 dc14 pm14 an14 cd14 ct14), sl14⟩) (q14 : PySem.W.codeIn K cd14 "write" = true) (k14 : PySem.W.keepIn K (.ref f14) = true)
    (a15 : PySem.W.nsIn K mainGlobals "_law_document" = some (some (.ref f15))) (l15 : K.lookup f15 = some ⟨oc15, od15, .func (PySem.W.fnOf "_law_document" "_law_document" (defArgs s__law_document) (defBody s__law_document) (defScope s__law_document) .none kV15 dc15 pm15 an15 cd15 ct15), sl15⟩) (q15 : PySem.W.codeIn K cd15 "_law_document" = true) (k15 : PySem.W.keepIn K (.ref f15) = true)
    (a16 : PySem.W.nsIn K mainGlobals "numbers_by_piece" = some (some (.ref f16))) (l16 : K.lookup f16 = some ⟨oc16, od16, .func (PySem.W.fnOf "numbers_by_piece" "numbers_by_piece" (defArgs s_numbers_by_piece) (defBody s_numbers_by_piece) (defScope s_numbers_by_piece) .none kV16 dc16 pm16 an16 cd16 ct16), sl16⟩) (q16 : PySem.W.codeIn K cd16 "numbers_by_piece" = true) (k16 : PySem.W.keepIn K (.ref f16) = true)
    (a17 : PySem.W.nsIn K mainGlobals "users_by_name" = some (some (.ref f17))) (l17 : K.lookup f17 = some ⟨oc17, od17, .func (PySem.W.fnOf "users_by_name" "users_by_name" (defArgs s_users_by_name) (defBody s_users_by_name) (defScope s_users_by_name) .none kV17 dc17 pm17 an17 cd17 ct17), sl17⟩) (q17 : PySem.W.codeIn K cd17 "users_by_name" = true) (k17 : PySem.W.keepIn K (.ref f17) = true)
    (a18 : PySem.W.nsIn K mainGlobals "made_lines" = some (some (.ref f18))) (l18 : K.lookup f18 = some ⟨oc18, od18, .func (PySem.W.fnOf "made_lines" "made_lines" (defArgs s_made_lines) (defBody s_made_lines) (defScope s_made_lines) .none kV18 dc18 pm18 an18 cd18 ct18), sl18⟩) (q18 : PySem.W.codeIn K cd18 "made_lines" = true) (k18 : PySem.W.keepIn K (.ref f18) = true)
    (a19 : PySem.W.nsIn K mainGlobals "_law_same" = some (some (.ref f19))) (l19 : K.lookup f19 = some ⟨oc19, od19, .func (PySem.W.fnOf "_law_same" "_law_same" (defArgs s__law_same) (defBody s__law_same) (defScope s__law_same) .none kV19 dc19 pm19 an19 cd19 ct19), sl19⟩) (q19 : PySem.W.codeIn K cd19 "_law_same" = true) (k19 : PySem.W.keepIn K (.ref f19) = true)
    (a20 : PySem.W.nsIn K mainGlobals "weave" = some (some (.ref f20))) (l20 : K.lookup f20 = some ⟨oc20, od20, .func (PySem.W.fnOf "weave" "weave" (defArgs s_weave) (defBody s_weave) (defScope s_weave) .none kV20 dc20 pm20 an20 cd20 ct20), sl20⟩) (q20 : PySem.W.codeIn K cd20 "weave" = true) (k20 : PySem.W.keepIn K (.ref f20) = true)
    (a21 : PySem.W.nsIn K mainGlobals "to_woven" = some (some (.ref f21))) (l21 : K.lookup f21 = some ⟨oc21, od21, .func (PySem.W.fnOf "to_woven" "to_woven" (defArgs s_to_woven) (defBody s_to_woven) (defScope s_to_woven) .none kV21 dc21 pm21 an21 cd21 ct21), sl21⟩) (q21 : PySem.W.codeIn K cd21 "to_woven" = true) (k21 : PySem.W.keepIn K (.ref f21) = true)
    (a22 : PySem.W.nsIn K mainGlobals "from_woven" = some (some (.ref f22))) (l22 : K.lookup f22 = some ⟨oc22, od22, .func (PySem.W.fnOf "from_woven" "from_woven" (defArgs s_from_woven) (defBody s_from_woven) (defScope s_from_woven) .none kV22 dc22 pm22 an22 cd22 ct22), sl22⟩) (q22 : PySem.W.codeIn K cd22 "from_woven" = true) (k22 : PySem.W.keepIn K (.ref f22) = true)
    (a23 : PySem.W.nsIn K mainGlobals "law" = some (some (.ref f23))) (l23 : K.lookup f23 = some ⟨oc23, od23, .func (PySem.W.fnOf "law" "law" (defArgs s_law) (defBody s_law) (defScope s_law) .none kV23 dc23 pm23 an23 cd23 ct23), sl23⟩) (q23 : PySem.W.codeIn K cd23 "law" = true) (k23 : PySem.W.keepIn K (.ref f23) = true)
    (z1 : PySem.W.nsIn K mainGlobals "bool" = some none)
    (z2 : PySem.W.nsIn K mainGlobals "enumerate" = some none)
    (z3 : PySem.W.nsIn K mainGlobals "int" = some none)
    (z4 : PySem.W.nsIn K mainGlobals "isinstance" = some none)
    (z5 : PySem.W.nsIn K mainGlobals "len" = some none)
    (z6 : PySem.W.nsIn K mainGlobals "range" = some none)
    (z7 : PySem.W.nsIn K mainGlobals "sorted" = some none)
    (z8 : PySem.W.nsIn K mainGlobals "str" = some none)
    (z9 : PySem.W.nsIn K mainGlobals "tuple" = some none)
    (z10 : PySem.W.nsIn K mainGlobals "zip" = some none)
    {tk1 : Tok} (g1 : PySem.W.nsIn K mainGlobals "MARGIN" = some (some (.int 4 tk1)))
    : ∃ fd : FuncData, (∀ (s : Shared) (v : Value), BindsTo s fd ⟨[v], []⟩ [("script", v)]) ∧ ∀ base : Heap, K.In base → base.Ns mainGlobals mg → FnOk l.prog w K mg base (L2N.CX l.prog w) 7 fa fd ["script"] (spLaw K) := by
  have e := hfa.symm.trans (PySem.W.mg_of X G a23)
  cases e
  have T : Txt K mg := ⟨PySem.W.mg_none_of X G z1, PySem.W.mg_none_of X G z2, PySem.W.mg_none_of X G z3, PySem.W.mg_none_of X G z4, PySem.W.mg_none_of X G z5, PySem.W.mg_none_of X G z6, PySem.W.mg_none_of X G z7, PySem.W.mg_none_of X G z8, PySem.W.mg_none_of X G z9, PySem.W.mg_none_of X G z10, ⟨⟨V.int 4, _, PySem.W.mg_of X G g1, ⟨_, rfl⟩, fun _ => .int _⟩⟩⟩
  have F1 := fun_mk (st := s_section_end) l1 q1 k1
  have F2 := fun_mk (st := s_woven_text) l2 q2 k2
  have F3 := fun_mk (st := s_add_section) l3 q3 k3
  have F4 := fun_mk (st := s_following_numbers) l4 q4 k4
  have F5 := fun_mk (st := s_listed) l5 q5 k5
  have F6 := fun_mk (st := s_woven_shift) l6 q6 k6
  have F7 := fun_mk (st := s_write_line) l7 q7 k7
  have F8 := fun_mk (st := s__law_cell) l8 q8 k8
  have F9 := fun_mk (st := s__law_draws) l9 q9 k9
  have F10 := fun_mk (st := s__law_code) l10 q10 k10
  have F11 := fun_mk (st := s__law_first) l11 q11 k11
  have F12 := fun_mk (st := s_sections) l12 q12 k12
  have F13 := fun_mk (st := s_index_texts) l13 q13 k13
  have F14 := fun_mk (st := s_write) l14 q14 k14
  have F15 := fun_mk (st := s__law_document) l15 q15 k15
  have F16 := fun_mk (st := s_numbers_by_piece) l16 q16 k16
  have F17 := fun_mk (st := s_users_by_name) l17 q17 k17
  have F18 := fun_mk (st := s_made_lines) l18 q18 k18
  have F19 := fun_mk (st := s__law_same) l19 q19 k19
  have F20 := fun_mk (st := s_weave) l20 q20 k20
  have F21 := fun_mk (st := s_to_woven) l21 q21 k21
  have F22 := fun_mk (st := s_from_woven) l22 q22 k22
  have F23 := fun_mk (st := s_law) l23 q23 k23
  refine ⟨PySem.W.fnOf "law" "law" (defArgs s_law) (defBody s_law) (defScope s_law) .none kV23 dc23 pm23 an23 cd23 ct23, fun s v => .of_eq rfl, fun base _ _ => ?_⟩
  have G_section_end : Fn l.prog w K mg base 1 "section_end" ["document", "head"] m_section_end := ⟨⟨f1, _, PySem.W.mg_of X G a1, k1, F1.binds (ps := ["document", "head"]) (fun _ _ _ _ _ _ us hl => match us, hl with | [_, _], _ => rfl), ok_section_end F1 T ⟩⟩
  have G_woven_text : Fn l.prog w K mg base 1 "woven_text" ["line", "number", "numbers"] m_woven_text := ⟨⟨f2, _, PySem.W.mg_of X G a2, k2, F2.binds (ps := ["line", "number", "numbers"]) (fun _ _ _ _ _ _ us hl => match us, hl with | [_, _, _], _ => rfl), ok_woven_text F2 T ⟩⟩
  have G_add_section : FnAdd l.prog w K mg base 1 "add_section" ["numbers", "key", "number"] m_add_section := ⟨⟨f3, _, PySem.W.mg_of X G a3, k3, F3.binds (ps := ["numbers", "key", "number"]) (fun _ _ _ _ _ _ us hl => match us, hl with | [_, _, _], _ => rfl), ok_add_section F3 T ⟩⟩
  have G_following_numbers : Fn l.prog w K mg base 1 "following_numbers" ["numbers"] m_following_numbers := ⟨⟨f4, _, PySem.W.mg_of X G a4, k4, F4.binds (ps := ["numbers"]) (fun _ _ _ _ _ _ us hl => match us, hl with | [_], _ => rfl), ok_following_numbers F4 T ⟩⟩
  have G_listed : Fn l.prog w K mg base 1 "listed" ["numbers"] m_listed := ⟨⟨f5, _, PySem.W.mg_of X G a5, k5, F5.binds (ps := ["numbers"]) (fun _ _ _ _ _ _ us hl => match us, hl with | [_], _ => rfl), ok_listed F5 T ⟩⟩
  have G_woven_shift : Fn l.prog w K mg base 1 "woven_shift" ["line", "text"] m_woven_shift := ⟨⟨f6, _, PySem.W.mg_of X G a6, k6, F6.binds (ps := ["line", "text"]) (fun _ _ _ _ _ _ us hl => match us, hl with | [_, _], _ => rfl), ok_woven_shift F6 T ⟩⟩
  have G_write_line : Fn l.prog w K mg base 1 "write_line" ["line"] m_write_line := ⟨⟨f7, _, PySem.W.mg_of X G a7, k7, F7.binds (ps := ["line"]) (fun _ _ _ _ _ _ us hl => match us, hl with | [_], _ => rfl), ok_write_line F7 T ⟩⟩
  have G__law_cell : Fn l.prog w K mg base 1 "_law_cell" ["script", "k"] m__law_cell := ⟨⟨f8, _, PySem.W.mg_of X G a8, k8, F8.binds (ps := ["script", "k"]) (fun _ _ _ _ _ _ us hl => match us, hl with | [_, _], _ => rfl), ok__law_cell F8 T ⟩⟩
  have G__law_draws : Fn l.prog w K mg base 1 "_law_draws" ["cell", "count"] m__law_draws := ⟨⟨f9, _, PySem.W.mg_of X G a9, k9, F9.binds (ps := ["cell", "count"]) (fun _ _ _ _ _ _ us hl => match us, hl with | [_, _], _ => rfl), ok__law_draws F9 T ⟩⟩
  have G__law_code : Fn l.prog w K mg base 1 "_law_code" ["draw"] m__law_code := ⟨⟨f10, _, PySem.W.mg_of X G a10, k10, F10.binds (ps := ["draw"]) (fun _ _ _ _ _ _ us hl => match us, hl with | [_], _ => rfl), ok__law_code F10 T ⟩⟩
  have G__law_first : Fn l.prog w K mg base 1 "_law_first" ["line"] m__law_first := ⟨⟨f11, _, PySem.W.mg_of X G a11, k11, F11.binds (ps := ["line"]) (fun _ _ _ _ _ _ us hl => match us, hl with | [_], _ => rfl), ok__law_first F11 T ⟩⟩
  have G_sections : Fn l.prog w K mg base 2 "sections" ["document"] m_sections := ⟨⟨f12, _, PySem.W.mg_of X G a12, k12, F12.binds (ps := ["document"]) (fun _ _ _ _ _ _ us hl => match us, hl with | [_], _ => rfl), ok_sections F12 T G_section_end⟩⟩
  have G_index_texts : Fn l.prog w K mg base 2 "index_texts" ["numbers"] m_index_texts := ⟨⟨f13, _, PySem.W.mg_of X G a13, k13, F13.binds (ps := ["numbers"]) (fun _ _ _ _ _ _ us hl => match us, hl with | [_], _ => rfl), ok_index_texts F13 T G_listed⟩⟩
  have G_write : Fn l.prog w K mg base 2 "write" ["document"] m_write := ⟨⟨f14, _, PySem.W.mg_of X G a14, k14, F14.binds (ps := ["document"]) (fun _ _ _ _ _ _ us hl => match us, hl with | [_], _ => rfl), ok_write F14 T G_write_line⟩⟩
  have G__law_document : Fn l.prog w K mg base 2 "_law_document" ["script", "start", "many", "loose"] m__law_document := ⟨⟨f15, _, PySem.W.mg_of X G a15, k15, F15.binds (ps := ["script", "start", "many", "loose"]) (fun _ _ _ _ _ _ us hl => match us, hl with | [_, _, _, _], _ => rfl), ok__law_document F15 T G__law_draws G__law_cell G__law_code⟩⟩
  have G_numbers_by_piece : Fn l.prog w K mg base 3 "numbers_by_piece" ["document"] m_numbers_by_piece := ⟨⟨f16, _, PySem.W.mg_of X G a16, k16, F16.binds (ps := ["document"]) (fun _ _ _ _ _ _ us hl => match us, hl with | [_], _ => rfl), ok_numbers_by_piece F16 T G_sections⟩⟩
  have G_users_by_name : Fn l.prog w K mg base 3 "users_by_name" ["document"] m_users_by_name := ⟨⟨f17, _, PySem.W.mg_of X G a17, k17, F17.binds (ps := ["document"]) (fun _ _ _ _ _ _ us hl => match us, hl with | [_], _ => rfl), ok_users_by_name F17 T G_sections G_add_section⟩⟩
  have G_made_lines : Fn l.prog w K mg base 4 "made_lines" ["document", "numbers"] m_made_lines := ⟨⟨f18, _, PySem.W.mg_of X G a18, k18, F18.binds (ps := ["document", "numbers"]) (fun _ _ _ _ _ _ us hl => match us, hl with | [_, _], _ => rfl), ok_made_lines F18 T G_users_by_name G_following_numbers G_sections G_listed⟩⟩
  have R0 : Fn l.prog w K mg base 0 "_law_same" ["actual", "expected"] m__law_same_0 := ⟨⟨f19, _, PySem.W.mg_of X G a19, k19, F19.binds (ps := ["actual", "expected"]) (fun _ _ _ _ _ _ us hl => match us, hl with | [_, _], _ => rfl), fn_stuck 0⟩⟩
  have R1 : Fn l.prog w K mg base 1 "_law_same" ["actual", "expected"] m__law_same_1 := ⟨⟨f19, _, PySem.W.mg_of X G a19, k19, F19.binds (ps := ["actual", "expected"]) (fun _ _ _ _ _ _ us hl => match us, hl with | [_, _], _ => rfl), ok__law_same (by decide) F19 T R0⟩⟩
  have R2 : Fn l.prog w K mg base 2 "_law_same" ["actual", "expected"] m__law_same_2 := ⟨⟨f19, _, PySem.W.mg_of X G a19, k19, F19.binds (ps := ["actual", "expected"]) (fun _ _ _ _ _ _ us hl => match us, hl with | [_, _], _ => rfl), ok__law_same (by decide) F19 T R1⟩⟩
  have R3 : Fn l.prog w K mg base 3 "_law_same" ["actual", "expected"] m__law_same_3 := ⟨⟨f19, _, PySem.W.mg_of X G a19, k19, F19.binds (ps := ["actual", "expected"]) (fun _ _ _ _ _ _ us hl => match us, hl with | [_, _], _ => rfl), ok__law_same (by decide) F19 T R2⟩⟩
  have R4 : Fn l.prog w K mg base 4 "_law_same" ["actual", "expected"] m__law_same_4 := ⟨⟨f19, _, PySem.W.mg_of X G a19, k19, F19.binds (ps := ["actual", "expected"]) (fun _ _ _ _ _ _ us hl => match us, hl with | [_, _], _ => rfl), ok__law_same (by decide) F19 T R3⟩⟩
  have G__law_same := R4
  have G_weave : Fn l.prog w K mg base 5 "weave" ["document"] m_weave := ⟨⟨f20, _, PySem.W.mg_of X G a20, k20, F20.binds (ps := ["document"]) (fun _ _ _ _ _ _ us hl => match us, hl with | [_], _ => rfl), ok_weave F20 T G_numbers_by_piece G_made_lines G_woven_text G_index_texts⟩⟩
  have G_to_woven : Fn l.prog w K mg base 6 "to_woven" ["document", "line", "column"] m_to_woven := ⟨⟨f21, _, PySem.W.mg_of X G a21, k21, F21.binds (ps := ["document", "line", "column"]) (fun _ _ _ _ _ _ us hl => match us, hl with | [_, _, _], _ => rfl), ok_to_woven F21 T G_weave G_woven_shift⟩⟩
  have G_from_woven : Fn l.prog w K mg base 6 "from_woven" ["document", "at", "column"] m_from_woven := ⟨⟨f22, _, PySem.W.mg_of X G a22, k22, F22.binds (ps := ["document", "at", "column"]) (fun _ _ _ _ _ _ us hl => match us, hl with | [_, _, _], _ => rfl), ok_from_woven F22 T G_woven_shift G_weave⟩⟩
  exact (ok_law F23 T G__law_document G_weave G__law_first G_write G_to_woven G__law_cell G__law_same G_from_woven).imp fun vs H Q E hs => law_sp hs
end WK
open PySem PySem.W PyProof.Rows
set_option maxHeartbeats 0 in
theorem PySem.Challenge.cw_weft_k86_woven_positions_holds : PySem.Challenge.rw_weft_k86_woven_positions.Holds := by
  w_on; o_law; k_head; (case hw => w_witness2)
  k_fill
  refine L2.walk_of (l := PySem.Challenge.rw_weft_k86_woven_positions) (n := 63) (k := 7) (x := "script") (CX := fun w => L2N.CX (PySem.Challenge.rw_weft_k86_woven_positions).prog w) (sp := fun w => WD.spLaw _) rfl (by decide) rfl ⟨rfl, by decide, by decide⟩ (fun w h Y => PySem.W.kIn_of Y) ?F (fun _ _ a ns hl _ hS => ⟨a, ns, rfl, hS, hl, fun _ => rfl⟩) (fun _ _ _ _ _ h => WD.no_cx h)
  case F =>
    intro w mg fa h KX G hmg
    refine' WK.all_mk KX G hmg ?a1 ?l1 ?q1 ?k1 ?a2 ?l2 ?q2 ?k2 ?a3 ?l3 ?q3 ?k3 ?a4 ?l4 ?q4 ?k4 ?a5 ?l5 ?q5 ?k5 ?a6 ?l6 ?q6 ?k6 ?a7 ?l7 ?q7 ?k7 ?a8 ?l8 ?q8 ?k8 ?a9 ?l9 ?q9 ?k9 ?a10 ?l10 ?q10 ?k10 ?a11 ?l11 ?q11 ?k11 ?a12 ?l12 ?q12 ?k12 ?a13 ?l13 ?q13 ?k13 ?a14 ?l14 ?q14 ?k14 ?a15 ?l15 ?q15 ?k15 ?a16 ?l16 ?q16 ?k16 ?a17 ?l17 ?q17 ?k17 ?a18 ?l18 ?q18 ?k18 ?a19 ?l19 ?q19 ?k19 ?a20 ?l20 ?q20 ?k20 ?a21 ?l21 ?q21 ?k21 ?a22 ?l22 ?q22 ?k22 ?a23 ?l23 ?q23 ?k23 ?z1 ?z2 ?z3 ?z4 ?z5 ?z6 ?z7 ?z8 ?z9 ?z10 ?g1
    (case a1 => k_is); (case l1 => k_is); (case q1 => k_is); (case k1 => k_is); (case a2 => k_is); (case l2 => k_is); (case q2 => k_is); (case k2 => k_is)
    (case a3 => k_is); (case l3 => k_is); (case q3 => k_is); (case k3 => k_is); (case a4 => k_is); (case l4 => k_is); (case q4 => k_is); (case k4 => k_is)
    (case a5 => k_is); (case l5 => k_is); (case q5 => k_is); (case k5 => k_is); (case a6 => k_is); (case l6 => k_is); (case q6 => k_is); (case k6 => k_is)
    (case a7 => k_is); (case l7 => k_is); (case q7 => k_is); (case k7 => k_is); (case a8 => k_is); (case l8 => k_is); (case q8 => k_is); (case k8 => k_is)
    (case a9 => k_is); (case l9 => k_is); (case q9 => k_is); (case k9 => k_is); (case a10 => k_is); (case l10 => k_is); (case q10 => k_is); (case k10 => k_is)
    (case a11 => k_is); (case l11 => k_is); (case q11 => k_is); (case k11 => k_is); (case a12 => k_is); (case l12 => k_is); (case q12 => k_is); (case k12 => k_is)
    (case a13 => k_is); (case l13 => k_is); (case q13 => k_is); (case k13 => k_is); (case a14 => k_is); (case l14 => k_is); (case q14 => k_is); (case k14 => k_is)
    (case a15 => k_is); (case l15 => k_is); (case q15 => k_is); (case k15 => k_is); (case a16 => k_is); (case l16 => k_is); (case q16 => k_is); (case k16 => k_is)
    (case a17 => k_is); (case l17 => k_is); (case q17 => k_is); (case k17 => k_is); (case a18 => k_is); (case l18 => k_is); (case q18 => k_is); (case k18 => k_is)
    (case a19 => k_is); (case l19 => k_is); (case q19 => k_is); (case k19 => k_is); (case a20 => k_is); (case l20 => k_is); (case q20 => k_is); (case k20 => k_is)
    (case a21 => k_is); (case l21 => k_is); (case q21 => k_is); (case k21 => k_is); (case a22 => k_is); (case l22 => k_is); (case q22 => k_is); (case k22 => k_is)
    (case a23 => k_is); (case l23 => k_is); (case q23 => k_is); (case k23 => k_is); (case z1 => k_is); (case z2 => k_is); (case z3 => k_is); (case z4 => k_is)
    (case z5 => k_is); (case z6 => k_is); (case z7 => k_is); (case z8 => k_is); (case z9 => k_is); (case z10 => k_is); (case g1 => k_is)
namespace WK
/-! levels: section_end=1 woven_text=1 add_section=1 following_numbers=1 listed=1 woven_shift=1 write_line=1 _law_cell=1 _law_draws=1 _law_code=1 _law_first=1 sections=2 index_texts=2 write=2 _law_document=2 numbers_by_piece=3 users_by_name=3 made_lines=4 _law_same=4 weave=5 to_woven=6 from_woven=6 law=7 -/
end WK
