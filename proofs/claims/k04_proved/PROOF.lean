import PyProof.Rows.All
import Wide.All
import OpenK.AllK
import Wide.FinOn
import HandS.ForMost
import HandS.ForExc
import HandS.IsInst
import HandS.CallSlots
import KE.DataEq
import PyProof.ReprBulk
import KE.GoesEnum
import HandS.Iter
import HandS.FStr
import HandS.Text
import HandS.Flow
import KE.KExcInit
import HandS.Exc
import HandS.ExcIs
import HandS.ExcField
import KE.KExcIs
import OpenK.KMake
import PyProof.InstSpecial
import HandS.More
import KE.KExcLine
import KE.RegKIsAll
import KE.KCallOwn
import HandS.ClsMeth
import PyProof.InstNe
import HandS.Dict
import HandS.Nested
import KE.KSuper
import HandS.Strs
import PySem.Challenge.RW_ledmarks_k04_texts_of_rows
set_option Elab.async false
set_option linter.all false
set_option maxRecDepth 100000
set_option maxHeartbeats 4000000
namespace LM
open PySem L2

inductive D where
  | non | bl (b : Bool) | int (i : Int) | str (x : Str)
  | tup (ds : List D) | lst (ds : List D) | ins (C : Addr) (ns : List Str) (ds : List D)

def WrT (K : PySem.W.Frag) (a : Addr) (xs : List V) : Prop :=
  ∃ (o : Obj) (its : Array Value) (n : Nat), K.lookup a = some o ∧ o.cls = .type "tuple" ∧ o.data = .seq its n ∧ its.size ≤ sizeLine ∧ Vals xs its.toList
def WrL (K : PySem.W.Frag) (a : Addr) (xs : List V) : Prop :=
  ∃ (its : Array Value) (n : Nat), K.lookup a = some { cls := .type "list", data := .seq its n } ∧ its.size ≤ sizeLine ∧ Vals xs its.toList
theorem WrL.sq {K : PySem.W.Frag} {H : Hp} {a : Addr} {xs : List V} (h : WrL K a xs) : SqL K H a xs := let ⟨its, n, e, z, r⟩ := h; .inr ⟨_, its, n, e, rfl, rfl, rfl, z, r⟩

mutual
inductive Rep (K : PySem.W.Frag) (B : Addr → Prop) (H : Hp) : V → D → Prop
  | non : Rep K B H .non .non
  | bl (b : Bool) : Rep K B H (.bl b) (.bl b)
  | int (i : Int) : Rep K B H (.int i) (.int i)
  | str (x : Str) : Rep K B H (.str x) (.str x)
  | tup {a : Addr} {xs : List V} {ds : List D} : ¬ B a → Rd H a (.tup xs) → Reps K B H xs ds → Rep K B H (.ref a) (.tup ds)
  | wtup {a : Addr} {xs : List V} {ds : List D} : WrT K a xs → Reps K B H xs ds → Rep K B H (.ref a) (.tup ds)
  | lst {a : Addr} {xs : List V} {ds : List D} : ¬ B a → Rd H a (.lst xs) → Reps K B H xs ds → Rep K B H (.ref a) (.lst ds)
  | wlst {a : Addr} {xs : List V} {ds : List D} : WrL K a xs → Reps K B H xs ds → Rep K B H (.ref a) (.lst ds)
  | ins {a C dx : Addr} {fs : List (Str × V)} {ns : List Str} {ds : List D} : ¬ B a → H a = some (.ins C dx fs) → ns = fs.map (·.1) → Reps K B H (fs.map (·.2)) ds → Rep K B H (.ref a) (.ins C ns ds)
inductive Reps (K : PySem.W.Frag) (B : Addr → Prop) (H : Hp) : List V → List D → Prop
  | nil : Reps K B H [] []
  | cons {v : V} {vs : List V} {d : D} {ds : List D} : Rep K B H v d → Reps K B H vs ds → Reps K B H (v :: vs) (d :: ds)
end

/-- the heap may turn at B, and grow; the avoided ones grow by new ones alone -/
structure Gr (B B' : Addr → Prop) (H H' : Hp) : Prop where
  kp : ∀ a o, H a = some o → ¬ B a → H' a = some o
  bb : ∀ a, B' a → B a ∨ H a = none

theorem rdgr {B B' : Addr → Prop} {H H' : Hp} {a : Addr} {u : HO} (g : Gr B B' H H') (n : ¬ B a) (r : Rd H a u) : ¬ B' a ∧ Rd H' a u := by
  rcases r with r | ⟨o, r⟩
  · exact ⟨fun h => (g.bb a h).elim n fun z => (by rw [r] at z; cases z), .inl (g.kp _ _ r n)⟩
  · exact ⟨fun h => (g.bb a h).elim n fun z => (by rw [r] at z; cases z), .inr ⟨o, g.kp _ _ r n⟩⟩

section
variable {K : PySem.W.Frag} {B B' : Addr → Prop} {H H' : Hp}
mutual
theorem Rep.gr (g : Gr B B' H H') : ∀ (d : D) (v : V), Rep K B H v d → Rep K B' H' v d
  | .non, _, h => by cases h; exact .non
  | .bl _, _, h => by cases h; exact .bl _
  | .int _, _, h => by cases h; exact .int _
  | .str _, _, h => by cases h; exact .str _
  | .tup ds, _, h => by
    cases h with
    | tup n r q => exact .tup (rdgr g n r).1 (rdgr g n r).2 (Reps.gr g ds _ q)
    | wtup r q => exact .wtup r (Reps.gr g ds _ q)
  | .lst ds, _, h => by
    cases h with
    | lst n r q => exact .lst (rdgr g n r).1 (rdgr g n r).2 (Reps.gr g ds _ q)
    | wlst r q => exact .wlst r (Reps.gr g ds _ q)
  | .ins C ns ds, _, h => by
    cases h with
    | ins n r e q => exact .ins (fun z => (g.bb _ z).elim n fun y => (by rw [r] at y; cases y)) (g.kp _ _ r n) e (Reps.gr g ds _ q)
theorem Reps.gr (g : Gr B B' H H') : ∀ (ds : List D) (vs : List V), Reps K B H vs ds → Reps K B' H' vs ds
  | [], _, h => by cases h; exact .nil
  | d :: ds, _, h => by
    cases h with
    | cons h1 h2 => exact .cons (Rep.gr g d _ h1) (Reps.gr g ds _ h2)
end
theorem Reps.len : ∀ {vs : List V} {ds : List D}, Reps K B H vs ds → vs.length = ds.length
  | _, [], h => by cases h; rfl
  | _, d :: ds, h => by
    cases h with
    | cons h1 h2 => rw [List.length_cons, List.length_cons, Reps.len h2]
theorem Reps.app : ∀ {vs us : List V} {ds es : List D}, Reps K B H vs ds → Reps K B H us es → Reps K B H (vs ++ us) (ds ++ es)
  | _, _, [], _, h, h' => by cases h; exact h'
  | _, _, d :: ds, _, h, h' => by
    cases h with
    | cons h1 h2 => exact .cons h1 (Reps.app h2 h')
theorem Reps.one {v : V} {d : D} (h : Rep K B H v d) : Reps K B H [v] [d] := .cons h .nil
theorem Reps.get : ∀ {ds : List D} {vs : List V} {i : Nat} {d : D}, Reps K B H vs ds → ds[i]? = some d → ∃ v, vs[i]? = some v ∧ Rep K B H v d
  | d :: ds, _, 0, e, h, q => by
    cases h with
    | cons h1 h2 =>
      simp at q; subst q
      exact ⟨_, rfl, h1⟩
  | d :: ds, _, i + 1, e, h, q => by
    cases h with
    | cons h1 h2 =>
      obtain ⟨v, e1, e2⟩ := Reps.get (i := i) h2 (by simpa using q)
      exact ⟨v, by simpa using e1, e2⟩
  | [], _, _, _, _, q => by simp at q
theorem Reps.getV : ∀ {vs : List V} {ds : List D} {i : Nat} {v : V}, Reps K B H vs ds → vs[i]? = some v → ∃ d, ds[i]? = some d ∧ Rep K B H v d
  | [], _, _, _, _, q => by simp at q
  | v :: vs, d :: ds, 0, e, h, q => by
    cases h with
    | cons h1 h2 =>
      simp at q; subst q
      exact ⟨_, rfl, h1⟩
  | v :: vs, d :: ds, i + 1, e, h, q => by
    cases h with
    | cons h1 h2 =>
      obtain ⟨v, e1, e2⟩ := Reps.getV (i := i) h2 (by simpa using q)
      exact ⟨v, by simpa using e1, e2⟩
  | v :: vs, [], _, _, h, _ => by cases h
theorem Reps.set : ∀ {vs : List V} {ds : List D} (i : Nat) {v : V} {d : D}, Reps K B H vs ds → Rep K B H v d → Reps K B H (vs.set i v) (ds.set i d)
  | _, [], _, _, _, h, _ => by cases h; exact .nil
  | _, d :: ds, 0, _, _, h, r => by
    cases h with
    | cons h1 h2 => exact .cons r h2
  | _, d :: ds, i + 1, _, _, h, r => by
    cases h with
    | cons h1 h2 => exact .cons h1 (Reps.set i h2 r)
theorem Reps.take : ∀ {vs : List V} {ds : List D} (n : Nat), Reps K B H vs ds → Reps K B H (vs.take n) (ds.take n)
  | _, _, 0, _ => .nil
  | _, [], _ + 1, h => by cases h; exact .nil
  | _, d :: ds, n + 1, h => by
    cases h with
    | cons h1 h2 => exact .cons h1 (Reps.take n h2)
theorem Reps.drop : ∀ {vs : List V} {ds : List D} (n : Nat), Reps K B H vs ds → Reps K B H (vs.drop n) (ds.drop n)
  | _, _, 0, h => h
  | _, [], _ + 1, h => by cases h; exact .nil
  | _, d :: ds, n + 1, h => by
    cases h with
    | cons h1 h2 => exact Reps.drop n h2
theorem Reps.rev : ∀ {vs : List V} {ds : List D}, Reps K B H vs ds → Reps K B H vs.reverse ds.reverse
  | _, [], h => by cases h; exact .nil
  | _, d :: ds, h => by
    cases h with
    | cons h1 h2 =>
      rw [List.reverse_cons, List.reverse_cons]
      exact (Reps.rev h2).app (.one h1)
theorem Reps.erase (i : Nat) {vs : List V} {ds : List D} (h : Reps K B H vs ds) : Reps K B H (vs.eraseIdx i) (ds.eraseIdx i) := by
  rw [List.eraseIdx_eq_take_drop_succ, List.eraseIdx_eq_take_drop_succ]
  exact (h.take i).app (h.drop (i + 1))
theorem Gr.sub (h : ∀ a, B' a → B a) : Gr B B' H H := ⟨fun _ _ e _ => e, fun a z => .inl (h a z)⟩
theorem Gr.same (h : ∀ a o, H a = some o → H' a = some o) : Gr B B H H' := ⟨fun _ _ e _ => h _ _ e, fun _ z => .inl z⟩
end

/-- a value whose own list may be avoided itself: T is what it is not -/
def Top (K : PySem.W.Frag) (T B : Addr → Prop) (H : Hp) (v : V) (d : D) : Prop :=
  Rep K B H v d ∨ ∃ (a : Addr) (xs : List V) (ds : List D), v = .ref a ∧ d = .lst ds ∧ ¬ T a ∧ Rd H a (.lst xs) ∧ Reps K B H xs ds
theorem Top.gr {K : PySem.W.Frag} {T T' B B' : Addr → Prop} {H H' : Hp} (gt : Gr T T' H H') (g : Gr B B' H H') {v : V} {d : D} (h : Top K T B H v d) : Top K T' B' H' v d := by
  rcases h with h | ⟨a, xs, ds, rfl, rfl, n, r, q⟩
  · exact .inl (h.gr g)
  · exact .inr ⟨a, xs, ds, rfl, rfl, (rdgr gt n r).1, (rdgr gt n r).2, q.gr g⟩

/-! ### what a value is, read -/
section
variable {K : PySem.W.Frag} {T B : Addr → Prop} {H : Hp}
theorem sqT_of {a : Addr} {xs : List V} (h : Rd H a (.tup xs)) : SqT K H a xs := .inl h
theorem sqT_w {a : Addr} {xs : List V} (h : WrT K a xs) : SqT K H a xs := .inr h
theorem Top.tup {v : V} {ds : List D} (h : Top K T B H v (.tup ds)) : ∃ a xs, v = .ref a ∧ SqT K H a xs ∧ Reps K B H xs ds := by
  rcases h with h | ⟨_, _, _, _, e, _⟩
  · cases h with
    | tup n r q => exact ⟨_, _, rfl, .inl r, q⟩
    | wtup r q => exact ⟨_, _, rfl, .inr r, q⟩
  · cases e
theorem Top.lst {v : V} {ds : List D} (h : Top K T B H v (.lst ds)) : ∃ a xs, v = .ref a ∧ SqL K H a xs ∧ Reps K B H xs ds := by
  rcases h with h | ⟨a, xs, es, rfl, e, _, r, q⟩
  · cases h with
    | lst n r q => exact ⟨_, _, rfl, .inl r, q⟩
    | wlst r q => exact ⟨_, _, rfl, r.sq, q⟩
  · cases e
    exact ⟨a, xs, rfl, .inl r, q⟩
theorem Top.int {v : V} {i : Int} (h : Top K T B H v (.int i)) : v = .int i := by
  rcases h with h | ⟨_, _, _, _, e, _⟩
  · cases h; rfl
  · cases e
theorem Top.str {v : V} {i : Str} (h : Top K T B H v (.str i)) : v = .str i := by
  rcases h with h | ⟨_, _, _, _, e, _⟩
  · cases h; rfl
  · cases e
theorem Top.bl {v : V} {i : Bool} (h : Top K T B H v (.bl i)) : v = .bl i := by
  rcases h with h | ⟨_, _, _, _, e, _⟩
  · cases h; rfl
  · cases e
theorem Top.non {v : V} (h : Top K T B H v .non) : v = .non := by
  rcases h with h | ⟨_, _, _, _, e, _⟩
  · cases h; rfl
  · cases e
theorem Top.ins {v : V} {C : Addr} {ns : List Str} {ds : List D} (h : Top K T B H v (.ins C ns ds)) : ∃ a dx fs, v = .ref a ∧ H a = some (.ins C dx fs) ∧ ns = fs.map (·.1) ∧ Reps K B H (fs.map (·.2)) ds := by
  rcases h with h | ⟨_, _, _, _, e, _⟩
  · cases h with
    | ins n r e q => exact ⟨_, _, _, rfl, r, e, q⟩
  · cases e
end
end LM

namespace LM
open PySem L2

/-- what a name's slot holds -/
inductive Sl where
  | no | val (d : D) | top (d : D) | own (ds : List D) | fz (ds : List D) | slf (x C : Addr) (ns : List Str) (ds : List D) | box
def Sl.isOwn : Sl → Bool
  | .own _ => true
  | .slf _ _ _ _ => true
  | _ => false
def Sl.isRef : Sl → Bool
  | .own _ => true
  | .slf _ _ _ _ => true
  | .fz _ => true
  | _ => false
/-- what an expression's value is: data; data whose own list is somebody's; the own list of a slot; a new list; the box -/
inductive W where
  | v (d : D) | t (d : D) | l (i : Nat) | f (ds : List D) | b
def W.isF : W → Bool
  | .f _ => true
  | _ => false

/-- the state behind a reference that many defs hand on -/
structure BoxI (S : Type) where
  rel : S → V → (Addr → Prop) → Hp → Prop
  frame : ∀ {s : S} {bv : V} {bm : Addr → Prop} {H H' : Hp}, rel s bv bm H → (∀ a, bm a → H' a = H a) → rel s bv bm H'
  dom : ∀ {s : S} {bv : V} {bm : Addr → Prop} {H : Hp} {a : Addr}, rel s bv bm H → bm a → H a ≠ none
  fix : Bool
def boxNil : BoxI Unit where
  rel := fun _ _ bm _ => ∀ a, ¬ bm a
  frame := fun h _ => h
  dom := fun h m => absurd m (h _)
  fix := true

structure Gh where
  B : Addr → Prop
  M : Addr → Prop
  H0 : Hp
  bv : V := .non

def Ow (ad : Nat → Addr) (env : List Sl) (ts : List (V × W)) (a : Addr) : Prop :=
  (∃ i x, env[i]? = some x ∧ x.isOwn = true ∧ ad i = a) ∨ ∃ p ∈ ts, p.2.isF = true ∧ p.1 = .ref a
def Tv (bm : Addr → Prop) (ad : Nat → Addr) (env : List Sl) (ts : List (V × W)) (a : Addr) : Prop := bm a ∨ Ow ad env ts a
def Bv (G : Gh) (bm : Addr → Prop) (ad : Nat → Addr) (env : List Sl) (ts : List (V × W)) (a : Addr) : Prop := G.B a ∨ bm a ∨ Ow ad env ts a

def SlR (K : PySem.W.Frag) (T B : Addr → Prop) (bv : V) (H : Hp) (a : Addr) (o : Option (Option V)) : Sl → Prop
  | .no => True
  | .val d => ∃ v, o = some (some v) ∧ Rep K B H v d
  | .top d => ∃ v, o = some (some v) ∧ Top K T B H v d
  | .own ds => o = some (some (.ref a)) ∧ ∃ xs, H a = some (.lst xs) ∧ Reps K B H xs ds
  | .fz ds => o = some (some (.ref a)) ∧ Rep K B H (.ref a) (.lst ds)
  | .slf x C ns ds => a = x ∧ o = some (some (.ref a)) ∧ ∃ dx fs, H a = some (.ins C dx fs) ∧ ns = fs.map (·.1) ∧ Reps K B H (fs.map (·.2)) ds
  | .box => o = some (some bv)
def Wr (K : PySem.W.Frag) (T B : Addr → Prop) (bv : V) (ad : Nat → Addr) (env : List Sl) (H : Hp) (x : V) : W → Prop
  | .v d => Rep K B H x d
  | .t d => Top K T B H x d
  | .l i => x = .ref (ad i) ∧ ∃ y, env[i]? = some y ∧ y.isRef = true
  | .f ds => ∃ a xs, x = .ref a ∧ H a = some (.lst xs) ∧ Reps K B H xs ds
  | .b => x = bv

structure ERa {S : Type} (K : PySem.W.Frag) (I : BoxI S) (G : Gh) (ad : Nat → Addr) (bv : V) (bm : Addr → Prop) (env : List Sl) (s : S) (ts : List (V × W)) (σ : St) (H : Hp) : Prop where
  len : σ.length = env.length
  ext : ∀ a o, G.H0 a = some o → ¬ G.M a → H a = some o
  dom : ∀ a, H a = none → G.H0 a = none
  box : I.rel s bv bm H
  bfr : (∀ a, bm a → G.M a ∨ G.H0 a = none) ∧ (I.fix = true → bv = G.bv ∧ bm = G.M)
  bdom : ∀ a, G.B a → G.H0 a ≠ none
  own : ∀ i x, env[i]? = some x → x.isOwn = true → G.H0 (ad i) = none ∧ ¬ bm (ad i)
  tow : ∀ p ∈ ts, p.2.isF = true → ∀ a, p.1 = .ref a → G.H0 a = none ∧ ¬ bm a
  d1 : ∀ i j x y, env[i]? = some x → env[j]? = some y → x.isOwn = true → y.isOwn = true → ad i = ad j → i = j
  d2 : ∀ i x p, env[i]? = some x → x.isOwn = true → p ∈ ts → p.2.isF = true → p.1 ≠ .ref (ad i)
  d3 : ts.Pairwise fun p q => p.2.isF = true → q.2.isF = true → p.1 ≠ q.1
  sl : ∀ i x, env[i]? = some x → SlR K (Tv bm ad env ts) (Bv G bm ad env ts) bv H (ad i) σ[i]? x
  tm : ∀ p ∈ ts, Wr K (Tv bm ad env ts) (Bv G bm ad env ts) bv ad env H p.1 p.2

section
variable {S : Type} {K : PySem.W.Frag} {I : BoxI S} {G : Gh} {ad : Nat → Addr} {bv : V} {bm : Addr → Prop} {env : List Sl} {s s' : S} {ts ts' : List (V × W)} {σ : St} {H H' : Hp}

theorem SlR.gr {T T' B B' : Addr → Prop} {a : Addr} {o : Option (Option V)} {x : Sl} (gt : Gr T T' H H') (g : Gr B B' H H') (ho : x.isOwn = true → ∀ u, H a = some u → H' a = some u) (h : SlR K T B bv H a o x) : SlR K T' B' bv H' a o x := by
  cases x with
  | no => exact h
  | val d => obtain ⟨v, e, r⟩ := h; exact ⟨v, e, r.gr g⟩
  | top d => obtain ⟨v, e, r⟩ := h; exact ⟨v, e, r.gr gt g⟩
  | own ds => obtain ⟨e, xs, e2, r⟩ := h; exact ⟨e, xs, ho rfl _ e2, r.gr g⟩
  | fz ds => obtain ⟨e, r⟩ := h; exact ⟨e, r.gr g⟩
  | slf x C ns ds => obtain ⟨ea, e, dx, fs, e2, e3, r⟩ := h; exact ⟨ea, e, dx, fs, ho rfl _ e2, e3, r.gr g⟩
  | box => exact h
theorem Wr.gr {T T' B B' : Addr → Prop} {env' : List Sl} {x : V} {w : W} (gt : Gr T T' H H') (g : Gr B B' H H') (ho : w.isF = true → ∀ a u, x = .ref a → H a = some u → H' a = some u)
    (he : ∀ i y, w = .l i → env[i]? = some y → y.isRef = true → ∃ y', env'[i]? = some y' ∧ y'.isRef = true) (h : Wr K T B bv ad env H x w) : Wr K T' B' bv ad env' H' x w := by
  cases w with
  | v d => exact Rep.gr g _ _ h
  | t d => exact Top.gr gt g h
  | l i => obtain ⟨e, y, e1, e2⟩ := h; exact ⟨e, he i y rfl e1 e2⟩
  | f ds => obtain ⟨a, xs, e, e1, r⟩ := h; exact ⟨a, xs, e, ho rfl a _ e e1, r.gr g⟩
  | b => exact h
/-- all that is avoided stands -/
theorem ERa.tdom (R : ERa K I G ad bv bm env s ts σ H) {a : Addr} (h : Tv bm ad env ts a) : H a ≠ none := by
  rcases h with h | ⟨i, x, e, o, rfl⟩ | ⟨p, hp, f, e⟩
  · exact I.dom R.box h
  · have q := R.sl i x e
    cases x with
    | own ds => obtain ⟨_, xs, e2, _⟩ := q; rw [e2]; exact fun z => by cases z
    | slf x C ns ds => obtain ⟨_, _, dx, fs, e2, _⟩ := q; rw [e2]; exact fun z => by cases z
    | _ => cases o
  · have q := R.tm p hp
    obtain ⟨v, w⟩ := p
    cases w with
    | f ds =>
      obtain ⟨b, xs, e1, e2, _⟩ := q
      cases e.symm.trans e1
      rw [e2]
      exact fun z => by cases z
    | _ => cases f
theorem ERa.avdom (R : ERa K I G ad bv bm env s ts σ H) {a : Addr} (h : Bv G bm ad env ts a) : H a ≠ none := by
  rcases h with h | h
  · exact fun z => R.bdom a h (R.dom a z)
  · exact R.tdom h
/-- the heap grows; what the box holds may turn -/
theorem ERa.grow (R : ERa K I G ad bv bm env s ts σ H) (hk : ∀ a o, H a = some o → ¬ bm a → H' a = some o) (hd : ∀ a, H' a = none → H a = none) (hb : I.rel s' bv bm H') : ERa K I G ad bv bm env s' ts σ H' := by
  have gt : Gr (Tv bm ad env ts) (Tv bm ad env ts) H H' := ⟨fun a o e n => hk a o e fun z => n (.inl z), fun a z => .inl z⟩
  have g : Gr (Bv G bm ad env ts) (Bv G bm ad env ts) H H' := ⟨fun a o e n => hk a o e fun z => n (.inr (.inl z)), fun a z => .inl z⟩
  refine ⟨R.len, fun a o e n => hk a o (R.ext a o e n) fun z => (R.bfr.1 a z).elim n fun q => (by rw [e] at q; cases q), fun a e => R.dom a (hd a e), hb, R.bfr, R.bdom, R.own, R.tow, R.d1, R.d2, R.d3, fun i x e => ?_, fun p hp => ?_⟩
  · exact (R.sl i x e).gr gt g fun ho u q => hk _ _ q (R.own i x e ho).2
  · exact (R.tm p hp).gr gt g (fun hf a u e q => hk _ _ q (R.tow p hp hf a e).2) fun i y _ q r => ⟨y, q, r⟩
theorem ERa.same (R : ERa K I G ad bv bm env s ts σ H) (h : ∀ a o, H a = some o → H' a = some o) : ERa K I G ad bv bm env s ts σ H' :=
  R.grow (fun a o e _ => h a o e) (fun a e => by cases q : H a with | none => rfl | some o => rw [h a o q] at e; cases e) (I.frame R.box fun a m => by cases q : H a with | none => exact absurd q (I.dom R.box m) | some o => exact h a o q)
theorem same_upd {a : Addr} {o : HO} (n : H a = none) : ∀ b u, H b = some u → upd H a o b = some u := fun b u e => by rw [upd_ne (ne_of_none e n)]; exact e

/-- fewer temporaries -/
theorem ERa.less (R : ERa K I G ad bv bm env s ts σ H) (h : List.Sublist ts' ts) : ERa K I G ad bv bm env s ts' σ H := by
  have hm : ∀ p ∈ ts', p ∈ ts := fun p hp => h.subset hp
  have go : ∀ a, Ow ad env ts' a → Ow ad env ts a := fun a z => z.imp (fun q => q) fun ⟨p, hp, q⟩ => ⟨p, hm p hp, q⟩
  have gt : Gr (Tv bm ad env ts) (Tv bm ad env ts') H H := .sub fun a z => z.imp (fun q => q) (go a)
  have g : Gr (Bv G bm ad env ts) (Bv G bm ad env ts') H H := .sub fun a z => z.imp (fun q => q) fun z => z.imp (fun q => q) (go a)
  refine ⟨R.len, R.ext, R.dom, R.box, R.bfr, R.bdom, R.own, fun p hp => R.tow p (hm p hp), R.d1, fun i x p e o hp => R.d2 i x p e o (hm p hp), R.d3.sublist h, fun i x e => (R.sl i x e).gr gt g fun _ _ q => q, fun p hp => (R.tm p (hm p hp)).gr gt g (fun _ _ _ _ q => q) fun i y _ q r => ⟨y, q, r⟩⟩
theorem ERa.pop {p : V × W} (R : ERa K I G ad bv bm env s (p :: ts) σ H) : ERa K I G ad bv bm env s ts σ H := R.less (List.sublist_cons_self _ _)
theorem ERa.pops {l : List (V × W)} (R : ERa K I G ad bv bm env s (l ++ ts) σ H) : ERa K I G ad bv bm env s ts σ H := R.less (List.sublist_append_right _ _)
/-- a value more that is no new list -/
theorem ERa.push {v : V} {w : W} (R : ERa K I G ad bv bm env s ts σ H) (nf : w.isF = false) (h : Wr K (Tv bm ad env ts) (Bv G bm ad env ts) bv ad env H v w) : ERa K I G ad bv bm env s ((v, w) :: ts) σ H := by
  have go : ∀ a, Ow ad env ((v, w) :: ts) a → Ow ad env ts a := fun a z => z.imp (fun q => q) fun ⟨p, hp, f, q⟩ => by
    rcases List.mem_cons.mp hp with rfl | hp
    · rw [nf] at f; cases f
    · exact ⟨p, hp, f, q⟩
  have gt : Gr (Tv bm ad env ts) (Tv bm ad env ((v, w) :: ts)) H H := .sub fun a z => z.imp (fun q => q) (go a)
  have g : Gr (Bv G bm ad env ts) (Bv G bm ad env ((v, w) :: ts)) H H := .sub fun a z => z.imp (fun q => q) fun z => z.imp (fun q => q) (go a)
  refine ⟨R.len, R.ext, R.dom, R.box, R.bfr, R.bdom, R.own, fun p hp f => ?_, R.d1, fun i x p e o hp f => ?_, List.pairwise_cons.mpr ⟨fun q _ f => (by rw [nf] at f; cases f), R.d3⟩, fun i x e => (R.sl i x e).gr gt g fun _ _ q => q, fun p hp => ?_⟩
  · rcases List.mem_cons.mp hp with rfl | hp
    · rw [nf] at f; cases f
    · exact R.tow p hp f
  · rcases List.mem_cons.mp hp with rfl | hp
    · rw [nf] at f; cases f
    · exact R.d2 i x p e o hp f
  · rcases List.mem_cons.mp hp with rfl | hp
    · exact h.gr gt g (fun f => by rw [nf] at f; cases f) fun i y _ q r => ⟨y, q, r⟩
    · exact (R.tm p hp).gr gt g (fun _ _ _ _ q => q) fun i y _ q r => ⟨y, q, r⟩
theorem ERa.pushV {v : V} {d : D} (R : ERa K I G ad bv bm env s ts σ H) (h : Rep K (Bv G bm ad env ts) H v d) : ERa K I G ad bv bm env s ((v, .v d) :: ts) σ H := R.push rfl h
/-- a new list -/
theorem ERa.newF {a : Addr} {xs : List V} {ds : List D} (R : ERa K I G ad bv bm env s ts σ H) (n : H a = none) (r : Reps K (Bv G bm ad env ts) H xs ds) : ERa K I G ad bv bm env s ((.ref a, .f ds) :: ts) σ (upd H a (.lst xs)) := by
  have R' := R.same (H' := upd H a (.lst xs)) (same_upd n)
  have go : ∀ b, Ow ad env ((.ref a, .f ds) :: ts) b → Ow ad env ts b ∨ b = a := fun b z => by
    rcases z with z | ⟨p, hp, f, q⟩
    · exact .inl (.inl z)
    · rcases List.mem_cons.mp hp with rfl | hp
      · injection q with q; exact .inr q.symm
      · exact .inl (.inr ⟨p, hp, f, q⟩)
  have gt : Gr (Tv bm ad env ts) (Tv bm ad env ((.ref a, .f ds) :: ts)) H (upd H a (.lst xs)) := ⟨fun b u e _ => same_upd n b u e, fun b z => z.elim (fun z => .inl (.inl z)) fun z => (go b z).elim (fun z => .inl (.inr z)) fun z => .inr (z ▸ n)⟩
  have g : Gr (Bv G bm ad env ts) (Bv G bm ad env ((.ref a, .f ds) :: ts)) H (upd H a (.lst xs)) :=
    ⟨fun b u e _ => same_upd n b u e, fun b z => z.elim (fun z => .inl (.inl z)) fun z => z.elim (fun z => .inl (.inr (.inl z))) fun z => (go b z).elim (fun z => .inl (.inr (.inr z))) fun z => .inr (z ▸ n)⟩
  have nb : ¬ bm a := fun z => I.dom R.box z n
  refine ⟨R.len, R'.ext, R'.dom, R'.box, R.bfr, R.bdom, R.own, fun p hp f b e => ?_, R.d1, fun i x p e o hp f => ?_, List.pairwise_cons.mpr ⟨fun q hq _ f e => ?_, R.d3⟩, fun i x e => (R.sl i x e).gr gt g fun _ _ q => same_upd n _ _ q, fun p hp => ?_⟩
  · rcases List.mem_cons.mp hp with rfl | hp
    · injection e with e; subst e; exact ⟨R.dom _ n, nb⟩
    · exact R.tow p hp f b e
  · rcases List.mem_cons.mp hp with rfl | hp
    · intro z
      injection z with z
      exact R.tdom (.inr (.inl ⟨i, x, e, o, z.symm⟩)) n
    · exact R.d2 i x p e o hp f
  · exact R.tdom (.inr (.inr ⟨q, hq, f, e.symm⟩)) n
  · rcases List.mem_cons.mp hp with rfl | hp
    · exact ⟨a, xs, rfl, upd_same, r.gr g⟩
    · exact (R.tm p hp).gr gt g (fun _ _ _ _ q => same_upd n _ _ q) fun i y _ q r => ⟨y, q, r⟩
theorem ERa.newT {a : Addr} {xs : List V} {ds : List D} (R : ERa K I G ad bv bm env s ts σ H) (n : H a = none) (r : Reps K (Bv G bm ad env ts) H xs ds) : ERa K I G ad bv bm env s ((.ref a, .v (.tup ds)) :: ts) σ (upd H a (.tup xs)) := by
  refine (R.same (H' := upd H a (.tup xs)) (same_upd n)).pushV (.tup (fun z => R.avdom z n) (.inl upd_same) (r.gr (.same (same_upd n))))
/-- a new list is let be -/
theorem ERa.fzF {v : V} {ds : List D} (R : ERa K I G ad bv bm env s ((v, .f ds) :: ts) σ H) : ERa K I G ad bv bm env s ((v, .v (.lst ds)) :: ts) σ H := by
  obtain ⟨a, xs, e, e1, r⟩ := R.tm _ List.mem_cons_self
  obtain rfl : v = .ref a := e
  have r' : Reps K (Bv G bm ad env ts) H xs ds := r.gr (.sub fun b z => z.imp (fun q => q) fun z => z.imp (fun q => q) fun z => z.imp (fun q => q) fun ⟨p, hp, q⟩ => ⟨p, List.mem_cons_of_mem _ hp, q⟩)
  refine R.pop.pushV (.lst ?_ (.inl e1) r')
  obtain ⟨h0, hb⟩ := R.tow _ List.mem_cons_self rfl a rfl
  rintro (z | z | ⟨i, x, e, o, z⟩ | ⟨p, hp, f, z⟩)
  · exact R.bdom a z h0
  · exact hb z
  · exact R.d2 i x _ e o List.mem_cons_self rfl (by rw [z])
  · exact (List.pairwise_cons.mp R.d3).1 p hp rfl f z.symm
end
end LM

namespace LM
open PySem L2

/-- the temporaries at a statement's begin: data alone -/
def Cl (ts : List (V × W)) : Prop := ∀ p ∈ ts, (∃ d, p.2 = .v d) ∨ ∃ d, p.2 = .t d
theorem Cl.nf {ts : List (V × W)} (c : Cl ts) {p : V × W} (h : p ∈ ts) : p.2.isF = false := by
  rcases c p h with ⟨d, e⟩ | ⟨d, e⟩ <;> rw [e] <;> rfl
theorem Cl.nl {ts : List (V × W)} (c : Cl ts) {p : V × W} (h : p ∈ ts) (i : Nat) : p.2 ≠ .l i := by
  rcases c p h with ⟨d, e⟩ | ⟨d, e⟩ <;> rw [e] <;> exact fun z => by cases z
theorem Cl.nil : Cl [] := fun _ h => nomatch h
theorem Cl.cons {v : V} {d : D} {ts : List (V × W)} (c : Cl ts) : Cl ((v, .v d) :: ts) := fun p hp => by
  rcases List.mem_cons.mp hp with rfl | hp
  · exact .inl ⟨d, rfl⟩
  · exact c p hp
theorem Cl.consT {v : V} {d : D} {ts : List (V × W)} (c : Cl ts) : Cl ((v, .t d) :: ts) := fun p hp => by
  rcases List.mem_cons.mp hp with rfl | hp
  · exact .inr ⟨d, rfl⟩
  · exact c p hp

section
variable {S : Type} {K : PySem.W.Frag} {I : BoxI S} {G : Gh} {ad : Nat → Addr} {bv : V} {bm : Addr → Prop} {env : List Sl} {s s' : S} {ts ts' : List (V × W)} {σ : St} {H H' : Hp}

theorem set_get {α : Type} {l : List α} {i j : Nat} {x y : α} (h : (l.set i x)[j]? = some y) : (j = i ∧ y = x ∧ i < l.length) ∨ (j ≠ i ∧ l[j]? = some y) := by
  by_cases e : j = i
  · subst e
    by_cases hl : j < l.length
    · rw [List.getElem?_set_self hl] at h
      exact .inl ⟨rfl, (Option.some.inj h).symm, hl⟩
    · rw [List.getElem?_eq_none_iff.mpr (by rw [List.length_set]; omega)] at h
      cases h
  · rw [List.getElem?_set_ne (Ne.symm e)] at h
    exact .inr ⟨e, h⟩

/-- a slot stored: no list of its own -/
theorem ERa.put {x : Sl} {i : Nat} {v : Option V} (R : ERa K I G ad bv bm env s ts σ H) (cl : Cl ts) (nx : x.isOwn = false) (h : SlR K (Tv bm ad env ts) (Bv G bm ad env ts) bv H (ad i) (some v) x) : ERa K I G ad bv bm (env.set i x) s ts (σ.set i v) H := by
  have go : ∀ a, Ow ad (env.set i x) ts a → Ow ad env ts a := fun a z => z.imp (fun ⟨j, y, e, o, q⟩ => by
    rcases set_get e with ⟨_, rfl, _⟩ | ⟨_, e⟩
    · rw [nx] at o; cases o
    · exact ⟨j, y, e, o, q⟩) fun q => q
  have gt : Gr (Tv bm ad env ts) (Tv bm ad (env.set i x) ts) H H := .sub fun a z => z.imp (fun q => q) (go a)
  have g : Gr (Bv G bm ad env ts) (Bv G bm ad (env.set i x) ts) H H := .sub fun a z => z.imp (fun q => q) fun z => z.imp (fun q => q) (go a)
  refine ⟨by rw [List.length_set, List.length_set]; exact R.len, R.ext, R.dom, R.box, R.bfr, R.bdom, fun j y e o => ?_, R.tow, fun j k y z ej ek oj ok => ?_, fun j y p e o => ?_, R.d3, fun j y e => ?_, fun p hp => ?_⟩
  · rcases set_get e with ⟨_, rfl, _⟩ | ⟨_, e⟩
    · rw [nx] at o; cases o
    · exact R.own j y e o
  · rcases set_get ej with ⟨_, rfl, _⟩ | ⟨_, ej⟩
    · rw [nx] at oj; cases oj
    rcases set_get ek with ⟨_, rfl, _⟩ | ⟨_, ek⟩
    · rw [nx] at ok; cases ok
    exact R.d1 j k y z ej ek oj ok
  · rcases set_get e with ⟨_, rfl, _⟩ | ⟨_, e⟩
    · rw [nx] at o; cases o
    · exact R.d2 j y p e o
  · rcases set_get e with ⟨rfl, rfl, hl⟩ | ⟨ne, e⟩
    · rw [List.getElem?_set_self (by rw [R.len]; exact hl)]
      exact h.gr gt g fun _ _ q => q
    · rw [List.getElem?_set_ne (Ne.symm ne)]
      exact (R.sl j y e).gr gt g fun _ _ q => q
  · exact (R.tm p hp).gr gt g (fun _ _ _ _ q => q) fun j y e _ _ => absurd e (cl.nl hp j)
theorem ERa.putV {d : D} {i : Nat} {v : V} (R : ERa K I G ad bv bm env s ((v, .v d) :: ts) σ H) (cl : Cl ts) : ERa K I G ad bv bm (env.set i (.val d)) s ts (σ.set i (some v)) H := by
  have r : Rep K (Bv G bm ad env ((v, .v d) :: ts)) H v d := R.tm _ List.mem_cons_self
  exact (R.put (x := .val d) cl.cons rfl ⟨v, rfl, r⟩).pop
theorem ERa.putT {d : D} {i : Nat} {v : V} (R : ERa K I G ad bv bm env s ((v, .t d) :: ts) σ H) (cl : Cl ts) : ERa K I G ad bv bm (env.set i (.top d)) s ts (σ.set i (some v)) H := by
  have r : Top K (Tv bm ad env ((v, .t d) :: ts)) (Bv G bm ad env ((v, .t d) :: ts)) H v d := R.tm _ List.mem_cons_self
  exact (R.put (x := .top d) cl.consT rfl ⟨v, rfl, r⟩).pop
theorem ERa.putNo {i : Nat} {v : Option V} (R : ERa K I G ad bv bm env s ts σ H) (cl : Cl ts) : ERa K I G ad bv bm (env.set i .no) s ts (σ.set i v) H := R.put (x := .no) cl rfl True.intro
/-- a slot that is no list of its own is forgotten -/
theorem ERa.forget {i : Nat} {x : Sl} {v : Option V} (R : ERa K I G ad bv bm env s ts σ H) (e : env[i]? = some x) (nr : x.isRef = false) : ERa K I G ad bv bm (env.set i .no) s ts (σ.set i v) H := by
  have no : x.isOwn = false := by cases x <;> first | rfl | cases nr
  have go : ∀ a, Ow ad (env.set i .no) ts a → Ow ad env ts a := fun a z => z.imp (fun ⟨j, y, e, o, q⟩ => by
    rcases set_get e with ⟨_, rfl, _⟩ | ⟨_, e⟩
    · cases o
    · exact ⟨j, y, e, o, q⟩) fun q => q
  have gt : Gr (Tv bm ad env ts) (Tv bm ad (env.set i .no) ts) H H := .sub fun a z => z.imp (fun q => q) (go a)
  have g : Gr (Bv G bm ad env ts) (Bv G bm ad (env.set i .no) ts) H H := .sub fun a z => z.imp (fun q => q) fun z => z.imp (fun q => q) (go a)
  refine ⟨by rw [List.length_set, List.length_set]; exact R.len, R.ext, R.dom, R.box, R.bfr, R.bdom, fun j y e o => ?_, R.tow, fun j k y z ej ek oj ok => ?_, fun j y p e o => ?_, R.d3, fun j y e => ?_, fun p hp => ?_⟩
  · rcases set_get e with ⟨_, rfl, _⟩ | ⟨_, e⟩
    · cases o
    · exact R.own j y e o
  · rcases set_get ej with ⟨_, rfl, _⟩ | ⟨_, ej⟩
    · cases oj
    rcases set_get ek with ⟨_, rfl, _⟩ | ⟨_, ek⟩
    · cases ok
    exact R.d1 j k y z ej ek oj ok
  · rcases set_get e with ⟨_, rfl, _⟩ | ⟨_, e⟩
    · cases o
    · exact R.d2 j y p e o
  · rcases set_get e with ⟨rfl, rfl, hl⟩ | ⟨ne, e⟩
    · exact True.intro
    · rw [List.getElem?_set_ne (Ne.symm ne)]
      exact (R.sl j y e).gr gt g fun _ _ q => q
  · refine (R.tm p hp).gr gt g (fun _ _ _ _ q => q) fun j y _ q r => ?_
    by_cases hj : j = i
    · subst hj
      rw [e] at q; cases q
      rw [nr] at r; cases r
    · exact ⟨y, by rw [List.getElem?_set_ne (Ne.symm hj)]; exact q, r⟩
/-- a new list becomes a slot's own -/
theorem ERa.putF {ds : List D} {i : Nat} {v : V} (R : ERa K I G ad bv bm env s ((v, .f ds) :: ts) σ H) (cl : Cl ts) : ∃ ad', ERa K I G ad' bv bm (env.set i (.own ds)) s ts (σ.set i (some v)) H := by
  obtain ⟨a, xs, e, e1, r⟩ := R.tm _ List.mem_cons_self
  obtain rfl : v = .ref a := e
  obtain ⟨h0, hb⟩ := R.tow _ List.mem_cons_self rfl a rfl
  refine ⟨fun j => if j = i then a else ad j, ?_⟩
  have aj : ∀ j, j ≠ i → (if j = i then a else ad j) = ad j := fun j h => if_neg h
  have go : ∀ b, Ow (fun j => if j = i then a else ad j) (env.set i (.own ds)) ts b → Ow ad env ((.ref a, .f ds) :: ts) b := fun b z => by
    rcases z with ⟨j, y, e, o, q⟩ | ⟨p, hp, q⟩
    · rcases set_get e with ⟨rfl, rfl, _⟩ | ⟨ne, e⟩
      · exact .inr ⟨_, List.mem_cons_self, rfl, by rw [← q]; simp⟩
      · exact .inl ⟨j, y, e, o, by rw [← q]; exact (aj j ne).symm⟩
    · exact .inr ⟨p, List.mem_cons_of_mem _ hp, q⟩
  have gt : Gr (Tv bm ad env ((.ref a, .f ds) :: ts)) (Tv bm (fun j => if j = i then a else ad j) (env.set i (.own ds)) ts) H H := .sub fun b z => z.imp (fun q => q) (go b)
  have g : Gr (Bv G bm ad env ((.ref a, .f ds) :: ts)) (Bv G bm (fun j => if j = i then a else ad j) (env.set i (.own ds)) ts) H H := .sub fun b z => z.imp (fun q => q) fun z => z.imp (fun q => q) (go b)
  refine ⟨by rw [List.length_set, List.length_set]; exact R.len, R.ext, R.dom, R.box, R.bfr, R.bdom, fun j y e o => ?_, fun p hp => R.tow p (List.mem_cons_of_mem _ hp), fun j k y z ej ek oj ok q => ?_, fun j y p e o hp f => ?_, (List.pairwise_cons.mp R.d3).2, fun j y e => ?_, fun p hp => ?_⟩
  · rcases set_get e with ⟨rfl, rfl, _⟩ | ⟨ne, e⟩
    · simp only [if_pos]; exact ⟨h0, hb⟩
    · simp only [if_neg ne]; exact R.own j y e o
  · rcases set_get ej with ⟨rfl, rfl, _⟩ | ⟨nj, ej'⟩
    · rcases set_get ek with ⟨rfl, rfl, _⟩ | ⟨nk, ek'⟩
      · rfl
      · simp only [if_pos, if_neg nk] at q
        exact absurd (by rw [q]) (R.d2 k z _ ek' ok List.mem_cons_self rfl)
    · rcases set_get ek with ⟨rfl, rfl, _⟩ | ⟨nk, ek'⟩
      · simp only [if_pos, if_neg nj] at q
        exact absurd (by rw [q]) (R.d2 j y _ ej' oj List.mem_cons_self rfl)
      · simp only [if_neg nj, if_neg nk] at q
        exact R.d1 j k y z ej' ek' oj ok q
  · rw [cl.nf hp] at f; cases f
  · rcases set_get e with ⟨rfl, rfl, hl⟩ | ⟨ne, e⟩
    · rw [List.getElem?_set_self (by rw [R.len]; exact hl)]
      exact ⟨by simp, xs, by simpa using e1, r.gr g⟩
    · rw [List.getElem?_set_ne (Ne.symm ne)]
      simp only [if_neg ne]
      exact (R.sl j y e).gr gt g fun _ _ q => q
  · have q := R.tm p (List.mem_cons_of_mem _ hp)
    rcases cl p hp with ⟨d, e⟩ | ⟨d, e⟩
    · rw [e] at q ⊢; exact Rep.gr g _ _ q
    · rw [e] at q ⊢; exact Top.gr gt g q
/-- a slot's own list is let be -/
theorem ERa.fzS {ds : List D} {i : Nat} (R : ERa K I G ad bv bm env s ts σ H) (e : env[i]? = some (.own ds)) : ERa K I G ad bv bm (env.set i (.fz ds)) s ts σ H := by
  have go : ∀ a, Ow ad (env.set i (.fz ds)) ts a → Ow ad env ts a ∧ a ≠ ad i := fun a z => by
    rcases z with ⟨j, y, e', o, q⟩ | ⟨p, hp, f, q⟩
    · rcases set_get e' with ⟨_, rfl, _⟩ | ⟨ne, e'⟩
      · cases o
      · exact ⟨.inl ⟨j, y, e', o, q⟩, fun z => ne (R.d1 j i _ _ e' e o rfl (q.trans z))⟩
    · exact ⟨.inr ⟨p, hp, f, q⟩, fun z => R.d2 i _ p e rfl hp f (by rw [q, z])⟩
  have gt : Gr (Tv bm ad env ts) (Tv bm ad (env.set i (.fz ds)) ts) H H := .sub fun a z => z.imp (fun q => q) fun z => (go a z).1
  have g : Gr (Bv G bm ad env ts) (Bv G bm ad (env.set i (.fz ds)) ts) H H := .sub fun a z => z.imp (fun q => q) fun z => z.imp (fun q => q) fun z => (go a z).1
  obtain ⟨h0, hb⟩ := R.own i _ e rfl
  refine ⟨by rw [List.length_set]; exact R.len, R.ext, R.dom, R.box, R.bfr, R.bdom, fun j y e o => ?_, R.tow, fun j k y z ej ek oj ok => ?_, fun j y p e o => ?_, R.d3, fun j y e' => ?_, fun p hp => ?_⟩
  · rcases set_get e with ⟨_, rfl, _⟩ | ⟨_, e⟩
    · cases o
    · exact R.own j y e o
  · rcases set_get ej with ⟨_, rfl, _⟩ | ⟨_, ej⟩
    · cases oj
    rcases set_get ek with ⟨_, rfl, _⟩ | ⟨_, ek⟩
    · cases ok
    exact R.d1 j k y z ej ek oj ok
  · rcases set_get e with ⟨_, rfl, _⟩ | ⟨_, e⟩
    · cases o
    · exact R.d2 j y p e o
  · rcases set_get e' with ⟨rfl, rfl, hl⟩ | ⟨ne, e'⟩
    · obtain ⟨eσ, xs, e1, r⟩ := R.sl j _ e
      refine ⟨eσ, .lst (fun z => ?_) (.inl e1) (r.gr g)⟩
      rcases z with z | z | z
      · exact R.bdom _ z h0
      · exact hb z
      · exact (go _ z).2 rfl
    · exact (R.sl j y e').gr gt g fun _ _ q => q
  · refine (R.tm p hp).gr gt g (fun _ _ _ _ q => q) fun j y _ q r => ?_
    by_cases hj : j = i
    · subst hj
      exact ⟨.fz ds, List.getElem?_set_self (List.getElem?_eq_some_iff.mp q).1, rfl⟩
    · exact ⟨y, by rw [List.getElem?_set_ne (Ne.symm hj)]; exact q, r⟩
/-- a slot's own list is written -/
theorem ERa.wrS {ds ds' : List D} {xs' : List V} {i : Nat} (R : ERa K I G ad bv bm env s ts σ H) (e : env[i]? = some (.own ds)) (r : Reps K (Bv G bm ad env ts) H xs' ds') : ERa K I G ad bv bm (env.set i (.own ds')) s ts σ (upd H (ad i) (.lst xs')) := by
  have oi : Ow ad env ts (ad i) := .inl ⟨i, _, e, rfl, rfl⟩
  have go : ∀ a, Ow ad (env.set i (.own ds')) ts a → Ow ad env ts a := fun a z => z.imp (fun ⟨j, y, e', o, q⟩ => by
    rcases set_get e' with ⟨rfl, rfl, _⟩ | ⟨_, e'⟩
    · exact ⟨j, _, e, rfl, q⟩
    · exact ⟨j, y, e', o, q⟩) fun q => q
  have kp : ∀ a o, H a = some o → a ≠ ad i → upd H (ad i) (.lst xs') a = some o := fun a o q n => by rw [upd_ne n]; exact q
  have gt : Gr (Tv bm ad env ts) (Tv bm ad (env.set i (.own ds')) ts) H (upd H (ad i) (.lst xs')) := ⟨fun a o q n => kp a o q fun z => n (.inr (z ▸ oi)), fun a z => .inl (z.imp (fun q => q) (go a))⟩
  have g : Gr (Bv G bm ad env ts) (Bv G bm ad (env.set i (.own ds')) ts) H (upd H (ad i) (.lst xs')) := ⟨fun a o q n => kp a o q fun z => n (.inr (.inr (z ▸ oi))), fun a z => .inl (z.imp (fun q => q) fun z => z.imp (fun q => q) (go a))⟩
  obtain ⟨h0, hb⟩ := R.own i _ e rfl
  refine ⟨by rw [List.length_set]; exact R.len, fun a o q n => kp a o (R.ext a o q n) fun z => (by rw [z, h0] at q; cases q), fun a q => ?_, I.frame R.box fun a m => upd_ne fun z => hb (z ▸ m), R.bfr, R.bdom, fun j y e o => ?_, R.tow, fun j k y z ej ek oj ok => ?_, fun j y p e' o => ?_, R.d3, fun j y e' => ?_, fun p hp => ?_⟩
  · by_cases n : a = ad i
    · rw [n]; exact h0
    · rw [upd_ne n] at q; exact R.dom a q
  · rcases set_get e with ⟨rfl, rfl, _⟩ | ⟨_, e⟩
    · exact ⟨h0, hb⟩
    · exact R.own j y e o
  · rcases set_get ej with ⟨rfl, rfl, _⟩ | ⟨_, ej'⟩
    · rcases set_get ek with ⟨rfl, rfl, _⟩ | ⟨_, ek'⟩
      · exact fun _ => rfl
      · exact R.d1 j k _ z e ek' rfl ok
    · rcases set_get ek with ⟨rfl, rfl, _⟩ | ⟨_, ek'⟩
      · exact R.d1 j k y _ ej' e oj rfl
      · exact R.d1 j k y z ej' ek' oj ok
  · rcases set_get e' with ⟨rfl, rfl, _⟩ | ⟨_, e'⟩
    · exact R.d2 j _ p e rfl
    · exact R.d2 j y p e' o
  · rcases set_get e' with ⟨rfl, rfl, hl⟩ | ⟨ne, e'⟩
    · exact ⟨(R.sl j _ e).1, xs', upd_same, r.gr g⟩
    · exact (R.sl j y e').gr gt g fun ho u q => kp _ _ q fun z => ne (R.d1 j i _ _ e' e ho rfl z)
  · refine (R.tm p hp).gr gt g (fun f a u ea q => kp _ _ q fun z => R.d2 i _ p e rfl hp f (by rw [ea, z])) fun j y _ q r => ?_
    by_cases hj : j = i
    · subst hj
      exact ⟨.own ds', List.getElem?_set_self (List.getElem?_eq_some_iff.mp q).1, rfl⟩
    · exact ⟨y, by rw [List.getElem?_set_ne (Ne.symm hj)]; exact q, r⟩
/-- a new list is written -/
theorem ERa.wrF {ds ds' : List D} {xs' : List V} {a : Addr} (R : ERa K I G ad bv bm env s ((.ref a, .f ds) :: ts) σ H) (r : Reps K (Bv G bm ad env ((.ref a, .f ds) :: ts)) H xs' ds') : ERa K I G ad bv bm env s ((.ref a, .f ds') :: ts) σ (upd H a (.lst xs')) := by
  have oi : Ow ad env ((.ref a, .f ds) :: ts) a := .inr ⟨_, List.mem_cons_self, rfl, rfl⟩
  have go : ∀ b, Ow ad env ((.ref a, .f ds') :: ts) b → Ow ad env ((.ref a, .f ds) :: ts) b := fun b z => z.imp (fun q => q) fun ⟨p, hp, f, q⟩ => by
    rcases List.mem_cons.mp hp with rfl | hp
    · exact ⟨_, List.mem_cons_self, rfl, q⟩
    · exact ⟨p, List.mem_cons_of_mem _ hp, f, q⟩
  have kp : ∀ b o, H b = some o → b ≠ a → upd H a (.lst xs') b = some o := fun a o q n => by rw [upd_ne n]; exact q
  have gt : Gr (Tv bm ad env ((.ref a, .f ds) :: ts)) (Tv bm ad env ((.ref a, .f ds') :: ts)) H (upd H a (.lst xs')) := ⟨fun b o q n => kp b o q fun z => n (.inr (z ▸ oi)), fun b z => .inl (z.imp (fun q => q) (go b))⟩
  have g : Gr (Bv G bm ad env ((.ref a, .f ds) :: ts)) (Bv G bm ad env ((.ref a, .f ds') :: ts)) H (upd H a (.lst xs')) := ⟨fun b o q n => kp b o q fun z => n (.inr (.inr (z ▸ oi))), fun b z => .inl (z.imp (fun q => q) fun z => z.imp (fun q => q) (go b))⟩
  obtain ⟨h0, hb⟩ := R.tow _ List.mem_cons_self rfl a rfl
  refine ⟨R.len, fun b o q n => kp b o (R.ext b o q n) fun z => (by rw [z, h0] at q; cases q), fun b q => ?_, I.frame R.box fun b m => upd_ne fun z => hb (z ▸ m), R.bfr, R.bdom, R.own, fun p hp f b e => ?_, R.d1, fun j y p e' o hp f => ?_, List.pairwise_cons.mpr ⟨fun q hq _ f => (List.pairwise_cons.mp R.d3).1 q hq rfl f, (List.pairwise_cons.mp R.d3).2⟩, fun j y e' => ?_, fun p hp => ?_⟩
  · by_cases n : b = a
    · rw [n]; exact h0
    · rw [upd_ne n] at q; exact R.dom b q
  · rcases List.mem_cons.mp hp with rfl | hp
    · injection e with e; subst e; exact ⟨h0, hb⟩
    · exact R.tow p (List.mem_cons_of_mem _ hp) f b e
  · rcases List.mem_cons.mp hp with rfl | hp
    · exact R.d2 j y (.ref a, .f ds) e' o List.mem_cons_self rfl
    · exact R.d2 j y p e' o (List.mem_cons_of_mem _ hp) f
  · exact (R.sl j y e').gr gt g fun ho u q => kp _ _ q fun z => R.d2 j y _ e' ho List.mem_cons_self rfl (by rw [z])
  · rcases List.mem_cons.mp hp with rfl | hp
    · exact ⟨a, xs', rfl, upd_same, r.gr g⟩
    · exact (R.tm p (List.mem_cons_of_mem _ hp)).gr gt g (fun f b u ea q => kp _ _ q fun z => (List.pairwise_cons.mp R.d3).1 p hp rfl f (by rw [ea, z])) fun j y _ q r => ⟨y, q, r⟩
end
end LM

namespace LM
open PySem L2

structure Ex where
  C : Addr
  ns : List Str
  ds : List D
inductive Out (S α : Type) where
  | ok (a : α) (env : List Sl) (s : S) | ex (e : Ex) (env : List Sl) (s : S) | bad
inductive SO (S : Type) where
  | nx (env : List Sl) (s : S) | rt (d : D) (env : List Sl) (s : S) | rf (ds : List D) (env : List Sl) (s : S) | bk (env : List Sl) (s : S) | ct (env : List Sl) (s : S) | ex (e : Ex) (env : List Sl) (s : S) | bad
abbrev MX (S α : Type) := List Sl → S → Out S α
abbrev MS (S : Type) := List Sl → S → SO S

/-- the environment stands -/
def ER {S : Type} (K : PySem.W.Frag) (I : BoxI S) (G : Gh) (env : List Sl) (s : S) (ts : List (V × W)) (σ : St) (H : Hp) : Prop := ∃ ad bv bm, ERa K I G ad bv bm env s ts σ H
/-- .., and an exception's dict at dx -/
def ERX {S : Type} (K : PySem.W.Frag) (I : BoxI S) (G : Gh) (e : Ex) (dx : Addr) (env : List Sl) (s : S) (ts : List (V × W)) (σ : St) (H : Hp) : Prop :=
  ∃ ad bv bm, ERa K I G ad bv bm env s ts σ H ∧ G.H0 dx = none ∧ ∃ fs, H dx = some (.xd fs) ∧ e.ns = fs.map (·.1) ∧ Reps K (Bv G bm ad env ts) H (fs.map (·.2)) e.ds

section
variable {S : Type} (K : PySem.W.Frag) (I : BoxI S) (Wx : WX)
def tD (m : MX S W) : TE := fun σ H Q => ∃ G env s ts, ER K I G env s ts σ H ∧
  match m env s with
  | .ok w env' s' => ∀ v H', ER K I G env' s' ((v, w) :: ts) σ H' → Q v H'
  | .ex e env' s' => ∀ dx H', ERX K I G e dx env' s' ts σ H' → Wx (.ref e.C) (some dx) σ H'
  | .bad => False
def tB (m : MX S Bool) : TT := fun σ H Q => ∃ G env s ts, ER K I G env s ts σ H ∧
  match m env s with
  | .ok b env' s' => ∀ H', ER K I G env' s' ts σ H' → Q b H'
  | .ex e env' s' => ∀ dx H', ERX K I G e dx env' s' ts σ H' → Wx (.ref e.C) (some dx) σ H'
  | .bad => False
def tDs (m : MX S (List W)) : TA := fun σ H Q => ∃ G env s ts, ER K I G env s ts σ H ∧
  match m env s with
  | .ok ws env' s' => ∀ vs H', vs.length = ws.length → ER K I G env' s' (vs.zip ws ++ ts) σ H' → Q vs H'
  | .ex e env' s' => ∀ dx H', ERX K I G e dx env' s' ts σ H' → Wx (.ref e.C) (some dx) σ H'
  | .bad => False
def tS (m : MS S) : TS := fun D σ H => ∃ G env s ts, ER K I G env s ts σ H ∧ Cl ts ∧
  match m env s with
  | .nx env' s' => ∀ σ' H', ER K I G env' s' ts σ' H' → D.nx σ' H'
  | .rt d env' s' => ∀ v σ' H', ER K I G env' s' ((v, .v d) :: ts) σ' H' → D.rt v H'
  | .rf d env' s' => ∀ v σ' H', ER K I G env' s' ((v, .f d) :: ts) σ' H' → D.rt v H'
  | .bk env' s' => ∀ σ' H', ER K I G env' s' ts σ' H' → D.bk σ' H'
  | .ct env' s' => ∀ σ' H', ER K I G env' s' ts σ' H' → D.ct σ' H'
  | .ex e env' s' => ∀ dx σ' H', ERX K I G e dx env' s' ts σ' H' → Wx (.ref e.C) (some dx) σ' H'
  | .bad => False
end

/-- one after the other -/
def Out.bind {S α β : Type} (o : Out S α) (f : α → MX S β) : Out S β :=
  match o with
  | .ok a env s => f a env s
  | .ex e env s => .ex e env s
  | .bad => .bad
def MX.bind {S α β : Type} (m : MX S α) (f : α → MX S β) : MX S β := fun env s => (m env s).bind f

section
variable {S : Type} {K : PySem.W.Frag} {I : BoxI S} {Wx : WX} {G : Gh} {env env' : List Sl} {s s' : S} {ts : List (V × W)} {σ : St} {H H' : Hp}
theorem ERX.less {e : Ex} {dx : Addr} {ts' : List (V × W)} (R : ERX K I G e dx env s ts σ H) (h : List.Sublist ts' ts) : ERX K I G e dx env s ts' σ H := by
  obtain ⟨ad, bv, bm, R, n, fs, e1, e2, r⟩ := R
  refine ⟨ad, bv, bm, R.less h, n, fs, e1, e2, r.gr (.sub fun a z => z.imp (fun q => q) fun z => z.imp (fun q => q) fun z => z.imp (fun q => q) fun ⟨p, hp, q⟩ => ⟨p, h.subset hp, q⟩)⟩
theorem ER.less {ts' : List (V × W)} (R : ER K I G env s ts σ H) (h : List.Sublist ts' ts) : ER K I G env s ts' σ H := by
  obtain ⟨ad, bv, bm, R⟩ := R
  exact ⟨ad, bv, bm, R.less h⟩
theorem ER.pop {p : V × W} (R : ER K I G env s (p :: ts) σ H) : ER K I G env s ts σ H := R.less (List.sublist_cons_self _ _)
theorem ER.pops {l : List (V × W)} (R : ER K I G env s (l ++ ts) σ H) : ER K I G env s ts σ H := R.less (List.sublist_append_right _ _)

/-- two readings one behind the other, over what stands -/
theorem tD_bind {α : Type} {m : MX S W} {f : W → MX S α} {Q : V → Hp → Prop} {Z : Out S α → Prop}
    (R : ER K I G env s ts σ H) (h : Z ((m env s).bind f))
    (hex : ∀ e env' s', Z (.ex e env' s') → ∀ dx H', ERX K I G e dx env' s' ts σ H' → Wx (.ref e.C) (some dx) σ H')
    (hbad : ¬ Z .bad)
    (hok : ∀ w env' s' v H', m env s = .ok w env' s' → ER K I G env' s' ((v, w) :: ts) σ H' → Z (f w env' s') → Q v H') : tD K I Wx m σ H Q := by
  refine ⟨G, env, s, ts, R, ?_⟩
  cases e : m env s with
  | ok w env' s' =>
    rw [e] at h
    exact fun v H' R' => hok w env' s' v H' e R' h
  | ex x env' s' =>
    rw [e] at h
    exact hex x env' s' h
  | bad =>
    rw [e] at h
    exact hbad h
theorem tDs_bind {α : Type} {m : MX S (List W)} {f : List W → MX S α} {Q : List V → Hp → Prop} {Z : Out S α → Prop}
    (R : ER K I G env s ts σ H) (h : Z ((m env s).bind f))
    (hex : ∀ e env' s', Z (.ex e env' s') → ∀ dx H', ERX K I G e dx env' s' ts σ H' → Wx (.ref e.C) (some dx) σ H')
    (hbad : ¬ Z .bad)
    (hok : ∀ ws env' s' vs H', m env s = .ok ws env' s' → vs.length = ws.length → ER K I G env' s' (vs.zip ws ++ ts) σ H' → Z (f ws env' s') → Q vs H') : tDs K I Wx m σ H Q := by
  refine ⟨G, env, s, ts, R, ?_⟩
  cases e : m env s with
  | ok w env' s' =>
    rw [e] at h
    exact fun v H' l R' => hok w env' s' v H' e l R' h
  | ex x env' s' =>
    rw [e] at h
    exact hex x env' s' h
  | bad =>
    rw [e] at h
    exact hbad h
theorem tB_bind {α : Type} {m : MX S Bool} {f : Bool → MX S α} {Q : Bool → Hp → Prop} {Z : Out S α → Prop}
    (R : ER K I G env s ts σ H) (h : Z ((m env s).bind f))
    (hex : ∀ e env' s', Z (.ex e env' s') → ∀ dx H', ERX K I G e dx env' s' ts σ H' → Wx (.ref e.C) (some dx) σ H')
    (hbad : ¬ Z .bad)
    (hok : ∀ b env' s' H', m env s = .ok b env' s' → ER K I G env' s' ts σ H' → Z (f b env' s') → Q b H') : tB K I Wx m σ H Q := by
  refine ⟨G, env, s, ts, R, ?_⟩
  cases e : m env s with
  | ok w env' s' =>
    rw [e] at h
    exact fun H' R' => hok w env' s' H' e R' h
  | ex x env' s' =>
    rw [e] at h
    exact hex x env' s' h
  | bad =>
    rw [e] at h
    exact hbad h

/-- what an expression's outcome gives its reading -/
def ZD (K : PySem.W.Frag) (I : BoxI S) (Wx : WX) (G : Gh) (ts : List (V × W)) (σ : St) (Q : V → Hp → Prop) (o : Out S W) : Prop :=
  match o with
  | .ok w env' s' => ∀ v H', ER K I G env' s' ((v, w) :: ts) σ H' → Q v H'
  | .ex e env' s' => ∀ dx H', ERX K I G e dx env' s' ts σ H' → Wx (.ref e.C) (some dx) σ H'
  | .bad => False
def ZB (K : PySem.W.Frag) (I : BoxI S) (Wx : WX) (G : Gh) (ts : List (V × W)) (σ : St) (Q : Bool → Hp → Prop) (o : Out S Bool) : Prop :=
  match o with
  | .ok b env' s' => ∀ H', ER K I G env' s' ts σ H' → Q b H'
  | .ex e env' s' => ∀ dx H', ERX K I G e dx env' s' ts σ H' → Wx (.ref e.C) (some dx) σ H'
  | .bad => False
def ZDs (K : PySem.W.Frag) (I : BoxI S) (Wx : WX) (G : Gh) (ts : List (V × W)) (σ : St) (Q : List V → Hp → Prop) (o : Out S (List W)) : Prop :=
  match o with
  | .ok ws env' s' => ∀ vs H', vs.length = ws.length → ER K I G env' s' (vs.zip ws ++ ts) σ H' → Q vs H'
  | .ex e env' s' => ∀ dx H', ERX K I G e dx env' s' ts σ H' → Wx (.ref e.C) (some dx) σ H'
  | .bad => False

/-! ### reading temporaries -/
/-- the data of a value -/
def W.rd (env : List Sl) : W → Option D
  | .v d => some d
  | .t d => some d
  | .f ds => some (.lst ds)
  | .l i => match env[i]? with
    | some (.own ds) => some (.lst ds)
    | some (.fz ds) => some (.lst ds)
    | _ => none
  | .b => none
/-- .. that may be kept -/
def D.flat : D → Bool
  | .non => true | .bl _ => true | .int _ => true | .str _ => true
  | _ => false
def W.kp : W → Option D
  | .v d => some d
  | .t d => if d.flat then some d else none
  | _ => none
theorem Top.flat {T B : Addr → Prop} {v : V} {d : D} (h : Top K T B H v d) (f : d.flat = true) : Rep K B H v d := by
  rcases h with h | ⟨_, _, _, _, rfl, _⟩
  · exact h
  · cases f
section
variable {ad : Nat → Addr} {bv : V} {bm : Addr → Prop}
/-- a value, read: its own list is not the box's -/
theorem ERa.rdB {p : V × W} {d : D} (R : ERa K I G ad bv bm env s ts σ H) (hp : p ∈ ts) (e : p.2.rd env = some d) : Top K bm (Bv G bm ad env ts) H p.1 d := by
  have q := R.tm p hp
  obtain ⟨v, w⟩ := p
  cases w with
  | v d' => cases e; exact .inl q
  | t d' =>
    cases e
    have q : Top K _ _ H v d := q
    rcases q with q | ⟨a, xs, ds, e1, e2, _, r, q⟩
    · exact .inl q
    · exact .inr ⟨a, xs, ds, e1, e2, fun z => ‹¬ Tv bm ad env ts a› (.inl z), r, q⟩
  | f ds =>
    cases e
    obtain ⟨a, xs, e1, e2, r⟩ := q
    exact .inr ⟨a, xs, ds, e1, rfl, (R.tow (v, .f ds) hp rfl a e1).2, .inl e2, r⟩
  | l i =>
    obtain ⟨e1, y, e2, e3⟩ := q
    have q2 := R.sl i y e2
    have e : (W.l i).rd env = some d := e
    simp only [W.rd, e2] at e
    cases y with
    | own ds =>
      cases e
      obtain ⟨_, xs, e4, r⟩ := q2
      exact .inr ⟨ad i, xs, ds, e1, rfl, (R.own i _ e2 rfl).2, .inl e4, r⟩
    | fz ds =>
      cases e
      obtain ⟨_, r⟩ := q2
      have e1 : v = .ref (ad i) := e1
      subst e1
      exact .inl r
    | _ => cases e
  | b => cases e
theorem ERa.rd {p : V × W} {d : D} (R : ERa K I G ad bv bm env s ts σ H) (hp : p ∈ ts) (e : p.2.rd env = some d) : Top K (fun _ => False) (Bv G bm ad env ts) H p.1 d :=
  (R.rdB hp e).gr (.sub fun _ z => z.elim) (.sub fun _ z => z)
theorem ERa.keep {p : V × W} {d : D} (R : ERa K I G ad bv bm env s ts σ H) (hp : p ∈ ts) (e : p.2.kp = some d) : Rep K (Bv G bm ad env ts) H p.1 d := by
  have q := R.tm p hp
  obtain ⟨v, w⟩ := p
  cases w with
  | v d' => cases e; exact q
  | t d' =>
    have e : (if d'.flat then some d' else none) = some d := e
    split at e
    · cases e
      rename_i f
      exact Top.flat q f
    · cases e
  | f ds => cases e
  | l i => cases e
  | b => cases e
/-- all values kept -/
theorem ERa.keeps : ∀ {ws : List W} {vs : List V} {ds : List D}, ERa K I G ad bv bm env s ts σ H → vs.length = ws.length → (∀ p ∈ vs.zip ws, p ∈ ts) → ws.mapM W.kp = some ds → Reps K (Bv G bm ad env ts) H vs ds
  | [], [], ds, _, _, _, e => by
    simp at e; subst e
    exact .nil
  | w :: ws, v :: vs, ds, R, l, h, e => by
    rw [List.mapM_cons] at e
    cases e1 : w.kp with
    | none => rw [e1] at e; simp at e
    | some d =>
      rw [e1] at e
      cases e2 : ws.mapM W.kp with
      | none => rw [e2] at e; simp at e
      | some es =>
        rw [e2] at e
        simp at e
        subst e
        exact .cons (R.keep (p := (v, w)) (h _ List.mem_cons_self) e1) (ERa.keeps R (by simpa using l) (fun p hp => h p (List.mem_cons_of_mem _ hp)) e2)
  | [], _ :: _, _, _, l, _, _ => by simp at l
  | _ :: _, [], _, _, l, _, _ => by simp at l
end
end
end LM

namespace LM
open PySem L2

/-- a result: data, or a new list -/
inductive Rs where
  | v (d : D) | f (ds : List D)
def Rs.w : Rs → W
  | .v d => .v d
  | .f ds => .f ds
def FinQ (K : PySem.W.Frag) (B : Addr → Prop) (H : Hp) (Q : VK) : Rs → Prop
  | .v d => ∀ v H', (∀ a o, H a = some o → H' a = some o) → Rep K B H' v d → Q v H'
  | .f es => ∀ a xs, H a = none → Reps K B H xs es → Q (.ref a) (upd H a (.lst xs))
abbrev Tp (K : PySem.W.Frag) (B : Addr → Prop) (H : Hp) (v : V) (d : D) : Prop := Top K (fun _ => False) B H v d
inductive Tps (K : PySem.W.Frag) (B : Addr → Prop) (H : Hp) : List V → List D → Prop
  | nil : Tps K B H [] []
  | cons {v : V} {d : D} {vs : List V} {ds : List D} : Tp K B H v d → Tps K B H vs ds → Tps K B H (v :: vs) (d :: ds)
/-- an operator of two values, by data -/
def DOp (K : PySem.W.Frag) (r : R2) (f : D → D → Option Rs) : Prop :=
  ∀ B H x y d e res Q, Tp K B H x d → Tp K B H y e → (∀ a, B a → H a ≠ none) → f d e = some res → FinQ K B H Q res → r x y H Q
/-- a call by values -/
def DCall (K : PySem.W.Frag) (r : List V → Hp → VK → Prop) (f : List D → Option Rs) : Prop :=
  ∀ B H vs ds res Q, Tps K B H vs ds → (∀ a, B a → H a ≠ none) → f ds = some res → FinQ K B H Q res → r vs H Q

section
variable {S : Type} {K : PySem.W.Frag} {I : BoxI S} {Wx : WX} {G : Gh} {ad : Nat → Addr} {bv : V} {bm : Addr → Prop} {env : List Sl} {s : S} {ts : List (V × W)} {σ : St} {H : Hp}
theorem fin_of {l : List (V × W)} {Q : VK} (R : ERa K I G ad bv bm env s (l ++ ts) σ H) : ∀ (res : Rs), (∀ v H', ER K I G env s ((v, res.w) :: ts) σ H' → Q v H') → FinQ K (Bv G bm ad env (l ++ ts)) H Q res
  | .v d, h => fun v H' hs r => h v H' ⟨ad, bv, bm, ((R.same hs).pushV r).less (.cons_cons _ (List.sublist_append_right _ _))⟩
  | .f es, h => fun a xs n r => h _ _ ⟨ad, bv, bm, (R.newF n r).less (.cons_cons _ (List.sublist_append_right _ _))⟩
theorem ERa.rds : ∀ {ws : List W} {vs : List V} {ds : List D} {l : List (V × W)}, ERa K I G ad bv bm env s l σ H → vs.length = ws.length → (∀ p ∈ vs.zip ws, p ∈ l) → ws.mapM (W.rd env) = some ds → Tps K (Bv G bm ad env l) H vs ds
  | [], [], ds, _, _, _, _, e => by
    simp at e; subst e
    exact .nil
  | w :: ws, v :: vs, ds, _, R, l, h, e => by
    rw [List.mapM_cons] at e
    cases e1 : w.rd env with
    | none => rw [e1] at e; simp at e
    | some d =>
      rw [e1] at e
      cases e2 : ws.mapM (W.rd env) with
      | none => rw [e2] at e; simp at e
      | some es =>
        rw [e2] at e
        simp at e
        subst e
        exact .cons (R.rd (p := (v, w)) (h _ List.mem_cons_self) e1) (ERa.rds R (by simpa using l) (fun p hp => h p (List.mem_cons_of_mem _ hp)) e2)
  | [], _ :: _, _, _, _, l, _, _ => by simp at l
  | _ :: _, [], _, _, _, l, _, _ => by simp at l
end

/-! ### the mirrors -/
section
variable {S : Type}
def resO (env : List Sl) (s : S) (o : Option Rs) : Out S W := match o with
  | some r => .ok r.w env s
  | none => .bad
def mK (d : D) : MX S W := fun env s => .ok (.v d) env s
def mVar (i : Nat) : MX S W := fun env s => match env[i]? with
  | some (.val d) => .ok (.v d) env s
  | some (.top d) => .ok (.t d) env s
  | some (.own _) => .ok (.l i) env s
  | some (.slf _ _ _ _) => .ok (.l i) env s
  | some (.fz ds) => .ok (.v (.lst ds)) env s
  | some .box => .ok .b env s
  | _ => .bad
/-- a name whose own list is let be from here on -/
def mFz (i : Nat) : MX S W := fun env s => match env[i]? with
  | some (.own ds) => .ok (.v (.lst ds)) (env.set i (.fz ds)) s
  | some (.fz ds) => .ok (.v (.lst ds)) env s
  | _ => .bad
def mOp (f : D → D → Option Rs) (ma mb : MX S W) : MX S W := ma.bind fun a => mb.bind fun b => fun env s => match a.rd env, b.rd env with
  | some d, some e => resO env s (f d e)
  | _, _ => .bad
/-- a new list is let be -/
def mFf (ma : MX S W) : MX S W := ma.bind fun a => fun env s => match a with
  | .f ds => .ok (.v (.lst ds)) env s
  | _ => .bad
def mNil : MX S (List W) := fun env s => .ok [] env s
def mCons (ma : MX S W) (ms : MX S (List W)) : MX S (List W) := ma.bind fun a => ms.bind fun as => fun env s => .ok (a :: as) env s
def mTup (ms : MX S (List W)) : MX S W := ms.bind fun ws => fun env s => match ws.mapM W.kp with
  | some ds => if ds.length ≤ 16777216 then .ok (.v (.tup ds)) env s else .bad
  | none => .bad
def mLst (ms : MX S (List W)) : MX S W := ms.bind fun ws => fun env s => match ws.mapM W.kp with
  | some ds => if ds.length ≤ 16777216 then .ok (.f ds) env s else .bad
  | none => .bad
def mCB (f : List D → Option Rs) (ms : MX S (List W)) : MX S W := ms.bind fun ws => fun env s => match ws.mapM (W.rd env) with
  | some ds => resO env s (f ds)
  | none => .bad
def mTest (m : MX S W) : MX S Bool := m.bind fun a => fun env s => match a with
  | .v (.bl b) => .ok b env s
  | _ => .bad
def mNotT (m : MX S Bool) : MX S Bool := m.bind fun b => fun env s => .ok (!b) env s
def mAndT (m n : MX S Bool) : MX S Bool := m.bind fun b => if b then n else fun env s => .ok false env s
def mOrT (m n : MX S Bool) : MX S Bool := m.bind fun b => if b then fun env s => .ok true env s else n
def mNotV (m : MX S W) : MX S W := m.bind fun a => fun env s => match a with
  | .v (.bl b) => .ok (.v (.bl (!b))) env s
  | _ => .bad
def mAndV (m n : MX S W) : MX S W := m.bind fun a => match a with
  | .v (.bl b) => if b then n else fun env s => .ok (.v (.bl false)) env s
  | _ => fun _ _ => .bad
def mOrV (m n : MX S W) : MX S W := m.bind fun a => match a with
  | .v (.bl b) => if b then fun env s => .ok (.v (.bl true)) env s else n
  | _ => fun _ _ => .bad
def mIfE (c : MX S Bool) (m n : MX S W) : MX S W := c.bind fun b => if b then m else n
def mChain (f g : D → D → Option Rs) (ma mb mc : MX S W) : MX S W := ma.bind fun a => mb.bind fun b => fun env s => match a.rd env, b.rd env with
  | some d, some e => match f d e with
    | some (.v (.bl true)) => (mc.bind fun c => fun env s => match b.rd env, c.rd env with
      | some e', some h => resO env s (g e' h)
      | _, _ => .bad) env s
    | some (.v (.bl false)) => .ok (.v (.bl false)) env s
    | _ => .bad
  | _, _ => .bad
end
end LM

namespace LM
open PySem L2

theorem ERa.perm {S : Type} {K : PySem.W.Frag} {I : BoxI S} {G : Gh} {ad : Nat → Addr} {bv : V} {bm : Addr → Prop} {env : List Sl} {s : S} {ts ts' : List (V × W)} {σ : St} {H : Hp} (R : ERa K I G ad bv bm env s ts σ H) (h : ts.Perm ts') : ERa K I G ad bv bm env s ts' σ H := by
  have hm : ∀ p ∈ ts', p ∈ ts := fun p hp => h.mem_iff.mpr hp
  have go : ∀ a, Ow ad env ts' a → Ow ad env ts a := fun a z => z.imp (fun q => q) fun ⟨p, hp, q⟩ => ⟨p, hm p hp, q⟩
  have gt : Gr (Tv bm ad env ts) (Tv bm ad env ts') H H := .sub fun a z => z.imp (fun q => q) (go a)
  have g : Gr (Bv G bm ad env ts) (Bv G bm ad env ts') H H := .sub fun a z => z.imp (fun q => q) fun z => z.imp (fun q => q) (go a)
  refine ⟨R.len, R.ext, R.dom, R.box, R.bfr, R.bdom, R.own, fun p hp => R.tow p (hm p hp), R.d1, fun i x p e o hp => R.d2 i x p e o (hm p hp), ?_, fun i x e => (R.sl i x e).gr gt g fun _ _ q => q, fun p hp => (R.tm p (hm p hp)).gr gt g (fun _ _ _ _ q => q) fun i y _ q r => ⟨y, q, r⟩⟩
  exact (h.pairwise_iff fun {p q} x f1 f2 e => x f2 f1 e.symm).mp R.d3
theorem PEimp {X : Cx} {e : Expr} {t t' : TE} (h : PE X e t) (w : ∀ σ H Q, t' σ H Q → t σ H Q) : PE X e t' := ⟨fun pins s σ H Q I q => h.run pins s σ H Q I (w _ _ _ q)⟩
theorem PTimp {X : Cx} {e : Expr} {t t' : TT} (h : PT X e t) (w : ∀ σ H Q, t' σ H Q → t σ H Q) : PT X e t' := ⟨fun pins s σ H Q I q => h.run pins s σ H Q I (w _ _ _ q)⟩
theorem PWimp {X : Cx} {e : Expr} {t t' : TT} (h : PW X e t) (w : ∀ σ H Q, t' σ H Q → t σ H Q) : PW X e t' := ⟨fun wh pins s σ H Q I q => h.run wh pins s σ H Q I (w _ _ _ q)⟩
theorem PAimp {X : Cx} {e : List Expr} {t t' : TA} (h : PA X e t) (w : ∀ σ H Q, t' σ H Q → t σ H Q) : PA X e t' := ⟨fun p pins s σ H Q I q => h.run p pins s σ H Q I (w _ _ _ q)⟩
theorem PSimp {X : Cx} {e : Stmt} {t t' : TS} (h : PS X e t) (w : ∀ D σ H, t' D σ H → t D σ H) : PS X e t' := ⟨fun pins s σ H D I q => h.run pins s σ H D I (w _ _ _ q)⟩
theorem PSsimp {X : Cx} {e : List Stmt} {t t' : TS} (h : PSs X e t) (w : ∀ D σ H, t' D σ H → t D σ H) : PSs X e t' := ⟨fun pins s σ H D I q => h.run pins s σ H D I (w _ _ _ q)⟩

section
variable {S : Type} {X : Cx} {I : BoxI S} {Wx : WX} {a b c : Expr} {es : List Expr} {pos : Pos} {ma mb mc : MX S W} {ms : MX S (List W)}
theorem sl1 {α : Type} {x : α} {l : List α} : l.Sublist (x :: l) := List.sublist_cons_self _ _
theorem sl2 {α : Type} {x y : α} {l : List α} : l.Sublist (x :: y :: l) := .cons _ sl1
theorem slA {α : Type} {x l : List α} : l.Sublist (x ++ l) := List.sublist_append_right _ _

theorem d_k {d : D} {v : V} {e : Expr} (h : PE X e (tC v)) (r : ∀ B H, Rep X.K B H v d) : PE X e (tD X.K I Wx (mK d)) := by
  refine PEimp h fun σ H Q ⟨G, env, s, ts, ⟨ad, bv, bm, R⟩, h⟩ => ?_
  exact h v H ⟨ad, bv, bm, R.pushV (r _ _)⟩
theorem d_int {i j} : PE X (.Constant (.int i) j pos) (tD X.K I Wx (mK (.int i))) := d_k pe_int fun _ _ => .int _
theorem d_bl {i j} : PE X (.Constant (.bool i) j pos) (tD X.K I Wx (mK (.bl i))) := d_k pe_bl fun _ _ => .bl _
theorem d_non {j} : PE X (.Constant .none j pos) (tD X.K I Wx (mK .non)) := d_k pe_non fun _ _ => .non
theorem d_str {i j} : PE X (.Constant (.str i) j pos) (tD X.K I Wx (mK (.str i))) := d_k pe_str fun _ _ => .str _

theorem d_var (i : Nat) {x : Str} (hN : X.N[i]? = some x := by rfl) (hv : Vis X.env.scope x := by first | exact Or.inl rfl | exact Or.inr (Or.inl rfl) | exact Or.inr (Or.inr rfl)) (hd : (x == ("__debug__" : Str)) = false := by decide)
    (hcd : (x == ("__classdict__" : Str)) = false := by decide) : PE X (.Name x pos) (tD X.K I Wx (mVar i)) := by
  refine PEimp (pe_var (i := i) hN hv hd hcd) fun σ H Q ⟨G, env, s, ts, ⟨ad, bv, bm, R⟩, h⟩ => ?_
  unfold mVar at h
  cases e : env[i]? with
  | none => rw [e] at h; exact h.elim
  | some x =>
    have q := R.sl i x e
    rw [e] at h
    cases x with
    | no => exact h.elim
    | val d =>
      obtain ⟨v, e1, r⟩ := q
      exact ⟨v, e1, h v H ⟨ad, bv, bm, R.pushV r⟩⟩
    | top d =>
      obtain ⟨v, e1, r⟩ := q
      exact ⟨v, e1, h v H ⟨ad, bv, bm, R.push (w := .t d) rfl r⟩⟩
    | own ds => exact ⟨_, q.1, h _ H ⟨ad, bv, bm, R.push (w := .l i) rfl ⟨rfl, _, e, rfl⟩⟩⟩
    | slf x C ns ds => exact ⟨_, q.2.1, h _ H ⟨ad, bv, bm, R.push (w := .l i) rfl ⟨rfl, _, e, rfl⟩⟩⟩
    | fz ds => exact ⟨_, q.1, h _ H ⟨ad, bv, bm, R.pushV q.2⟩⟩
    | box => exact ⟨_, q, h _ H ⟨ad, bv, bm, R.push (w := .b) rfl rfl⟩⟩
theorem d_fz (i : Nat) {x : Str} (hN : X.N[i]? = some x := by rfl) (hv : Vis X.env.scope x := by first | exact Or.inl rfl | exact Or.inr (Or.inl rfl) | exact Or.inr (Or.inr rfl)) (hd : (x == ("__debug__" : Str)) = false := by decide)
    (hcd : (x == ("__classdict__" : Str)) = false := by decide) : PE X (.Name x pos) (tD X.K I Wx (mFz i)) := by
  refine PEimp (pe_var (i := i) hN hv hd hcd) fun σ H Q ⟨G, env, s, ts, ⟨ad, bv, bm, R⟩, h⟩ => ?_
  unfold mFz at h
  cases e : env[i]? with
  | none => rw [e] at h; exact h.elim
  | some x =>
    have q := R.sl i x e
    rw [e] at h
    cases x with
    | own ds =>
      have R' := R.fzS e
      have q' := R'.sl i (.fz ds) (List.getElem?_set_self (List.getElem?_eq_some_iff.mp e).1)
      exact ⟨_, q'.1, h _ H ⟨ad, bv, bm, R'.pushV q'.2⟩⟩
    | fz ds => exact ⟨_, q.1, h _ H ⟨ad, bv, bm, R.pushV q.2⟩⟩
    | _ => exact h.elim

/-- the shape of all readings of two parts -/
theorem two_of {f : W → W → MX S W} {r : R2} {G : Gh} {env : List Sl} {s : S} {ts : List (V × W)} {σ : St} {H : Hp} {Q : VK} (R : ER X.K I G env s ts σ H) (h : ZD X.K I Wx G ts σ Q ((ma.bind fun a => mb.bind fun b => f a b) env s))
    (hf : ∀ x y w u env' s' H', ER X.K I G env' s' ((y, u) :: (x, w) :: ts) σ H' → ZD X.K I Wx G ts σ Q (f w u env' s') → r x y H' Q) : tOp r (tD X.K I Wx ma) (tD X.K I Wx mb) σ H Q := by
  refine tD_bind (Z := ZD X.K I Wx G ts σ Q) R h (fun _ _ _ z => z) (fun z => z) fun w env1 s1 x H1 _ R1 z1 => ?_
  refine tD_bind (Z := ZD X.K I Wx G ts σ Q) R1 z1 (fun _ _ _ z dx H' q => z dx H' (q.less sl1)) (fun z => z) fun u env2 s2 y H2 _ R2 z2 => ?_
  exact hf x y w u env2 s2 H2 R2 z2
theorem op_fin {r : R2} {f : D → D → Option Rs} (df : DOp X.K r f) {G : Gh} {env : List Sl} {s : S} {ts : List (V × W)} {σ : St} {H : Hp} {Q : VK} {x y : V} {w u : W} (R : ER X.K I G env s ((y, u) :: (x, w) :: ts) σ H)
    (z : ZD X.K I Wx G ts σ Q (match w.rd env, u.rd env with
      | some d, some e => resO env s (f d e)
      | _, _ => .bad)) : r x y H Q := by
  obtain ⟨ad, bv, bm, R⟩ := R
  cases e1 : w.rd env with
  | none => rw [e1] at z; exact z.elim
  | some d =>
    cases e2 : u.rd env with
    | none => rw [e1, e2] at z; exact z.elim
    | some e =>
      rw [e1, e2] at z
      cases e3 : f d e with
      | none => simp only [e3] at z; exact z.elim
      | some res =>
        simp only [e3] at z
        exact df _ H x y d e res Q (R.rd (p := (x, w)) (.tail _ List.mem_cons_self) e1) (R.rd (p := (y, u)) List.mem_cons_self e2) (fun a => R.avdom) e3 (fin_of (l := [(y, u), (x, w)]) R res z)
theorem d_op {op : Operator} {r : R2} {f : D → D → Option Rs} (ho : OpR X (binaryOp op) r) (df : DOp X.K r f) (ha : PE X a (tD X.K I Wx ma)) (hb : PE X b (tD X.K I Wx mb)) : PE X (.BinOp a op b pos) (tD X.K I Wx (mOp f ma mb)) :=
  PEimp (pe_op ho ha hb) fun σ H Q ⟨G, env, s, ts, R, h⟩ => two_of R h fun x y w u env' s' H' R' z => op_fin df R' z
theorem d_cmp {op : CmpOp} {r : R2} {f : D → D → Option Rs} (ho : OpR X (compareOp op) r) (df : DOp X.K r f) (ha : PE X a (tD X.K I Wx ma)) (hb : PE X b (tD X.K I Wx mb)) (hm : behindInMarks op b = false := by first | exact nomark _ | with_unfolding_all rfl) :
    PE X (.Compare a [op] [b] pos) (tD X.K I Wx (mOp f ma mb)) :=
  PEimp (pe_cmpR ho ha hb hm) fun σ H Q ⟨G, env, s, ts, R, h⟩ => two_of R h fun x y w u env' s' H' R' z => op_fin df R' z
theorem d_ix {r : R2} {f : D → D → Option Rs} (ho : IxR X r) (df : DOp X.K r f) (ha : PE X a (tD X.K I Wx ma)) (hb : PE X b (tD X.K I Wx mb)) (hs : PlainIx b := by exact fun _ _ => rfl) : PE X (.Subscript a b pos) (tD X.K I Wx (mOp f ma mb)) :=
  PEimp (pe_ix ho ha hb hs) fun σ H Q ⟨G, env, s, ts, R, h⟩ => two_of R h fun x y w u env' s' H' R' z => op_fin df R' z

/-- a value as a test -/
theorem test_fin {t : TE} {m : MX S W} {σ : St} {H : Hp} {Q : Bool → Hp → Prop} (ht : t = tD X.K I Wx m) (h : L2.tTest (tD X.K I Wx m) σ H Q) : L2.tTest t σ H Q := by subst ht; exact h
theorem test_of {m : MX S W} {G : Gh} {env : List Sl} {s : S} {ts : List (V × W)} {σ : St} {H : Hp} {Q : Bool → Hp → Prop} (R : ER X.K I G env s ts σ H) (h : ZB X.K I Wx G ts σ Q (mTest m env s)) :
    tD X.K I Wx m σ H fun x H' => ∃ k, x = .bl k ∧ Q k H' := by
  refine tD_bind (Z := ZB X.K I Wx G ts σ Q) R h (fun _ _ _ z => z) (fun z => z) fun w env1 s1 x H1 _ R1 z1 => ?_
  cases w with
  | v d =>
    cases d with
    | bl k =>
      obtain ⟨ad, bv, bm, R2⟩ := id R1
      have q : Rep X.K _ H1 x (.bl k) := R2.tm _ List.mem_cons_self
      cases q
      exact ⟨k, rfl, z1 H1 R1.pop⟩
    | _ => exact z1.elim
  | _ => exact z1.elim
theorem t_val {e : Expr} {m : MX S W} (h : PE X e (tD X.K I Wx m)) (he : ∀ whole, isTrue e X.env whole = (do let v ← whole; standAt e.pos; holding [v] (truthy v)) := by intro _; rfl) : PT X e (LM.tB X.K I Wx (mTest m)) :=
  PTimp (pt_val h he) fun σ H Q ⟨G, env, s, ts, R, h⟩ => test_of R h
theorem t_cmp {op : CmpOp} {r : R2} {f : D → D → Option Rs} (ho : OpR X (compareOp op) r) (df : DOp X.K r f) (ha : PE X a (tD X.K I Wx ma)) (hb : PE X b (tD X.K I Wx mb)) (hm : behindInMarks op b = false := by first | exact nomark _ | with_unfolding_all rfl) :
    PT X (.Compare a [op] [b] pos) (LM.tB X.K I Wx (mTest (mOp f ma mb))) := by
  refine PTimp (pt_cmpR ho ha hb hm) fun σ H Q ⟨G, env, s, ts, R, h⟩ => ?_
  show tOp r (tD X.K I Wx ma) (tD X.K I Wx mb) σ H fun x H' => ∃ k, x = .bl k ∧ Q k H'
  have q := test_of (X := X) R h
  obtain ⟨G', env', s', ts', R', h'⟩ := q
  exact two_of R' h' fun x y w u env' s' H' R' z => op_fin df R' z

/-! ### tests of tests -/
theorem ZB_less {G : Gh} {ts ts' : List (V × W)} {σ : St} {Q : Bool → Hp → Prop} {o : Out S Bool} (z : ZB X.K I Wx G ts σ Q o) (h : ts.Sublist ts') : ZB X.K I Wx G ts' σ Q o := by
  cases o with
  | ok b env s => exact fun H' R => z H' (R.less h)
  | ex e env s => exact fun dx H' R => z dx H' (R.less h)
  | bad => exact z
theorem tB_of {m : MX S Bool} {G : Gh} {env : List Sl} {s : S} {ts : List (V × W)} {σ : St} {H : Hp} {Q : Bool → Hp → Prop} (R : ER X.K I G env s ts σ H) (z : ZB X.K I Wx G ts σ Q (m env s)) : LM.tB X.K I Wx m σ H Q := ⟨G, env, s, ts, R, z⟩
theorem tD_of {m : MX S W} {G : Gh} {env : List Sl} {s : S} {ts : List (V × W)} {σ : St} {H : Hp} {Q : VK} (R : ER X.K I G env s ts σ H) (z : ZD X.K I Wx G ts σ Q (m env s)) : tD X.K I Wx m σ H Q := ⟨G, env, s, ts, R, z⟩
variable {na nb : MX S Bool}
theorem t_not (ha : PT X a (LM.tB X.K I Wx na)) : PT X (.UnaryOp .Not a pos) (LM.tB X.K I Wx (mNotT na)) :=
  PTimp (pt_not ha) fun σ H Q ⟨G, env, s, ts, R, h⟩ => tB_bind (Z := ZB X.K I Wx G ts σ Q) R h (fun _ _ _ z => z) (fun z => z) fun b env1 s1 H1 _ R1 z1 => z1 H1 R1
theorem w_and1 (ha : PT X a (LM.tB X.K I Wx na)) : PW X (.BoolOp .And [a] pos) (LM.tB X.K I Wx na) := pw_and1 ha
theorem w_or1 (ha : PT X a (LM.tB X.K I Wx na)) : PW X (.BoolOp .Or [a] pos) (LM.tB X.K I Wx na) := pw_or1 ha
theorem w_and (ha : PT X a (LM.tB X.K I Wx na)) (hb : PW X (.BoolOp .And (b :: es) pos) (LM.tB X.K I Wx nb)) : PW X (.BoolOp .And (a :: b :: es) pos) (LM.tB X.K I Wx (mAndT na nb)) := by
  refine PWimp (pw_and ha hb) fun σ H Q ⟨G, env, s, ts, R, h⟩ => ?_
  refine tB_bind (Z := ZB X.K I Wx G ts σ Q) R h (fun _ _ _ z => z) (fun z => z) fun b env1 s1 H1 _ R1 z1 => ?_
  cases b with
  | true => exact iteT (tB_of R1 z1)
  | false => exact iteF (z1 H1 R1)
theorem w_or (ha : PT X a (LM.tB X.K I Wx na)) (hb : PW X (.BoolOp .Or (b :: es) pos) (LM.tB X.K I Wx nb)) : PW X (.BoolOp .Or (a :: b :: es) pos) (LM.tB X.K I Wx (mOrT na nb)) := by
  refine PWimp (pw_or ha hb) fun σ H Q ⟨G, env, s, ts, R, h⟩ => ?_
  refine tB_bind (Z := ZB X.K I Wx G ts σ Q) R h (fun _ _ _ z => z) (fun z => z) fun b env1 s1 H1 _ R1 z1 => ?_
  cases b with
  | true => exact iteT (z1 H1 R1)
  | false => exact iteF (tB_of R1 z1)
theorem v_one {op} (h : PE X a (tD X.K I Wx ma)) : PE X (.BoolOp op [a] pos) (tD X.K I Wx ma) := pe_one h
theorem v_and (ha : PE X a (tD X.K I Wx ma)) (hb : PE X (.BoolOp .And (b :: es) pos) (tD X.K I Wx mb)) : PE X (.BoolOp .And (a :: b :: es) pos) (tD X.K I Wx (mAndV ma mb)) := by
  refine PEimp (pe_and ha hb) fun σ H Q ⟨G, env, s, ts, R, h⟩ => ?_
  refine tD_bind (Z := ZD X.K I Wx G ts σ Q) R h (fun _ _ _ z => z) (fun z => z) fun w env1 s1 x H1 _ R1 z1 => ?_
  cases w with
  | v d =>
    cases d with
    | bl k =>
      obtain ⟨ad, bv, bm, R2⟩ := id R1
      have q : Rep X.K _ H1 x (.bl k) := R2.tm _ List.mem_cons_self
      cases q
      refine ⟨k, rfl, ?_⟩
      cases k with
      | true => exact iteT (tD_of R1.pop z1)
      | false => exact iteF (z1 _ H1 R1)
    | _ => exact z1.elim
  | _ => exact z1.elim
theorem v_or (ha : PE X a (tD X.K I Wx ma)) (hb : PE X (.BoolOp .Or (b :: es) pos) (tD X.K I Wx mb)) : PE X (.BoolOp .Or (a :: b :: es) pos) (tD X.K I Wx (mOrV ma mb)) := by
  refine PEimp (pe_or ha hb) fun σ H Q ⟨G, env, s, ts, R, h⟩ => ?_
  refine tD_bind (Z := ZD X.K I Wx G ts σ Q) R h (fun _ _ _ z => z) (fun z => z) fun w env1 s1 x H1 _ R1 z1 => ?_
  cases w with
  | v d =>
    cases d with
    | bl k =>
      obtain ⟨ad, bv, bm, R2⟩ := id R1
      have q : Rep X.K _ H1 x (.bl k) := R2.tm _ List.mem_cons_self
      cases q
      refine ⟨k, rfl, ?_⟩
      cases k with
      | true => exact iteT (z1 _ H1 R1)
      | false => exact iteF (tD_of R1.pop z1)
    | _ => exact z1.elim
  | _ => exact z1.elim
theorem v_not (ha : PE X a (tD X.K I Wx ma)) : PE X (.UnaryOp .Not a pos) (tD X.K I Wx (mNotV ma)) := by
  refine PEimp (pe_not ha) fun σ H Q ⟨G, env, s, ts, R, h⟩ => ?_
  refine tD_bind (Z := ZD X.K I Wx G ts σ Q) R h (fun _ _ _ z => z) (fun z => z) fun w env1 s1 x H1 _ R1 z1 => ?_
  cases w with
  | v d =>
    cases d with
    | bl k =>
      obtain ⟨ad, bv, bm, R2⟩ := id R1
      have q : Rep X.K _ H1 x (.bl k) := R2.tm _ List.mem_cons_self
      cases q
      exact ⟨k, rfl, z1 _ H1 ⟨ad, bv, bm, R2.pop.pushV (.bl _)⟩⟩
    | _ => exact z1.elim
  | _ => exact z1.elim
theorem d_ife (hc : PT X c (LM.tB X.K I Wx na)) (ha : PE X a (tD X.K I Wx ma)) (hb : PE X b (tD X.K I Wx mb)) : PE X (.IfExp c a b pos) (tD X.K I Wx (mIfE na ma mb)) := by
  refine PEimp (pe_ifExp hc ha hb) fun σ H Q ⟨G, env, s, ts, R, h⟩ => ?_
  refine tB_bind (Z := ZD X.K I Wx G ts σ Q) R h (fun _ _ _ z => z) (fun z => z) fun b env1 s1 H1 _ R1 z1 => ?_
  cases b with
  | true => exact iteT (tD_of R1 z1)
  | false => exact iteF (tD_of R1 z1)
theorem d_chain {op op' : CmpOp} {r r' : R2} {f g : D → D → Option Rs} (ho : OpR X (compareOp op) r) (df : DOp X.K r f) (ho' : OpR X (compareOp op') r') (dg : DOp X.K r' g) (ha : PE X a (tD X.K I Wx ma)) (hb : PE X b (tD X.K I Wx mb)) (hc : PE X c (tD X.K I Wx mc))
    (hm : lastMarks [op, op'] [b, c] = false := by with_unfolding_all rfl) : PE X (.Compare a [op, op'] [b, c] pos) (tD X.K I Wx (mChain f g ma mb mc)) := by
  refine PEimp (pe_chain ho ho' ha hb hc hm) fun σ H Q ⟨G, env, s, ts, R, h⟩ => ?_
  refine tD_bind (Z := ZD X.K I Wx G ts σ Q) R h (fun _ _ _ z => z) (fun z => z) fun w env1 s1 x H1 _ R1 z1 => ?_
  refine tD_bind (Z := ZD X.K I Wx G ts σ Q) R1 z1 (fun _ _ _ z dx H' q => z dx H' (q.less sl1)) (fun z => z) fun u env2 s2 y H2 _ R2 z2 => ?_
  cases e1 : w.rd env2 with
  | none => simp only [e1] at z2; exact z2.elim
  | some d =>
    cases e2 : u.rd env2 with
    | none => simp only [e1, e2] at z2; exact z2.elim
    | some e =>
      simp only [e1, e2] at z2
      obtain ⟨ad, bv, bm, R3⟩ := id R2
      cases e3 : f d e with
      | none => simp only [e3] at z2; exact z2.elim
      | some res =>
        simp only [e3] at z2
        refine df _ H2 x y d e res _ (R3.rd (p := (x, w)) (.tail _ List.mem_cons_self) e1) (R3.rd (p := (y, u)) List.mem_cons_self e2) (fun a => R3.avdom) e3 ?_
        cases res with
        | f ds => exact z2.elim
        | v k =>
          cases k with
          | bl k =>
            intro v H3 hs rep
            cases rep
            refine ⟨k, rfl, ?_⟩
            have R4 := R3.same hs
            cases k with
            | false => exact iteF (z2 _ H3 ⟨ad, bv, bm, (R4.less sl2).pushV (.bl _)⟩)
            | true =>
              refine iteT (tD_bind (Z := ZD X.K I Wx G ts σ Q) ⟨ad, bv, bm, R4⟩ z2 (fun _ _ _ z dx H' q => z dx H' (q.less sl2)) (fun z => z) fun h env5 s5 t H5 _ R5 z5 => ?_)
              exact op_fin dg (R5.less (.cons_cons _ (.cons_cons _ sl1))) z5
          | _ => exact z2.elim

/-! ### argument lists, displays -/
theorem a_nil : PA X [] (tDs X.K I Wx (mNil (S := S))) := PAimp pa_nil fun σ H Q ⟨G, env, s, ts, R, h⟩ => h [] H rfl R
theorem a_cons {e : Expr} (ha : PE X e (tD X.K I Wx ma)) (hr : PA X es (tDs X.K I Wx ms)) (hs : starEach (e :: es) X.env = (false, eval e X.env) :: starEach es X.env := by rfl) : PA X (e :: es) (tDs X.K I Wx (mCons ma ms)) := by
  refine PAimp (pa_cons ha hr hs) fun σ H Q ⟨G, env, s, ts, R, h⟩ => ?_
  refine tD_bind (Z := ZDs X.K I Wx G ts σ Q) R h (fun _ _ _ z => z) (fun z => z) fun w env1 s1 x H1 _ R1 z1 => ?_
  refine tDs_bind (Z := ZDs X.K I Wx G ts σ Q) R1 z1 (fun _ _ _ z dx H' q => z dx H' (q.less sl1)) (fun z => z) fun ws env2 s2 vs H2 _ l R2 z2 => ?_
  refine z2 (x :: vs) H2 (by simpa using l) ?_
  obtain ⟨ad, bv, bm, R3⟩ := R2
  exact ⟨ad, bv, bm, R3.perm (by simpa using List.perm_middle)⟩
end
end LM

namespace LM
open PySem L2

section
variable {S : Type} {X : Cx} {I : BoxI S} {Wx : WX} {a b c : Expr} {es : List Expr} {pos : Pos} {ma mb mc : MX S W} {ms : MX S (List W)}
theorem kps_len : ∀ {ws : List W} {ds : List D}, ws.mapM W.kp = some ds → ds.length = ws.length
  | [], ds, e => by simp at e; subst e; rfl
  | w :: ws, ds, e => by
    rw [List.mapM_cons] at e
    cases e1 : w.kp with
    | none => rw [e1] at e; simp at e
    | some d =>
      rw [e1] at e
      cases e2 : ws.mapM W.kp with
      | none => rw [e2] at e; simp at e
      | some es =>
        rw [e2] at e
        simp at e
        subst e
        rw [List.length_cons, List.length_cons, kps_len e2]
theorem zip_in {vs : List V} {ws : List W} {ts : List (V × W)} : ∀ p ∈ vs.zip ws, p ∈ vs.zip ws ++ ts := fun p hp => List.mem_append_left _ hp
theorem d_tup {x1} (h : PA X es (tDs X.K I Wx ms)) : PE X (.Tuple es x1 pos) (tD X.K I Wx (mTup ms)) := by
  refine PEimp (pe_tup h) fun σ H Q ⟨G, env, s, ts, R, h⟩ => ?_
  refine tDs_bind (Z := ZD X.K I Wx G ts σ Q) R h (fun _ _ _ z => z) (fun z => z) fun ws env1 s1 vs H1 _ l R1 z1 => ?_
  obtain ⟨ad, bv, bm, R2⟩ := R1
  cases e : ws.mapM W.kp with
  | none => simp only [e] at z1; exact z1.elim
  | some ds =>
    simp only [e] at z1
    split at z1
    · rename_i hl
      refine ⟨by rw [l, ← kps_len e, sizeLine_eq]; exact hl, fun p hp => z1 _ _ ⟨ad, bv, bm, ?_⟩⟩
      exact (R2.newT hp (R2.keeps l zip_in e)).less (.cons_cons _ slA)
    · exact z1.elim
theorem d_lst (h : PA X es (tDs X.K I Wx ms)) : PE X (.List es pos) (tD X.K I Wx (mLst ms)) := by
  refine PEimp (pe_lst h) fun σ H Q ⟨G, env, s, ts, R, h⟩ => ?_
  refine tDs_bind (Z := ZD X.K I Wx G ts σ Q) R h (fun _ _ _ z => z) (fun z => z) fun ws env1 s1 vs H1 _ l R1 z1 => ?_
  obtain ⟨ad, bv, bm, R2⟩ := R1
  cases e : ws.mapM W.kp with
  | none => simp only [e] at z1; exact z1.elim
  | some ds =>
    simp only [e] at z1
    split at z1
    · rename_i hl
      refine ⟨by rw [l, ← kps_len e, sizeLine_eq]; exact hl, fun p hp => z1 _ _ ⟨ad, bv, bm, ?_⟩⟩
      exact (R2.newF hp (R2.keeps l zip_in e)).less (.cons_cons _ slA)
    · exact z1.elim
theorem d_ff {e : Expr} (h : PE X e (tD X.K I Wx ma)) : PE X e (tD X.K I Wx (mFf ma)) := by
  refine PEimp h fun σ H Q ⟨G, env, s, ts, R, h⟩ => ?_
  refine tD_bind (Z := ZD X.K I Wx G ts σ Q) R h (fun _ _ _ z => z) (fun z => z) fun w env1 s1 x H1 _ R1 z1 => ?_
  cases w with
  | f ds =>
    obtain ⟨ad, bv, bm, R2⟩ := R1
    exact z1 x H1 ⟨ad, bv, bm, R2.fzF⟩
  | _ => exact z1.elim
theorem cb_fin {r : List V → Hp → VK → Prop} {f : List D → Option Rs} (df : DCall X.K r f) {σ : St} {H : Hp} {Q : VK} (h : tD X.K I Wx (mCB f ms) σ H Q) : L2.tCB r (tDs X.K I Wx ms) σ H Q := by
  obtain ⟨G, env, s, ts, R, h⟩ := h
  refine tDs_bind (Z := ZD X.K I Wx G ts σ Q) R h (fun _ _ _ z => z) (fun z => z) fun ws env1 s1 vs H1 _ l R1 z1 => ?_
  obtain ⟨ad, bv, bm, R2⟩ := R1
  cases e : ws.mapM (W.rd env1) with
  | none => simp only [e] at z1; exact z1.elim
  | some ds =>
    simp only [e] at z1
    cases e3 : f ds with
    | none => simp only [e3] at z1; exact z1.elim
    | some res =>
      simp only [e3] at z1
      exact df _ H1 vs ds res Q (R2.rds l zip_in e) (fun a => R2.avdom) e3 (fin_of R2 res z1)
theorem d_cb {id : String} {r : List V → Hp → VK → Prop} {f : List D → Option Rs} {x : Str} {p : Pos} (hc : CallR X (.builtin id) r) (df : DCall X.K r f) (hg : Gl X x) (hm : X.mg x = none) (hv : bootBuiltins x = some (.builtin id)) (ha : PA X (a :: es) (tDs X.K I Wx ms))
    (hn : x ≠ "__name__" := by decide) (hdb : (x == ("__debug__" : Str)) = false := by decide)
    (he : starEach (a :: es) X.env = (false, eval a X.env) :: starEach es X.env := by rfl) (hpl : (backTo pos (starEach es X.env)).any (·.1) = false := by rfl) : PE X (.Call (.Name x p) (a :: es) [] pos) (tD X.K I Wx (mCB f ms)) :=
  PEimp (pe_callB hc hg hm hv ha hn hdb he hpl) fun _ _ _ h => cb_fin df h
theorem d_cty {T : String} {r : List V → Hp → VK → Prop} {f : List D → Option Rs} {x : Str} {p : Pos} (hc : CallR X (.type T) r) (df : DCall X.K r f) (hg : Gl X x) (hm : X.mg x = none) (hv : bootBuiltins x = some (.type T)) (ha : PA X (a :: es) (tDs X.K I Wx ms))
    (hn : x ≠ "__name__" := by decide) (hdb : (x == ("__debug__" : Str)) = false := by decide)
    (he : starEach (a :: es) X.env = (false, eval a X.env) :: starEach es X.env := by rfl) (hpl : (backTo pos (starEach es X.env)).any (·.1) = false := by rfl) : PE X (.Call (.Name x p) (a :: es) [] pos) (tD X.K I Wx (mCB f ms)) :=
  PEimp (pe_callTy hc hg hm hv ha hn hdb he hpl) fun _ _ _ h => cb_fin df h
end

/-! ### promises by data -/
inductive FO (S α : Type) where
  | ok (a : α) (s : S) | ex (e : Ex) (s : S) | bad
inductive Md where
  | v | t | b
inductive ArgsR (K : PySem.W.Frag) (bm B : Addr → Prop) (H : Hp) (bv : V) : List Md → List V → List D → Prop
  | nil : ArgsR K bm B H bv [] [] []
  | v {m : List Md} {x : V} {d : D} {xs : List V} {ds : List D} : Rep K B H x d → ArgsR K bm B H bv m xs ds → ArgsR K bm B H bv (.v :: m) (x :: xs) (d :: ds)
  | t {m : List Md} {x : V} {d : D} {xs : List V} {ds : List D} : Top K bm B H x d → ArgsR K bm B H bv m xs ds → ArgsR K bm B H bv (.t :: m) (x :: xs) (d :: ds)
  | b {m : List Md} {xs : List V} {ds : List D} : ArgsR K bm B H bv m xs ds → ArgsR K bm B H bv (.b :: m) (bv :: xs) ds
theorem ArgsR.len {K : PySem.W.Frag} {bm B : Addr → Prop} {H : Hp} {bv : V} : ∀ {m : List Md} {xs : List V} {ds : List D}, ArgsR K bm B H bv m xs ds → xs.length = m.length
  | _, _, _, .nil => rfl
  | _, _, _, .v _ h => by rw [List.length_cons, List.length_cons, h.len]
  | _, _, _, .t _ h => by rw [List.length_cons, List.length_cons, h.len]
  | _, _, _, .b h => by rw [List.length_cons, List.length_cons, h.len]
def bindA (env : List Sl) : List Md → List W → Option (List D)
  | [], [] => some []
  | .v :: m, w :: ws => match w.kp, bindA env m ws with
    | some d, some ds => some (d :: ds)
    | _, _ => none
  | .t :: m, w :: ws => match w.rd env, bindA env m ws with
    | some d, some ds => some (d :: ds)
    | _, _ => none
  | .b :: m, .b :: ws => bindA env m ws
  | _, _ => none
structure Ext (M : Addr → Prop) (H H' : Hp) : Prop where
  kp : ∀ a o, H a = some o → ¬ M a → H' a = some o
  dm : ∀ a, H' a = none → H a = none
/-- a def's promise -/
def spD {S : Type} (I : BoxI S) (K : PySem.W.Frag) (md : List Md) (m : List D → S → FO S D) : Sp := fun vs H Q E => ∃ (B bm : Addr → Prop) (bv : V) (ds : List D) (s : S),
  (∀ a, bm a → B a) ∧ (∀ a, B a → H a ≠ none) ∧ I.rel s bv bm H ∧ ArgsR K bm B H bv md vs ds ∧
  match m ds s with
  | .ok d s' => ∀ v H', Ext bm H H' → I.rel s' bv bm H' → Rep K B H' v d → Q v H'
  | .ex e s' => ∀ dx H', Ext bm H H' → I.rel s' bv bm H' → H dx = none → (∃ fs, H' dx = some (.xd fs) ∧ e.ns = fs.map (·.1) ∧ Reps K B H' (fs.map (·.2)) e.ds) → E (.ref e.C) (some dx) H'
  | .bad => False
section
variable {S : Type} {K : PySem.W.Frag} {I : BoxI S} {G : Gh} {ad : Nat → Addr} {bv : V} {bm : Addr → Prop} {env : List Sl} {s : S} {l : List (V × W)} {σ : St} {H : Hp}
/-- the arguments of a call, for a def that reads the box -/
theorem argsB : ∀ {md : List Md} {ws : List W} {vs : List V} {ds : List D}, ERa K I G ad bv bm env s l σ H → vs.length = ws.length → (∀ p ∈ vs.zip ws, p ∈ l) → bindA env md ws = some ds → ArgsR K bm (Bv G bm ad env l) H bv md vs ds
  | [], [], [], ds, _, _, _, e => by cases e; exact .nil
  | .v :: m, w :: ws, v :: vs, ds, R, hl, h, e => by
    unfold bindA at e
    cases e1 : w.kp with
    | none => rw [e1] at e; cases e
    | some d =>
      rw [e1] at e
      cases e2 : bindA env m ws with
      | none => rw [e2] at e; cases e
      | some es =>
        rw [e2] at e
        cases e
        exact .v (R.keep (p := (v, w)) (h _ List.mem_cons_self) e1) (argsB R (by simpa using hl) (fun p hp => h p (List.mem_cons_of_mem _ hp)) e2)
  | .t :: m, w :: ws, v :: vs, ds, R, hl, h, e => by
    unfold bindA at e
    cases e1 : w.rd env with
    | none => rw [e1] at e; cases e
    | some d =>
      rw [e1] at e
      cases e2 : bindA env m ws with
      | none => rw [e2] at e; cases e
      | some es =>
        rw [e2] at e
        cases e
        exact .t (R.rdB (p := (v, w)) (h _ List.mem_cons_self) e1) (argsB R (by simpa using hl) (fun p hp => h p (List.mem_cons_of_mem _ hp)) e2)
  | .b :: m, w :: ws, v :: vs, ds, R, hl, h, e => by
    cases w with
    | b =>
      have e0 : v = bv := R.tm (v, .b) (h _ List.mem_cons_self)
      rw [e0]
      exact .b (argsB R (by simpa using hl) (fun p hp => h p (List.mem_cons_of_mem _ hp)) e)
    | _ => cases e
  | [], w :: ws, _, _, _, _, _, e => by cases e
  | .v :: m, [], _, _, _, _, _, e => by cases e
  | .t :: m, [], _, _, _, _, _, e => by cases e
  | .b :: m, [], _, _, _, _, _, e => by cases e
  | [], [], _ :: _, _, _, hl, _, _ => by simp at hl
  | .v :: m, _ :: _, [], _, _, hl, _, _ => by simp at hl
  | .t :: m, _ :: _, [], _, _, hl, _, _ => by simp at hl
  | .b :: m, _ :: _, [], _, _, hl, _, _ => by simp at hl
theorem bindA_len {env : List Sl} : ∀ {md : List Md} {ws : List W} {ds : List D}, bindA env md ws = some ds → ws.length = md.length
  | [], [], _, _ => rfl
  | .v :: m, w :: ws, ds, e => by
    unfold bindA at e
    cases e1 : w.kp with
    | none => rw [e1] at e; cases e
    | some d =>
      rw [e1] at e
      cases e2 : bindA env m ws with
      | none => rw [e2] at e; cases e
      | some es => rw [List.length_cons, List.length_cons, bindA_len e2]
  | .t :: m, w :: ws, ds, e => by
    unfold bindA at e
    cases e1 : w.rd env with
    | none => rw [e1] at e; cases e
    | some d =>
      rw [e1] at e
      cases e2 : bindA env m ws with
      | none => rw [e2] at e; cases e
      | some es => rw [List.length_cons, List.length_cons, bindA_len e2]
  | .b :: m, w :: ws, ds, e => by
    cases w with
    | b => rw [List.length_cons, List.length_cons, bindA_len (md := m) (ws := ws) e]
    | _ => cases e
  | [], w :: ws, _, e => by cases e
  | .v :: m, [], _, e => by cases e
  | .t :: m, [], _, e => by cases e
  | .b :: m, [], _, e => by cases e
end
end LM

namespace LM
open PySem L2

def FO.out {S α : Type} (w : α → W) (env : List Sl) : FO S α → Out S W
  | .ok d s => .ok (w d) env s
  | .ex e s => .ex e env s
  | .bad => .bad
def FO.outP {S T α : Type} (w : α → W) (env : List Sl) (s : S) : FO T α → Out S W
  | .ok d _ => .ok (w d) env s
  | .ex e _ => .ex e env s
  | .bad => .bad
section
variable {S : Type}
/-- the box of a caller, seen by a def that reads it -/
structure Lens (S T : Type) where
  get : S → Option T
  put : S → T → S
def FO.outL {S T : Type} (L : Lens S T) (env : List Sl) (s : S) : FO T D → Out S W
  | .ok d t => .ok (.v d) env (L.put s t)
  | .ex e t => .ex e env (L.put s t)
  | .bad => .bad
def mCallB {T : Type} (L : Lens S T) (md : List Md) (f : List D → T → FO T D) (ms : MX S (List W)) : MX S W := ms.bind fun ws => fun env s => match bindA env md ws, L.get s with
  | some ds, some t => (f ds t).outL L env s
  | _, _ => .bad
def mCallP (md : List Md) (f : List D → Unit → FO Unit D) (ms : MX S (List W)) : MX S W := ms.bind fun ws => fun env s => match bindA env md ws with
  | some ds => (f ds ()).outP .v env s
  | none => .bad
/-- o.m(..), o of the class at C -/
def mMethP (C : Addr) (m : Str) (md : List Md) (f : List D → Unit → FO Unit D) (ma : MX S W) (ms : MX S (List W)) : MX S W := ma.bind fun a => match a with
  | .v (.ins C' ns es) => if C' = C ∧ ns.contains m = false then (ms.bind fun ws => fun env s => match bindA env md ws with
    | some ds => (f (.ins C' ns es :: ds) ()).outP .v env s
    | none => .bad)
    else fun _ _ => .bad
  | _ => fun _ _ => .bad
def mFld (C : Addr) (f : Str) (ma : MX S W) : MX S W := ma.bind fun a => fun env s => match a with
  | .v (.ins C' ns ds) => if C' = C then (match (ns.zip ds).lookup f with
    | some d => .ok (.v d) env s
    | none => .bad) else .bad
  | _ => .bad
def mMakeP (C : Addr) (md : List Md) (f : List D → FO Unit (List Str × List D)) (ms : MX S (List W)) : MX S W := ms.bind fun ws => fun env s => match bindA env md ws with
  | some ds => (f ds).outP (fun p => .v (.ins C p.1 p.2)) env s
  | none => .bad
end
def Md.isB : Md → Bool
  | .b => true
  | _ => false
theorem ArgsR.pure {K : PySem.W.Frag} {bm B : Addr → Prop} {H : Hp} {bv : V} : ∀ {m : List Md} {xs : List V} {ds : List D}, ArgsR K bm B H bv m xs ds → m.any Md.isB = false → ArgsR K (fun _ => False) B H .non m xs ds
  | _, _, _, .nil, _ => .nil
  | _, _, _, .v r h, e => .v r (h.pure (by simpa [Md.isB] using e))
  | _, _, _, .t r h, e => .t (r.gr (.sub fun _ z => z.elim) (.sub fun _ z => z)) (h.pure (by simpa [Md.isB] using e))
  | _, _, _, .b h, e => by simp [Md.isB] at e

section
variable {S : Type} {K : PySem.W.Frag} {I : BoxI S} {Wx : WX} {G : Gh} {ad : Nat → Addr} {bv : V} {bm : Addr → Prop} {env : List Sl} {s : S} {l ts : List (V × W)} {σ : St} {H : Hp}
structure LensOk {S T : Type} (I : BoxI S) (J : BoxI T) (L : Lens S T) : Prop where
  get : ∀ {s t bv bm H}, L.get s = some t → I.rel s bv bm H → J.rel t bv bm H
  put : ∀ {s t t' bv bm H H'}, L.get s = some t → I.rel s bv bm H → J.rel t' bv bm H' → I.rel (L.put s t') bv bm H'
/-- a def that reads the box is called -/
theorem call_finB {T : Type} {J : BoxI T} {L : Lens S T} (LO : LensOk I J L) {md : List Md} {f : List D → T → FO T D} {ws : List W} {vs : List V} {Q : VK} {E : XK} (R : ERa K I G ad bv bm env s (l ++ ts) σ H) (hl : vs.length = ws.length) (hin : ∀ p ∈ vs.zip ws, p ∈ l ++ ts)
    (hE : ∀ c d H', Wx c d σ H' → E c d H') (z : ZD K I Wx G ts σ Q (match bindA env md ws, L.get s with
      | some ds, some t => (f ds t).outL L env s
      | _, _ => .bad)) : spD J K md f vs H Q E := by
  cases e : bindA env md ws with
  | none => rw [e] at z; exact z.elim
  | some ds =>
    cases eg : L.get s with
    | none => rw [e, eg] at z; exact z.elim
    | some t =>
      rw [e, eg] at z
      refine ⟨_, bm, bv, ds, t, fun a h => .inr (.inl h), fun a => R.avdom, LO.get eg R.box, argsB R hl hin e, ?_⟩
      have z : ZD K I Wx G ts σ Q ((f ds t).outL L env s) := z
      cases q : f ds t with
      | ok d t' =>
        rw [q] at z
        exact fun v H' x rb rep => z v H' ⟨ad, bv, bm, ((R.grow x.kp x.dm (LO.put eg R.box rb)).pushV rep).less (.cons_cons _ slA)⟩
      | ex e t' =>
        rw [q] at z
        refine fun dx H' x rb n ⟨fs, e1, e2, r⟩ => hE _ _ _ (z dx H' ?_)
        have R' := (R.grow x.kp x.dm (LO.put eg R.box rb))
        exact ERX.less ⟨ad, bv, bm, R', R.dom _ n, fs, e1, e2, r⟩ slA
      | bad => rw [q] at z; exact z.elim
theorem call_finP {md : List Md} {f : List D → Unit → FO Unit D} {ws : List W} {vs : List V} {Q : VK} {E : XK} (R : ERa K I G ad bv bm env s (l ++ ts) σ H) (hl : vs.length = ws.length) (hin : ∀ p ∈ vs.zip ws, p ∈ l ++ ts)
    (hE : ∀ c d H', Wx c d σ H' → E c d H') (hmd : md.any Md.isB = false) (z : ZD K I Wx G ts σ Q (match bindA env md ws with
      | some ds => (f ds ()).outP .v env s
      | none => .bad)) : spD boxNil K md f vs H Q E := by
  cases e : bindA env md ws with
  | none => rw [e] at z; exact z.elim
  | some ds =>
    rw [e] at z
    refine ⟨_, fun _ => False, .non, ds, (), fun a h => h.elim, fun a => R.avdom, fun _ h => h, (argsB R hl hin e).pure hmd, ?_⟩
    have z : ZD K I Wx G ts σ Q ((f ds ()).outP .v env s) := z
    have same : ∀ {H' : Hp}, Ext (fun _ => False) H H' → ∀ a o, H a = some o → H' a = some o := fun x a o h => x.kp a o h fun z => z
    cases q : f ds () with
    | ok d s' =>
      rw [q] at z
      exact fun v H' x rb rep => z v H' ⟨ad, bv, bm, ((R.same (same x)).pushV rep).less (.cons_cons _ slA)⟩
    | ex e s' =>
      rw [q] at z
      refine fun dx H' x rb n ⟨fs, e1, e2, r⟩ => hE _ _ _ (z dx H' ?_)
      exact ERX.less ⟨ad, bv, bm, R.same (same x), R.dom _ n, fs, e1, e2, r⟩ slA
    | bad => rw [q] at z; exact z.elim
end
/-- a class's __init__: the arguments' data, the fields that it leaves -/
def spI (K : PySem.W.Frag) (C : Addr) (md : List Md) (m : List D → FO Unit (List Str × List D)) : Sp := fun vs H Q E => ∃ (x dx : Addr) (H1 : Hp) (B : Addr → Prop) (rest : List V) (ds : List D),
  vs = .ref x :: rest ∧ H1 x = none ∧ H1 dx = none ∧ dx ≠ x ∧ H = upd (upd H1 dx (.own x)) x (.ins C dx []) ∧ (∀ a, B a → H1 a ≠ none) ∧ ArgsR K (fun _ => False) B H1 .non md rest ds ∧
  match m ds with
  | .ok p _ => ∀ H', (∀ a o, H1 a = some o → H' a = some o) → (∃ dx' fs, H' x = some (.ins C dx' fs) ∧ p.1 = fs.map (·.1) ∧ Reps K (fun a => B a ∨ a = x) H' (fs.map (·.2)) p.2) → Q .non H'
  | .ex e _ => ∀ dx' H', (∀ a o, H1 a = some o → H' a = some o) → H1 dx' = none → (∃ fs, H' dx' = some (.xd fs) ∧ e.ns = fs.map (·.1) ∧ Reps K B H' (fs.map (·.2)) e.ds) → E (.ref e.C) (some dx') H'
  | .bad => False
section
variable {S : Type} {K : PySem.W.Frag} {I : BoxI S} {Wx : WX} {G : Gh} {ad : Nat → Addr} {bv : V} {bm : Addr → Prop} {env : List Sl} {s : S} {l ts : List (V × W)} {σ : St} {H : Hp}
theorem make_fin {C : Addr} {md : List Md} {f : List D → FO Unit (List Str × List D)} {ws : List W} {vs : List V} {Q : VK} {E : XK} (R : ERa K I G ad bv bm env s (l ++ ts) σ H) (hl : vs.length = ws.length) (hin : ∀ p ∈ vs.zip ws, p ∈ l ++ ts)
    (hE : ∀ c d H', Wx c d σ H' → E c d H') (hmd : md.any Md.isB = false) (z : ZD K I Wx G ts σ Q (match bindA env md ws with
      | some ds => (f ds).outP (fun p => .v (.ins C p.1 p.2)) env s
      | none => .bad)) {x dx : Addr} (nx : H x = none) (nd : H dx = none) (ne : dx ≠ x) :
    spI K C md f (.ref x :: vs) (upd (upd H dx (.own x)) x (.ins C dx [])) (fun v H2 => v = .non ∧ Q (.ref x) H2) E := by
  cases e : bindA env md ws with
  | none => rw [e] at z; exact z.elim
  | some ds =>
    rw [e] at z
    refine ⟨x, dx, H, _, vs, ds, rfl, nx, nd, ne, rfl, fun a => R.avdom, (argsB R hl hin e).pure hmd, ?_⟩
    have z : ZD K I Wx G ts σ Q ((f ds).outP (fun p => .v (.ins C p.1 p.2)) env s) := z
    cases q : f ds with
    | ok p s' =>
      rw [q] at z
      refine fun H' same ⟨dx', fs, e1, e2, r⟩ => ⟨rfl, z _ H' ⟨ad, bv, bm, ((R.same same).pushV ?_).less (.cons_cons _ slA)⟩⟩
      exact .ins (fun h => R.avdom h nx) e1 e2 (r.gr (.sub fun a h => .inl h))
    | ex e s' =>
      rw [q] at z
      refine fun dx' H' same n ⟨fs, e1, e2, r⟩ => hE _ _ _ (z dx' H' ?_)
      exact ERX.less ⟨ad, bv, bm, R.same same, R.dom _ n, fs, e1, e2, r⟩ slA
    | bad => rw [q] at z; exact z.elim
end
section
variable {S : Type} {X : Cx} {I : BoxI S} {Wx : WX} {CX : CXT} {a : Expr} {es : List Expr} {pos p apos : Pos} {ma : MX S W} {ms : MX S (List W)} {md : List Md} {k : Nat} {fa C : Addr} {fd : FuncData} {ps : List Str} {x m : Str}
theorem d_callB {T : Type} {J : BoxI T} {L : Lens S T} {f : List D → T → FO T D} (LO : LensOk I J L) (F : FnOk X.prog X.w X.K X.mg X.base CX k fa fd ps (spD J X.K md f)) (hr : Room k X.A) (hg : Gl X x) (hm : X.mg x = some (.ref fa)) (hk : PySem.W.keepIn X.K (.ref fa) = true) (hb : Binds X.K fd ps [])
    (hx : ∀ σ, PassesAt CX X σ (WE Wx σ)) (ha : PA X (a :: es) (tDs X.K I Wx ms)) (hdb : (x == ("__debug__" : Str)) = false := by decide) (he : starEach (a :: es) X.env = (false, eval a X.env) :: starEach es X.env := by rfl)
    (hpl : (backTo pos (starEach es X.env)).any (·.1) = false := by rfl) : PE X (.Call (.Name x p) (a :: es) [] pos) (tD X.K I Wx (mCallB L md f ms)) := by
  refine PEimp (pe_callSD (E := fun σ => WE Wx σ) F hr hg hm hk hb .nil hx ha hdb he hpl) fun σ H Q ⟨G, env, s, ts, R, h⟩ => ?_
  refine tDs_bind (Z := ZD X.K I Wx G ts σ Q) R h (fun _ _ _ z => z) (fun z => z) fun ws env1 s1 vs H1 _ l R1 z1 => ?_
  obtain ⟨ad, bv, bm, R2⟩ := R1
  rw [List.append_nil]
  exact call_finB LO R2 l zip_in (fun _ _ _ h => h) z1
theorem d_callP {f : List D → Unit → FO Unit D} (F : FnOk X.prog X.w X.K X.mg X.base CX k fa fd ps (spD boxNil X.K md f)) (hr : Room k X.A) (hg : Gl X x) (hm : X.mg x = some (.ref fa)) (hk : PySem.W.keepIn X.K (.ref fa) = true) (hb : Binds X.K fd ps [])
    (hx : ∀ σ, PassesAt CX X σ (WE Wx σ)) (ha : PA X (a :: es) (tDs X.K I Wx ms)) (hmd : md.any Md.isB = false := by rfl) (hdb : (x == ("__debug__" : Str)) = false := by decide) (he : starEach (a :: es) X.env = (false, eval a X.env) :: starEach es X.env := by rfl)
    (hpl : (backTo pos (starEach es X.env)).any (·.1) = false := by rfl) : PE X (.Call (.Name x p) (a :: es) [] pos) (tD X.K I Wx (mCallP md f ms)) := by
  refine PEimp (pe_callSD (E := fun σ => WE Wx σ) F hr hg hm hk hb .nil hx ha hdb he hpl) fun σ H Q ⟨G, env, s, ts, R, h⟩ => ?_
  refine tDs_bind (Z := ZD X.K I Wx G ts σ Q) R h (fun _ _ _ z => z) (fun z => z) fun ws env1 s1 vs H1 _ l R1 z1 => ?_
  obtain ⟨ad, bv, bm, R2⟩ := R1
  rw [List.append_nil]
  exact call_finP R2 l zip_in (fun _ _ _ h => h) hmd z1
theorem d_make {f : List D → FO Unit (List Str × List D)} {E : XK} (M : Mk X.K C fa) (F : FnOk X.prog X.w X.K X.mg X.base CX k fa fd ps (spI X.K C md f)) (hr : Room (k + 1) X.A) (hg : Gl X x) (hm : X.mg x = some (.ref C)) (hb : Binds X.K fd ps [])
    (hx : Passes CX X E) (hE : ∀ c d σ H, Wx c d σ H → E c d H) (ha : PA X (a :: es) (tDs X.K I Wx ms)) (hmd : md.any Md.isB = false := by rfl) (hdb : (x == ("__debug__" : Str)) = false := by decide) (he : starEach (a :: es) X.env = (false, eval a X.env) :: starEach es X.env := by rfl)
    (hpl : (backTo pos (starEach es X.env)).any (·.1) = false := by rfl) : PE X (.Call (.Name x p) (a :: es) [] pos) (tD X.K I Wx (mMakeP C md f ms)) := by
  refine PEimp (pe_make (E := E) M F hr hg hm hb .nil hx ha hdb he hpl) fun σ H Q ⟨G, env, s, ts, R, h⟩ => ?_
  refine tDs_bind (Z := ZD X.K I Wx G ts σ Q) R h (fun _ _ _ z => z) (fun z => z) fun ws env1 s1 vs H1 _ l R1 z1 => ?_
  obtain ⟨ad, bv, bm, R2⟩ := R1
  intro y dx n1 n2 n3
  rw [List.append_nil]
  exact make_fin R2 l zip_in (fun c d H' h => hE c d σ H' h) hmd z1 n1 n2 n3
theorem lookup_none : ∀ {fs : List (Str × V)} {m : Str}, (fs.map (·.1)).contains m = false → fs.lookup m = none
  | [], _, _ => rfl
  | (g, v) :: fs, m, h => by
    rw [List.map_cons, List.contains_cons, Bool.or_eq_false_iff] at h
    have e : (m == g) = false := h.1
    rw [List.lookup, e]
    exact lookup_none h.2
/-- o.m(e, ..) -/
theorem meth_fin {f : List D → Unit → FO Unit D} {E : XK} {G : Gh} {env : List Sl} {s : S} {ts : List (V × W)} {σ : St} {H : Hp} {Q : VK} (R : ER X.K I G env s ts σ H) (h : ZD X.K I Wx G ts σ Q (mMethP C m md f ma ms env s)) (hE : ∀ c d H, Wx c d σ H → E c d H) (hmd : md.any Md.isB = false) :
    tMeth C m (spD boxNil X.K (.v :: md) f) [] E (tD X.K I Wx ma) (tDs X.K I Wx ms) σ H Q := by
  refine tD_bind (Z := ZD X.K I Wx G ts σ Q) R h (fun _ _ _ z => z) (fun z => z) fun w env1 s1 x H1 _ R1 z1 => ?_
  cases w with
  | v d =>
    cases d with
    | ins C' ns ds0 =>
      have z0 : ZD X.K I Wx G ts σ Q ((if C' = C ∧ ns.contains m = false then (ms.bind fun ws => fun env s => match bindA env md ws with
        | some ds => (f (.ins C' ns ds0 :: ds) ()).outP .v env s
        | none => .bad) else fun _ _ => .bad) env1 s1) := z1
      clear z1
      split at z0
      · rename_i hc
        obtain ⟨rfl, hc⟩ := hc
        obtain ⟨ad, bv, bm, R2⟩ := id R1
        have q : Rep X.K _ H1 x (.ins C' ns ds0) := R2.tm _ List.mem_cons_self
        cases q with
        | ins n r e q =>
          rename_i o dx fs
          refine ⟨o, dx, fs, rfl, r, lookup_none (by rw [← e]; exact hc), ?_⟩
          refine tDs_bind (Z := ZD X.K I Wx G ts σ Q) R1 z0 (fun _ _ _ z dx H' q => z dx H' (q.less sl1)) (fun z => z) fun ws env2 s2 vs H2 _ l R3 z2 => ?_
          rw [List.append_nil]
          obtain ⟨ad, bv, bm, R4⟩ := R3
          refine call_finP (ws := .v (.ins C' ns ds0) :: ws) (l := vs.zip ws ++ [(.ref o, .v (.ins C' ns ds0))]) (ts := ts) (env := env2) (s := s2) (G := G) (Wx := Wx) (σ := σ) (by simpa using R4) (by simpa using l) (fun p hp => ?_) hE (by simpa [Md.isB] using hmd) ?_
          · rw [List.zip_cons_cons] at hp
            rcases List.mem_cons.mp hp with rfl | hp
            · simp
            · simp [hp]
          · cases e3 : bindA env2 md ws with
            | none => rw [e3] at z2; exact z2.elim
            | some ds =>
              rw [e3] at z2
              simp only [bindA, W.kp, e3]
              exact z2
      · exact z0.elim
    | _ => exact z1.elim
  | _ => exact z1.elim
theorem d_meth {f : List D → Unit → FO Unit D} {E : XK} {o : Expr} {pl : Sem Bool} (ho : PE X o (tD X.K I Wx ma)) (c : Cls X.K C) (hm : Meth X.K C m fa) (F : FnOk X.prog X.w X.K X.mg X.base CX k fa fd ps (spD boxNil X.K (.v :: md) f)) (hr : Room k X.A) (hb : Binds X.K fd ps [])
    (hx : Passes CX X E) (hE : ∀ c d σ H, Wx c d σ H → E c d H) (ha : PA X (a :: es) (tDs X.K I Wx ms)) (hmd : md.any Md.isB = false := by rfl)
    (hst : starEach (a :: es) X.env = (false, eval a X.env) :: starEach es X.env := by rfl) (hpl : (backTo pos (starEach es X.env)).any (·.1) = false := by rfl)
    (ht : eval (.Call (.Attribute o m apos) (a :: es) [] pos) X.env = (do
      let ov ← eval o X.env
      standAt apos.atName
      let (f, first) ← holding [ov] (getMethod ov m pl)
      callWith pos f first (backTo pos (starEach (a :: es) X.env)) (backToKw pos (keywordEach [] X.env))) := by rfl) : PE X (.Call (.Attribute o m apos) (a :: es) [] pos) (tD X.K I Wx (mMethP C m md f ma ms)) :=
  PEimp (pe_meth (E := E) ho c hm F hr hb .nil hx ha hst hpl ht) fun σ H Q ⟨G, env, s, ts, R, h⟩ => meth_fin R h (fun c d H' h => hE c d σ H' h) hmd
theorem d_meth0 {f : List D → Unit → FO Unit D} {E : XK} {o : Expr} {pl : Sem Bool} (ho : PE X o (tD X.K I Wx ma)) (c : Cls X.K C) (hm : Meth X.K C m fa) (F : FnOk X.prog X.w X.K X.mg X.base CX k fa fd ps (spD boxNil X.K [.v] f)) (hr : Room k X.A) (hb : Binds X.K fd ps [])
    (hx : Passes CX X E) (hE : ∀ c d σ H, Wx c d σ H → E c d H)
    (ht : eval (.Call (.Attribute o m apos) [] [] pos) X.env = (do
      let ov ← eval o X.env
      standAt apos.atName
      let (f, first) ← holding [ov] (getMethod ov m pl)
      callWith pos f first (backTo pos (starEach [] X.env)) (backToKw pos (keywordEach [] X.env))) := by rfl) : PE X (.Call (.Attribute o m apos) [] [] pos) (tD X.K I Wx (mMethP C m [] f ma mNil)) :=
  PEimp (pe_meth0 (E := E) ho c hm F hr hb .nil hx ht) fun σ H Q ⟨G, env, s, ts, R, h⟩ => by
    have q := meth_fin (X := X) (ms := mNil) (md := []) R h (fun c d H' h => hE c d σ H' h) rfl
    obtain ⟨G', env', s', ts', R', q⟩ := q
    refine ⟨G', env', s', ts', R', ?_⟩
    cases e : ma env' s' with
    | ok w env1 s1 =>
      rw [e] at q
      intro v H' R1
      obtain ⟨o, dx, fs, e1, e2, e3, q⟩ := q v H' R1
      refine ⟨o, dx, fs, e1, e2, e3, ?_⟩
      obtain ⟨G2, env2, s2, ts2, R2, q⟩ := q
      exact q [] H' rfl R2
    | ex e env1 s1 => rw [e] at q; exact q
    | bad => rw [e] at q; exact q
/-- o.f -/
theorem fld_get : ∀ {K : PySem.W.Frag} {B : Addr → Prop} {H : Hp} {fs : List (Str × V)} {ds : List D} {f : Str} {d : D}, Reps K B H (fs.map (·.2)) ds → ((fs.map (·.1)).zip ds).lookup f = some d → ∃ v, fs.lookup f = some v ∧ Rep K B H v d
  | _, _, _, [], _, _, _, _, e => by simp at e
  | _, _, _, (g, v) :: fs, [], _, _, h, _ => by cases h
  | _, _, _, (g, v) :: fs, d' :: ds, f, d, h, e => by
    cases h with
    | cons h1 h2 =>
      simp only [List.map_cons, List.zip_cons_cons, List.lookup] at e ⊢
      cases q : f == g with
      | true =>
        rw [q] at e
        cases e
        exact ⟨v, rfl, h1⟩
      | false =>
        rw [q] at e
        exact fld_get h2 e
theorem d_fld {o : Expr} {f : Str} (ho : PE X o (tD X.K I Wx ma)) (c : Cls X.K C) (n : NoAttr X.K C f) (hb : attributeBase o f X.env (eval o X.env) = eval o X.env := by rfl) : PE X (.Attribute o f pos) (tD X.K I Wx (mFld C f ma)) := by
  refine PEimp (pe_fld ho hb) fun σ H Q ⟨G, env, s, ts, R, h⟩ => ?_
  refine tD_bind (Z := ZD X.K I Wx G ts σ Q) R h (fun _ _ _ z => z) (fun z => z) fun w env1 s1 x H1 _ R1 z1 => ?_
  cases w with
  | v d =>
    cases d with
    | ins C' ns ds0 =>
      have z0 : ZD X.K I Wx G ts σ Q (if C' = C then (match (ns.zip ds0).lookup f with
        | some d => .ok (.v d) env1 s1
        | none => .bad) else .bad) := z1
      clear z1
      split at z0
      · rename_i hc
        subst hc
        obtain ⟨ad, bv, bm, R2⟩ := id R1
        have q : Rep X.K _ H1 x (.ins C' ns ds0) := R2.tm _ List.mem_cons_self
        cases q with
        | ins n' r e q =>
          rename_i o dx fs
          cases e3 : (ns.zip ds0).lookup f with
          | none => rw [e3] at z0; exact z0.elim
          | some d =>
            rw [e3] at z0
            rw [e] at e3
            obtain ⟨v, e4, r4⟩ := fld_get q e3
            exact ⟨o, C', dx, fs, v, rfl, r, c, n, e4, z0 v H1 ⟨ad, bv, bm, (R2.pushV r4).less (.cons_cons _ sl1)⟩⟩
      · exact z0.elim
    | _ => exact z1.elim
  | _ => exact z1.elim
end
end LM

namespace LM
open PySem L2

/-! ### lists of one's own, changed by their methods -/
def DMut (K : PySem.W.Frag) (r : V → List V → Hp → VK → Prop) (g : List D → List D → Option (D × List D)) : Prop :=
  ∀ (B : Addr → Prop) H a xs ds vs es res ds' Q, H a = some (.lst xs) → Reps K B H xs ds → Reps K B H vs es → g ds es = some (res, ds') → ds'.length ≤ 16777216 → (∀ xs' v, Reps K B H xs' ds' → Rep K B H v res → Q v (upd H a (.lst xs'))) → r (.ref a) vs H Q
section
variable {S : Type}
def mMut (g : List D → List D → Option (D × List D)) (ma : MX S W) (ms : MX S (List W)) : MX S W := ma.bind fun w => fun env s => match w with
  | .l i => match env[i]? with
    | some (.own _) => (ms.bind fun ws => fun env s => match ws.mapM W.kp, env[i]? with
      | some es, some (.own ds) => match g ds es with
        | some (res, ds') => if ds'.length ≤ 16777216 then .ok (.v res) (env.set i (.own ds')) s else .bad
        | none => .bad
      | _, _ => .bad) env s
    | _ => .bad
  | _ => .bad
def mPart (m : MX S W) : MX S (Option Int) := m.bind fun w => fun env s => match w with
  | .v (.int i) => .ok (some i) env s
  | _ => .bad
def mNoPart : MX S (Option Int) := fun env s => .ok none env s
def mSl (f : D → Option Int → Option Int → Option Rs) (ma : MX S W) (ml mh : MX S (Option Int)) : MX S W := ma.bind fun w => ml.bind fun l => mh.bind fun h => fun env s => match w.rd env with
  | some d => resO env s (f d l h)
  | none => .bad
end
section
variable {S : Type} {X : Cx} {I : BoxI S} {Wx : WX} {a b c o : Expr} {es : List Expr} {pos apos cpos p2 : Pos} {ma mb mc : MX S W} {ms : MX S (List W)} {name : Str} {id : String}
theorem mut_fin {r : V → List V → Hp → VK → Prop} {g : List D → List D → Option (D × List D)} (dg : DMut X.K r g) {σ : St} {H : Hp} {Q : VK} (h : tD X.K I Wx (mMut g ma ms) σ H Q) : tBM X.K "list" r (tD X.K I Wx ma) (tDs X.K I Wx ms) σ H Q := by
  obtain ⟨G, env, s, ts, R, h⟩ := h
  refine tD_bind (Z := ZD X.K I Wx G ts σ Q) R h (fun _ _ _ z => z) (fun z => z) fun w env1 s1 x H1 _ R1 z1 => ?_
  cases w with
  | l i =>
    obtain ⟨ad, bv, bm, R2⟩ := id R1
    obtain ⟨e1, y, e2, e3⟩ : x = .ref (ad i) ∧ ∃ y, env1[i]? = some y ∧ y.isRef = true := R2.tm _ List.mem_cons_self
    simp only [e2] at z1
    cases y with
    | own ds0 =>
      simp only at z1
      obtain ⟨_, xs0, e4, r4⟩ := R2.sl i _ e2
      rw [e1]
      refine ⟨.inl ⟨rfl, xs0, .of e4⟩, ?_⟩
      refine tDs_bind (Z := ZD X.K I Wx G ts σ Q) R1 z1 (fun _ _ _ z dx H' q => z dx H' (q.less sl1)) (fun z => z) fun ws env2 s2 vs H2 _ l R3 z2 => ?_
      obtain ⟨ad', bv', bm', R4⟩ := R3
      cases q1 : ws.mapM W.kp with
      | none => simp only [q1] at z2; exact z2.elim
      | some es =>
        cases q2 : env2[i]? with
        | none => simp only [q1, q2] at z2; exact z2.elim
        | some y2 =>
          cases y2 with
          | own ds =>
            simp only [q1, q2] at z2
            cases q3 : g ds es with
            | none => simp only [q3] at z2; exact z2.elim
            | some p =>
              obtain ⟨res, ds'⟩ := p
              simp only [q3] at z2
              split at z2
              · rename_i hlen
                obtain ⟨f1, _, _, _⟩ : x = .ref (ad' i) ∧ ∃ y, env2[i]? = some y ∧ y.isRef = true := R4.tm (x, .l i) (by simp)
                obtain ⟨_, xs, f4, r5⟩ := R4.sl i _ q2
                have fa : ad i = ad' i := by rw [f1] at e1; injection e1 with e1; exact e1.symm
                rw [fa]
                refine dg _ H2 (ad' i) xs ds vs es res ds' Q f4 r5 (R4.keeps l zip_in q1) q3 hlen fun xs' v rx rv => z2 v _ ⟨ad', bv', bm', ?_⟩
                · have R5 := R4.wrS q2 rx
                  have gg : Gr (Bv G bm' ad' env2 (vs.zip ws ++ (x, .l i) :: ts)) (Bv G bm' ad' (env2.set i (.own ds')) (vs.zip ws ++ (x, .l i) :: ts)) H2 (upd H2 (ad' i) (.lst xs')) := by
                    refine ⟨fun a o q n => by rw [upd_ne fun z => n (.inr (.inr (.inl ⟨i, _, q2, rfl, z.symm⟩)))]; exact q, fun a z => .inl ?_⟩
                    refine z.imp (fun q => q) fun z => z.imp (fun q => q) fun z => z.imp (fun ⟨j, y, e', o, q⟩ => ?_) fun q => q
                    rcases set_get e' with ⟨rfl, rfl, _⟩ | ⟨_, e'⟩
                    · exact ⟨j, _, q2, rfl, q⟩
                    · exact ⟨j, y, e', o, q⟩
                  exact (R5.pushV (rv.gr gg)).less (.cons_cons _ (List.Sublist.trans sl1 slA))
              · exact z2.elim
          | _ => simp only [q1, q2] at z2; exact z2.elim
    | _ => exact z1.elim
  | _ => exact z1.elim
theorem d_mut {e : Expr} {r : V → List V → Hp → VK → Prop} {g : List D → List D → Option (D × List D)} (slot : Slot "list" name id) (hty : typeOf (.builtin id) = pure (.type "method_descriptor")) (hm : MtR X id r) (dg : DMut X.K r g) (ho : PE X o (tD X.K I Wx ma)) (ha : PA X (e :: es) (tDs X.K I Wx ms))
    (hbase : attributeBase o name X.env (eval o X.env) = eval o X.env := by rfl)
    (hfew : ((backTo cpos (starEach (e :: es) X.env)).all (fun x => !x.1) && (backToKw cpos (keywordEach [] X.env)).all (fun x => x.1.isSome)
      && decide ((e :: es).length + ([] : List Keyword).length + (if ([] : List Keyword).isEmpty then 0 else 1) < 30)) = true := by rfl)
    (hline : (apos.endLine == cpos.line) = true := by rfl) (hs : starEach (e :: es) X.env = (false, eval e X.env) :: starEach es X.env := by rfl) (hplain : (backTo cpos (starEach es X.env)).any (·.1) = false := by rfl) :
    PE X (.Call (.Attribute o name apos) (e :: es) [] cpos) (tD X.K I Wx (mMut g ma ms)) :=
  PEimp (pe_bm PySem.F.plainAttrs_list slot hty hm ho ha hbase hfew hline hs hplain) fun _ _ _ h => mut_fin dg h
theorem d_mut0 {r : V → List V → Hp → VK → Prop} {g : List D → List D → Option (D × List D)} (slot : Slot "list" name id) (hty : typeOf (.builtin id) = pure (.type "method_descriptor")) (hm : MtR X id r) (dg : DMut X.K r g) (ho : PE X o (tD X.K I Wx ma))
    (hbase : attributeBase o name X.env (eval o X.env) = eval o X.env := by rfl) (hline : (apos.endLine == cpos.line) = true := by rfl) :
    PE X (.Call (.Attribute o name apos) [] [] cpos) (tD X.K I Wx (mMut g ma mNil)) :=
  PEimp (pe_bm0 PySem.F.plainAttrs_list slot hty hm ho hbase hline) fun σ H Q h => by
    obtain ⟨G', env', s', ts', R', q⟩ := mut_fin (X := X) dg h
    refine ⟨G', env', s', ts', R', ?_⟩
    cases e : ma env' s' with
    | ok w env1 s1 =>
      rw [e] at q
      intro v H' R1
      obtain ⟨ty, G2, env2, s2, ts2, R2, q⟩ := q v H' R1
      exact ⟨ty, q [] H' rfl R2⟩
    | ex e env1 s1 => rw [e] at q; exact q
    | bad => rw [e] at q; exact q

/-! ### slices -/
def tP (K : PySem.W.Frag) (I : BoxI S) (Wx : WX) (m : MX S (Option Int)) : TO := fun σ H Q => ∃ G env s ts, ER K I G env s ts σ H ∧
  match m env s with
  | .ok i env' s' => ∀ H', ER K I G env' s' ts σ H' → Q i H'
  | .ex e env' s' => ∀ dx H', ERX K I G e dx env' s' ts σ H' → Wx (.ref e.C) (some dx) σ H'
  | .bad => False
theorem POimp {e : Option Expr} {t t' : TO} (h : PO X e t) (w : ∀ σ H Q, t' σ H Q → t σ H Q) : PO X e t' := ⟨fun pins s σ H Q I q => h.run pins s σ H Q I (w _ _ _ q)⟩
theorem o_none : PO X none (tP X.K I Wx (mNoPart (S := S))) := POimp po_none fun σ H Q ⟨G, env, s, ts, R, h⟩ => h H R
theorem o_some {e : Expr} (h : PE X e (tD X.K I Wx ma)) : PO X (some e) (tP X.K I Wx (mPart ma)) := by
  refine POimp (po_some h) fun σ H Q ⟨G, env, s, ts, R, h⟩ => ?_
  cases q : ma env s with
  | ex e env1 s1 =>
    simp only [mPart, MX.bind, Out.bind, q] at h
    exact ⟨G, env, s, ts, R, by rw [q]; exact h⟩
  | bad => simp only [mPart, MX.bind, Out.bind, q] at h
  | ok w env1 s1 =>
    simp only [mPart, MX.bind, Out.bind, q] at h
    refine ⟨G, env, s, ts, R, ?_⟩
    rw [q]
    intro x H1 R1
    cases w with
    | v d =>
      cases d with
      | int i =>
        obtain ⟨ad, bv, bm, R2⟩ := id R1
        have rq : Rep X.K _ H1 x (.int i) := R2.tm _ List.mem_cons_self
        cases rq
        exact ⟨i, rfl, h H1 R1.pop⟩
      | _ => exact h.elim
    | _ => exact h.elim
def DSl (K : PySem.W.Frag) (r : V → Option Int → Option Int → Hp → VK → Prop) (f : D → Option Int → Option Int → Option Rs) : Prop :=
  ∀ B H x d lo hi res Q, Tp K B H x d → (∀ a, B a → H a ≠ none) → f d lo hi = some res → FinQ K B H Q res → r x lo hi H Q
theorem tP_bind {α : Type} {m : MX S (Option Int)} {f : Option Int → MX S α} {Q : Option Int → Hp → Prop} {Z : Out S α → Prop} {G : Gh} {env : List Sl} {s : S} {ts : List (V × W)} {σ : St} {H : Hp}
    (R : ER X.K I G env s ts σ H) (h : Z ((m env s).bind f)) (hex : ∀ e env' s', Z (.ex e env' s') → ∀ dx H', ERX X.K I G e dx env' s' ts σ H' → Wx (.ref e.C) (some dx) σ H') (hbad : ¬ Z .bad)
    (hok : ∀ b env' s' H', ER X.K I G env' s' ts σ H' → Z (f b env' s') → Q b H') : tP X.K I Wx m σ H Q := by
  refine ⟨G, env, s, ts, R, ?_⟩
  cases e : m env s with
  | ok w env' s' =>
    rw [e] at h
    exact fun H' R' => hok w env' s' H' R' h
  | ex x env' s' =>
    rw [e] at h
    exact hex x env' s' h
  | bad =>
    rw [e] at h
    exact hbad h
theorem d_sl {e : Expr} {lo hi : Option Expr} {ml mh : MX S (Option Int)} {r : V → Option Int → Option Int → Hp → VK → Prop} {f : D → Option Int → Option Int → Option Rs} (hr : L2.SlR X r) (df : DSl X.K r f) (he : PE X e (tD X.K I Wx ma)) (hl : PO X lo (tP X.K I Wx ml)) (hu : PO X hi (tP X.K I Wx mh)) :
    PE X (.Subscript e (.Slice lo hi none p2) pos) (tD X.K I Wx (mSl f ma ml mh)) := by
  refine PEimp (pe_slice hr he hl hu) fun σ H Q ⟨G, env, s, ts, R, h⟩ => ?_
  refine tD_bind (Z := ZD X.K I Wx G ts σ Q) R h (fun _ _ _ z => z) (fun z => z) fun w env1 s1 x H1 _ R1 z1 => ?_
  refine tP_bind (Z := ZD X.K I Wx G ts σ Q) R1 z1 (fun _ _ _ z dx H' q => z dx H' (q.less sl1)) (fun z => z) fun i env2 s2 H2 R2 z2 => ?_
  refine tP_bind (Z := ZD X.K I Wx G ts σ Q) R2 z2 (fun _ _ _ z dx H' q => z dx H' (q.less sl1)) (fun z => z) fun j env3 s3 H3 R3 z3 => ?_
  obtain ⟨ad, bv, bm, R4⟩ := R3
  cases e1 : w.rd env3 with
  | none => simp only [e1] at z3; exact z3.elim
  | some d =>
    simp only [e1] at z3
    cases e3 : f d i j with
    | none => simp only [e3] at z3; exact z3.elim
    | some res =>
      simp only [e3] at z3
      exact df _ H3 x d i j res Q (R4.rd (p := (x, w)) List.mem_cons_self e1) (fun a => R4.avdom) e3 (fin_of (l := [(x, w)]) R4 res z3)
end
end LM

namespace LM
open PySem L2

/-! ### what is walked -/
/-- J gives the data xs while what stands at p stands -/
structure Wk {S : Type} (K : PySem.W.Frag) (I : BoxI S) (G : Gh) (ts : List (V × W)) (p : List (V × W)) (J : It) (xs : List D) : Prop where
  nd : ∀ q ∈ p, (∃ d, q.2 = .v d) ∨ ∃ d, q.2 = .t d
  stop : ∀ env s l σ H i, ER K I G env s (l ++ (p ++ ts)) σ H → i = xs.length → J.stop i H
  go : ∀ env s l σ H i d, ER K I G env s (l ++ (p ++ ts)) σ H → xs[i]? = some d → J.go i H ∧ ∀ x H', J.yld i H x H' → ER K I G env s ((x, .v d) :: (l ++ (p ++ ts))) σ H'
def tI {S : Type} (K : PySem.W.Frag) (I : BoxI S) (Wx : WX) (m : MX S (List D)) : TI := fun σ H R => ∃ G env s ts, ER K I G env s ts σ H ∧
  match m env s with
  | .ok xs env' s' => ∀ J p H', ER K I G env' s' (p ++ ts) σ H' → Wk K I G ts p J xs → R J H'
  | .ex e env' s' => ∀ dx H', ERX K I G e dx env' s' ts σ H' → Wx (.ref e.C) (some dx) σ H'
  | .bad => False
theorem PIimp {X : Cx} {tg e : Expr} {t t' : TI} (h : PI X tg e t) (w : ∀ σ H R, t' σ H R → t σ H R) : PI X tg e t' := ⟨fun pins s σ H R I q => h.run pins s σ H R I (w _ _ _ q)⟩
section
variable {S : Type}
def mIL (ma : MX S W) : MX S (List D) := ma.bind fun w => fun env s => match w with
  | .v (.lst ds) => .ok ds env s
  | .t (.lst ds) => .ok ds env s
  | _ => .bad
def mIT (ma : MX S W) : MX S (List D) := ma.bind fun w => fun env s => match w with
  | .v (.tup ds) => .ok ds env s
  | .t (.tup ds) => .ok ds env s
  | _ => .bad
def mIR (ma : MX S W) : MX S (List D) := ma.bind fun w => fun env s => match w with
  | .v (.int n) => if -4611686018427387904 ≤ n ∧ n < 4611686018427387904 then .ok ((List.range n.toNat).map fun i => .int (i : Nat)) env s else .bad
  | _ => .bad
def enumD (ds : List D) : List D := ds.zipIdx.map fun p => .tup [.int (p.2 : Nat), p.1]
def mIE (ma : MX S W) : MX S (List D) := ma.bind fun w => fun env s => match w with
  | .v (.lst ds) => .ok (enumD ds) env s
  | .t (.lst ds) => .ok (enumD ds) env s
  | _ => .bad
def mIZ (ma mb : MX S W) : MX S (List D) := ma.bind fun w => mb.bind fun u => fun env s => match w, u with
  | .v (.lst ds), .v (.lst es) => .ok ((ds.zip es).map fun p => .tup [p.1, p.2]) env s
  | _, _ => .bad
end
section
variable {S : Type} {X : Cx} {I : BoxI S} {Wx : WX} {a b tg : Expr} {pos p : Pos} {ma mb : MX S W}
/-- a list that is walked: at each turn the same -/
theorem wk_list {K : PySem.W.Frag} {G : Gh} {ts : List (V × W)} {v : V} {w : W} {ds : List D} (hw : w = .v (.lst ds) ∨ w = .t (.lst ds)) {a : Addr} (ha : v = .ref a) : Wk K I G ts [(v, w)] (Itl K a) ds := by
  have rd : ∀ env s l σ H, ER K I G env s (l ++ ([(v, w)] ++ ts)) σ H → ∃ ad bv bm xs, ERa K I G ad bv bm env s (l ++ ([(v, w)] ++ ts)) σ H ∧ SqL K H a xs ∧ Reps K (Bv G bm ad env (l ++ ([(v, w)] ++ ts))) H xs ds := by
    rintro env s l σ H ⟨ad, bv, bm, R⟩
    have q : Tp K (Bv G bm ad env (l ++ ([(v, w)] ++ ts))) H v (.lst ds) := R.rd (p := (v, w)) (by simp) (by rcases hw with rfl | rfl <;> rfl)
    obtain ⟨a', xs, e, r, q⟩ := q.lst
    rw [ha] at e; cases e
    exact ⟨ad, bv, bm, xs, R, r, q⟩
  refine ⟨fun q hq => ?_, fun env s l σ H i R hi => ?_, fun env s l σ H i d R hd => ?_⟩
  · obtain rfl := List.mem_singleton.mp hq
    rcases hw with e | e
    · exact .inl ⟨_, e⟩
    · exact .inr ⟨_, e⟩
  · obtain ⟨_, _, _, xs, _, r, q⟩ := rd env s l σ H R
    exact ⟨xs, r, by rw [q.len, hi]; exact Nat.le_refl _⟩
  · obtain ⟨ad, bv, bm, xs, R', r, q⟩ := rd env s l σ H R
    obtain ⟨x, hx, rx⟩ := q.get hd
    refine ⟨⟨xs, x, r, hx⟩, fun y H' ⟨e, hy⟩ => ?_⟩
    subst e
    have e2 := hy xs r
    rw [hx] at e2; cases e2
    exact ⟨ad, bv, bm, R'.pushV rx⟩
theorem wk_tup {K : PySem.W.Frag} {G : Gh} {ts : List (V × W)} {v : V} {w : W} {ds : List D} (hw : w = .v (.tup ds) ∨ w = .t (.tup ds)) {a : Addr} (ha : v = .ref a) : Wk K I G ts [(v, w)] (Itt K a) ds := by
  have rd : ∀ env s l σ H, ER K I G env s (l ++ ([(v, w)] ++ ts)) σ H → ∃ ad bv bm xs, ERa K I G ad bv bm env s (l ++ ([(v, w)] ++ ts)) σ H ∧ SqT K H a xs ∧ Reps K (Bv G bm ad env (l ++ ([(v, w)] ++ ts))) H xs ds := by
    rintro env s l σ H ⟨ad, bv, bm, R⟩
    have q : Tp K (Bv G bm ad env (l ++ ([(v, w)] ++ ts))) H v (.tup ds) := R.rd (p := (v, w)) (by simp) (by rcases hw with rfl | rfl <;> rfl)
    obtain ⟨a', xs, e, r, q⟩ := q.tup
    rw [ha] at e; cases e
    exact ⟨ad, bv, bm, xs, R, r, q⟩
  refine ⟨fun q hq => ?_, fun env s l σ H i R hi => ?_, fun env s l σ H i d R hd => ?_⟩
  · obtain rfl := List.mem_singleton.mp hq
    rcases hw with e | e
    · exact .inl ⟨_, e⟩
    · exact .inr ⟨_, e⟩
  · obtain ⟨_, _, _, xs, _, r, q⟩ := rd env s l σ H R
    exact ⟨xs, r, by rw [q.len, hi]; exact Nat.le_refl _⟩
  · obtain ⟨ad, bv, bm, xs, R', r, q⟩ := rd env s l σ H R
    obtain ⟨x, hx, rx⟩ := q.get hd
    refine ⟨⟨xs, x, r, hx⟩, fun y H' ⟨e, hy⟩ => ?_⟩
    subst e
    have e2 := hy xs r
    rw [hx] at e2; cases e2
    exact ⟨ad, bv, bm, R'.pushV rx⟩
theorem wk_range {K : PySem.W.Frag} {G : Gh} {ts : List (V × W)} {n : Nat} : Wk K I G ts [] (Itr 0 n) ((List.range n).map fun i => .int (i : Nat)) := by
  refine ⟨fun q hq => (nomatch hq), fun env s l σ H i R hi => ?_, fun env s l σ H i d R hd => ?_⟩
  · show n ≤ i
    rw [hi]; simp
  · rw [List.getElem?_map] at hd
    cases e : (List.range n)[i]? with
    | none => rw [e] at hd; cases hd
    | some j =>
      rw [e] at hd
      obtain ⟨h1, h2⟩ := List.getElem?_eq_some_iff.mp e
      rw [List.getElem_range] at h2
      subst h2
      cases hd
      refine ⟨(by show i < n; simpa using h1), fun x H' ⟨e1, e2⟩ => ?_⟩
      subst e1
      subst e2
      obtain ⟨ad, bv, bm, R⟩ := R
      rw [Int.zero_add]
      exact ⟨ad, bv, bm, R.pushV (.int _)⟩
theorem enumD_get {ds : List D} {i : Nat} {d : D} (h : (enumD ds)[i]? = some d) : ∃ e, ds[i]? = some e ∧ d = .tup [.int (i : Nat), e] := by
  unfold enumD at h
  rw [List.getElem?_map, List.getElem?_zipIdx] at h
  cases e : ds[i]? with
  | none => rw [e] at h; cases h
  | some x =>
    rw [e] at h
    simp only [Option.map_some, Option.some.injEq, Nat.zero_add] at h
    exact ⟨x, rfl, h.symm⟩
theorem enumD_len {ds : List D} : (enumD ds).length = ds.length := by simp [enumD]
theorem wk_enum {K : PySem.W.Frag} {G : Gh} {ts : List (V × W)} {v : V} {w : W} {ds : List D} (hw : w = .v (.lst ds) ∨ w = .t (.lst ds)) {a : Addr} (ha : v = .ref a) : Wk K I G ts [(v, w)] (Ite K a) (enumD ds) := by
  have Z := wk_list (I := I) (K := K) (G := G) (ts := ts) hw ha
  refine ⟨Z.nd, fun env s l σ H i R hi => Z.stop env s l σ H i R (by rw [enumD_len] at hi; exact hi), fun env s l σ H i d R hd => ?_⟩
  obtain ⟨e, he, rfl⟩ := enumD_get hd
  obtain ⟨g, y⟩ := Z.go env s l σ H i e R he
  refine ⟨g, fun x H' ⟨T, z, e1, e2, e3, e4⟩ => ?_⟩
  subst e1
  subst e3
  obtain ⟨ad, bv, bm, R2⟩ := y z H ⟨rfl, e4⟩
  have rz : Rep K (Bv G bm ad env ((z, .v e) :: (l ++ ([(v, w)] ++ ts)))) H z e := R2.tm _ List.mem_cons_self
  exact ⟨ad, bv, bm, (R2.newT e2 (.cons (.int _) (.cons rz .nil))).less (.cons_cons _ sl1)⟩
theorem i_list (ha : PE X a (tD X.K I Wx ma)) : PI X tg a (tI X.K I Wx (mIL ma)) := by
  refine PIimp (pi_list ha) fun σ H R0 ⟨G, env, s, ts, R, h⟩ => ?_
  show tD X.K I Wx ma σ H _
  refine ⟨G, env, s, ts, R, ?_⟩
  cases e : ma env s with
  | ex e' env1 s1 =>
    simp only [mIL, MX.bind, Out.bind, e] at h
    exact h
  | bad => simp only [mIL, MX.bind, Out.bind, e] at h
  | ok w env1 s1 =>
    simp only [mIL, MX.bind, Out.bind, e] at h
    intro v H1 R1
    have fin : ∀ ds, (w = .v (.lst ds) ∨ w = .t (.lst ds)) → (∀ J p H', ER X.K I G env1 s1 (p ++ ts) σ H' → Wk X.K I G ts p J ds → R0 J H') → ∃ a, v = .ref a ∧ (∃ xs, SqL X.K H1 a xs) ∧ R0 (Itl X.K a) H1 := fun ds hw k => by
      obtain ⟨ad, bv, bm, R2⟩ := id R1
      have q : Tp X.K (Bv G bm ad env1 ((v, w) :: ts)) H1 v (.lst ds) := R2.rd (p := (v, w)) List.mem_cons_self (by rcases hw with rfl | rfl <;> rfl)
      obtain ⟨a', xs, e, r, q⟩ := q.lst
      exact ⟨a', e, ⟨xs, r⟩, k (Itl X.K a') [(v, w)] H1 R1 (wk_list hw e)⟩
    cases w with
    | v d =>
      cases d with
      | lst ds => exact fin ds (.inl rfl) h
      | _ => exact h.elim
    | t d =>
      cases d with
      | lst ds => exact fin ds (.inr rfl) h
      | _ => exact h.elim
    | _ => exact h.elim
theorem i_tup (ha : PE X a (tD X.K I Wx ma)) : PI X tg a (tI X.K I Wx (mIT ma)) := by
  refine PIimp (pi_tup ha) fun σ H R0 ⟨G, env, s, ts, R, h⟩ => ?_
  show tD X.K I Wx ma σ H _
  refine ⟨G, env, s, ts, R, ?_⟩
  cases e : ma env s with
  | ex e' env1 s1 =>
    simp only [mIT, MX.bind, Out.bind, e] at h
    exact h
  | bad => simp only [mIT, MX.bind, Out.bind, e] at h
  | ok w env1 s1 =>
    simp only [mIT, MX.bind, Out.bind, e] at h
    intro v H1 R1
    have fin : ∀ ds, (w = .v (.tup ds) ∨ w = .t (.tup ds)) → (∀ J p H', ER X.K I G env1 s1 (p ++ ts) σ H' → Wk X.K I G ts p J ds → R0 J H') → ∃ a, v = .ref a ∧ (∃ xs, SqT X.K H1 a xs) ∧ R0 (Itt X.K a) H1 := fun ds hw k => by
      obtain ⟨ad, bv, bm, R2⟩ := id R1
      have q : Tp X.K (Bv G bm ad env1 ((v, w) :: ts)) H1 v (.tup ds) := R2.rd (p := (v, w)) List.mem_cons_self (by rcases hw with rfl | rfl <;> rfl)
      obtain ⟨a', xs, e, r, q⟩ := q.tup
      exact ⟨a', e, ⟨xs, r⟩, k (Itt X.K a') [(v, w)] H1 R1 (wk_tup hw e)⟩
    cases w with
    | v d =>
      cases d with
      | tup ds => exact fin ds (.inl rfl) h
      | _ => exact h.elim
    | t d =>
      cases d with
      | tup ds => exact fin ds (.inr rfl) h
      | _ => exact h.elim
    | _ => exact h.elim
theorem i_range (hg : Gl X "range") (hm : X.mg "range" = none) (ha : PE X a (tD X.K I Wx ma)) (hs : starEach [a] X.env = [(false, eval a X.env)] := by rfl) : PI X tg (.Call (.Name "range" p) [a] [] pos) (tI X.K I Wx (mIR ma)) := by
  refine PIimp (pi_range1 hg hm (pa_cons ha pa_nil hs) hs) fun σ H R0 ⟨G, env, s, ts, R, h⟩ => ?_
  show tD X.K I Wx ma σ H _
  refine ⟨G, env, s, ts, R, ?_⟩
  cases e : ma env s with
  | ex e' env1 s1 =>
    simp only [mIR, MX.bind, Out.bind, e] at h
    exact h
  | bad => simp only [mIR, MX.bind, Out.bind, e] at h
  | ok w env1 s1 =>
    simp only [mIR, MX.bind, Out.bind, e] at h
    intro v H1 R1
    cases w with
    | v d =>
      cases d with
      | int n =>
        simp only at h
        obtain ⟨ad, bv, bm, R2⟩ := id R1
        have q : Rep X.K _ H1 v (.int n) := R2.tm _ List.mem_cons_self
        cases q
        by_cases hn : -4611686018427387904 ≤ n ∧ n < 4611686018427387904
        · rw [if_pos hn] at h
          exact ⟨n, rfl, by omega, by omega, h (Itr 0 n.toNat) [] H1 R1.pop wk_range⟩
        · rw [if_neg hn] at h
          exact h.elim
      | _ => exact h.elim
    | _ => exact h.elim
end
end LM

namespace LM
open PySem L2

section
variable {S : Type} {K : PySem.W.Frag} {I : BoxI S} {G : Gh} {ad : Nat → Addr} {bv : V} {bm : Addr → Prop} {env : List Sl} {s s' : S} {ts ts' : List (V × W)} {σ σ' : St} {H H' : Hp}
/-- a slot that is no list of its own is stored -/
theorem ERa.put2 {x y : Sl} {i : Nat} {v : Option V} (R : ERa K I G ad bv bm env s ts σ H) (ey : env[i]? = some y) (nr : y.isRef = false) (nx : x.isOwn = false) (h : SlR K (Tv bm ad env ts) (Bv G bm ad env ts) bv H (ad i) (some v) x) : ERa K I G ad bv bm (env.set i x) s ts (σ.set i v) H := by
  have R1 := R.forget (v := v) ey nr
  have hi : i < env.length := (List.getElem?_eq_some_iff.mp ey).1
  have go : ∀ a, Ow ad (env.set i x) ts a → Ow ad env ts a := fun a z => z.imp (fun ⟨j, y, e, o, q⟩ => by
    rcases set_get e with ⟨_, rfl, _⟩ | ⟨_, e⟩
    · rw [nx] at o; cases o
    · exact ⟨j, y, e, o, q⟩) fun q => q
  have gt : Gr (Tv bm ad env ts) (Tv bm ad (env.set i x) ts) H H := .sub fun a z => z.imp (fun q => q) (go a)
  have g : Gr (Bv G bm ad env ts) (Bv G bm ad (env.set i x) ts) H H := .sub fun a z => z.imp (fun q => q) fun z => z.imp (fun q => q) (go a)
  refine ⟨by rw [List.length_set, List.length_set]; exact R.len, R.ext, R.dom, R.box, R.bfr, R.bdom, fun j z e o => ?_, R.tow, fun j k z u ej ek oj ok => ?_, fun j z p e o => ?_, R.d3, fun j z e => ?_, fun p hp => ?_⟩
  · rcases set_get e with ⟨_, rfl, _⟩ | ⟨_, e⟩
    · rw [nx] at o; cases o
    · exact R.own j z e o
  · rcases set_get ej with ⟨_, rfl, _⟩ | ⟨_, ej'⟩
    · rw [nx] at oj; cases oj
    rcases set_get ek with ⟨_, rfl, _⟩ | ⟨_, ek'⟩
    · rw [nx] at ok; cases ok
    exact R.d1 j k z u ej' ek' oj ok
  · rcases set_get e with ⟨_, rfl, _⟩ | ⟨_, e⟩
    · rw [nx] at o; cases o
    · exact R.d2 j z p e o
  · rcases set_get e with ⟨rfl, rfl, hl⟩ | ⟨ne, e⟩
    · rw [List.getElem?_set_self (by rw [R.len]; exact hl)]
      exact h.gr gt g fun _ _ q => q
    · rw [List.getElem?_set_ne (Ne.symm ne)]
      exact (R.sl j z e).gr gt g fun _ _ q => q
  · refine (R.tm p hp).gr gt g (fun _ _ _ _ q => q) fun j z _ q r => ?_
    by_cases hj : j = i
    · subst hj
      rw [ey] at q; cases q
      rw [nr] at r; cases r
    · exact ⟨z, by rw [List.getElem?_set_ne (Ne.symm hj)]; exact q, r⟩
/-- the slots read otherwise where nothing is said of them -/
theorem ERa.resl (R : ERa K I G ad bv bm env s ts σ H) (hl : σ'.length = σ.length) (h : ∀ (i : Nat) (x : Sl), env[i]? = some x → x = Sl.no ∨ σ'[i]? = σ[i]?) : ERa K I G ad bv bm env s ts σ' H := by
  refine ⟨by rw [hl]; exact R.len, R.ext, R.dom, R.box, R.bfr, R.bdom, R.own, R.tow, R.d1, R.d2, R.d3, fun i x e => ?_, R.tm⟩
  rcases h i x e with rfl | q
  · exact True.intro
  · rw [q]; exact R.sl i x e
end

/-! ### targets -/
/-- g stores data at the slots idx -/
def tG {S : Type} (K : PySem.W.Frag) (I : BoxI S) (idx : List Nat) (g : D → List Sl → Option (List Sl)) : TG := fun v σ H Q => ∃ G env s ts d, ER K I G env s ((v, .v d) :: ts) σ H ∧
  match g d env with
  | some env' => ∀ σ', ER K I G env' s ts σ' H → (∀ vs : List Nat, (∀ i ∈ idx, i ∈ vs) → wipe σ' vs = wipe σ vs) → Q σ' H
  | none => False
def tGs {S : Type} (K : PySem.W.Frag) (I : BoxI S) (idx : List Nat) (g : List D → List Sl → Option (List Sl)) : TGs := fun xs σ H Q => ∃ G env s ts ds, xs.length = ds.length ∧ ER K I G env s (xs.zip (ds.map W.v) ++ ts) σ H ∧
  match g ds env with
  | some env' => ∀ σ', ER K I G env' s ts σ' H → (∀ vs : List Nat, (∀ i ∈ idx, i ∈ vs) → wipe σ' vs = wipe σ vs) → Q σ' H
  | none => False
def gN (i : Nat) (d : D) (env : List Sl) : Option (List Sl) := match env[i]? with
  | some y => if y.isRef then none else some (env.set i (.val d))
  | none => none
def gT (n : Nat) (g : List D → List Sl → Option (List Sl)) (d : D) (env : List Sl) : Option (List Sl) := match d with
  | .tup ds => if ds.length = n then g ds env else none
  | _ => none
def gsN (ds : List D) (env : List Sl) : Option (List Sl) := match ds with
  | [] => some env
  | _ => none
def gsC (g : D → List Sl → Option (List Sl)) (gs : List D → List Sl → Option (List Sl)) (ds : List D) (env : List Sl) : Option (List Sl) := match ds with
  | d :: ds => (g d env).bind (gs ds)
  | [] => none
theorem PGimp {X : Cx} {e : Expr} {t t' : TG} (h : PG X e t) (w : ∀ v σ H Q, t' v σ H Q → t v σ H Q) : PG X e t' := ⟨fun pins s σ H v u Q I r q => h.run pins s σ H v u Q I r (w _ _ _ _ q)⟩
theorem PGsimp {X : Cx} {e : List Expr} {t t' : TGs} (h : PGs X e t) (w : ∀ v σ H Q, t' v σ H Q → t v σ H Q) : PGs X e t' := ⟨fun pins s σ H v u Q I r q => h.run pins s σ H v u Q I r (w _ _ _ _ q)⟩
theorem wipe_set {σ : St} {i : Nat} {x : Option V} : ∀ {vs : List Nat}, i ∈ vs → wipe (σ.set i x) vs = wipe σ vs
  | v :: vs, h => by
    show (wipe (σ.set i x) vs).set v none = (wipe σ vs).set v none
    by_cases hv : i ∈ vs
    · rw [wipe_set hv]
    · rcases List.mem_cons.mp h with rfl | h
      · have out : ∀ vs : List Nat, i ∉ vs → wipe (σ.set i x) vs = (wipe σ vs).set i x := by
          intro vs
          induction vs with
          | nil => intro _; rfl
          | cons v vs ih =>
            intro h
            show (wipe (σ.set i x) vs).set v none = ((wipe σ vs).set v none).set i x
            rw [ih fun z => h (List.mem_cons_of_mem _ z), List.set_comm _ _ fun z => h (by simp [z])]
        rw [out vs hv, List.set_set]
      · exact absurd h hv
section
variable {S : Type} {X : Cx} {I : BoxI S} {Wx : WX} {a b c : Expr} {es : List Expr} {pos : Pos} {g : D → List Sl → Option (List Sl)} {gs : List D → List Sl → Option (List Sl)} {ix ixs : List Nat}
theorem g_name {i : Nat} {x : Str} (hN : X.N.Nodup) (hi : X.N[i]? = some x) (hx : Loc X.env.scope x) (hf : X.fn x = true ∨ X.env.scope.names.lookup x = some .local := by first | exact .inl rfl | exact .inr rfl | assumption) : PG X (.Name x pos) (tG (S := S) X.K I [i] (gN i)) := by
  refine PGimp (pg_name hN hi hx hf) fun v σ H Q ⟨G, env, s, ts, d, R, h⟩ => ?_
  unfold gN at h
  cases e : env[i]? with
  | none => rw [e] at h; exact h.elim
  | some y =>
    rw [e] at h
    by_cases hr : y.isRef = true
    · simp only [hr] at h; exact h.elim
    · simp only [hr] at h
      obtain ⟨ad, bv, bm, R⟩ := R
      have r : Rep X.K (Bv G bm ad env ((v, .v d) :: ts)) H v d := R.tm _ List.mem_cons_self
      refine h _ ⟨ad, bv, bm, (R.put2 (x := .val d) (v := some v) e (by simpa using hr) rfl ⟨v, rfl, r⟩).pop⟩ fun vs hv => wipe_set (hv i (by simp))
theorem gs_nil : PGs X [] (tGs (S := S) X.K I [] gsN) := by
  refine PGsimp pgs_nil fun v σ H Q ⟨G, env, s, ts, ds, hl, R, h⟩ => ?_
  cases ds with
  | nil =>
    cases v with
    | nil => exact ⟨rfl, h σ R fun _ _ => rfl⟩
    | cons _ _ => simp at hl
  | cons _ _ => exact h.elim
theorem gs_cons (h1 : PG X a (tG (S := S) X.K I ix g)) (h2 : PGs X es (tGs (S := S) X.K I ixs gs)) (hs : (assignEach (a :: es) X.env).map (·.2) = assign a X.env :: (assignEach es X.env).map (·.2) := by rfl) : PGs X (a :: es) (tGs (S := S) X.K I (ix ++ ixs) (gsC g gs)) := by
  refine PGsimp (pgs_cons h1 h2 hs) fun v σ H Q ⟨G, env, s, ts, ds, hl, R, h⟩ => ?_
  cases ds with
  | nil => exact h.elim
  | cons d ds =>
    cases v with
    | nil => simp at hl
    | cons x xs =>
      unfold gsC at h
      cases e : g d env with
      | none => simp only [e] at h; exact h.elim
      | some env1 =>
        simp only [e] at h
        cases e2 : gs ds env1 with
        | none => rw [Option.bind_some, e2] at h; exact h.elim
        | some env2 =>
          rw [Option.bind_some, e2] at h
          refine ⟨x, xs, rfl, G, env, s, xs.zip (ds.map W.v) ++ ts, d, R, ?_⟩
          rw [e]
          intro σ1 R1 w1
          refine ⟨G, env1, s, ts, ds, by simpa using hl, R1, ?_⟩
          rw [e2]
          exact fun σ2 R2 w2 => h σ2 R2 fun vs hv => (w2 vs fun i hi => hv i (List.mem_append_right _ hi)).trans (w1 vs fun i hi => hv i (List.mem_append_left _ hi))
theorem zip_v : ∀ {K : PySem.W.Frag} {B : Addr → Prop} {H : Hp} {xs : List V} {ds : List D}, Reps K B H xs ds → ∀ p ∈ xs.zip (ds.map W.v), ∃ d, p.2 = .v d ∧ Rep K B H p.1 d
  | _, _, _, [], _, _, p, hp => by simp at hp
  | _, _, _, x :: xs, [], h, p, hp => by cases h
  | _, _, _, x :: xs, d :: ds, h, p, hp => by
    cases h with
    | cons h1 h2 =>
      rw [List.map_cons, List.zip_cons_cons] at hp
      rcases List.mem_cons.mp hp with rfl | hp
      · exact ⟨d, rfl, h1⟩
      · exact zip_v h2 p hp
/-- data pushed, many -/
theorem ERa.pushes {K : PySem.W.Frag} {G : Gh} {ad : Nat → Addr} {bv : V} {bm : Addr → Prop} {env : List Sl} {s : S} {σ : St} {H : Hp} : ∀ {l ts : List (V × W)}, ERa K I G ad bv bm env s ts σ H → (∀ p ∈ l, ∃ d, p.2 = .v d ∧ Rep K (Bv G bm ad env ts) H p.1 d) → ERa K I G ad bv bm env s (l ++ ts) σ H
  | [], ts, R, _ => R
  | p :: l, ts, R, h => by
    have R1 := ERa.pushes (l := l) R fun q hq => h q (List.mem_cons_of_mem _ hq)
    obtain ⟨d, e, r⟩ := h p List.mem_cons_self
    obtain ⟨v, w⟩ := p
    have e : w = .v d := e
    subst e
    refine R1.pushV (r.gr (.sub fun a z => z.imp (fun q => q) fun z => z.imp (fun q => q) fun z => z.imp (fun q => q) fun ⟨q, hq, f, e⟩ => ?_))
    rcases List.mem_append.mp hq with hq | hq
    · obtain ⟨d', e', _⟩ := h q (List.mem_cons_of_mem _ hq)
      rw [e'] at f; cases f
    · exact ⟨q, hq, f, e⟩
theorem g_tup {k : Nat} {n : Nat} (hc : X.calm = true) (h : PGs X es (tGs (S := S) X.K I ix gs)) (hn : (assignEach es X.env).length = n := by rfl) (hst : (assignEach es X.env).findIdx? (·.1) = none := by rfl) : PG X (.Tuple es k pos) (tG (S := S) X.K I ix (gT n gs)) := by
  refine PGimp (pg_tup hc h hn hst) fun v σ H Q ⟨G, env, s, ts, d, R, h⟩ => ?_
  cases d with
  | tup ds =>
    obtain ⟨ad, bv, bm, R⟩ := R
    have q : Tp X.K (Bv G bm ad env ((v, .v (.tup ds)) :: ts)) H v (.tup ds) := R.rd (p := (v, .v (.tup ds))) List.mem_cons_self rfl
    obtain ⟨a, xs, e1, r, q⟩ := q.tup
    by_cases hl : ds.length = n
    · simp only [gT, if_pos hl] at h
      refine ⟨a, xs, e1, r, by rw [q.len]; exact hl, G, env, s, ts, ds, q.len, ⟨ad, bv, bm, (R.pop).pushes fun p hp => ?_⟩, ?_⟩
      · obtain ⟨d, e, r⟩ := zip_v q p hp
        exact ⟨d, e, r.gr (.sub fun a z => z.imp (fun q => q) fun z => z.imp (fun q => q) fun z => z.imp (fun q => q) fun ⟨q, hq, f⟩ => ⟨q, List.mem_cons_of_mem _ hq, f⟩)⟩
      · exact h
    · simp only [gT, if_neg hl] at h
  | _ => exact h.elim
end
end LM

namespace LM
open PySem L2

/-! ### list comprehensions -/
def nonref (vs : List Nat) (env : List Sl) : Bool := vs.all fun v => match env[v]? with
  | some y => !y.isRef
  | none => true
def wipeE (env : List Sl) : List Nat → List Sl
  | [] => env
  | v :: vs => (wipeE env vs).set v .no
def Out.bindN {S α β : Type} (o : Out S α) (f : α → MX S β) : Out S β :=
  match o with
  | .ok a env s => f a env s
  | _ => .bad
section
variable {S : Type}
def mCompL (vs : List Nat) (g : D → List Sl → Option (List Sl)) (mt : MX S Bool) (me : MX S W) : List D → List D → MX S W
  | [], acc => fun env s => .ok (.f acc) env s
  | d :: ds, acc => fun env s => match g d env with
    | none => .bad
    | some env1 => (mt env1 s).bindN fun b => if b then fun env s => (me env s).bindN fun w => fun env s => match w.kp with
      | some e => if acc.length < 16777216 ∧ nonref vs env = true then mCompL vs g mt me ds (acc ++ [e]) (wipeE env vs) s else .bad
      | none => .bad
      else fun env s => if nonref vs env = true then mCompL vs g mt me ds acc (wipeE env vs) s else .bad
def mComp (mi : MX S (List D)) (vs : List Nat) (g : D → List Sl → Option (List Sl)) (mt : MX S Bool) (me : MX S W) : MX S W := mi.bind fun xs => fun env s => if nonref vs env = true then mCompL vs g mt me xs [] (wipeE env vs) s else .bad
def mYes : MX S Bool := fun env s => .ok true env s
end
def W0 : WX := fun _ _ _ _ => False
theorem wipe_wipe (σ : St) (vs : List Nat) : wipe (wipe σ vs) vs = wipe σ vs := by
  have h : ∀ us : List Nat, (∀ v ∈ us, v ∈ vs) → wipe (wipe σ us) vs = wipe σ vs := by
    intro us
    induction us with
    | nil => intro _; rfl
    | cons u us ih =>
      intro hu
      show wipe ((wipe σ us).set u none) vs = wipe σ vs
      rw [wipe_set (hu u List.mem_cons_self), ih fun v hv => hu v (List.mem_cons_of_mem _ hv)]
  exact h vs fun _ h => h
theorem wipeE_get {env : List Sl} {i : Nat} {y : Sl} : ∀ {vs : List Nat}, (wipeE env vs)[i]? = some y → (i ∈ vs ∧ y = .no) ∨ (i ∉ vs ∧ env[i]? = some y)
  | [], h => .inr ⟨by simp, h⟩
  | v :: vs, h => by
    rcases set_get (show ((wipeE env vs).set v .no)[i]? = some y from h) with ⟨rfl, rfl, _⟩ | ⟨ne, h⟩
    · exact .inl ⟨by simp, rfl⟩
    · rcases wipeE_get h with ⟨h1, h2⟩ | ⟨h1, h2⟩
      · exact .inl ⟨List.mem_cons_of_mem _ h1, h2⟩
      · exact .inr ⟨by simp [ne, h1], h2⟩
section
variable {S : Type} {K : PySem.W.Frag} {I : BoxI S} {G : Gh} {ad : Nat → Addr} {bv : V} {bm : Addr → Prop} {env : List Sl} {s s' : S} {ts ts' : List (V × W)} {σ σ' : St} {H H' : Hp}
theorem ERa.wipes (R : ERa K I G ad bv bm env s ts σ H) : ∀ {vs : List Nat}, nonref vs env = true → ERa K I G ad bv bm (wipeE env vs) s ts (wipe σ vs) H
  | [], _ => R
  | v :: vs, h => by
    unfold nonref at h
    rw [List.all_cons, Bool.and_eq_true] at h
    have R1 := ERa.wipes R (vs := vs) h.2
    show ERa K I G ad bv bm ((wipeE env vs).set v .no) s ts ((wipe σ vs).set v none) H
    cases e : (wipeE env vs)[v]? with
    | none =>
      have hl : (wipeE env vs).length ≤ v := List.getElem?_eq_none_iff.mp e
      rw [List.set_eq_of_length_le hl, List.set_eq_of_length_le (by rw [R1.len]; exact hl)]
      exact R1
    | some y =>
      refine R1.forget e ?_
      rcases wipeE_get e with ⟨_, rfl⟩ | ⟨_, e'⟩
      · rfl
      · have h1 := h.1
        rw [e'] at h1
        simpa using h1
theorem ER.wipes (R : ER K I G env s ts σ H) {vs : List Nat} (h : nonref vs env = true) : ER K I G (wipeE env vs) s ts (wipe σ vs) H := by
  obtain ⟨ad, bv, bm, R⟩ := R
  exact ⟨ad, bv, bm, R.wipes h⟩
theorem wipe_ne {σ : St} {i : Nat} : ∀ {vs : List Nat}, i ∉ vs → (wipe σ vs)[i]? = σ[i]?
  | [], _ => rfl
  | v :: vs, h => by
    show ((wipe σ vs).set v none)[i]? = σ[i]?
    rw [List.getElem?_set_ne (fun e => h (by simp [e])), wipe_ne fun z => h (List.mem_cons_of_mem _ z)]
theorem wipeE_env {env : List Sl} {vs : List Nat} (h : ∀ v ∈ vs, ∀ y, env[v]? = some y → y = .no) (R : ER K I G env s ts (wipe σ vs) H) : ER K I G env s ts σ H := by
  obtain ⟨ad, bv, bm, R⟩ := R
  refine ⟨ad, bv, bm, R.resl (by rw [wipe_length]) fun i x e => ?_⟩
  by_cases hi : i ∈ vs
  · exact .inl (h i hi x e)
  · exact .inr (wipe_ne hi).symm
theorem wipeE_no {env : List Sl} {vs : List Nat} : ∀ v ∈ vs, ∀ y, (wipeE env vs)[v]? = some y → y = .no := fun v hv y e => by
  rcases wipeE_get e with ⟨_, h⟩ | ⟨h, _⟩
  · exact h
  · exact absurd hv h
end
section
variable {S : Type} {X : Cx} {I : BoxI S} {Wx : WX} {pos : Pos} {me : MX S W} {mt : MX S Bool} {mi : MX S (List D)} {g : D → List Sl → Option (List Sl)} {idx : List Nat}
theorem y_nil : PTs X [] (LM.tB X.K I Wx (mYes (S := S))) := ⟨fun pins s σ H Q J ⟨G, env, s', ts, R, h⟩ => (pts_nil (X := X)).run pins s σ H Q J (h H R)⟩
theorem y_one {c : Expr} (h : PT X c (LM.tB X.K I Wx mt)) : PTs X [c] (LM.tB X.K I Wx mt) := pts_one h
theorem comp_fin {vs : List Nat} (hv : ∀ i ∈ idx, i ∈ vs) {σ : St} {H : Hp} {Q : VK} (h : tD X.K I Wx (mComp mi vs g mt me) σ H Q) :
    tLc (tI X.K I Wx mi) (tG X.K I idx g) (LM.tB X.K I W0 mt) (tD X.K I W0 me) vs σ H Q := by
  obtain ⟨G, env, s, ts, R, h⟩ := h
  refine ⟨G, env, s, ts, R, ?_⟩
  cases e : mi env s with
  | ex e' env1 s1 =>
    simp only [mComp, MX.bind, Out.bind, e] at h
    exact h
  | bad => simp only [mComp, MX.bind, Out.bind, e] at h
  | ok xs env1 s1 =>
    simp only [mComp, MX.bind, Out.bind, e] at h
    intro J p H1 R1 wk L hL
    have h : ZD X.K I Wx G ts σ Q (if nonref vs env1 = true then mCompL vs g mt me xs [] (wipeE env1 vs) s1 else .bad) := h
    by_cases hn : nonref vs env1 = true
    · rw [if_pos hn] at h
      obtain ⟨ad, bv, bm, R2⟩ := R1
      let St0 : List D → Hp → Prop := fun rest H => ∃ env s acc, ER X.K I G env s ((.ref L, .f acc) :: (p ++ ts)) (wipe σ vs) H ∧ (∀ v ∈ vs, ∀ y, env[v]? = some y → y = Sl.no) ∧ ZD X.K I Wx G ts σ Q (mCompL vs g mt me rest acc env s)
      refine ⟨fun i m H => m = xs.length - i ∧ i ≤ xs.length ∧ St0 (xs.drop i) H, ⟨_, rfl, Nat.zero_le _, wipeE env1 vs, s1, [], ?_, wipeE_no, h⟩, ?_⟩
      · exact ⟨ad, bv, bm, (R2.wipes hn).newF hL .nil⟩
      · rintro i m H2 ⟨rfl, hi, env2, s2, acc, R3, no, z⟩
        by_cases hlt : i < xs.length
        · have ed : xs.drop i = xs[i] :: xs.drop (i + 1) := List.drop_eq_getElem_cons hlt
          obtain ⟨g1, y1⟩ := wk.go env2 s2 [(.ref L, .f acc)] (wipe σ vs) H2 i xs[i] R3 (List.getElem?_eq_getElem hlt)
          refine .inr ⟨g1, St0 (xs.drop (i + 1)), fun H' q => ⟨xs.length - (i + 1), by omega, rfl, hlt, q⟩, fun x H' hy => ?_⟩
          rw [ed] at z
          unfold mCompL at z
          refine ⟨G, env2, s2, (.ref L, .f acc) :: (p ++ ts), xs[i], y1 x H' hy, ?_⟩
          cases eg : g xs[i] env2 with
          | none => simp only [eg] at z; exact z.elim
          | some env3 =>
            simp only [eg] at z
            intro σ2 R4 w4
            have ew : wipe σ2 vs = wipe σ vs := (w4 vs hv).trans (wipe_wipe σ vs)
            refine ⟨ew, G, env3, s2, _, R4, ?_⟩
            cases et : mt env3 s2 with
            | ex e' env4 s4 => simp only [et, Out.bindN] at z; exact z.elim
            | bad => simp only [et, Out.bindN] at z; exact z.elim
            | ok b env4 s4 =>
              simp only [et, Out.bindN] at z
              intro H3 R5
              cases b with
              | false =>
                refine iteF ?_
                simp only [Bool.false_eq_true, if_false] at z
                by_cases hn4 : nonref vs env4 = true
                · rw [if_pos hn4] at z
                  have R6 := R5.wipes hn4
                  rw [ew] at R6
                  exact ⟨_, s4, acc, R6, wipeE_no, z⟩
                · rw [if_neg hn4] at z; exact z.elim
              | true =>
                refine iteT ?_
                simp only [if_true] at z
                refine ⟨G, env4, s4, _, R5, ?_⟩
                cases ee : me env4 s4 with
                | ex e' env5 s5 => simp only [ee] at z; exact z.elim
                | bad => simp only [ee] at z; exact z.elim
                | ok w env5 s5 =>
                  simp only [ee] at z
                  intro y H4 R6
                  cases ek : w.kp with
                  | none => simp only [ek] at z; exact z.elim
                  | some e0 =>
                    simp only [ek] at z
                    by_cases hn5 : acc.length < 16777216 ∧ nonref vs env5 = true
                    · rw [if_pos hn5] at z
                      obtain ⟨ad, bv, bm, R7⟩ := R6
                      have ry := R7.keep (p := (y, w)) List.mem_cons_self ek
                      obtain ⟨a', xs', f1, f2, f3⟩ := R7.tm (.ref L, .f acc) (by simp)
                      have fD : L = a' := by injection f1
                      subst fD
                      have sub : ∀ a, Bv G bm ad env5 ((.ref L, .f acc) :: (p ++ ts)) a → Bv G bm ad env5 ((y, w) :: (.ref L, .f acc) :: (p ++ ts)) a := fun a z => z.imp (fun q => q) fun z => z.imp (fun q => q) fun z => z.imp (fun q => q) fun ⟨q, hq, f⟩ => ⟨q, List.mem_cons_of_mem _ hq, f⟩
                      have R8 := R7.pop.wrF (xs' := xs' ++ [y]) (ds' := acc ++ [e0]) ((f3.gr (.sub sub)).app (.one (ry.gr (.sub sub))))
                      refine ⟨xs', f2, by rw [f3.len, sizeLine_eq]; exact hn5.1, ?_⟩
                      have R9 := R8.wipes hn5.2
                      rw [ew] at R9
                      exact ⟨_, s5, _, ⟨ad, bv, bm, R9⟩, wipeE_no, z⟩
                    · rw [if_neg hn5] at z; exact z.elim
        · have ei : i = xs.length := by omega
          subst ei
          rw [List.drop_length] at z
          refine .inl ⟨wk.stop env2 s2 [(.ref L, .f acc)] _ H2 _ R3 rfl, z _ H2 ?_⟩
          exact (wipeE_env no R3).less (.cons_cons _ slA)
    · rw [if_neg hn] at h; exact h.elim
theorem d_comp {elt tg iter : Expr} {ifs : List Expr} {scope : Scope} {own : List (Str × Nat)} (hc : X.calm = true) (hN : X.N.Nodup) (hi : PI X tg iter (tI X.K I Wx mi)) (ok : BlkOk X.N X.env.scope scope own) (hv : ∀ i ∈ idx, i ∈ own.map (·.2))
    (hg : ∀ (s : Shared) (H : Hp) (C : Addr) (cl : List (Str × Addr)) (fp : List Addr), PG (X.blk s H scope (compEnvC scope cl C X.env) fp) tg (tG X.K I idx g)) (ht : ∀ (s : Shared) (H : Hp) (C : Addr) (cl : List (Str × Addr)) (fp : List Addr), PTs (X.blk s H scope (compEnvC scope cl C X.env) fp) ifs (LM.tB X.K I W0 mt))
    (he : ∀ (s : Shared) (H : Hp) (C : Addr) (cl : List (Str × Addr)) (fp : List Addr), PE (X.blk s H scope (compEnvC scope cl C X.env) fp) elt (tD X.K I W0 me)) (hs : ∀ x, foldedSetIterable iter X.env x = pure x := by intro _; rfl) :
    PE X (.ListComp elt [⟨tg, iter, ifs, 0⟩] scope pos) (tD X.K I Wx (mComp mi (own.map (·.2)) g mt me)) :=
  PEimp (pe_lc hc hN hi ok hg ht he hs) fun _ _ _ h => comp_fin hv h
end
end LM

namespace LM
open PySem L2

def Out.bindS {S α : Type} (o : Out S α) (f : α → MS S) : SO S :=
  match o with
  | .ok a env s => f a env s
  | .ex e env s => .ex e env s
  | .bad => .bad
section
variable {S : Type}
def mBad : MS S := fun _ _ => .bad
def mNext : MS S := fun env s => .nx env s
def mBrk : MS S := fun env s => .bk env s
def mCnt : MS S := fun env s => .ct env s
def mSeq (m n : MS S) : MS S := fun env s => match m env s with
  | .nx env s => n env s
  | o => o
def mSet (i : Nat) (me : MX S W) : MS S := fun env s => (me env s).bindS fun w env s => match w with
  | .v d => .nx (env.set i (.val d)) s
  | .t d => .nx (env.set i (.top d)) s
  | .f ds => .nx (env.set i (.own ds)) s
  | _ => .bad
def mExp (me : MX S W) : MS S := fun env s => (me env s).bindS fun _ env s => .nx env s
def mRet (me : MX S W) : MS S := fun env s => (me env s).bindS fun w env s => match w with
  | .f ds => .rf ds env s
  | w => match w.kp with
    | some d => .rt d env s
    | none => .bad
def mRetN : MS S := fun env s => .rt .non env s
def mIf (mc : MX S Bool) (m n : MS S) : MS S := fun env s => (mc env s).bindS fun b env s => if b then m env s else n env s
def mForL (g : D → List Sl → Option (List Sl)) (body : MS S) : List D → MS S
  | [] => fun env s => .nx env s
  | d :: ds => fun env s => match g d env with
    | none => .bad
    | some env => match body env s with
      | .nx env s => mForL g body ds env s
      | .ct env s => mForL g body ds env s
      | .bk env s => .nx env s
      | .rt d env s => .rt d env s
      | .rf d env s => .rf d env s
      | .ex e env s => .ex e env s
      | .bad => .bad
def mFor (mi : MX S (List D)) (g : D → List Sl → Option (List Sl)) (body : MS S) : MS S := fun env s => (mi env s).bindS fun xs env s => mForL g body xs env s
end

def ZS {S : Type} (K : PySem.W.Frag) (I : BoxI S) (Wx : WX) (G : Gh) (ts : List (V × W)) (Dn : Ends) (o : SO S) : Prop :=
  match o with
  | .nx env' s' => ∀ σ' H', ER K I G env' s' ts σ' H' → Dn.nx σ' H'
  | .rt d env' s' => ∀ v σ' H', ER K I G env' s' ((v, .v d) :: ts) σ' H' → Dn.rt v H'
  | .rf d env' s' => ∀ v σ' H', ER K I G env' s' ((v, .f d) :: ts) σ' H' → Dn.rt v H'
  | .bk env' s' => ∀ σ' H', ER K I G env' s' ts σ' H' → Dn.bk σ' H'
  | .ct env' s' => ∀ σ' H', ER K I G env' s' ts σ' H' → Dn.ct σ' H'
  | .ex e env' s' => ∀ dx σ' H', ERX K I G e dx env' s' ts σ' H' → Wx (.ref e.C) (some dx) σ' H'
  | .bad => False
section
variable {S : Type} {X : Cx} {I : BoxI S} {Wx : WX} {e : Expr} {st : Stmt} {sts : List Stmt} {pos : Pos} {me : MX S W} {mc : MX S Bool} {mi : MX S (List D)} {m n : MS S} {g : D → List Sl → Option (List Sl)} {idx : List Nat}
theorem tD_bindS {f : W → MS S} {G : Gh} {env : List Sl} {s : S} {ts : List (V × W)} {σ : St} {H : Hp} {Q : VK} {Dn : Ends} (R : ER X.K I G env s ts σ H) (h : ZS X.K I Wx G ts Dn ((me env s).bindS f))
    (hok : ∀ w env' s' v H', ER X.K I G env' s' ((v, w) :: ts) σ H' → ZS X.K I Wx G ts Dn (f w env' s') → Q v H') : tD X.K I Wx me σ H Q := by
  refine ⟨G, env, s, ts, R, ?_⟩
  cases e : me env s with
  | ok w env' s' => rw [e] at h; exact fun v H' R' => hok w env' s' v H' R' h
  | ex x env' s' => rw [e] at h; exact fun dx H' R' => h dx σ H' R'
  | bad => rw [e] at h; exact h
theorem tB_bindS {f : Bool → MS S} {G : Gh} {env : List Sl} {s : S} {ts : List (V × W)} {σ : St} {H : Hp} {Q : Bool → Hp → Prop} {Dn : Ends} (R : ER X.K I G env s ts σ H) (h : ZS X.K I Wx G ts Dn ((mc env s).bindS f))
    (hok : ∀ w env' s' H', ER X.K I G env' s' ts σ H' → ZS X.K I Wx G ts Dn (f w env' s') → Q w H') : LM.tB X.K I Wx mc σ H Q := by
  refine ⟨G, env, s, ts, R, ?_⟩
  cases e : mc env s with
  | ok w env' s' => rw [e] at h; exact fun H' R' => hok w env' s' H' R' h
  | ex x env' s' => rw [e] at h; exact fun dx H' R' => h dx σ H' R'
  | bad => rw [e] at h; exact h
theorem s_bad : PS X st (tS X.K I Wx (mBad (S := S))) := ⟨fun _ _ _ _ _ _ ⟨_, _, _, _, _, _, h⟩ => h.elim⟩
theorem s_pass : PS X (.Pass pos) (tS X.K I Wx (mNext (S := S))) := PSimp ps_pass fun Dn σ H ⟨G, env, s, ts, R, cl, h⟩ => h σ H R
theorem s_break : PS X (.Break pos) (tS X.K I Wx (mBrk (S := S))) := PSimp ps_break fun Dn σ H ⟨G, env, s, ts, R, cl, h⟩ => h σ H R
theorem s_continue : PS X (.Continue pos) (tS X.K I Wx (mCnt (S := S))) := PSimp ps_continue fun Dn σ H ⟨G, env, s, ts, R, cl, h⟩ => h σ H R
theorem b_nil : PSs X [] (tS X.K I Wx (mNext (S := S))) := PSsimp pss_nil fun Dn σ H ⟨G, env, s, ts, R, cl, h⟩ => h σ H R
theorem b_one (h : PS X st (tS X.K I Wx m)) : PSs X [st] (tS X.K I Wx m) := pss_one h
theorem b_cons (h1 : PS X st (tS X.K I Wx m)) (h2 : PSs X sts (tS X.K I Wx n)) : PSs X (st :: sts) (tS X.K I Wx (mSeq m n)) := by
  refine PSsimp (pss_cons h1 h2) fun Dn σ H ⟨G, env, s, ts, R, cl, h⟩ => ?_
  refine ⟨G, env, s, ts, R, cl, ?_⟩
  unfold mSeq at h
  cases e : m env s with
  | nx env1 s1 =>
    simp only [e] at h
    exact fun σ' H' R' => ⟨G, env1, s1, ts, R', cl, h⟩
  | rt d env1 s1 => simp only [e] at h; exact h
  | rf d env1 s1 => simp only [e] at h; exact h
  | bk env1 s1 => simp only [e] at h; exact h
  | ct env1 s1 => simp only [e] at h; exact h
  | ex x env1 s1 => simp only [e] at h; exact h
  | bad => simp only [e] at h
theorem s_set {i : Nat} {x : Str} {pos' : Pos} (hN : X.N.Nodup) (hi : X.N[i]? = some x) (hx : Loc X.env.scope x) (he : PE X e (tD X.K I Wx me)) (hs : swapsWith e (some (.Name x pos')) pos.line X.env = pure false := by rfl)
    (hf : X.fn x = true ∨ X.env.scope.names.lookup x = some .local := by first | exact .inl rfl | exact .inr rfl | assumption) : PS X (.Assign [.Name x pos'] e pos) (tS X.K I Wx (mSet i me)) := by
  refine PSimp (ps_set hN hi hx he hs hf) fun Dn σ H ⟨G, env, s, ts, R, cl, h⟩ => ?_
  refine tD_bindS (Dn := Dn) R h fun w env' s' v H' ⟨ad, bv, bm, R'⟩ z => ?_
  cases w with
  | v d => exact z _ _ ⟨ad, bv, bm, R'.putV cl⟩
  | t d => exact z _ _ ⟨ad, bv, bm, R'.putT cl⟩
  | f ds =>
    obtain ⟨ad', R2⟩ := R'.putF (i := i) cl
    exact z _ _ ⟨ad', bv, bm, R2⟩
  | _ => exact z.elim
theorem s_expr (he : PE X e (tD X.K I Wx me)) (hs : swapsWith e none pos.line X.env = pure false := by rfl) : PS X (.Expr e pos) (tS X.K I Wx (mExp me)) := by
  refine PSimp (ps_expr he hs) fun Dn σ H ⟨G, env, s, ts, R, cl, h⟩ => ?_
  exact tD_bindS (Dn := Dn) R h fun w env' s' v H' R' z => z σ H' R'.pop
theorem s_ret (he : PE X e (tD X.K I Wx me)) : PS X (.Return (some e) pos) (tS X.K I Wx (mRet me)) := by
  refine PSimp (ps_ret he) fun Dn σ H ⟨G, env, s, ts, R, cl, h⟩ => ?_
  refine tD_bindS (Dn := Dn) R h fun w env' s' v H' ⟨ad, bv, bm, R'⟩ z => ?_
  have go : ∀ d, w.kp = some d → ZS X.K I Wx G ts Dn (.rt d env' s') → Dn.rt v H' := fun d q z => z v σ H' ⟨ad, bv, bm, (R'.pushV (R'.keep (p := (v, w)) List.mem_cons_self q)).less (.cons_cons _ sl1)⟩
  cases w with
  | f ds => exact z v σ H' ⟨ad, bv, bm, R'⟩
  | v d => exact go d rfl z
  | t d =>
    cases q : (W.t d).kp with
    | none => simp only [q] at z; exact z.elim
    | some d' => simp only [q] at z; exact go d' q z
  | l i => exact z.elim
  | b => exact z.elim
theorem s_retN : PS X (.Return none pos) (tS X.K I Wx (mRetN (S := S))) :=
  PSimp ps_retN fun Dn σ H ⟨G, env, s, ts, ⟨ad, bv, bm, R⟩, cl, h⟩ => h .non σ H ⟨ad, bv, bm, R.pushV .non⟩
theorem s_if {c : Expr} {a b : List Stmt} (hc : PT X c (LM.tB X.K I Wx mc)) (ha : PSs X a (tS X.K I Wx m)) (hb : PSs X b (tS X.K I Wx n)) : PS X (.If c a b pos) (tS X.K I Wx (mIf mc m n)) := by
  refine PSimp (ps_if hc ha hb) fun Dn σ H ⟨G, env, s, ts, R, cl, h⟩ => ?_
  refine tB_bindS (Dn := Dn) R h fun b env' s' H' R' z => ?_
  cases b with
  | true => exact iteT ⟨G, env', s', ts, R', cl, z⟩
  | false => exact iteF ⟨G, env', s', ts, R', cl, z⟩
theorem s_for {tg iter : Expr} {body : List Stmt} (hp : PassesOwn (model X.prog X.w) X.A X.env X.xe) (hc : X.calm = true) (hi : PI X tg iter (tI X.K I Wx mi)) (hg : PG X tg (tG X.K I idx g)) (hb : PSs X body (tS X.K I Wx m))
    (hs : ∀ x, foldedSetIterable iter X.env x = pure x := by intro _; rfl) : PS X (.For tg iter body [] pos) (tS X.K I Wx (mFor mi g m)) := by
  refine PSimp (ps_for hp hc hi hg hb hs) fun Dn σ H ⟨G, env, s, ts, R, cl, h⟩ => ?_
  refine ⟨G, env, s, ts, R, ?_⟩
  unfold mFor at h
  cases e : mi env s with
  | ex x env1 s1 => rw [e] at h; exact fun dx H' R' => h dx σ H' R'
  | bad => rw [e] at h; exact h
  | ok xs env1 s1 =>
    rw [e] at h
    intro J p H1 R1 wk
    have h : ZS X.K I Wx G ts Dn (mForL g m xs env1 s1) := h
    have clp : Cl (p ++ ts) := fun q hq => (List.mem_append.mp hq).elim (wk.nd q) (cl q)
    let St0 : List D → St → Hp → Prop := fun rest σ H => ∃ env s, ER X.K I G env s (p ++ ts) σ H ∧ ZS X.K I Wx G ts Dn (mForL g m rest env s)
    refine ⟨fun i k σ H => k = xs.length - i ∧ i ≤ xs.length ∧ St0 (xs.drop i) σ H, ⟨_, rfl, Nat.zero_le _, env1, s1, R1, h⟩, ?_⟩
    rintro i k σ2 H2 ⟨rfl, hi, env2, s2, R3, z⟩
    by_cases hlt : i < xs.length
    · have ed : xs.drop i = xs[i] :: xs.drop (i + 1) := List.drop_eq_getElem_cons hlt
      obtain ⟨g1, y1⟩ := wk.go env2 s2 [] σ2 H2 i xs[i] R3 (List.getElem?_eq_getElem hlt)
      refine .inr ⟨g1, St0 (xs.drop (i + 1)), fun σ' H' q => ⟨xs.length - (i + 1), by omega, rfl, hlt, q⟩, fun x H' hy => ?_⟩
      rw [ed] at z
      unfold mForL at z
      refine ⟨G, env2, s2, p ++ ts, xs[i], y1 x H' hy, ?_⟩
      cases eg : g xs[i] env2 with
      | none => simp only [eg] at z; exact z.elim
      | some env3 =>
        simp only [eg] at z
        intro σ3 R4 _
        refine ⟨G, env3, s2, p ++ ts, R4, clp, ?_⟩
        cases eb : m env3 s2 with
        | nx env4 s4 => simp only [eb] at z; exact fun σ' H' R5 => ⟨env4, s4, R5, z⟩
        | ct env4 s4 => simp only [eb] at z; exact fun σ' H' R5 => ⟨env4, s4, R5, z⟩
        | bk env4 s4 => simp only [eb] at z; exact fun σ' H' R5 => z σ' H' R5.pops
        | rt d env4 s4 => simp only [eb] at z; exact fun v σ' H' R5 => z v σ' H' (R5.less (.cons_cons _ slA))
        | rf d env4 s4 => simp only [eb] at z; exact fun v σ' H' R5 => z v σ' H' (R5.less (.cons_cons _ slA))
        | ex x env4 s4 => simp only [eb] at z; exact fun dx σ' H' R5 => z dx σ' H' (R5.less slA)
        | bad => simp only [eb] at z; exact z.elim
    · have ei : i = xs.length := by omega
      subst ei
      rw [List.drop_length] at z
      exact .inl ⟨wk.stop env2 s2 [] _ H2 _ R3 rfl, z σ2 H2 R3.pops⟩
end

/-! ### a def's body -/
def envA : List Md → List D → List Sl
  | .v :: m, d :: ds => .val d :: envA m ds
  | .t :: m, d :: ds => .top d :: envA m ds
  | .b :: m, ds => .box :: envA m ds
  | _, _ => []
def env0 (md : List Md) (n : Nat) (ds : List D) : List Sl := envA md ds ++ List.replicate n .no
def SO.fo {S : Type} : SO S → FO S D
  | .rt d _ s => .ok d s
  | .rf ds _ s => .ok (.lst ds) s
  | .nx _ s => .ok .non s
  | .ex e _ s => .ex e s
  | _ => .bad
/-- .. where nothing is raised -/
def SO.fo0 {S : Type} : SO S → FO S D
  | .rt d _ s => .ok d s
  | .rf ds _ s => .ok (.lst ds) s
  | .nx _ s => .ok .non s
  | _ => .bad
theorem envA_len {K : PySem.W.Frag} {bm B : Addr → Prop} {H : Hp} {bv : V} : ∀ {md : List Md} {vs : List V} {ds : List D}, ArgsR K bm B H bv md vs ds → (envA md ds).length = vs.length
  | _, _, _, .nil => rfl
  | _, _, _, .v _ h => by show _ + 1 = _ + 1; rw [envA_len h]
  | _, _, _, .t _ h => by show _ + 1 = _ + 1; rw [envA_len h]
  | _, _, _, .b h => by show _ + 1 = _ + 1; rw [envA_len h]
theorem envA_sl {K : PySem.W.Frag} {bm B T : Addr → Prop} {H : Hp} {bv : V} (hT : ∀ a, T a → bm a) {ad : Nat → Addr} : ∀ {md : List Md} {vs : List V} {ds : List D} {i : Nat} {x : Sl}, ArgsR K bm B H bv md vs ds → (envA md ds)[i]? = some x →
    x.isOwn = false ∧ SlR K T B bv H (ad i) ((vs.map some)[i]?) x
  | _, _, _, _, _, .nil, e => by simp [envA] at e
  | _, _, _, 0, x, .v r h, e => by
    have e : some (Sl.val _) = some x := e
    cases e
    exact ⟨rfl, _, rfl, r⟩
  | _, _, _, 0, x, .t r h, e => by
    have e : some (Sl.top _) = some x := e
    cases e
    exact ⟨rfl, _, rfl, r.gr (.sub hT) (.sub fun _ z => z)⟩
  | _, _, _, 0, x, .b h, e => by
    have e : some Sl.box = some x := e
    cases e
    exact ⟨rfl, rfl⟩
  | _, _, _, i + 1, x, .v r h, e => by
    obtain ⟨h1, h2⟩ := envA_sl hT (ad := fun j => ad (j + 1)) (i := i) h e
    exact ⟨h1, h2⟩
  | _, _, _, i + 1, x, .t r h, e => by
    obtain ⟨h1, h2⟩ := envA_sl hT (ad := fun j => ad (j + 1)) (i := i) h e
    exact ⟨h1, h2⟩
  | _, _, _, i + 1, x, .b h, e => by
    obtain ⟨h1, h2⟩ := envA_sl hT (ad := fun j => ad (j + 1)) (i := i) h e
    exact ⟨h1, h2⟩
/-- the entry of a def -/
theorem er_start {S : Type} {K : PySem.W.Frag} {I : BoxI S} {B bm : Addr → Prop} {bv : V} {s : S} {H : Hp} {md : List Md} {vs : List V} {ds : List D} {N : List Str} (hl : vs.length ≤ N.length) (hmB : ∀ a, bm a → B a) (hB : ∀ a, B a → H a ≠ none) (rb : I.rel s bv bm H) (ar : ArgsR K bm B H bv md vs ds) :
    ER K I ⟨B, bm, H, bv⟩ (env0 md (N.length - vs.length) ds) s [] (start N vs) H := by
  have noOw : ∀ (i : Nat) (x : Sl), (env0 md (N.length - vs.length) ds)[i]? = some x → x.isOwn = false ∧ ∀ (T B' : Addr → Prop), (∀ a, T a → bm a) → SlR K T B bv H 0 ((start N vs)[i]?) x := by
    intro i x e
    unfold env0 at e
    unfold L2.start
    by_cases hi : i < (envA md ds).length
    · rw [List.getElem?_append_left hi] at e
      rw [List.getElem?_append_left (by rw [List.length_map, ← envA_len ar]; exact hi)]
      exact ⟨(envA_sl (T := bm) (fun _ z => z) (ad := fun _ => 0) ar e).1, fun T B' hT => (envA_sl hT (ad := fun _ => 0) ar e).2⟩
    · rw [List.getElem?_append_right (by omega)] at e
      rw [List.getElem?_replicate] at e
      split at e
      · cases e
        exact ⟨rfl, fun _ _ _ => True.intro⟩
      · cases e
  have nO : ∀ a, ¬ Ow (fun _ => 0) (env0 md (N.length - vs.length) ds) [] a := fun a z => by
    rcases z with ⟨i, x, e, o, _⟩ | ⟨p, hp, _⟩
    · rw [(noOw i x e).1] at o; cases o
    · cases hp
  refine ⟨fun _ => 0, bv, bm, ?_, fun a o e _ => e, fun a e => e, rb, ⟨fun a z => .inl z, fun _ => ⟨rfl, rfl⟩⟩, hB, fun i x e o => ?_, fun p hp => (nomatch hp), fun i j x y e _ o => ?_, fun i x p e o hp => (nomatch hp), .nil, fun i x e => ?_, fun p hp => (nomatch hp)⟩
  · unfold L2.start env0
    rw [List.length_append, List.length_append, List.length_map, List.length_replicate, List.length_replicate, envA_len ar]
  · rw [(noOw i x e).1] at o; cases o
  · rw [(noOw i x e).1] at o; cases o
  · have q := (noOw i x e).2 (Tv bm (fun _ => 0) (env0 md (N.length - vs.length) ds) []) B fun a z => z.elim (fun z => z) fun z => (nO a z).elim
    exact q.gr (.sub fun _ z => z) (.sub fun a z => z.elim (fun z => z) fun z => z.elim (hmB a) fun z => (nO a z).elim) fun _ _ z => z
theorem er_end {S : Type} {K : PySem.W.Frag} {I : BoxI S} (hI : I.fix = true) {B bm : Addr → Prop} {bv v : V} {s : S} {H H' : Hp} {env : List Sl} {σ : St} {d : D} (R : ER K I ⟨B, bm, H, bv⟩ env s [(v, .v d)] σ H') : Ext bm H H' ∧ I.rel s bv bm H' ∧ Rep K B H' v d := by
  obtain ⟨ad, bv', bm', R⟩ := R
  obtain ⟨rfl, rfl⟩ : bv' = bv ∧ bm' = bm := R.bfr.2 hI
  have r : Rep K _ H' v d := R.tm _ List.mem_cons_self
  exact ⟨⟨R.ext, R.dom⟩, R.box, r.gr (.sub fun a z => .inl z)⟩
section
variable {S : Type} {P : Program} {w : World} {K : PySem.W.Frag} {mg : Str → Option Value} {base : Heap} {I : BoxI S}
/-- THE RULE for a def that lets nothing out -/
theorem fn_ok0 {x qual : Str} {st : Stmt} {f : Addr} {fd : FuncData} {N ps : List Str} {k : Nat} {md : List Md} {m : MS S} (F : Fun K x qual st f fd) (Sc : FnScope N ps (defScope st)) (hl : md.length = ps.length) (hI : I.fix = true)
    (hbody : ∀ (cdv : Value) (A : Around) (outer : List Env) (s : Shared) (H : Hp) (E : XK), Room k (A.deeper (PyProof.Rows.envOfC qual (defScope st) s.heap.objs.size f cdv)) →
      PSs (cxOf CX0 P w K mg base N qual (defScope st) f cdv A outer s H E).nox (defBody st) (tS K I W0 m)) : FnOk P w K mg base CX0 (k + 1) f fd ps (spD I K md fun ds s => (m (env0 md (N.length - ps.length) ds) s).fo0) := by
  have hN : ps.length ≤ N.length := by have := congrArg List.length Sc.pre; rw [List.length_take] at this; omega
  refine F.ok Sc (fun vs H Q E ⟨_, _, _, _, _, _, _, _, ar, _⟩ => by rw [ar.len, hl]) fun cdv A outer s H vs Q E hr ⟨B, bm, bv, ds, s0, hmB, hB, rb, ar, z⟩ => ?_
  have hv : vs.length = ps.length := by rw [ar.len, hl]
  refine ⟨_, hbody cdv A outer s H E hr, ⟨B, bm, H, bv⟩, env0 md (N.length - ps.length) ds, s0, [], ?_, Cl.nil, ?_⟩
  · rw [← hv]; exact er_start (by omega) hmB hB rb ar
  · cases e : m (env0 md (N.length - ps.length) ds) s0 with
    | rt d env1 s1 =>
      simp only [e, SO.fo0] at z
      exact fun v σ' H' R => let ⟨h1, h2, h3⟩ := er_end hI R; z v H' h1 h2 h3
    | rf d env1 s1 =>
      simp only [e, SO.fo0] at z
      intro v σ' H' ⟨ad, bv', bm', R⟩
      obtain ⟨h1, h2, h3⟩ := er_end hI ⟨ad, bv', bm', R.fzF⟩
      exact z v H' h1 h2 h3
    | nx env1 s1 =>
      simp only [e, SO.fo0] at z
      intro σ' H' ⟨ad, bv', bm', R⟩
      obtain ⟨h1, h2, h3⟩ := er_end hI ⟨ad, bv', bm', R.pushV .non⟩
      exact z .non H' h1 h2 h3
    | bk env1 s1 => simp only [e, SO.fo0] at z
    | ct env1 s1 => simp only [e, SO.fo0] at z
    | ex x env1 s1 => simp only [e, SO.fo0] at z
    | bad => simp only [e, SO.fo0] at z
end
end LM

namespace LM
open PySem L2

mutual
def D.py : D → PyData
  | .non => .none
  | .bl b => .bool b
  | .int i => .int i
  | .str x => .str x
  | .tup ds => .tuple (pys ds)
  | .lst ds => .list (pys ds)
  | .ins _ _ _ => .none
def pys : List D → List PyData
  | [] => []
  | d :: ds => d.py :: pys ds
end
/-! data without instances, so deep at most -/
mutual
def D.ok (n : Nat) : D → Bool
  | .ins _ _ _ => false
  | .tup ds => decide (0 < n) && oks (n - 1) ds
  | .lst ds => decide (0 < n) && oks (n - 1) ds
  | _ => true
def oks (n : Nat) : List D → Bool
  | [] => true
  | d :: ds => d.ok n && oks n ds
end
mutual
theorem ok_plain : ∀ (d : D) (n : Nat), d.ok n = true → d.py.plain = true ∧ d.py.depth ≤ n
  | .non, _, _ => ⟨rfl, by simp [D.py, PyData.depth]⟩
  | .bl _, _, _ => ⟨rfl, by simp [D.py, PyData.depth]⟩
  | .int _, _, _ => ⟨rfl, by simp [D.py, PyData.depth]⟩
  | .str _, _, _ => ⟨rfl, by simp [D.py, PyData.depth]⟩
  | .tup ds, n, h => by
    simp only [D.ok, Bool.and_eq_true, decide_eq_true_eq] at h
    obtain ⟨h1, h2⟩ := oks_plain ds (n - 1) h.2
    exact ⟨by simp only [D.py, PyData.plain]; exact h1, by simp only [D.py, PyData.depth]; omega⟩
  | .lst ds, n, h => by
    simp only [D.ok, Bool.and_eq_true, decide_eq_true_eq] at h
    obtain ⟨h1, h2⟩ := oks_plain ds (n - 1) h.2
    exact ⟨by simp only [D.py, PyData.plain]; exact h1, by simp only [D.py, PyData.depth]; omega⟩
  | .ins _ _ _, _, h => by simp [D.ok] at h
theorem oks_plain : ∀ (ds : List D) (n : Nat), oks n ds = true → PyData.plainAll (pys ds) = true ∧ PyData.depthAll (pys ds) ≤ n
  | [], _, _ => ⟨rfl, by simp [pys, PyData.depthAll]⟩
  | d :: ds, n, h => by
    simp only [oks, Bool.and_eq_true] at h
    obtain ⟨h1, h2⟩ := ok_plain d n h.1
    obtain ⟨h3, h4⟩ := oks_plain ds n h.2
    exact ⟨by simp only [pys, PyData.plainAll, h1, h3, Bool.and_self], by simp only [pys, PyData.depthAll]; omega⟩
end
section
variable {K : PySem.W.Frag} {B : Addr → Prop} {H : Hp}
mutual
theorem dp_of : ∀ (d : D) (n : Nat) (v : V), d.ok n = true → Rep K B H v d → Dp K H v d.py
  | .non, _, _, _, h => by cases h; exact .non
  | .bl _, _, _, _, h => by cases h; exact .bl _
  | .int _, _, _, _, h => by cases h; exact .int _
  | .str _, _, _, _, h => by cases h; exact .str _
  | .tup ds, n, _, k, h => by
    simp only [D.ok, Bool.and_eq_true] at k
    cases h with
    | tup _ r q => exact .tup (.inl r) (dps_of ds _ _ k.2 q)
    | wtup r q => exact .tup (.inr r) (dps_of ds _ _ k.2 q)
  | .lst ds, n, _, k, h => by
    simp only [D.ok, Bool.and_eq_true] at k
    cases h with
    | lst _ r q => exact .lst (.inl r) (dps_of ds _ _ k.2 q)
    | wlst r q => exact .lst r.sq (dps_of ds _ _ k.2 q)
  | .ins _ _ _, _, _, k, _ => by simp [D.ok] at k
theorem dps_of : ∀ (ds : List D) (n : Nat) (vs : List V), oks n ds = true → Reps K B H vs ds → DpAll K H vs (pys ds)
  | [], _, _, _, h => by cases h; exact .nil
  | d :: ds, n, _, k, h => by
    simp only [oks, Bool.and_eq_true] at k
    cases h with
    | cons h1 h2 => exact .cons (dp_of d n _ k.1 h1) (dps_of ds n _ k.2 h2)
end
theorem Top.dp {T : Addr → Prop} {v : V} {d : D} {n : Nat} (h : Top K T B H v d) (k : d.ok n = true) : Dp K H v d.py := by
  rcases h with h | ⟨a, xs, ds, rfl, rfl, _, r, q⟩
  · exact dp_of d n v k h
  · simp only [D.ok, Bool.and_eq_true] at k
    exact .lst (.inl r) (dps_of ds _ _ k.2 q)
end

/-! ### == and in, of data -/
def rEqP (neg : Bool) (K : PySem.W.Frag) : R2 := fun x y H Q => ∃ d e, Dp K H x d ∧ Dp K H y e ∧ d.plain = true ∧ e.plain = true ∧ min d.depth e.depth ≤ 60 ∧ Q (.bl (if neg then !PyData.eqv d e else PyData.eqv d e)) H
def rInP (neg : Bool) (K : PySem.W.Frag) : R2 := fun x y H Q => ∃ p xs es d, y = .ref p ∧ (SqL K H p xs ∨ SqT K H p xs) ∧ DpAll K H xs es ∧ Dp K H x d ∧ PyData.plainAll es = true ∧ d.plain = true ∧ d.depth ≤ 60 ∧ Q (.bl (if neg then !es.any (fun y => PyData.eqv y d) else es.any fun y => PyData.eqv y d)) H
section
variable {X : Cx}
theorem op_eqP (hu : X.A.units + 64 < cLine) : OpR X (compareOp .Eq) (rEqP false X.K) := by
  intro pins s σ H x y v u Q I rx ry ⟨d, e, hd, he, sd, se, hm, q⟩
  obtain ⟨as, r1⟩ := Dp.reads I d x v hd rx
  obtain ⟨bs, r2⟩ := Dp.reads I e y u he ry
  exact SeqAt.eq_plain r1 r2 sd se (by omega) ⟨.bl _, H, I, rfl, q⟩
theorem op_neP (hu : X.A.units + 64 < cLine) : OpR X (compareOp .NotEq) (rEqP true X.K) := by
  intro pins s σ H x y v u Q I rx ry ⟨d, e, hd, he, sd, se, hm, q⟩
  obtain ⟨as, r1⟩ := Dp.reads I d x v hd rx
  obtain ⟨bs, r2⟩ := Dp.reads I e y u he ry
  exact SeqAt.ne_plain r1 r2 sd se (by omega) ⟨.bl _, H, I, rfl, q⟩
theorem op_inP (hu : X.A.units + 64 < cLine) : OpR X (compareOp .In) (rInP false X.K) := by
  intro pins s σ H x y v u Q I rx ry ⟨p, xs, es, d, e, hp, ha, hd, sa, sd, hm, q⟩
  subst e
  obtain ⟨bs, r2⟩ := Dp.reads I d x v hd rx
  rcases hp with hp | hp
  · obtain ⟨as, r1⟩ := Dp.reads I (.list es) (.ref p) u (.lst hp ha) ry
    exact SeqAt.in_list_data r1 r2 sa sd (by omega) ⟨.bl _, H, I, rfl, q⟩
  · obtain ⟨as, r1⟩ := Dp.reads I (.tuple es) (.ref p) u (.tup hp ha) ry
    exact SeqAt.in_tuple_data r1 r2 sa sd (by omega) ⟨.bl _, H, I, rfl, q⟩
theorem op_ninP (hu : X.A.units + 64 < cLine) : OpR X (compareOp .NotIn) (rInP true X.K) := by
  intro pins s σ H x y v u Q I rx ry ⟨p, xs, es, d, e, hp, ha, hd, sa, sd, hm, q⟩
  subst e
  obtain ⟨bs, r2⟩ := Dp.reads I d x v hd rx
  rcases hp with hp | hp
  · obtain ⟨as, r1⟩ := Dp.reads I (.list es) (.ref p) u (.lst hp ha) ry
    exact SeqAt.notIn_list_data r1 r2 sa sd (by omega) ⟨.bl _, H, I, rfl, q⟩
  · obtain ⟨as, r1⟩ := Dp.reads I (.tuple es) (.ref p) u (.tup hp ha) ry
    exact SeqAt.notIn_tuple_data r1 r2 sa sd (by omega) ⟨.bl _, H, I, rfl, q⟩
end
def rb (b : Bool) : Option Rs := some (.v (.bl b))
def ri (i : Int) : Option Rs := some (.v (.int i))
def fEq (d e : D) : Option Rs := if d.ok 60 && e.ok 60 then rb (PyData.eqv d.py e.py) else none
def fNe (d e : D) : Option Rs := if d.ok 60 && e.ok 60 then rb (!PyData.eqv d.py e.py) else none
def D.items : D → Option (List D)
  | .tup ds => some ds
  | .lst ds => some ds
  | _ => none
def inD (d : D) (ds : List D) : Bool := (pys ds).any fun y => PyData.eqv y d.py
def fIn (d e : D) : Option Rs := match e.items with
  | some ds => if d.ok 60 && oks 60 ds then rb (inD d ds) else none
  | none => none
def fNin (d e : D) : Option Rs := match e.items with
  | some ds => if d.ok 60 && oks 60 ds then rb (!inD d ds) else none
  | none => none
theorem fin_bl {K : PySem.W.Frag} {B : Addr → Prop} {H : Hp} {Q : VK} {b : Bool} {res : Rs} (e : rb b = some res) (q : FinQ K B H Q res) : Q (.bl b) H := by
  cases e; exact q _ _ (fun _ _ h => h) (.bl _)
theorem fin_int {K : PySem.W.Frag} {B : Addr → Prop} {H : Hp} {Q : VK} {b : Int} {res : Rs} (e : ri b = some res) (q : FinQ K B H Q res) : Q (.int b) H := by
  cases e; exact q _ _ (fun _ _ h => h) (.int _)
theorem fin_v {K : PySem.W.Frag} {B : Addr → Prop} {H : Hp} {Q : VK} {v : V} {d : D} {res : Rs} (e : some (Rs.v d) = some res) (q : FinQ K B H Q res) (r : Rep K B H v d) : Q v H := by
  cases e; exact q _ _ (fun _ _ h => h) r
section
variable {K : PySem.W.Frag}
theorem do_eq : DOp K (rEqP false K) fEq := by
  intro B H x y d e res Q hx hy _ h q
  unfold fEq at h
  split at h
  · rename_i hk
    rw [Bool.and_eq_true] at hk
    obtain ⟨h1, h2⟩ := ok_plain d 60 hk.1
    obtain ⟨h3, h4⟩ := ok_plain e 60 hk.2
    exact ⟨_, _, hx.dp hk.1, hy.dp hk.2, h1, h3, by omega, fin_bl h q⟩
  · cases h
theorem do_ne : DOp K (rEqP true K) fNe := by
  intro B H x y d e res Q hx hy _ h q
  unfold fNe at h
  split at h
  · rename_i hk
    rw [Bool.and_eq_true] at hk
    obtain ⟨h1, h2⟩ := ok_plain d 60 hk.1
    obtain ⟨h3, h4⟩ := ok_plain e 60 hk.2
    exact ⟨_, _, hx.dp hk.1, hy.dp hk.2, h1, h3, by omega, fin_bl h q⟩
  · cases h
theorem items_of {B : Addr → Prop} {H : Hp} {y : V} {e : D} {ds : List D} (hy : Tp K B H y e) (h : e.items = some ds) : ∃ p xs, y = .ref p ∧ (SqL K H p xs ∨ SqT K H p xs) ∧ Reps K B H xs ds := by
  cases e with
  | tup es =>
    cases h
    obtain ⟨a, xs, e, r, q⟩ := hy.tup
    exact ⟨a, xs, e, .inr r, q⟩
  | lst es =>
    cases h
    obtain ⟨a, xs, e, r, q⟩ := hy.lst
    exact ⟨a, xs, e, .inl r, q⟩
  | _ => cases h
theorem do_in : DOp K (rInP false K) fIn := by
  intro B H x y d e res Q hx hy _ h q
  unfold fIn at h
  cases e1 : e.items with
  | none => rw [e1] at h; cases h
  | some ds =>
    rw [e1] at h
    simp only at h
    split at h
    · rename_i hk
      rw [Bool.and_eq_true] at hk
      obtain ⟨p, xs, e2, hs, r⟩ := items_of hy e1
      obtain ⟨h1, h2⟩ := ok_plain d 60 hk.1
      obtain ⟨h3, h4⟩ := oks_plain ds 60 hk.2
      exact ⟨p, xs, _, _, e2, hs, dps_of ds 60 xs hk.2 r, hx.dp hk.1, h3, h1, h2, fin_bl h q⟩
    · cases h
theorem do_nin : DOp K (rInP true K) fNin := by
  intro B H x y d e res Q hx hy _ h q
  unfold fNin at h
  cases e1 : e.items with
  | none => rw [e1] at h; cases h
  | some ds =>
    rw [e1] at h
    simp only at h
    split at h
    · rename_i hk
      rw [Bool.and_eq_true] at hk
      obtain ⟨p, xs, e2, hs, r⟩ := items_of hy e1
      obtain ⟨h1, h2⟩ := ok_plain d 60 hk.1
      obtain ⟨h3, h4⟩ := oks_plain ds 60 hk.2
      exact ⟨p, xs, _, _, e2, hs, dps_of ds 60 xs hk.2 r, hx.dp hk.1, h3, h1, h2, fin_bl h q⟩
    · cases h
end
end LM

namespace LM
open PySem L2

/-! ### whole numbers -/
def fI (g : Int → Int → Int) : D → D → Option Rs
  | .int i, .int j => ri (g i j)
  | _, _ => none
def fC (g : Int → Int → Bool) : D → D → Option Rs
  | .int i, .int j => rb (g i j)
  | _, _ => none
def fAdd : D → D → Option Rs := fI fun i j => i + j
def fSub : D → D → Option Rs := fI fun i j => i - j
def fMul : D → D → Option Rs
  | .int i, .int j => if (-(18446744073709551616) < i ∧ i < 18446744073709551616) ∨ (-(18446744073709551616) < j ∧ j < 18446744073709551616) then ri (i * j) else none
  | _, _ => none
def fMod : D → D → Option Rs
  | .int i, .int j => if 0 < j then ri (i % j) else none
  | _, _ => none
def fDiv : D → D → Option Rs
  | .int i, .int j => if 0 < j ∧ j < 1073741824 then ri (i / j) else none
  | _, _ => none
def fPow : D → D → Option Rs
  | .int i, .int j => if 0 ≤ j ∧ j ≤ 1000000 ∧ i.natAbs < 18446744073709551616 then ri (i ^ j.toNat) else none
  | _, _ => none
section
variable {K : PySem.W.Frag} {X : Cx}
theorem do_I {g : Int → Int → Int} : DOp K (rI0 fun i j => .int (g i j)) (fI g) := by
  intro B H x y d e res Q hx hy _ h q
  cases d <;> cases e <;> try (cases h; done)
  exact ⟨_, _, hx.int, hy.int, fin_int h q⟩
theorem do_C {g : Int → Int → Bool} : DOp K (rI0 fun i j => .bl (g i j)) (fC g) := by
  intro B H x y d e res Q hx hy _ h q
  cases d <;> cases e <;> try (cases h; done)
  exact ⟨_, _, hx.int, hy.int, fin_bl h q⟩
theorem do_mul : DOp K (rI CMul fun i j => .int (i * j)) fMul := by
  intro B H x y d e res Q hx hy _ h q
  cases d <;> cases e <;> try (cases h; done)
  simp only [fMul] at h
  split at h
  · rename_i hc; exact ⟨_, _, hx.int, hy.int, hc, fin_int h q⟩
  · cases h
theorem do_mod : DOp K (rI (fun _ j => 0 < j) fun i j => .int (i % j)) fMod := by
  intro B H x y d e res Q hx hy _ h q
  cases d <;> cases e <;> try (cases h; done)
  simp only [fMod] at h
  split at h
  · rename_i hc; exact ⟨_, _, hx.int, hy.int, hc, fin_int h q⟩
  · cases h
theorem do_div : DOp K (rI CDiv fun i j => .int (i / j)) fDiv := by
  intro B H x y d e res Q hx hy _ h q
  cases d <;> cases e <;> try (cases h; done)
  simp only [fDiv] at h
  split at h
  · rename_i hc; exact ⟨_, _, hx.int, hy.int, hc, fin_int h q⟩
  · cases h
theorem do_pow : DOp K (rI CPow fun i j => .int (i ^ j.toNat)) fPow := by
  intro B H x y d e res Q hx hy _ h q
  cases d <;> cases e <;> try (cases h; done)
  simp only [fPow] at h
  split at h
  · rename_i hc; exact ⟨_, _, hx.int, hy.int, hc, fin_int h q⟩
  · cases h
/-! ### texts, lists, tuples -/
def fAddS : D → D → Option Rs
  | .str x, .str y => if x.length + y.length ≤ 16777216 then some (.v (.str (x ++ y))) else none
  | _, _ => none
theorem do_addS : DOp K (fun x y H Q => ∃ i j, x = .str i ∧ y = .str j ∧ i.length + j.length ≤ sizeLine ∧ Q (.str (i ++ j)) H) fAddS := by
  intro B H x y d e res Q hx hy _ h q
  cases d <;> cases e <;> try (cases h; done)
  simp only [fAddS] at h
  split at h
  · rename_i hc; exact ⟨_, _, hx.str, hy.str, by rw [sizeLine_eq]; exact hc, fin_v h q (.str _)⟩
  · cases h
def fCat : D → D → Option Rs
  | .lst xs, .lst ys => if xs.length + ys.length ≤ 16777216 then some (.f (xs ++ ys)) else none
  | _, _ => none
def fIx : D → D → Option Rs
  | .lst xs, .int i => (atI xs i).map .v
  | .tup xs, .int i => (atI xs i).map .v
  | .str z, .int i => if z.length ≤ 16777216 then (atI z.cps.toList i).map fun c => .v (.str ⟨#[c]⟩) else none
  | _, _ => none
theorem atI_reps {B : Addr → Prop} {H : Hp} {xs : List V} {ds : List D} {i : Int} {d : D} (h : Reps K B H xs ds) (e : atI ds i = some d) : ∃ v, atI xs i = some v ∧ Rep K B H v d := by
  unfold atI at e ⊢
  rw [h.len]
  cases q : ixN ds.length i with
  | none => rw [q] at e; cases e
  | some j =>
    rw [q] at e
    obtain ⟨v, h1, h2⟩ := h.get (i := j) e
    exact ⟨v, h1, h2⟩
theorem do_ix : DOp K (rIx K) fIx := by
  intro B H x y d e res Q hx hy _ h q
  cases d <;> cases e <;> try (cases h; done)
  · rename_i z i
    have e0 := hy.int
    subst e0
    have e1 := hx.str
    subst e1
    simp only [fIx] at h
    split at h
    · rename_i hc
      cases e2 : atI z.cps.toList i with
      | none => rw [e2] at h; cases h
      | some c =>
        rw [e2] at h
        exact .inr (.inr ⟨z, i, c, rfl, rfl, by rw [sizeLine_eq]; exact hc, e2, fin_v h q (.str _)⟩)
    · cases h
  · rename_i ds i
    have e0 := hy.int
    subst e0
    obtain ⟨a, xs, e1, r, qq⟩ := hx.tup
    subst e1
    simp only [fIx] at h
    cases e2 : atI ds i with
    | none => rw [e2] at h; cases h
    | some c =>
      rw [e2] at h
      obtain ⟨v, h1, h2⟩ := atI_reps qq e2
      exact .inr (.inl ⟨a, xs, i, v, rfl, rfl, r, h1, fin_v h q h2⟩)
  · rename_i ds i
    have e0 := hy.int
    subst e0
    obtain ⟨a, xs, e1, r, qq⟩ := hx.lst
    subst e1
    simp only [fIx] at h
    cases e2 : atI ds i with
    | none => rw [e2] at h; cases h
    | some c =>
      rw [e2] at h
      obtain ⟨v, h1, h2⟩ := atI_reps qq e2
      exact .inl ⟨a, xs, i, v, rfl, rfl, r, h1, fin_v h q h2⟩
def cutD (ds : List D) (lo hi : Option Int) : List D := (ds.drop (HT.sIx ds.length 0 lo)).take (HT.sIx ds.length ds.length hi - HT.sIx ds.length 0 lo)
def fSlL (d : D) (lo hi : Option Int) : Option Rs := match d with
  | .lst ds => some (.f (cutD ds lo hi))
  | _ => none
theorem ds_list : DSl K (rSlL K) fSlL := by
  intro B H x d lo hi res Q hx _ h q
  cases d with
  | lst ds =>
    obtain ⟨a, xs, e1, r, qq⟩ := hx.lst
    simp only [fSlL] at h
    cases h
    refine ⟨a, xs, e1, r, fun p hp => q p (cutV xs lo hi) hp ?_⟩
    unfold cutV cutD
    rw [qq.len]
    exact (qq.drop _).take _
  | _ => cases h
/-- is None -/
def D.isN : D → Bool
  | .non => true
  | _ => false
def fIsN (d e : D) : Option Rs := if e.isN then rb d.isN else none
def fNotN (d e : D) : Option Rs := if e.isN then rb (!d.isN) else none
theorem isN_iff {B : Addr → Prop} {H : Hp} {x : V} {d : D} (h : Tp K B H x d) : decide (x = .non) = d.isN := by
  rcases h with h | ⟨a, xs, ds, rfl, rfl, _⟩
  · cases h <;> simp [D.isN]
  · simp [D.isN]
theorem isN_eq {e : D} (h : e.isN = true) : e = .non := by cases e <;> first | rfl | cases h
theorem do_isN : DOp K (fun x y H Q => y = .non ∧ Q (.bl (decide (x = .non))) H) fIsN := by
  intro B H x y d e res Q hx hy _ h q
  unfold fIsN at h
  split at h
  · rename_i he
    rw [isN_eq he] at hy
    exact ⟨hy.non, by rw [isN_iff hx]; exact fin_bl h q⟩
  · cases h
theorem do_notN : DOp K (fun x y H Q => y = .non ∧ Q (.bl (!decide (x = .non))) H) fNotN := by
  intro B H x y d e res Q hx hy _ h q
  unfold fNotN at h
  split at h
  · rename_i he
    rw [isN_eq he] at hy
    exact ⟨hy.non, by rw [isN_iff hx]; exact fin_bl h q⟩
  · cases h
/-- a sign in a text -/
def fInS : D → D → Option Rs
  | .str x, .str z => if x.length = 1 then rb (decide (x.cps.getD 0 0 ∈ z.cps.toList)) else none
  | _, _ => none
theorem one_sign {x : Str} (h : x.length = 1) : x = ⟨#[x.cps.getD 0 0]⟩ := by
  obtain ⟨⟨l⟩⟩ := x
  have h : l.length = 1 := h
  match l, h with
  | [c], _ => rfl
theorem do_inS : DOp K (fun x y H Q => ∃ (c : Nat) (z : Str), x = .str ⟨#[c]⟩ ∧ y = .str z ∧ Q (.bl (decide (c ∈ z.cps.toList))) H) fInS := by
  intro B H x y d e res Q hx hy _ h q
  cases d <;> cases e <;> try (cases h; done)
  simp only [fInS] at h
  split at h
  · rename_i hc
    exact ⟨_, _, by rw [hx.str]; congr 1; exact one_sign hc, hy.str, fin_bl h q⟩
  · cases h
def fNinS : D → D → Option Rs
  | .str x, .str z => if x.length = 1 then rb (!decide (x.cps.getD 0 0 ∈ z.cps.toList)) else none
  | _, _ => none
theorem do_ninS : DOp K (fun x y H Q => ∃ (c : Nat) (z : Str), x = .str ⟨#[c]⟩ ∧ y = .str z ∧ Q (.bl (!decide (c ∈ z.cps.toList))) H) fNinS := by
  intro B H x y d e res Q hx hy _ h q
  cases d <;> cases e <;> try (cases h; done)
  simp only [fNinS] at h
  split at h
  · rename_i hc
    exact ⟨_, _, by rw [hx.str]; congr 1; exact one_sign hc, hy.str, fin_bl h q⟩
  · cases h
end
end LM

namespace LM
open PySem L2

theorem tps1 {K : PySem.W.Frag} {B : Addr → Prop} {H : Hp} {vs : List V} {d : D} (h : Tps K B H vs [d]) : ∃ v, vs = [v] ∧ Tp K B H v d := by
  cases h with
  | cons h1 h2 => cases h2; exact ⟨_, rfl, h1⟩
theorem tps2 {K : PySem.W.Frag} {B : Addr → Prop} {H : Hp} {vs : List V} {d e : D} (h : Tps K B H vs [d, e]) : ∃ v u, vs = [v, u] ∧ Tp K B H v d ∧ Tp K B H u e := by
  cases h with
  | cons h1 h2 =>
    obtain ⟨u, rfl, h3⟩ := tps1 h2
    exact ⟨_, _, rfl, h1, h3⟩
section
variable {K : PySem.W.Frag} {X : Cx}
def cLen : List D → Option Rs
  | [.str x] => if x.length ≤ 16777216 then ri x.length else none
  | [.lst ds] => ri ds.length
  | [.tup ds] => ri ds.length
  | _ => none
theorem dc_len : DCall K (fun xs H Q => ∃ x n, xs = [x] ∧ LenV K x H n ∧ Q (.int n) H) cLen := by
  intro B H vs ds res Q h _ e q
  unfold cLen at e
  split at e
  · obtain ⟨v, rfl, hv⟩ := tps1 h
    split at e
    · rename_i x hx
      rw [hv.str]
      exact ⟨_, x.length, rfl, ⟨by rw [sizeLine_eq]; exact hx, rfl⟩, fin_int e q⟩
    · cases e
  · obtain ⟨v, rfl, hv⟩ := tps1 h
    obtain ⟨a, xs, rfl, r, qq⟩ := hv.lst
    exact ⟨_, _, rfl, .inl ⟨xs, r, rfl⟩, by rw [qq.len]; exact fin_int e q⟩
  · obtain ⟨v, rfl, hv⟩ := tps1 h
    obtain ⟨a, xs, rfl, r, qq⟩ := hv.tup
    exact ⟨_, _, rfl, .inr ⟨xs, r, rfl⟩, by rw [qq.len]; exact fin_int e q⟩
  · cases e
def cList : List D → Option Rs
  | [.lst ds] => some (.f ds)
  | [.tup ds] => some (.f ds)
  | _ => none
theorem dc_list : DCall K (fun xs H Q => ∃ p ys, xs = [.ref p] ∧ (SqL K H p ys ∨ SqT K H p ys) ∧ ∀ l, H l = none → Q (.ref l) (upd H l (.lst ys))) cList := by
  intro B H vs ds res Q h _ e q
  unfold cList at e
  split at e
  · obtain ⟨v, rfl, hv⟩ := tps1 h
    obtain ⟨a, xs, rfl, r, qq⟩ := hv.lst
    cases e
    exact ⟨_, _, rfl, .inl r, fun l hl => q l xs hl qq⟩
  · obtain ⟨v, rfl, hv⟩ := tps1 h
    obtain ⟨a, xs, rfl, r, qq⟩ := hv.tup
    cases e
    exact ⟨_, _, rfl, .inr r, fun l hl => q l xs hl qq⟩
  · cases e
/-- tuple(xs): a new one of a list; the same of a tuple -/
def cTup : List D → Option Rs
  | [.lst ds] => some (.v (.tup ds))
  | [.tup ds] => some (.v (.tup ds))
  | _ => none
theorem dc_tup : DCall K (fun xs H Q => ∃ p ys, xs = [.ref p] ∧ ((SqL K H p ys ∧ ∀ l, H l = none → Q (.ref l) (upd H l (.tup ys))) ∨ (SqT K H p ys ∧ Q (.ref p) H))) cTup := by
  intro B H vs ds res Q h hB e q
  unfold cTup at e
  split at e
  · obtain ⟨v, rfl, hv⟩ := tps1 h
    obtain ⟨a, xs, rfl, r, qq⟩ := hv.lst
    cases e
    exact ⟨_, _, rfl, .inl ⟨r, fun l hl => q _ _ (same_upd hl) (.tup (fun z => hB _ z hl) (.inl upd_same) (qq.gr (.same (same_upd hl))))⟩⟩
  · obtain ⟨v, rfl, hv⟩ := tps1 h
    rcases id hv with hr | ⟨_, _, _, _, e2, _⟩
    · obtain ⟨a, xs, rfl, r, qq⟩ := hv.tup
      exact ⟨_, _, rfl, .inr ⟨r, fin_v e q hr⟩⟩
    · cases e2
  · cases e
def cAbs : List D → Option Rs
  | [.int i] => ri (if i < 0 then -i else i)
  | _ => none
theorem dc_abs : DCall K (fun xs H Q => ∃ i, xs = [.int i] ∧ Q (.int (if i < 0 then -i else i)) H) cAbs := by
  intro B H vs ds res Q h _ e q
  unfold cAbs at e
  split at e
  · obtain ⟨v, rfl, hv⟩ := tps1 h
    rw [hv.int]
    exact ⟨_, rfl, fin_int e q⟩
  · cases e
def cInt : List D → Option Rs
  | [.int i] => ri i
  | [.bl k] => ri (if k then 1 else 0)
  | _ => none
theorem dc_int : DCall K (fun xs H Q => (∃ i, xs = [.int i] ∧ Q (.int i) H) ∨ ∃ k, xs = [.bl k] ∧ Q (.int (if k then 1 else 0)) H) cInt := by
  intro B H vs ds res Q h _ e q
  unfold cInt at e
  split at e
  · obtain ⟨v, rfl, hv⟩ := tps1 h
    rw [hv.int]
    exact .inl ⟨_, rfl, fin_int e q⟩
  · obtain ⟨v, rfl, hv⟩ := tps1 h
    rw [hv.bl]
    exact .inr ⟨_, rfl, fin_int e q⟩
  · cases e
def cMax : List D → Option Rs
  | [.int i, .int j] => ri (if j > i then j else i)
  | _ => none
def cMin : List D → Option Rs
  | [.int i, .int j] => ri (if j < i then j else i)
  | _ => none
theorem dc_max : DCall K (fun xs H Q => ∃ i j, xs = [.int i, .int j] ∧ Q (.int (if j > i then j else i)) H) cMax := by
  intro B H vs ds res Q h _ e q
  unfold cMax at e
  split at e
  · obtain ⟨v, u, rfl, hv, hu⟩ := tps2 h
    rw [hv.int, hu.int]
    exact ⟨_, _, rfl, fin_int e q⟩
  · cases e
theorem dc_min : DCall K (fun xs H Q => ∃ i j, xs = [.int i, .int j] ∧ Q (.int (if j < i then j else i)) H) cMin := by
  intro B H vs ds res Q h _ e q
  unfold cMin at e
  split at e
  · obtain ⟨v, u, rfl, hv, hu⟩ := tps2 h
    rw [hv.int, hu.int]
    exact ⟨_, _, rfl, fin_int e q⟩
  · cases e
/-- all(xs), any(xs) of a list of bools -/
def bools : List D → Option (List Bool)
  | [] => some []
  | .bl b :: ds => (bools ds).map (b :: ·)
  | _ => none
theorem bools_reps {B : Addr → Prop} {H : Hp} : ∀ {ds : List D} {xs : List V} {bs : List Bool}, Reps K B H xs ds → bools ds = some bs → xs = bs.map V.bl
  | [], _, _, h, e => by cases h; cases e; rfl
  | .bl b :: ds, _, bs, h, e => by
    cases h with
    | cons h1 h2 =>
      cases h1
      cases q : bools ds with
      | none => simp only [bools, q] at e; cases e
      | some cs =>
        simp only [bools, q, Option.map_some, Option.some.injEq] at e
        subst e
        rw [List.map_cons, bools_reps h2 q]
  | .non :: _, _, _, _, e => by cases e
  | .int _ :: _, _, _, _, e => by cases e
  | .str _ :: _, _, _, _, e => by cases e
  | .tup _ :: _, _, _, _, e => by cases e
  | .lst _ :: _, _, _, _, e => by cases e
  | .ins _ _ _ :: _, _, _, _, e => by cases e
def cAll : List D → Option Rs
  | [.lst ds] => (bools ds).bind fun bs => rb (bs.all id)
  | _ => none
def cAny : List D → Option Rs
  | [.lst ds] => (bools ds).bind fun bs => rb (bs.any id)
  | _ => none
theorem dc_all : DCall K (rAll K) cAll := by
  intro B H vs ds res Q h _ e q
  unfold cAll at e
  split at e
  · rename_i ds
    obtain ⟨v, rfl, hv⟩ := tps1 h
    obtain ⟨a, xs, rfl, r, qq⟩ := hv.lst
    cases e2 : bools ds with
    | none => rw [e2] at e; cases e
    | some bs =>
      rw [e2] at e
      exact ⟨a, bs, rfl, by rw [← bools_reps qq e2]; exact r, fin_bl e q⟩
  · cases e
theorem dc_any : DCall K (rAny K) cAny := by
  intro B H vs ds res Q h _ e q
  unfold cAny at e
  split at e
  · rename_i ds
    obtain ⟨v, rfl, hv⟩ := tps1 h
    obtain ⟨a, xs, rfl, r, qq⟩ := hv.lst
    cases e2 : bools ds with
    | none => rw [e2] at e; cases e
    | some bs =>
      rw [e2] at e
      exact ⟨a, bs, rfl, by rw [← bools_reps qq e2]; exact r, fin_bl e q⟩
  · cases e
/-- repr(x) -/
def rRepr (K : PySem.W.Frag) : List V → Hp → VK → Prop := fun xs H Q => ∃ x d, xs = [x] ∧ Dp K H x d ∧ d.plain = true ∧ d.depth ≤ 60 ∧ d.showable = true ∧ d.shown.length ≤ sizeLine ∧ Q (.str d.shown) H
theorem plain_noDict : ∀ d : PyData, d.plain = true → d.hasDict = false := by
  have all : ∀ n, ∀ d : PyData, d.depth ≤ n → d.plain = true → d.hasDict = false := by
    intro n
    induction n with
    | zero =>
      intro d hd hp
      cases d <;> first | rfl | (simp [PyData.depth] at hd) | (simp [PyData.plain] at hp)
    | succ n ih =>
      have lists : ∀ xs : List PyData, PyData.depthAll xs ≤ n → PyData.plainAll xs = true → PyData.hasDictAll xs = false := by
        intro xs
        induction xs with
        | nil => intro _ _; rfl
        | cons x xs ihx =>
          intro h1 h2
          simp only [PyData.depthAll] at h1
          simp only [PyData.plainAll, Bool.and_eq_true] at h2
          simp only [PyData.hasDictAll, ih x (by omega) h2.1, ihx (by omega) h2.2, Bool.or_self]
      intro d hd hp
      cases d with
      | list xs =>
        simp only [PyData.depth] at hd
        simp only [PyData.plain] at hp
        simp only [PyData.hasDict]
        exact lists xs (by omega) hp
      | tuple xs =>
        simp only [PyData.depth] at hd
        simp only [PyData.plain] at hp
        simp only [PyData.hasDict]
        exact lists xs (by omega) hp
      | dict _ => simp [PyData.plain] at hp
      | _ => rfl
  exact fun d h => all d.depth d (Nat.le_refl _) h
theorem call_repr (hg : X.A.guards = some []) (hu : X.A.units + 64 < cLine) : CallR X (.builtin "repr") (rRepr X.K) := by
  intro pins s σ H xs us Q I r ⟨x, d, e, hd, hp, hdep, hs, hz, q⟩
  subst e
  obtain ⟨u, rfl, rx⟩ := vals1 r
  obtain ⟨as, r1⟩ := Dp.reads I d x u hd rx
  have fin : ∀ a : Addr, u = .ref a → wpAny (model X.prog X.w) X.A (call (.builtin "repr") [u]) (EP X pins σ Q) X.xe s := fun a e => by
    subst e
    exact repr_of_reads' r1 hs (PyData.noDict_hsm (plain_noDict d hp)) hg (by omega) (fun _ _ e => e) (fun h' u tk hk => ⟨.str d.shown, H, I.kept hk, ⟨_, rfl⟩, q⟩) hz
  cases d with
  | list ds =>
    cases hd
    exact fin _ rx
  | tuple ds =>
    cases hd
    exact fin _ rx
  | int i =>
    cases hd
    obtain ⟨t, e⟩ := (show ∃ t, u = Value.int i t from rx)
    subst e
    exact PySem.P.repr_of_int (by simpa [PyData.showable] using hs) ⟨.str _, H, I.tok _, ⟨_, rfl⟩, q⟩
  | none =>
    cases hd
    cases rx
    exact PySem.P.repr_of_none ⟨.str _, H, I.tok _, ⟨_, rfl⟩, q⟩
  | bool b =>
    cases hd
    cases rx
    exact PySem.P.repr_of_bool ⟨.str _, H, I.tok _, ⟨_, rfl⟩, by cases b <;> exact q⟩
  | str x =>
    cases hd
    obtain ⟨t, e⟩ := (show ∃ t, u = Value.str x t from rx)
    subst e
    exact PySem.P.repr_of_str ⟨.str _, H, I.tok _, ⟨_, rfl⟩, q⟩ hz
  | dict _ => cases hd
def showOk (d : D) : Bool := d.ok 60 && d.py.showable && decide (d.py.shown.length ≤ 16777216)
def cRepr : List D → Option Rs
  | [d] => if showOk d then some (.v (.str d.py.shown)) else none
  | _ => none
theorem dc_repr : DCall K (rRepr K) cRepr := by
  intro B H vs ds res Q h _ e q
  unfold cRepr at e
  split at e
  · rename_i d
    obtain ⟨v, rfl, hv⟩ := tps1 h
    split at e
    · rename_i hk
      unfold showOk at hk
      simp only [Bool.and_eq_true, decide_eq_true_eq] at hk
      obtain ⟨⟨h1, h2⟩, h3⟩ := hk
      obtain ⟨g1, g2⟩ := ok_plain d 60 h1
      refine ⟨v, d.py, rfl, hv.dp h1, g1, g2, h2, by rw [sizeLine_eq]; exact h3, fin_v e q (.str _)⟩
    · cases e
  · cases e

/-! ### lists that are changed -/
def gApp : List D → List D → Option (D × List D)
  | ds, [d] => some (.non, ds ++ [d])
  | _, _ => none
theorem dm_app : DMut K rAppend gApp := by
  intro B H a xs ds vs es res ds' Q hH rx rv e hl q
  unfold gApp at e
  split at e
  · cases e
    cases rv with
    | cons r1 r2 =>
      cases r2
      refine ⟨a, xs, _, rfl, rfl, hH, ?_, q _ _ (rx.app (.one r1)) .non⟩
      rw [rx.len, sizeLine_eq]
      simp at hl
      omega
  · cases e
def gPopAt : List D → List D → Option (D × List D)
  | ds, [.int i] => if 0 ≤ i ∧ i < 4611686018427387904 then (ds[i.toNat]?).map fun d => (d, ds.eraseIdx i.toNat) else none
  | _, _ => none
theorem dm_popAt : DMut K rPopAt gPopAt := by
  intro B H a xs ds vs es res ds' Q hH rx rv e hl q
  unfold gPopAt at e
  split at e
  · rename_i i
    split at e
    · rename_i hi
      cases e1 : ds[i.toNat]? with
      | none => rw [e1] at e; cases e
      | some d =>
        rw [e1] at e
        cases e
        cases rv with
        | cons r1 r2 =>
          cases r2
          cases r1
          obtain ⟨v, h1, h2⟩ := rx.get e1
          have hlt : i.toNat < xs.length := (List.getElem?_eq_some_iff.mp h1).1
          exact ⟨a, xs, i, i.toNat, v, rfl, rfl, hH, by omega, by omega, seqIndex_of hi.1 (by omega), h1, q _ _ (rx.erase _) h2⟩
    · cases e
  · cases e
end
end LM

namespace LM
open PySem L2

/-! ### isinstance -/
def D.ty : D → Option String
  | .non => some "NoneType"
  | .bl _ => some "bool"
  | .int _ => some "int"
  | .str _ => some "str"
  | .tup _ => some "tuple"
  | .lst _ => some "list"
  | .ins _ _ _ => none
def isB (t c : String) : Bool := t == c || (t == "bool" && c == "int")
theorem kitB_all : ∀ t ∈ ["NoneType", "bool", "int", "str", "tuple", "list"], ∀ c ∈ ["int", "str", "bool", "list", "tuple"], kitB t c = some (isB t c) := by decide +kernel
theorem ty_mem {d : D} {t : String} (h : d.ty = some t) : t ∈ ["NoneType", "bool", "int", "str", "tuple", "list"] := by
  cases d <;> cases h <;> simp
theorem tyx_of {K : PySem.W.Frag} {B : Addr → Prop} {H : Hp} {v : V} {d : D} {t : String} (h : Tp K B H v d) (e : d.ty = some t) : TyX K H v (.type t) := by
  rcases h with h | ⟨a, xs, ds, rfl, rfl, _, r, _⟩
  · cases h with
    | non => cases e; exact .base .non
    | bl b => cases e; exact .base (.bl b)
    | int i => cases e; exact .base (.int i)
    | str x => cases e; exact .base (.str x)
    | tup _ r _ =>
      cases e
      rcases r with r | ⟨o, r⟩
      · exact .base (.tup r)
      · exact .fTuple r
    | wtup r _ =>
      cases e
      obtain ⟨o, its, n, h1, h2, _⟩ := r
      exact .kTuple h1 h2
    | lst _ r _ =>
      cases e
      rcases r with r | ⟨o, r⟩
      · exact .base (.lst r)
      · exact .base (.frz r)
    | wlst r _ =>
      cases e
      obtain ⟨its, n, h1, _⟩ := r
      exact .kList h1 rfl
    | ins => cases e
  · cases e
    rcases r with r | ⟨o, r⟩
    · exact .base (.lst r)
    · exact .base (.frz r)
/-- what is asked of the classes: an answer for each data -/
def IsF (K : PySem.W.Frag) (us : List Value) (f : D → Option Bool) : Prop := ∀ B H v d b, Tp K B H v d → f d = some b → ∃ t, TyX K H v t ∧ PySem.W.kitAny K t us = some b
def isF (cs : List String) (d : D) : Option Bool := d.ty.map fun t => cs.any (isB t)
theorem isF_ok {K : PySem.W.Frag} {cs : List String} (h : ∀ c ∈ cs, c ∈ ["int", "str", "bool", "list", "tuple"]) : IsF K (cs.map Value.type) (isF cs) := by
  intro B H v d b hv e
  cases q : d.ty with
  | none => simp [isF, q] at e
  | some t =>
    simp only [isF, q, Option.map_some, Option.some.injEq] at e
    refine ⟨.type t, tyx_of hv q, ?_⟩
    have ht := ty_mem q
    clear q hv
    induction cs generalizing b with
    | nil => subst e; rfl
    | cons c cs ih =>
      have k := kit_ty (K := K) (kitB_all t ht c (h c List.mem_cons_self))
      rw [List.any_cons] at e
      refine kitAny_cons k (fun z => ?_) fun z => by rw [← e, z]; rfl
      rw [z, Bool.false_or] at e
      exact ih (fun c hc => h c (List.mem_cons_of_mem _ hc)) _ e
/-- the classes, as they stand in the text -/
structure ClsA (X : Cx) (e : Expr) (us : List Value) (t : TE) : Prop where
  pe : PE X e t
  rd : ∀ σ H Q, (∀ v H', (∀ a o, H a = some o → H' a = some o) → ((∃ u, us = [u] ∧ ClsV v u) ∨ ∃ tp cs, v = .ref tp ∧ H' tp = some (.tup cs) ∧ Paired ClsV cs us) → Q v H') → t σ H Q
structure ClsAs (X : Cx) (es : List Expr) (us : List Value) (t : TA) : Prop where
  pa : PA X es t
  rd : ∀ σ H Q, (∀ vs, Paired ClsV vs us → Q vs H) → t σ H Q
section
variable {S : Type} {X : Cx} {I : BoxI S} {Wx : WX} {a b : Expr} {es : List Expr} {pos p : Pos} {ma : MX S W}
theorem k_blt {x : Str} {n : String} (hg : Gl X x) (hm : X.mg x = none) (hv : bootBuiltins x = some (.type n)) (hn : x ≠ "__name__" := by decide) (hd : (x == ("__debug__" : Str)) = false := by decide) : ClsA X (.Name x pos) [.type n] (tC (.ty n)) :=
  ⟨pe_bltn (v := .ty n) hg hm hv rfl hn hd, fun σ H Q h => h _ H (fun _ _ e => e) (.inl ⟨_, rfl, .ty n⟩)⟩
theorem k_nil : ClsAs X [] [] tNil := ⟨pa_nil, fun σ H Q h => h [] .nil⟩
theorem k_cons {x : Str} {n : String} {us : List Value} {t : TA} (hg : Gl X x) (hm : X.mg x = none) (hv : bootBuiltins x = some (.type n)) (h : ClsAs X es us t) (hn : x ≠ "__name__" := by decide) (hd : (x == ("__debug__" : Str)) = false := by decide) (hs : starEach (.Name x pos :: es) X.env = (false, eval (.Name x pos) X.env) :: starEach es X.env := by rfl) :
    ClsAs X (.Name x pos :: es) (.type n :: us) (tCons (tC (.ty n)) t) :=
  ⟨pa_cons (pe_bltn (v := .ty n) hg hm hv rfl hn hd) h.pa hs, fun σ H Q k => h.rd σ H _ fun vs r => k _ (.cons (.ty n) r)⟩
theorem k_tup {us : List Value} {t : TA} {x1} (h : ClsAs X es us t) (hl : us.length ≤ 16777216 := by decide) : ClsA X (.Tuple es x1 pos) us (tTup t) :=
  ⟨pe_tup h.pa, fun σ H Q k => h.rd σ H _ fun vs r => ⟨by rw [Paired.length r, sizeLine_eq]; exact hl, fun q hq => k _ _ (same_upd hq) (.inr ⟨q, vs, rfl, upd_same, r⟩)⟩⟩
def mIsi (f : D → Option Bool) (ma : MX S W) : MX S W := ma.bind fun w => fun env s => match w.rd env with
  | some d => match f d with
    | some b => .ok (.v (.bl b)) env s
    | none => .bad
  | none => .bad
theorem kitOne_of {K : PySem.W.Frag} {t u : Value} {b : Bool} (h : PySem.W.kitAny K t [u] = some b) : PySem.W.kitOne K t u = some b := by
  unfold PySem.W.kitAny at h
  cases q : PySem.W.kitOne K t u with
  | none => rw [q] at h; cases h
  | some c =>
    rw [q] at h
    cases c with
    | true => exact h
    | false => exact h
theorem d_isi {us : List Value} {t : TE} {f : D → Option Bool} (hg : Gl X "isinstance") (hm : X.mg "isinstance" = none) (hv : bootBuiltins "isinstance" = some (.builtin "isinstance")) (ha : PE X a (tD X.K I Wx ma)) (hc : ClsA X b us t) (hf : IsF X.K us f)
    (h1 : starEach [a, b] X.env = (false, eval a X.env) :: starEach [b] X.env := by rfl) (h2 : starEach [b] X.env = (false, eval b X.env) :: starEach [] X.env := by rfl) (hpl : (backTo pos (starEach [b] X.env)).any (·.1) = false := by rfl) :
    PE X (.Call (.Name "isinstance" p) [a, b] [] pos) (tD X.K I Wx (mIsi f ma)) := by
  refine PEimp (pe_callB (CallR.or call_isi call_isiT) hg hm hv (pa_cons ha (pa_cons hc.pe pa_nil h2) h1) (by decide) (by decide) h1 hpl) fun σ H Q ⟨G, env, s, ts, R, h⟩ => ?_
  refine tD_bind (Z := ZD X.K I Wx G ts σ Q) R h (fun _ _ _ z => z) (fun z => z) fun w env1 s1 x H1 _ R1 z1 => ?_
  refine hc.rd σ H1 _ fun v H2 hs hcl => ?_
  obtain ⟨ad, bv, bm, R2⟩ := R1
  have R3 := R2.same hs
  cases e1 : w.rd env1 with
  | none => simp only [e1] at z1; exact z1.elim
  | some d =>
    simp only [e1] at z1
    cases e2 : f d with
    | none => simp only [e2] at z1; exact z1.elim
    | some k =>
      simp only [e2] at z1
      obtain ⟨ty, h3, h4⟩ := hf _ H2 x d k (R3.rd (p := (x, w)) List.mem_cons_self e1) e2
      have fin : Q (.bl k) H2 := z1 _ H2 ⟨ad, bv, bm, (R3.pushV (.bl k)).less (.cons_cons _ sl1)⟩
      rcases hcl with ⟨u, rfl, hcv⟩ | ⟨tp, cs, rfl, e3, hp⟩
      · exact .inl ⟨x, v, ty, u, k, rfl, hcv, h3, kitOne_of h4, fin⟩
      · exact .inr ⟨x, tp, cs, ty, us, k, rfl, e3, hp, h3, h4, fin⟩
end
end LM

namespace PySem
open Sem (wp)
set_option maxHeartbeats 1000000 in
/-- enumerate of whatever begins -/
theorem enum_newB1 {v : Value} {o : Obj} {Hh : Heap → Prop} (B : Begins v o Hh) :
    Meets (Builtin.«enumerate.__new__» ⟨[.type "enumerate", v], []⟩) (fun _ R s => Hh s.heap ∧
      R (.ok (.ret (.ref (s.heap.push o).objs.size))) { s with heap := (s.heap.push o).push { cls := .type "enumerate", data := .fields #[.none, .bool false, .ref s.heap.objs.size, rawInt 0, .none, .none] } }) :=
  .of_wp fun prog w A R s hh => by
    obtain ⟨hp, gg, dd, tk, os⟩ := s
    obtain ⟨hh1, hh2⟩ := hh
    have hsub := sub_enumerate
    have step1 : ∀ {A' : Around} {E : Value → Shared → Prop} {Q : Value → Shared → Prop}, Q (.ref hp.objs.size) ⟨hp.push o, gg, dd, tk, os⟩ → wpAny (model prog w) A' (pyIter v) Q E ⟨hp, gg, dd, tk, os⟩ :=
      fun q => B.iter prog w _ _ ⟨hp, gg, dd, tk, os⟩ _ hh1 q
    wp_walk using step1
    refine wpAny_stack_any fun _ => wpAny_pure ?_
    split
    · rename_i c _ _ _ _ _
      cases (c == Value.type "enumerate") <;>
      · wp_walk using step1
        exact ⟨_, rfl, hh2⟩
    · wp_walk using step1
      exact ⟨_, rfl, hh2⟩
section
variable {prog : Program} {w : World} {A : Around} {E : Value → Shared → Prop} {s : Shared}
theorem enum_begins1 {v : Value} {o : Obj} {Hh : Heap → Prop} {Q : Value → Shared → Prop} (B : Begins v o Hh) (h1 : Hh s.heap)
    (h : ∀ h', IsEnum h' (s.heap.objs.size + 1) s.heap.objs.size 0 .none → h'.get? s.heap.objs.size = some o → (∀ b ob, s.heap.get? b = some ob → h'.get? b = some ob) → Q (.ref (s.heap.objs.size + 1)) { s with heap := h' }) :
    wpAny (model prog w) A (call (.type "enumerate") [v]) Q E s := by
  refine callType_new F.called_enumerate (by decide) (F.typeCall_enumerate_1 _) (F.newCall_enumerate_1 _) (fun ob => F.args_object_init_2 ob _) F.entry_enumerate_new (enum_newB1 B) ⟨h1, ?_⟩
  have size1 : (s.heap.push o).objs.size = s.heap.objs.size + 1 := Heap.size_push ..
  show _ ∧ _
  rw [size1]
  have he : IsEnum ((s.heap.push o).push { cls := .type "enumerate", data := .fields #[.none, .bool false, .ref s.heap.objs.size, rawInt 0, .none, .none] }) (s.heap.objs.size + 1) s.heap.objs.size 0 .none := by
    have got := Heap.get?_push_size (s.heap.push o) (o := { cls := .type "enumerate", data := .fields #[.none, .bool false, .ref s.heap.objs.size, rawInt 0, .none, .none] }) rfl
    rw [size1] at got
    exact got
  exact ⟨⟨_, he, rfl⟩, h _ he (Heap.get?_push_of_some _ (Heap.get?_push_size _ B.free)) fun b ob q => Heap.get?_push_of_some _ (Heap.get?_push_of_some _ q)⟩
end
end PySem
namespace L2
open PySem PySem.Spec PyProof.Rows
/-- enumerate of a tuple, the pairs new -/
def Itu (K : PySem.W.Frag) (a : Addr) : It :=
  ⟨fun i H => ∃ (xs : List V) (x : V), SqT K H a xs ∧ xs[i]? = some x, fun i H v H' => ∃ T x, v = .ref T ∧ H T = none ∧ H' = upd H T (.tup [.int (i : Nat), x]) ∧ ∀ xs, SqT K H a xs → xs[i]? = some x, fun i H => ∃ xs : List V, SqT K H a xs ∧ xs.length = i⟩
theorem turn_enumT {P : Program} {w : World} {K : PySem.W.Frag} {elts : List Expr} {kk : Nat} {tpos : Pos} (a e it : Addr) :
    Turn P w K (.Tuple elts kk tpos) (Itu K a) [e, it] e (fun i h => (∃ old, IsEnum h e it ((i : Nat) : Int) old) ∧ h.IsTupleIter it a i ∧ e ≠ it ∧ a ≠ it ∧ a ≠ e) where
  mem := by simp
  obj := fun i h st b hb => by
    obtain ⟨⟨old, he⟩, ⟨o, ho, hc, hd⟩, _⟩ := st
    rcases (show b = e ∨ b = it by simpa using hb) with rfl | rfl
    · exact ⟨_, he, fun v q => nomatch q⟩
    · exact ⟨o, ho, fun v q => by rw [hd] at q; cases q⟩
  keep := fun i h h' st k => let ⟨⟨old, he⟩, hi, n1, n2, n3⟩ := st; ⟨⟨old, k e (by simp) _ he⟩, hi.at fun o q => k it (by simp) o q, n1, n2, n3⟩
  item := by
    intro X hP hw hK hc i pins s σ H E I hf st hg
    subst hP hw hK
    obtain ⟨⟨old, he⟩, hit, n1, n2, n3⟩ := st
    obtain ⟨xs, x, hq, hx⟩ := hg
    obtain ⟨its, rv, p, hz⟩ := I.tuple hq
    have hlen := rv.length
    have hlt : i < its.toArray.size := by
      have := (List.getElem?_eq_some_iff.mp hx).1
      simp only [List.size_toArray]; omega
    have hel : e < s.heap.objs.size := Heap.lt_size he
    have hil : it < s.heap.objs.size := by obtain ⟨_, q, _⟩ := hit; exact Heap.lt_size q
    refine wpAny_pyNext_enum_itemD (Draws.tuple (A := X.A.in1) (I.ok.hd hc) it a n2 its.toArray) he ⟨hit, p⟩ hlt n1 (by simp [n1, Ne.symm n3]) fun u h' tk hu ho st' hT hsz hk => ?_
    have ru : RelV x u := by
      obtain ⟨u', hu', r'⟩ := rv.get hx
      have e2 : its[i]? = some u := by simpa using hu
      rw [e2] at hu'; cases hu'
      exact r'
    refine ⟨_, rfl, wpAny_letOwnedTupleGo_enum (s := { s with heap := h', toks := tk + 1 }) ho fun h'' he' sb => ?_⟩
    have hT2 : h''.get? s.heap.objs.size = some { cls := .type "tuple", data := .seq #[.int i tk, u] } := (sb.2 _ (Nat.ne_of_gt hel)).trans hT
    have new : ObjOk X.prog X.w (upd H s.heap.objs.size (.tup [.int (i : Nat), x])) h'' s.heap.objs.size (.tup [.int (i : Nat), x]) :=
      ⟨by show 2 ≤ sizeLine; decide, [.int i tk, u], .cons ⟨_, rfl⟩ (.cons ru .nil), ⟨_, hT2, rfl, _, rfl⟩⟩
    have I1 : Inv X pins σ (upd H s.heap.objs.size (.tup [.int (i : Nat), x])) { s with heap := h'', toks := tk + 1 } :=
      I.turnedNew (ch := [e, it]) (fun b ob hb q => (sb.2 b (fun z => hb (by simp [z]))).trans (hk b ob (fun z => hb (by simp [z])) (fun z => hb (by simp [z])) q)) hf (Nat.le_refl _) new
    refine ⟨.ref s.heap.objs.size, _, I1, rfl, ⟨_, x, rfl, I.hok.fresh (Nat.le_refl _), rfl, fun ys hy => by rw [I.tuple_inj hy hq]; exact hx⟩, ⟨⟨u, ?_⟩, st'.1.at fun o q => (sb.2 it (Ne.symm n1)).trans q, n1, n2, n3⟩, fun b hb => ?_⟩
    · rw [show ((i + 1 : Nat) : Int) = (i : Int) + 1 by omega]; exact he'
    · have hb' : b < s.heap.objs.size := by
        rcases (show b = e ∨ b = it by simpa using hb) with rfl | rfl
        · exact hel
        · exact hil
      rw [upd_ne (Nat.ne_of_lt hb')]
      exact (hf b hb).1
  done := by
    intro X hP hw hK hc i pins s σ H E I hf st hg
    subst hP hw hK
    obtain ⟨⟨old, he⟩, hit, n1, n2, n3⟩ := st
    obtain ⟨xs, hq, hx⟩ := hg
    obtain ⟨its, rv, p, hz⟩ := I.tuple hq
    obtain ⟨f0, f1, f2, f3, f4, f5⟩ := hf it (by simp)
    have hl := rv.length
    have ei : its.toArray.size = i := by simp only [List.size_toArray]; omega
    exact wpAny_pyNext_enum_endD (Draws.tuple (A := X.A.in1) (I.ok.hd hc) it a n2 its.toArray) he ⟨by rw [ei]; exact hit, p⟩ fun h' eb => ⟨rfl, I.turned (t' := s.toks) (fun b o hb q => eb b o hb q) f0 f1 f3 f4 f5⟩
  self := fun A i s Q E st h => let ⟨⟨_, he⟩, _⟩ := st; wpAny_pyIter_enum he h
def iEnumG (K : PySem.W.Frag) (ta : TA) : TI := fun σ H R => ta σ H fun vs H1 => (∃ a xs, vs = [.ref a] ∧ SqL K H1 a xs ∧ R (Ite K a) H1) ∨ ∃ a xs, vs = [.ref a] ∧ SqT K H1 a xs ∧ R (Itu K a) H1
theorem pi_enumG {X : Cx} {e : Expr} {ta : TA} {p pos tpos : Pos} {elts : List Expr} {kk : Nat} (hg : Gl X "enumerate") (hm : X.mg "enumerate" = none) (ha : PA X [e] ta) (hs : starEach [e] X.env = [(false, eval e X.env)] := by rfl) :
    PI X (.Tuple elts kk tpos) (.Call (.Name "enumerate" p) [e] [] pos) (iEnumG X.K ta) := by
  refine ⟨fun pins s σ H R I h => ?_⟩
  refine Call_ (ld_blt I hg hm boot_enumerate (PyProof.Rows.callWith_type1 (thn (ha.run pos pins s σ H _ I h) fun us s1 ⟨vs, H1, I1, r1, q1⟩ => ?_) hs rfl))
  have fp : ∀ b ∈ [s1.heap.objs.size + 1, s1.heap.objs.size], FpOk X pins H1 b := fun b hb => by
    have hle : s1.heap.objs.size ≤ b := by
      rcases (show b = s1.heap.objs.size + 1 ∨ b = s1.heap.objs.size by simpa using hb) with z | z <;> omega
    exact I1.fpOk hle (I1.hok.fresh hle)
  rcases q1 with ⟨a, xs, ex, hq, q⟩ | ⟨a, xs, ex, hq, q⟩
  · subst ex
    obtain ⟨u, rfl, r⟩ := vals1 r1
    cases r
    obtain ⟨its, rv, p', hz⟩ := I1.list hq
    refine enum_begins1 (begins_list a its.toArray) p'.isList fun h' he hit hk => wpAny_pyIter_enum he ?_
    have I2 : Inv X pins σ H1 { s1 with heap := h' } := I1.kept (t' := s1.toks) hk
    exact ⟨s1.heap.objs.size + 1, [s1.heap.objs.size + 1, s1.heap.objs.size], _, _, H1, rfl, I2, turn_enum a (s1.heap.objs.size + 1) s1.heap.objs.size, ⟨⟨.none, he⟩, ⟨_, hit, rfl, rfl⟩, Nat.succ_ne_self _⟩, fp, q⟩
  · subst ex
    obtain ⟨u, rfl, r⟩ := vals1 r1
    cases r
    obtain ⟨its, rv, p', hz⟩ := I1.tuple hq
    have hal : a < s1.heap.objs.size := by obtain ⟨o, e, _⟩ := p'; exact Heap.lt_size e
    refine enum_begins1 (begins_tuple a its.toArray) p' fun h' he hit hk => wpAny_pyIter_enum he ?_
    have I2 : Inv X pins σ H1 { s1 with heap := h' } := I1.kept (t' := s1.toks) hk
    exact ⟨s1.heap.objs.size + 1, [s1.heap.objs.size + 1, s1.heap.objs.size], _, _, H1, rfl, I2, turn_enumT a (s1.heap.objs.size + 1) s1.heap.objs.size, ⟨⟨.none, he⟩, ⟨_, hit, rfl, rfl⟩, Nat.succ_ne_self _, Nat.ne_of_lt hal, Nat.ne_of_lt (Nat.lt_succ_of_lt hal)⟩, fp, q⟩
end L2
namespace LM
open PySem L2
section
variable {S : Type} {X : Cx} {I : BoxI S} {Wx : WX} {a b tg : Expr} {pos p : Pos} {ma mb : MX S W}
theorem wk_enumT {K : PySem.W.Frag} {G : Gh} {ts : List (V × W)} {v : V} {w : W} {ds : List D} (hw : w = .v (.tup ds) ∨ w = .t (.tup ds)) {a : Addr} (ha : v = .ref a) : Wk K I G ts [(v, w)] (Itu K a) (enumD ds) := by
  have Z := wk_tup (I := I) (K := K) (G := G) (ts := ts) hw ha
  refine ⟨Z.nd, fun env s l σ H i R hi => ?_, fun env s l σ H i d R hd => ?_⟩
  · obtain ⟨ad, bv, bm, R⟩ := R
    have q : Tp K (Bv G bm ad env (l ++ ([(v, w)] ++ ts))) H v (.tup ds) := R.rd (p := (v, w)) (by simp) (by rcases hw with rfl | rfl <;> rfl)
    obtain ⟨a', xs, e, r, q⟩ := q.tup
    rw [ha] at e; cases e
    exact ⟨xs, r, by rw [q.len, hi, enumD_len]⟩
  · obtain ⟨e, he, rfl⟩ := enumD_get hd
    obtain ⟨g, y⟩ := Z.go env s l σ H i e R he
    refine ⟨g, fun x H' ⟨T, z, e1, e2, e3, e4⟩ => ?_⟩
    subst e1
    subst e3
    obtain ⟨ad, bv, bm, R2⟩ := y z H ⟨rfl, e4⟩
    have rz : Rep K (Bv G bm ad env ((z, .v e) :: (l ++ ([(v, w)] ++ ts)))) H z e := R2.tm _ List.mem_cons_self
    exact ⟨ad, bv, bm, (R2.newT e2 (.cons (.int _) (.cons rz .nil))).less (.cons_cons _ sl1)⟩
/-- enumerate of a list or a tuple; also of a list of one's own, which is not changed meanwhile -/
def mIEn (ma : MX S W) : MX S (List D) := ma.bind fun w => fun env s => match w with
  | .v (.lst ds) => .ok (enumD ds) env s
  | .t (.lst ds) => .ok (enumD ds) env s
  | .v (.tup ds) => .ok (enumD ds) env s
  | .t (.tup ds) => .ok (enumD ds) env s
  | _ => .bad
theorem i_enum {elts : List Expr} {kk : Nat} {tpos : Pos} (hg : Gl X "enumerate") (hm : X.mg "enumerate" = none) (ha : PE X a (tD X.K I Wx ma)) (hs : starEach [a] X.env = [(false, eval a X.env)] := by rfl) : PI X (.Tuple elts kk tpos) (.Call (.Name "enumerate" p) [a] [] pos) (tI X.K I Wx (mIEn ma)) := by
  refine PIimp (pi_enumG hg hm (pa_cons ha pa_nil hs) hs) fun σ H R0 ⟨G, env, s, ts, R, h⟩ => ?_
  show tD X.K I Wx ma σ H _
  refine ⟨G, env, s, ts, R, ?_⟩
  cases e : ma env s with
  | ex e' env1 s1 =>
    simp only [mIEn, MX.bind, Out.bind, e] at h
    exact h
  | bad => simp only [mIEn, MX.bind, Out.bind, e] at h
  | ok w env1 s1 =>
    simp only [mIEn, MX.bind, Out.bind, e] at h
    intro v H1 R1
    obtain ⟨ad, bv, bm, R2⟩ := id R1
    have finL : ∀ ds, (w = .v (.lst ds) ∨ w = .t (.lst ds)) → (∀ J p H', ER X.K I G env1 s1 (p ++ ts) σ H' → Wk X.K I G ts p J (enumD ds) → R0 J H') → ∃ a xs, [v] = [V.ref a] ∧ SqL X.K H1 a xs ∧ R0 (Ite X.K a) H1 := fun ds hw k => by
      have q : Tp X.K (Bv G bm ad env1 ((v, w) :: ts)) H1 v (.lst ds) := R2.rd (p := (v, w)) List.mem_cons_self (by rcases hw with rfl | rfl <;> rfl)
      obtain ⟨a', xs, e, r, q⟩ := q.lst
      exact ⟨a', xs, by rw [e], r, k (Ite X.K a') [(v, w)] H1 R1 (wk_enum hw e)⟩
    have finT : ∀ ds, (w = .v (.tup ds) ∨ w = .t (.tup ds)) → (∀ J p H', ER X.K I G env1 s1 (p ++ ts) σ H' → Wk X.K I G ts p J (enumD ds) → R0 J H') → ∃ a xs, [v] = [V.ref a] ∧ SqT X.K H1 a xs ∧ R0 (Itu X.K a) H1 := fun ds hw k => by
      have q : Tp X.K (Bv G bm ad env1 ((v, w) :: ts)) H1 v (.tup ds) := R2.rd (p := (v, w)) List.mem_cons_self (by rcases hw with rfl | rfl <;> rfl)
      obtain ⟨a', xs, e, r, q⟩ := q.tup
      exact ⟨a', xs, by rw [e], r, k (Itu X.K a') [(v, w)] H1 R1 (wk_enumT hw e)⟩
    cases w with
    | v d =>
      cases d with
      | lst ds => exact .inl (finL ds (.inl rfl) h)
      | tup ds => exact .inr (finT ds (.inl rfl) h)
      | _ => exact h.elim
    | t d =>
      cases d with
      | lst ds => exact .inl (finL ds (.inr rfl) h)
      | tup ds => exact .inr (finT ds (.inr rfl) h)
      | _ => exact h.elim
    | _ => exact h.elim
end
end LM

namespace LM
open PySem L2

/-! ### a new instance's attributes -/
section
variable {S : Type} {K : PySem.W.Frag} {I : BoxI S} {G : Gh} {ad : Nat → Addr} {bv : V} {bm : Addr → Prop} {env : List Sl} {s s' : S} {ts ts' : List (V × W)} {σ : St} {H H' : Hp}
/-- what a slot owns is written -/
theorem ERa.wrO {x y : Sl} {o : HO} {i : Nat} (R : ERa K I G ad bv bm env s ts σ H) (e : env[i]? = some x) (ox : x.isOwn = true) (oy : y.isOwn = true) (h : ∀ B', Gr (Bv G bm ad env ts) B' H (upd H (ad i) o) → ∀ T', SlR K T' B' bv (upd H (ad i) o) (ad i) σ[i]? y) :
    ERa K I G ad bv bm (env.set i y) s ts σ (upd H (ad i) o) := by
  have oi : Ow ad env ts (ad i) := .inl ⟨i, _, e, ox, rfl⟩
  have ry : y.isRef = true := by cases y <;> first | rfl | cases oy
  have go : ∀ a, Ow ad (env.set i y) ts a → Ow ad env ts a := fun a z => z.imp (fun ⟨j, u, e', o, q⟩ => by
    rcases set_get e' with ⟨rfl, rfl, _⟩ | ⟨_, e'⟩
    · exact ⟨j, _, e, ox, q⟩
    · exact ⟨j, u, e', o, q⟩) fun q => q
  have kp : ∀ a u, H a = some u → a ≠ ad i → upd H (ad i) o a = some u := fun a u q n => by rw [upd_ne n]; exact q
  have gt : Gr (Tv bm ad env ts) (Tv bm ad (env.set i y) ts) H (upd H (ad i) o) := ⟨fun a u q n => kp a u q fun z => n (.inr (z ▸ oi)), fun a z => .inl (z.imp (fun q => q) (go a))⟩
  have g : Gr (Bv G bm ad env ts) (Bv G bm ad (env.set i y) ts) H (upd H (ad i) o) := ⟨fun a u q n => kp a u q fun z => n (.inr (.inr (z ▸ oi))), fun a z => .inl (z.imp (fun q => q) fun z => z.imp (fun q => q) (go a))⟩
  obtain ⟨h0, hb⟩ := R.own i _ e ox
  refine ⟨by rw [List.length_set]; exact R.len, fun a u q n => kp a u (R.ext a u q n) fun z => (by rw [z, h0] at q; cases q), fun a q => ?_, I.frame R.box fun a m => upd_ne fun z => hb (z ▸ m), R.bfr, R.bdom, fun j u e' o => ?_, R.tow, fun j k u z ej ek oj ok => ?_, fun j u p e' o => ?_, R.d3, fun j u e' => ?_, fun p hp => ?_⟩
  · by_cases n : a = ad i
    · rw [n]; exact h0
    · rw [upd_ne n] at q; exact R.dom a q
  · rcases set_get e' with ⟨rfl, rfl, _⟩ | ⟨_, e'⟩
    · exact ⟨h0, hb⟩
    · exact R.own j u e' o
  · rcases set_get ej with ⟨rfl, rfl, _⟩ | ⟨_, ej'⟩
    · rcases set_get ek with ⟨rfl, rfl, _⟩ | ⟨_, ek'⟩
      · exact fun _ => rfl
      · exact R.d1 j k _ z e ek' ox ok
    · rcases set_get ek with ⟨rfl, rfl, _⟩ | ⟨_, ek'⟩
      · exact R.d1 j k u _ ej' e oj ox
      · exact R.d1 j k u z ej' ek' oj ok
  · rcases set_get e' with ⟨rfl, rfl, _⟩ | ⟨_, e'⟩
    · exact R.d2 j _ p e ox
    · exact R.d2 j u p e' o
  · rcases set_get e' with ⟨rfl, rfl, hl⟩ | ⟨ne, e'⟩
    · exact h _ g _
    · exact (R.sl j u e').gr gt g fun ho v q => kp _ _ q fun z => ne (R.d1 j i _ _ e' e ho ox z)
  · refine (R.tm p hp).gr gt g (fun f a u ea q => kp _ _ q fun z => R.d2 i _ p e ox hp f (by rw [ea, z])) fun j u _ q r => ?_
    by_cases hj : j = i
    · subst hj
      exact ⟨y, List.getElem?_set_self (List.getElem?_eq_some_iff.mp q).1, ry⟩
    · exact ⟨u, by rw [List.getElem?_set_ne (Ne.symm hj)]; exact q, r⟩
end
theorem putF_new : ∀ {fs : List (Str × V)} {f : Str} {v : V}, (fs.map (·.1)).contains f = false → putF f v fs = fs ++ [(f, v)]
  | [], _, _, _ => rfl
  | (g, x) :: fs, f, v, h => by
    rw [List.map_cons, List.contains_cons, Bool.or_eq_false_iff] at h
    have ne : ¬ g = f := fun z => by
      have := h.1
      rw [z] at this
      simp at this
    show (if g = f then (g, v) :: fs else (g, x) :: putF f v fs) = _
    rw [if_neg ne, putF_new h.2]
    rfl
def mFldSet {S : Type} (C : Addr) (f : Str) (mo me : MX S W) : MS S := fun env s => (me env s).bindS fun w env s => (mo env s).bindS fun u env s => match w.kp, u with
  | some d, .l i => match env[i]? with
    | some (.slf x C' ns ds) => if C' = C ∧ ns.contains f = false ∧ ns.length < 900 then .nx (env.set i (.slf x C' (ns ++ [f]) (ds ++ [d]))) s else .bad
    | _ => .bad
  | _, _ => .bad
section
variable {S : Type} {X : Cx} {I : BoxI S} {Wx : WX} {o e : Expr} {pos pos' : Pos} {mo me : MX S W} {f : Str} {C : Addr}
theorem s_fld (ho : PE X o (tD X.K I Wx mo)) (he : PE X e (tD X.K I Wx me)) (c : Cls X.K C) (n : NoAttr X.K C f) (hs : swapsWith e (some (.Attribute o f pos')) pos.line X.env = pure false := by rfl) : PS X (.Assign [.Attribute o f pos'] e pos) (tS X.K I Wx (mFldSet C f mo me)) := by
  refine PSimp (ps_fld ho he hs) fun Dn σ H ⟨G, env, s, ts, R, cl, h⟩ => ?_
  refine tD_bindS (Dn := Dn) R h fun w env1 s1 y H1 R1 z1 => ?_
  refine ⟨G, env1, s1, (y, w) :: ts, R1, ?_⟩
  cases eo : mo env1 s1 with
  | ex x env2 s2 => rw [eo] at z1; exact fun dx H' q => z1 dx σ H' (q.less sl1)
  | bad => rw [eo] at z1; exact z1
  | ok u env2 s2 =>
    rw [eo] at z1
    intro x H2 ⟨ad, bv, bm, R2⟩
    dsimp only [Out.bindS] at z1
    cases ek : w.kp with
    | none => simp only [ek] at z1; exact z1.elim
    | some d =>
      cases u with
      | l i =>
        simp only [ek] at z1
        cases ei : env2[i]? with
        | none => simp only [ei] at z1; exact z1.elim
        | some sl =>
          cases sl with
          | slf a C' ns ds =>
            simp only [ei] at z1
            by_cases hc : C' = C ∧ ns.contains f = false ∧ ns.length < 900
            · rw [if_pos hc] at z1
              obtain ⟨rfl, h2, h3⟩ := hc
              obtain ⟨fa, fσ, dx, fs, q1, q2, q3⟩ := R2.sl i _ ei
              obtain ⟨e1, _⟩ : x = .ref (ad i) ∧ ∃ y, env2[i]? = some y ∧ y.isRef = true := R2.tm (x, .l i) List.mem_cons_self
              have ry := R2.keep (p := (y, w)) (.tail _ List.mem_cons_self) ek
              refine ⟨ad i, C', dx, fs, e1, q1, c, n, by rw [q2] at h3; simp at h3; omega, z1 σ _ ⟨ad, bv, bm, (R2.wrO (y := .slf a C' (ns ++ [f]) (ds ++ [d])) ei rfl rfl fun B' g T' => ?_).less sl2⟩⟩
              refine ⟨fa, fσ, dx, _, upd_same, ?_, ?_⟩
              · rw [putF_new (by rw [← q2]; exact h2), List.map_append, q2]; rfl
              · have q4 : Reps X.K B' (upd H2 (ad i) (.ins C' dx (putF f y fs))) (fs.map (·.2) ++ [y]) (ds ++ [d]) := (q3.gr g).app (.one (ry.gr g))
                rw [putF_new (by rw [← q2]; exact h2)] at q4 ⊢
                rw [List.map_append]
                exact q4
            · rw [if_neg hc] at z1; exact z1.elim
          | _ => simp only [ei] at z1; exact z1.elim
      | _ => simp only [ek] at z1; exact z1.elim
end
def envI (x C : Addr) (md : List Md) (n : Nat) (ds : List D) : List Sl := .slf x C [] [] :: env0 md n ds
def SO.foI (y C : Addr) : SO Unit → FO Unit (List Str × List D)
  | .nx (.slf y' C' ns ds :: _) _ => if y' = y ∧ C' = C then .ok (ns, ds) () else .bad
  | _ => .bad
section
variable {P : Program} {w : World} {K : PySem.W.Frag} {mg : Str → Option Value} {base : Heap}
theorem envA_noB {K : PySem.W.Frag} {B T : Addr → Prop} {H : Hp} {md : List Md} {vs : List V} {ds : List D} (ar : ArgsR K (fun _ => False) B H .non md vs ds) (N : Nat) : ∀ (i : Nat) (x : Sl), (env0 md N ds)[i]? = some x → x.isOwn = false ∧ ∀ (T B' : Addr → Prop) (a : Addr), (∀ a, T a → False) → (∀ a, B' a → B a) → SlR K T B' .non H a ((vs.map some ++ List.replicate N none)[i]?) x := by
  intro i x e
  unfold env0 at e
  by_cases hi : i < (envA md ds).length
  · rw [List.getElem?_append_left hi] at e
    rw [List.getElem?_append_left (by rw [List.length_map, ← envA_len ar]; exact hi)]
    refine ⟨(envA_sl (T := fun _ => False) (fun _ z => z) (ad := fun _ => 0) ar e).1, fun T B' a hT hB => ?_⟩
    exact ((envA_sl (T := T) hT (ad := fun _ => a) ar e).2).gr (.sub fun _ z => z) (.sub hB) fun _ _ z => z
  · rw [List.getElem?_append_right (by omega)] at e
    rw [List.getElem?_replicate] at e
    split at e
    · cases e
      exact ⟨rfl, fun _ _ _ _ _ => True.intro⟩
    · cases e
/-- THE RULE for an __init__ that lets nothing out -/
theorem fn_okI {x qual : Str} {st : Stmt} {f C : Addr} {fd : FuncData} {N ps : List Str} {k : Nat} {md : List Md} {m : MS Unit} {g : List D → FO Unit (List Str × List D)} (F : Fun K x qual st f fd) (Sc : FnScope N ps (defScope st)) (hl : md.length + 1 = ps.length)
    (hg : ∀ y ds, (m (envI y C md (N.length - ps.length) ds) ()).foI y C = g ds)
    (hbody : ∀ (cdv : Value) (A : Around) (outer : List Env) (s : Shared) (H : Hp) (E : XK), Room k (A.deeper (PyProof.Rows.envOfC qual (defScope st) s.heap.objs.size f cdv)) →
      PSs (cxOf CX0 P w K mg base N qual (defScope st) f cdv A outer s H E).nox (defBody st) (tS K boxNil W0 m)) : FnOk P w K mg base CX0 (k + 1) f fd ps (spI K C md g) := by
  have hN : ps.length ≤ N.length := by have := congrArg List.length Sc.pre; rw [List.length_take] at this; omega
  refine F.ok Sc (fun vs H Q E ⟨_, _, _, _, _, _, e, _, _, _, _, _, ar, _⟩ => by rw [e, List.length_cons, ar.len, hl]) fun cdv A outer s H vs Q E hr ⟨y, dx, H1, B, rest, ds, ev, n1, n2, n3, eH, hB, ar, z⟩ => ?_
  subst ev eH
  have hv : rest.length = md.length := ar.len
  rw [← hg y ds] at z
  have sm : ∀ a o, H1 a = some o → upd (upd H1 dx (.own y)) y (.ins C dx []) a = some o := fun a o e => by
    rw [upd_ne (ne_of_none e n1), upd_ne (ne_of_none e n2)]; exact e
  refine ⟨_, hbody cdv A outer s _ E hr, ⟨B, fun _ => False, H1, .non⟩, envI y C md (N.length - ps.length) ds, (), [], ?_, Cl.nil, ?_⟩
  · have hgo := envA_noB (T := fun _ => False) ar (N.length - ps.length)
    have own0 : ∀ (i : Nat) (u : Sl), (envI y C md (N.length - ps.length) ds)[i]? = some u → u.isOwn = true → i = 0 := fun i u e o => by
      cases i with
      | zero => rfl
      | succ i => rw [(hgo i u e).1] at o; cases o
    have est : L2.start N (.ref y :: rest) = some (.ref y) :: (rest.map some ++ List.replicate (N.length - ps.length) none) := by
      unfold L2.start
      rw [List.map_cons, List.cons_append, List.length_cons, hv, hl]
    have nO : ∀ a, Ow (fun _ => y) (envI y C md (N.length - ps.length) ds) [] a → a = y := fun a z => by
      rcases z with ⟨i, u, e, o, q⟩ | ⟨p, hp, _⟩
      · exact q.symm
      · cases hp
    have subB : ∀ a, Bv ⟨B, fun _ => False, H1, .non⟩ (fun _ => False) (fun _ => y) (envI y C md (N.length - ps.length) ds) [] a → B a ∨ H1 a = none := fun a z => z.imp (fun q => q) fun z => z.elim (fun z => z.elim) fun z => (nO a z) ▸ n1
    have subT : ∀ a, Tv (fun _ => False) (fun _ => y) (envI y C md (N.length - ps.length) ds) [] a → False ∨ H1 a = none := fun a z => z.imp (fun q => q) fun z => (nO a z) ▸ n1
    refine ⟨fun _ => y, .non, fun _ => False, ?_, fun a o e _ => sm a o e, fun a e => ?_, fun _ h => h, ⟨fun a z => z.elim, fun _ => ⟨rfl, rfl⟩⟩, hB, fun i u e o => ⟨n1, fun z => z⟩, fun p hp => (nomatch hp), fun i j u v ei ej oi oj _ => by rw [own0 i u ei oi, own0 j v ej oj], fun i u p e o hp => (nomatch hp), .nil, fun i u e => ?_, fun p hp => (nomatch hp)⟩
    · rw [est]
      unfold envI env0
      rw [List.length_cons, List.length_cons, List.length_append, List.length_append, List.length_map, List.length_replicate, List.length_replicate, envA_len ar]
    · show H1 a = none
      cases q : H1 a with
      | none => rfl
      | some o => rw [sm a o q] at e; cases e
    · rw [est]
      cases i with
      | zero =>
        have e : some (Sl.slf y C [] []) = some u := e
        cases e
        exact ⟨rfl, rfl, dx, [], upd_same, rfl, .nil⟩
      | succ i =>
        have q := (hgo i u e).2 (fun _ => False) B y (fun _ z => z) fun _ z => z
        exact q.gr ⟨fun a o e _ => sm a o e, subT⟩ ⟨fun a o e _ => sm a o e, subB⟩ fun ho _ _ => by rw [(hgo i u e).1] at ho; cases ho
  · cases e : m (envI y C md (N.length - ps.length) ds) () with
    | nx env1 s1 =>
      cases env1 with
      | nil => simp only [e, SO.foI] at z
      | cons sl env1 =>
        cases sl with
        | slf y' C' ns es =>
          simp only [e, SO.foI] at z
          by_cases hc : y' = y ∧ C' = C
          · rw [if_pos hc] at z
            obtain ⟨rfl, rfl⟩ := hc
            intro σ' H' ⟨ad, bv, bm, R⟩
            obtain ⟨fa, fσ, dx', fs, q1, q2, q3⟩ := R.sl 0 _ rfl
            rw [fa] at q1
            refine z H' (fun a o e => R.ext a o e fun z => z) ⟨dx', fs, q1, q2, q3.gr (.sub fun a h => ?_)⟩
            rcases h with h | h
            · exact .inl h
            · exact .inr (.inr (.inl ⟨0, _, rfl, rfl, fa.trans h.symm⟩))
          · rw [if_neg hc] at z; exact z.elim
        | _ => simp only [e, SO.foI] at z
    | _ => simp only [e, SO.foI] at z
end
end LM

namespace LM
open PySem L2

/-! ### the box: a list of three whole numbers -/
structure Bx where
  g : Int
  m : Int
  n : Int
def Bx.at (s : Bx) : Nat → Int
  | 0 => s.g
  | 1 => s.m
  | _ => s.n
def Bx.put (s : Bx) (j : Nat) (z : Int) : Bx := match j with
  | 0 => { s with g := z }
  | 1 => { s with m := z }
  | _ => { s with n := z }
def Bx.l (s : Bx) : List V := [.int s.g, .int s.m, .int s.n]
def boxR (s : Bx) (bv : V) (bm : Addr → Prop) (H : Hp) : Prop := ∃ p, bv = .ref p ∧ (∀ a, bm a ↔ a = p) ∧ H p = some (.lst s.l)
def boxL : BoxI Bx where
  rel := boxR
  frame := fun ⟨p, e, m, h⟩ k => ⟨p, e, m, (k p ((m p).mpr rfl)).trans h⟩
  dom := fun ⟨p, e, m, h⟩ k => by rw [(m _).mp k, h]; exact fun z => by cases z
  fix := true
def boxW : BoxI (Option Bx) where
  rel := fun s bv bm H => match s with
    | none => ∀ a, ¬ bm a
    | some s => boxR s bv bm H
  frame := fun {s bv bm H H'} h k => by
    cases s with
    | none => exact h
    | some s => exact boxL.frame h k
  dom := fun {s bv bm H a} h k => by
    cases s with
    | none => exact absurd k (h a)
    | some s => exact boxL.dom h k
  fix := false
def lensW : Lens (Option Bx) Bx := ⟨fun s => s, fun _ t => some t⟩
theorem lensW_ok : LensOk boxW boxL lensW := ⟨fun {s t bv bm H} e h => by cases (show s = some t from e); exact h, fun _ _ h => h⟩
def lensL : Lens Bx Bx := ⟨some, fun _ t => t⟩
theorem lensL_ok : LensOk boxL boxL lensL := ⟨fun e h => by cases e; exact h, fun _ _ h => h⟩
def mBGet (i j : Nat) : MX Bx W := fun env s => match env[i]? with
  | some .box => .ok (.v (.int (s.at j))) env s
  | _ => .bad
def mBSet (i j : Nat) (me : MX Bx W) : MS Bx := fun env s => (me env s).bindS fun w env s => match w, env[i]? with
  | .v (.int z), some .box => .nx env (s.put j z)
  | _, _ => .bad
section
variable {X : Cx} {Wx : WX} {e : Expr} {pos pos' p1 p2 : Pos} {me : MX Bx W}
theorem at_l (s : Bx) {j : Nat} (hj : j < 3) : atI s.l (j : Int) = some (.int (s.at j)) := by
  match j, hj with
  | 0, _ => rfl
  | 1, _ => rfl
  | 2, _ => rfl
theorem d_bget {i j : Nat} {x : Str} {k} (hj : j < 3) (hN : X.N[i]? = some x := by rfl) (hv : Vis X.env.scope x := by first | exact Or.inl rfl | exact Or.inr (Or.inl rfl) | exact Or.inr (Or.inr rfl)) (hd : (x == ("__debug__" : Str)) = false := by decide) (hcd : (x == ("__classdict__" : Str)) = false := by decide) :
    PE X (.Subscript (.Name x p1) (.Constant (.int (j : Nat)) k p2) pos) (tD X.K boxL Wx (mBGet i j)) := by
  refine PEimp (pe_ix ix_list (pe_var (i := i) hN hv hd hcd) pe_int (fun _ _ => rfl)) fun σ H Q ⟨G, env, s, ts, ⟨ad, bv, bm, R⟩, h⟩ => ?_
  unfold mBGet at h
  cases q : env[i]? with
  | none => simp only [q] at h
  | some y =>
    cases y with
    | box =>
      simp only [q] at h
      obtain ⟨p, eb, mb, hp⟩ := R.box
      have e1 : σ[i]? = some (some bv) := R.sl i _ q
      exact ⟨bv, e1, p, s.l, j, .int (s.at j), eb, rfl, .of hp, at_l s hj, h _ H ⟨ad, bv, bm, R.pushV (.int _)⟩⟩
    | _ => simp only [q] at h
theorem s_bset {i j : Nat} {x : Str} {k} (hj : j < 3) (he : PE X e (tD X.K boxL Wx me)) (hN : X.N[i]? = some x := by rfl) (hv : Vis X.env.scope x := by first | exact Or.inl rfl | exact Or.inr (Or.inl rfl) | exact Or.inr (Or.inr rfl)) (hd : (x == ("__debug__" : Str)) = false := by decide) (hcd : (x == ("__classdict__" : Str)) = false := by decide)
    (hs : swapsWithSole [.Subscript (.Name x p1) (.Constant (.int (j : Nat)) k p2) pos'] e pos.line X.env = pure false := by rfl) (hw : swappedStores [.Subscript (.Name x p1) (.Constant (.int (j : Nat)) k p2) pos'] e X.env = pure none := by rfl) :
    PS X (.Assign [.Subscript (.Name x p1) (.Constant (.int (j : Nat)) k p2) pos'] e pos) (tS X.K boxL Wx (mBSet i j me)) := by
  refine PSimp (ps_asg he (pg_sub (pe_var (i := i) hN hv hd hcd) pe_int set_list) hs hw) fun Dn σ H ⟨G, env, s, ts, R, cl, h⟩ => ?_
  refine tD_bindS (Dn := Dn) R h fun w env1 s1 v H1 ⟨ad, bv, bm, R1⟩ z => ?_
  cases w with
  | v d =>
    cases d with
    | int y =>
      cases q : env1[i]? with
      | none => simp only [q] at z; exact z.elim
      | some u =>
        cases u with
        | box =>
          simp only [q] at z
          have rv : Rep X.K _ H1 v (.int y) := R1.tm _ List.mem_cons_self
          cases rv
          obtain ⟨p, eb, mb, hp⟩ := R1.box
          have e1 : σ[i]? = some (some bv) := R1.sl i _ q
          have el : (s1.l.set j (.int y)) = (s1.put j y).l := by
            match j, hj with
            | 0, _ => rfl
            | 1, _ => rfl
            | 2, _ => rfl
          refine ⟨bv, e1, p, s1.l, j, j, eb, rfl, hp, ?_, ?_⟩
          · unfold ixN
            rw [if_pos (by omega), if_pos (by show (j : Int) < ((3 : Nat) : Int); omega)]
            simp
          · rw [el]
            refine z σ _ ⟨ad, bv, bm, (R1.pop).grow (fun a o e n => ?_) (fun a e => ?_) ⟨p, eb, mb, upd_same⟩⟩
            · rw [upd_ne fun z => n ((mb a).mpr z)]; exact e
            · by_cases na : a = p
              · rw [na, upd_same] at e; cases e
              · rw [upd_ne na] at e; exact e
        | _ => simp only [q] at z; exact z.elim
    | _ => exact z.elim
  | _ => exact z.elim
end

/-! ### a def that hands back a new list -/
def spF (K : PySem.W.Frag) (md : List Md) (m : List D → FO Unit (List D)) : Sp := fun vs H Q E => ∃ (B : Addr → Prop) (ds : List D),
  (∀ a, B a → H a ≠ none) ∧ ArgsR K (fun _ => False) B H .non md vs ds ∧
  match m ds with
  | .ok es _ => ∀ a xs H', (∀ b o, H b = some o → H' b = some o) → H a = none → H' a = some (.lst xs) → Reps K (fun b => B b ∨ b = a) H' xs es → Q (.ref a) H'
  | _ => False
def SO.foF {S : Type} : SO S → FO S (List D)
  | .rf ds _ s => .ok ds s
  | _ => .bad
section
variable {P : Program} {w : World} {K : PySem.W.Frag} {mg : Str → Option Value} {base : Heap}
theorem fn_okF {x qual : Str} {st : Stmt} {f : Addr} {fd : FuncData} {N ps : List Str} {k : Nat} {md : List Md} {m : MS Unit} (F : Fun K x qual st f fd) (Sc : FnScope N ps (defScope st)) (hl : md.length = ps.length)
    (hbody : ∀ (cdv : Value) (A : Around) (outer : List Env) (s : Shared) (H : Hp) (E : XK), Room k (A.deeper (PyProof.Rows.envOfC qual (defScope st) s.heap.objs.size f cdv)) →
      PSs (cxOf CX0 P w K mg base N qual (defScope st) f cdv A outer s H E).nox (defBody st) (tS K boxNil W0 m)) : FnOk P w K mg base CX0 (k + 1) f fd ps (spF K md fun ds => (m (env0 md (N.length - ps.length) ds) ()).foF) := by
  have hN : ps.length ≤ N.length := by have := congrArg List.length Sc.pre; rw [List.length_take] at this; omega
  refine F.ok Sc (fun vs H Q E ⟨_, _, _, ar, _⟩ => by rw [ar.len, hl]) fun cdv A outer s H vs Q E hr ⟨B, ds, hB, ar, z⟩ => ?_
  have hv : vs.length = ps.length := by rw [ar.len, hl]
  refine ⟨_, hbody cdv A outer s H E hr, ⟨B, fun _ => False, H, .non⟩, env0 md (N.length - ps.length) ds, (), [], ?_, Cl.nil, ?_⟩
  · rw [← hv]; exact er_start (by omega) (fun _ h => h.elim) hB (fun _ h => h) ar
  · cases e : m (env0 md (N.length - ps.length) ds) () with
    | rf es env1 s1 =>
      simp only [e, SO.foF] at z
      intro v σ' H' ⟨ad, bv, bm, R⟩
      obtain ⟨a, xs, e1, e2, r⟩ := R.tm _ List.mem_cons_self
      obtain rfl : v = .ref a := e1
      obtain ⟨h0, _⟩ := R.tow _ List.mem_cons_self rfl a rfl
      refine z a xs H' (fun b o q => R.ext b o q fun z => z) h0 e2 (r.gr (.sub fun b h => ?_))
      rcases h with h | h
      · exact .inl h
      · exact .inr (.inr (.inr ⟨_, List.mem_cons_self, rfl, by rw [h]⟩))
    | rt d env1 s1 => simp only [e, SO.foF] at z
    | nx env1 s1 => simp only [e, SO.foF] at z
    | bk env1 s1 => simp only [e, SO.foF] at z
    | ct env1 s1 => simp only [e, SO.foF] at z
    | ex x env1 s1 => simp only [e, SO.foF] at z
    | bad => simp only [e, SO.foF] at z
end
def Sl.noBox : Sl → Bool
  | .box => false
  | _ => true
/-- box = f(..), f hands back a new list -/
def mNewBox (i : Nat) (md : List Md) (f : List D → FO Unit (List D)) (ms : MX (Option Bx) (List W)) : MS (Option Bx) := fun env s => (ms env s).bindS fun ws env s => match bindA env md ws with
  | some ds => match f ds with
    | .ok [.int g, .int m, .int n] _ => if (env.set i .no).all Sl.noBox then .nx (env.set i .box) (some ⟨g, m, n⟩) else .bad
    | _ => .bad
  | none => .bad
section
variable {X : Cx} {Wx : WX} {CX : CXT} {a : Expr} {es : List Expr} {pos p pos' pc : Pos} {ms : MX (Option Bx) (List W)} {md : List Md} {k : Nat} {fa : Addr} {fd : FuncData} {ps : List Str} {x y : Str}
theorem ERa.newbox {K : PySem.W.Frag} {G : Gh} {ad : Nat → Addr} {bv : V} {bm : Addr → Prop} {env : List Sl} {s : Option Bx} {ts : List (V × W)} {σ : St} {H H' : Hp} {i : Nat} {b : Addr} {t : Bx} (R : ERa K boxW G ad bv bm env s ts σ H) (cl : Cl ts)
    (hs : ∀ a o, H a = some o → H' a = some o) (hn : H b = none) (hb : H' b = some (.lst t.l)) (ha : (env.set i Sl.no).all Sl.noBox = true) :
    ERa K boxW G ad (.ref b) (fun a => a = b) (env.set i .box) (some t) ts (σ.set i (some (.ref b))) H' := by
  have R1 := R.putNo (i := i) (v := some (.ref b)) cl
  have hall : ∀ (j : Nat) (x : Sl), (env.set i Sl.no)[j]? = some x → x ≠ Sl.box := fun j x e z => by
    have := List.all_eq_true.mp ha x (List.mem_of_getElem? e)
    rw [z] at this; cases this
  have get : ∀ (j : Nat) (x : Sl), (env.set i Sl.box)[j]? = some x → (j = i ∧ x = Sl.box) ∨ (j ≠ i ∧ (env.set i Sl.no)[j]? = some x) := fun j x e => by
    rcases set_get e with ⟨h1, h2, _⟩ | ⟨h1, h2⟩
    · exact .inl ⟨h1, h2⟩
    · exact .inr ⟨h1, by rw [List.getElem?_set_ne (Ne.symm h1)]; exact h2⟩
  have go : ∀ a, Ow ad (env.set i .box) ts a → Ow ad (env.set i .no) ts a := fun a z => z.imp (fun ⟨j, x, e, o, q⟩ => by
    rcases get j x e with ⟨_, rfl⟩ | ⟨_, e⟩
    · cases o
    · exact ⟨j, x, e, o, q⟩) fun q => q
  have dm : ∀ a, H' a = none → H a = none := fun a e => by cases q : H a with | none => rfl | some o => rw [hs a o q] at e; cases e
  have gt : Gr (Tv bm ad (env.set i .no) ts) (Tv (fun a => a = b) ad (env.set i .box) ts) H H' := ⟨fun a o e _ => hs a o e, fun a z => z.elim (fun z => .inr (z ▸ hn)) fun z => .inl (.inr (go a z))⟩
  have g : Gr (Bv G bm ad (env.set i .no) ts) (Bv G (fun a => a = b) ad (env.set i .box) ts) H H' := ⟨fun a o e _ => hs a o e, fun a z => z.elim (fun z => .inl (.inl z)) fun z => z.elim (fun z => .inr (z ▸ hn)) fun z => .inl (.inr (.inr (go a z)))⟩
  refine ⟨by rw [List.length_set, List.length_set]; exact R.len, fun a o e n => hs a o (R.ext a o e n), fun a e => R.dom a (dm a e), ⟨b, rfl, fun a => Iff.rfl, hb⟩, ⟨fun a z => .inr (R.dom a (z ▸ hn)), fun z => nomatch z⟩, R.bdom, fun j x e o => ?_, fun p hp f => (by rw [cl.nf hp] at f; cases f), fun j l x u ej el oj ol => ?_, fun j x p e o hp f => (by rw [cl.nf hp] at f; cases f), R.d3, fun j x e => ?_, fun p hp => ?_⟩
  · rcases get j x e with ⟨_, rfl⟩ | ⟨_, e⟩
    · cases o
    · refine ⟨(R1.own j x e o).1, fun z => ?_⟩
      exact R1.tdom (.inr (.inl ⟨j, x, e, o, z⟩)) hn
  · rcases get j x ej with ⟨_, rfl⟩ | ⟨_, ej'⟩
    · cases oj
    rcases get l u el with ⟨_, rfl⟩ | ⟨_, el'⟩
    · cases ol
    exact R1.d1 j l x u ej' el' oj ol
  · rcases set_get e with ⟨rfl, rfl, hl⟩ | ⟨ne, _⟩
    · show (σ.set j (some (.ref b)))[j]? = some (some (.ref b))
      rw [List.getElem?_set_self (by rw [R.len]; exact hl)]
    · rcases get j x e with ⟨h, _⟩ | ⟨_, e'⟩
      · exact absurd h ne
      · have q := (R1.sl j x e').gr gt g fun _ u q => hs _ _ q
        cases x with
        | box => exact absurd rfl (hall j _ e')
        | _ => exact q
  · have q := R1.tm p hp
    rcases cl p hp with ⟨d, e⟩ | ⟨d, e⟩
    · rw [e] at q ⊢; exact Rep.gr g _ _ q
    · rw [e] at q ⊢; exact Top.gr gt g q
theorem s_newbox {i : Nat} {f : List D → FO Unit (List D)} (F : FnOk X.prog X.w X.K X.mg X.base CX k fa fd ps (spF X.K md f)) (hr : Room k X.A) (hg : Gl X x) (hm : X.mg x = some (.ref fa)) (hk : PySem.W.keepIn X.K (.ref fa) = true) (hb : Binds X.K fd ps [])
    (hx : ∀ σ, PassesAt CX X σ (WE W0 σ)) (ha : PA X (a :: es) (tDs X.K boxW Wx ms)) (hN : X.N.Nodup) (hi : X.N[i]? = some y) (hy : Loc X.env.scope y) (hmd : md.any Md.isB = false := by rfl) (hdb : (x == ("__debug__" : Str)) = false := by decide) (he : starEach (a :: es) X.env = (false, eval a X.env) :: starEach es X.env := by rfl)
    (hpl : (backTo pc (starEach es X.env)).any (·.1) = false := by rfl) (hs : swapsWith (.Call (.Name x p) (a :: es) [] pc) (some (.Name y pos')) pos.line X.env = pure false := by rfl)
    (hf : X.fn y = true ∨ X.env.scope.names.lookup y = some .local := by first | exact .inl rfl | exact .inr rfl | assumption) :
    PS X (.Assign [.Name y pos'] (.Call (.Name x p) (a :: es) [] pc) pos) (tS X.K boxW Wx (mNewBox i md f ms)) := by
  refine PSimp (ps_set hN hi hy (pe_callSD (E := fun σ => WE W0 σ) F hr hg hm hk hb .nil hx ha hdb he hpl) hs hf) fun Dn σ H ⟨G, env, s, ts, R, cl, h⟩ => ?_
  refine ⟨G, env, s, ts, R, ?_⟩
  unfold mNewBox at h
  cases e : ms env s with
  | ex e' env1 s1 => rw [e] at h; exact fun dx H' q => h dx σ H' q
  | bad => rw [e] at h; exact h
  | ok ws env1 s1 =>
    rw [e] at h
    intro vs H1 hl ⟨ad, bv, bm, R1⟩
    rw [List.append_nil]
    dsimp only [Out.bindS] at h
    cases e2 : bindA env1 md ws with
    | none => simp only [e2] at h
    | some ds =>
      simp only [e2] at h
      refine ⟨_, ds, fun a => R1.avdom, (argsB R1 hl zip_in e2).pure hmd, ?_⟩
      cases e3 : f ds with
      | ex _ _ => simp only [e3] at h
      | bad => simp only [e3] at h
      | ok es u =>
        simp only [e3] at h
        intro b xs H2 same hn hb2 r
        have R2 := R1.pops
        match es, h with
        | [.int g, .int m, .int n], h =>
          dsimp only at h
          by_cases hc : (env1.set i Sl.no).all Sl.noBox = true
          · rw [if_pos hc] at h
            have ex : xs = [.int g, .int m, .int n] := by
              cases r with
              | cons r1 r =>
                cases r with
                | cons r2 r =>
                  cases r with
                  | cons r3 r =>
                    cases r; cases r1; cases r2; cases r3
                    rfl
            subst ex
            exact h _ _ ⟨ad, .ref b, _, R2.newbox (t := ⟨g, m, n⟩) cl same hn hb2 hc⟩
          · rw [if_neg hc] at h; exact h.elim
end
end LM

namespace LM
open PySem PySem.Spec PyProof.Rows L2

/-! ### the law's own call, whose around is known -/
theorem body_run {P : Program} {w : World} {K : PySem.W.Frag} {mg : Str → Option Value} {base : Heap} {k : Nat} {x qual : Str} {st : Stmt} {f : Addr} {fd : FuncData} {N ps : List Str} {A : Around} {outer : List Env} {sh : Shared} {Hh : Hp} {args : Args} {us : List Value} {vs : List V} {Q : VK}
    (F : Fun K x qual st f fd) (Sc : FnScope N ps (defScope st)) (room : Room (k + 1) A) (en : Env0 P w K mg base A outer sh Hh) (bnd : BindsTo sh fd args (ps.zip us)) (rel : Vals vs us) (hlen : vs.length = ps.length)
    (hbody : ∀ (cdv : Value) (E : XK), Room k (A.deeper (envOfC qual (defScope st) sh.heap.objs.size f cdv)) →
      ∃ t, PSs (cxOf CX0 P w K mg base N qual (defScope st) f cdv A outer sh Hh E).nox (defBody st) t ∧ t { nx := fun _ H' => Q .non H', rt := Q } (L2.start N vs) Hh) :
    codeAny (model P w) A (.call (.ref f) args) (CR CX0 outer P w Hh sh Q E0) sh := by
  obtain ⟨oc, od, kV, doc, pm, an, cdv, ct, osl, rfl, lk, hcd⟩ := F.ex
  have inK : K.In sh.heap := en.mod.kin.keeps fun b o e => (en.bs b o e).1
  have nolim : sh.heap.NoLimit := en.mod.nolimit.keeps fun b o e => (en.bs b o e).1
  have kinds : ∀ y ∈ ps.zip us, (defScope st).names.lookup y.1 = some .local ∨ ((defScope st).names.lookup y.1 = some .cell ∧ ((cellsFrom (sh.heap.objs.size + 1) (defScope st).names []).lookup y.1).isSome = true) := by
    rintro ⟨n, v⟩ hy
    rcases Sc.par n (List.of_mem_zip hy).1 with q | q
    · exact .inl q
    · exact .inr ⟨q, PySem.W.cellsFrom_some _ _ _ (.inl q)⟩
  refine codeAny_call_function room.depth (inK _ _ lk) rfl Sc.co Sc.gen rfl (PySem.W.codeRec_of inK hcd) (bnd _ _ _ _ ?_)
  refine wpAny_newFunctionEnv_cells Sc.kind kinds fun env ee sh1 call1 => ?_
  subst ee
  refine ⟨nolim.keeps call1.toInCall.keep, codeAny_func ?_⟩
  obtain ⟨t, runs, reads⟩ := hbody cdv E0 (room.deeper _)
  have J0 := inv_start (CX := CX0) (E := E0) Sc room.hd en hlen rel call1
  refine wpAny_mono (runs.nox.run [] sh1 (L2.start N vs) Hh _ J0 reads) (fun fl sh2 hs => ?_) fun e sh2 hs => hs
  have fin : ∀ {σ' : L2.St} {H' : Hp} {v : V} {u : Value}, Inv (cxOf CX0 P w K mg base N qual (defScope st) f cdv A outer sh Hh E0) [] σ' H' sh2 → RelV v u → Q v H' → CE outer P w Hh sh Q u sh2 := by
    intro σ' H' v u J rv q
    exact ⟨v, H', J.os, J.bare, J.base, J.hok, rv, q⟩
  cases fl with
  | next =>
    obtain ⟨σ', H', J, q⟩ := hs
    exact fin (v := V.non) (u := Value.none) J rfl q
  | ret u =>
    obtain ⟨v, σ', H', J, rv, q⟩ := hs
    exact fin J rv q
  | brk =>
    obtain ⟨_, _, _, q⟩ := hs
    exact False.elim q
  | cont =>
    obtain ⟨_, _, _, q⟩ := hs
    exact False.elim q
/-- what the law's body is to do: from the script's data it hands back True -/
def LawOk (m : MS (Option Bx)) (n : Nat) : Prop := ∀ ns : List Int, ns.length ≤ 63 → ∃ env s, m (env0 [.v] n [.lst (ns.map D.int)]) none = .rt (.bl true) env s
theorem reps_ints {K : PySem.W.Frag} {B : Addr → Prop} {Hh : Hp} : ∀ ns : List Int, Reps K B Hh (ns.map V.int) (ns.map D.int)
  | [] => .nil
  | n :: ns => .cons (.int n) (reps_ints ns)
theorem law_go {P : Program} {w : World} {K : PySem.W.Frag} {mg mb : Str → Option Value} {k : Nat} {fa a : Addr} {fd : FuncData} {qual : Str} {st : Stmt} {N : List Str} {x : Str} {m : MS (Option Bx)} {sh : Shared} {vs : List Value} {ns : List Int}
    (inK : K.In sh.heap) (hns : sh.heap.Ns mainGlobals mg) (hbl : sh.heap.Ns builtinsNs mb) (hbb : ∀ x : Str, x ≠ "__name__" → mb x = bootBuiltins x) (nolim : sh.heap.NoLimit) (hgens : sh.gens = #[])
    (ha : sh.heap.get? a = some { cls := .type "list", data := .seq vs.toArray }) (hi : IntsAre vs ns) (hl : ns.length ≤ 63) (room : Room (k + 1) callerA) (F : Fun K qual qual st fa fd) (Sc : FnScope N [x] (defScope st)) (bnd : ∀ (s : Shared) (u : Value), BindsTo s fd ⟨[u], []⟩ [(x, u)])
    (hbody : ∀ (base : Heap) (cdv : Value) (s : Shared) (H : Hp) (E : XK), K.In base → base.Ns mainGlobals mg → Room k (callerA.deeper (envOfC qual (defScope st) s.heap.objs.size fa cdv)) →
      PSs (cxOf CX0 P w K mg base N qual (defScope st) fa cdv callerA [] s H E).nox (defBody st) (tS K boxW W0 m)) (ok : LawOk m (N.length - 1)) :
    codeAny (model P w) callerA (.call (.ref fa) ⟨[.ref a], []⟩) (fun r s' => r = .ok (.ret (.bool true)) ∧ OldK sh.heap s'.heap ∧ s'.os = sh.os ∧ AllBare s'.gens) sh := by
  have rel := vals_ints hi
  have lenV := hi.length
  have h63 : ns.length ≤ sizeLine := by rw [sizeLine_eq]; omega
  have hN : 1 ≤ N.length := by have := congrArg List.length Sc.pre; rw [List.length_take] at this; simp at this; omega
  have main : ∀ H : Hp, Only H → (Rd H a (.lst (ns.map V.int)) ∨ WrL K a (ns.map V.int)) → HOk P w H sh.heap → (∀ b, H b ≠ none → b = a) → (H a ≠ none → K.lookup a = none) →
      codeAny (model P w) callerA (.call (.ref fa) ⟨[.ref a], []⟩) (fun r s' => r = .ok (.ret (.bool true)) ∧ OldK sh.heap s'.heap ∧ s'.os = sh.os ∧ AllBare s'.gens) sh := by
    intro H only seq hok onlyA notK
    have noDict : ∀ {b : Addr} {o : Obj} {es : Array DictEntry} {ep : Nat}, sh.heap.get? b = some o → o.data = .dict es ep → H b = none := by
      intro b o es ep e d
      cases q : H b with
      | none => rfl
      | some u =>
        obtain rfl : b = a := onlyA b (by rw [q]; simp)
        rw [ha] at e; cases e
        cases (show Data.seq vs.toArray _ = Data.dict es ep from d)
    have nsK : ∀ {b : Addr} {m : Str → Option Value}, sh.heap.Ns b m → (hidT sh.heap H).Ns b m := by
      rintro b m ⟨o, es, ep, e, d, r⟩
      exact ⟨o, es, ep, hidT_get e (noDict e d), d, r⟩
    have inB : K.In (hidT sh.heap H) := fun b o e => hidT_get (inK b o e) (by
      cases q : H b with
      | none => rfl
      | some u =>
        obtain rfl : b = a := onlyA b (by rw [q]; simp)
        rw [notK (by rw [q]; simp)] at e; cases e)
    have mod : Mod K mg (hidT sh.heap H) := ⟨inB, nsK hns, ⟨mb, nsK hbl, hbb⟩, let ⟨mc, h1, h2⟩ := nolim; ⟨mc, nsK h1, h2⟩⟩
    have en : Env0 P w K mg (hidT sh.heap H) callerA [] sh H := ⟨rfl, mod, fun b o e => of_hidT e, Nat.le_of_eq (hidT_size _ _), trivial, fun b hb => (nomatch hb), hok, .of_eq hgens⟩
    obtain ⟨env1, s1, res⟩ := ok ns hl
    refine codeAny_mono (body_run (Q := fun v _ => v = .bl true) (vs := [.ref a]) (us := [.ref a]) (ps := [x]) F Sc room en (bnd sh (.ref a)) (.cons rfl .nil) rfl fun cdv E r => ?_) fun r s' h => ?_
    · refine ⟨_, hbody _ cdv sh H E inB (nsK hns) r, ⟨fun _ => False, fun _ => False, H, .non⟩, env0 [.v] (N.length - 1) [.lst (ns.map D.int)], none, [], ?_, Cl.nil, ?_⟩
      · have hs : ArgsR K (fun _ => False) (fun _ => False) H .non [.v] [.ref a] [.lst (ns.map D.int)] := by
          refine .v ?_ .nil
          rcases seq with seq | seq
          · exact .lst (fun z => z) seq (reps_ints ns)
          · exact .wlst seq (reps_ints ns)
        exact er_start (I := boxW) (s := none) (bm := fun _ => False) (bv := .non) (N := N) (vs := [.ref a]) hN (fun _ h => h) (fun _ h => h.elim) (fun _ h => h) hs
      · rw [res]
        intro v σ' H' ⟨ad, bv, bm, R⟩
        have q : Rep K _ H' v (.bl true) := R.tm _ List.mem_cons_self
        cases q
        rfl
    · cases r with
      | error e => exact False.elim h
      | ok fl =>
        cases fl with
        | next => exact False.elim h
        | brk => exact False.elim h
        | cont => exact False.elim h
        | ret u =>
          obtain ⟨v, H', os, bare, un, hok', r', q⟩ := h
          obtain rfl : v = .bl true := q
          obtain rfl : u = Value.bool true := r'
          refine ⟨rfl, OldK.of_keep fun b o e => ?_, os, bare⟩
          cases q : H b with
          | none => exact un.keep b o e q (fun z => nomatch z) (fun z => nomatch z)
          | some u =>
            rcases only b with z | ⟨ob, xs, z⟩
            · rw [q] at z; cases z
            · obtain ⟨e1, _⟩ := hok b _ z
              obtain ⟨e2, _⟩ := hok' b _ (un.frzs b ob _ z)
              rw [e] at e1; cases e1
              exact e2
  cases hk : K.lookup a with
  | some o =>
    have e := inK a o hk
    rw [ha] at e
    cases e
    exact main (fun _ => none) (fun _ => .inl rfl) (.inr ⟨vs.toArray, _, hk, by rw [List.size_toArray, lenV]; exact h63, by simpa using rel⟩) (fun b u z => nomatch (show (none : Option HO) = some u from z)) (fun b z => absurd rfl z) fun z => absurd rfl z
  | none =>
    have at_ : ∀ {b : Addr} {u : HO}, (if b = a then some (HO.frz { cls := .type "list", data := .seq vs.toArray } (.lst (ns.map V.int))) else none) = some u → b = a ∧ u = HO.frz { cls := .type "list", data := .seq vs.toArray } (.lst (ns.map V.int)) := by
      intro b u z
      by_cases hb : b = a
      · rw [if_pos hb] at z; cases z; exact ⟨hb, rfl⟩
      · rw [if_neg hb] at z; cases z
    refine main (fun b => if b = a then some (.frz { cls := .type "list", data := .seq vs.toArray } (.lst (ns.map V.int))) else none) (fun b => ?_) (.inl (.inr ⟨{ cls := .type "list", data := .seq vs.toArray }, if_pos rfl⟩)) (fun b u z => ?_) (fun b z => ?_) fun _ => hk
    · by_cases hb : b = a
      · exact .inr ⟨_, _, if_pos hb⟩
      · exact .inl (if_neg hb)
    · obtain ⟨rfl, rfl⟩ := at_ z
      exact ⟨ha, by rw [List.length_map]; exact h63, vs, _, rel, ha⟩
    · by_cases hb : b = a
      · exact hb
      · exact absurd (if_neg hb) z
/-- THE END: the goal that the head leaves -/
theorem walk_law {l : PySem.W.OpenLaw} {k : Nat} {q : Program} {loose : List Str} {XP : (Str → Option Value) → Heap → Prop} {YP : World → Heap → Prop} {d : DefRec} {K : Params → PySem.W.Frag} {st : Stmt} {N : List Str} {x : Str}
    (hn : l.most = some 63) (hdf : d.params.defaults = []) (room : Room (k + 1) callerA) (hY : ∀ (w : World) (h : Heap), YP w h → (K w.params).In h) (Sc : FnScope N [x] (defScope st))
    (F : ∀ (w : World) (mg : Str → Option Value) (fa : Addr) (h : Heap), (K w.params).In h → h.Ns mainGlobals mg → mg d.name = some (.ref fa) →
      ∃ (fd : FuncData) (m : MS (Option Bx)) (qual : Str), Fun (K w.params) qual qual st fa fd ∧ (∀ (s : Shared) (u : Value), BindsTo s fd ⟨[u], []⟩ [(x, u)]) ∧ LawOk m (N.length - 1) ∧
        ∀ (base : Heap) (cdv : Value) (s : Shared) (H : Hp) (E : XK), (K w.params).In base → base.Ns mainGlobals mg → Room k (callerA.deeper (envOfC qual (defScope st) s.heap.objs.size fa cdv)) →
          PSs (cxOf CX0 l.prog w (K w.params) mg base N qual (defScope st) fa cdv callerA [] s H E).nox (defBody st) (tS (K w.params) boxW W0 m)) :
    PySem.W.WalkO q loose XP YP l.row.toRowW d [] (fun f vs => PySem.call f vs) := by
  refine Att.attach_call hn hdf fun w s0 s1 mg mb fa o pm cd doc a vs ns G Y ho hd hcd hmg hobj hints hlen hg => ?_
  have inK := hY w _ Y
  obtain ⟨fd, m, qual, Ff, bnd, ok, hbody⟩ := F w mg fa _ inK G.T.g hmg
  exact law_go inK G.T.g G.T.b G.T.builtins G.T.nolimit hg hobj hints hlen room Ff Sc bnd hbody ok
end LM

namespace LM
open PySem L2
section
variable {S : Type} {X : Cx} {I : BoxI S} {Wx : WX} {a b c : Expr} {pos : Pos} {ma mb mc : MX S W}
theorem chain_red {op op' : CmpOp} {r r' : R2} {f g : D → D → Option Rs} (df : DOp X.K r f) (dg : DOp X.K r' g) {σ : L2.St} {H : Hp} {Q : VK} (h : tD X.K I Wx (mChain f g ma mb mc) σ H Q) : L2.tChain r r' (tD X.K I Wx ma) (tD X.K I Wx mb) (tD X.K I Wx mc) σ H Q := by
  obtain ⟨G, env, s, ts, R, h⟩ := h
  refine tD_bind (Z := ZD X.K I Wx G ts σ Q) R h (fun _ _ _ z => z) (fun z => z) fun w env1 s1 x H1 _ R1 z1 => ?_
  refine tD_bind (Z := ZD X.K I Wx G ts σ Q) R1 z1 (fun _ _ _ z dx H' q => z dx H' (q.less sl1)) (fun z => z) fun u env2 s2 y H2 _ R2 z2 => ?_
  cases e1 : w.rd env2 with
  | none => simp only [e1] at z2; exact z2.elim
  | some d =>
    cases e2 : u.rd env2 with
    | none => simp only [e1, e2] at z2; exact z2.elim
    | some e =>
      simp only [e1, e2] at z2
      obtain ⟨ad, bv, bm, R3⟩ := id R2
      cases e3 : f d e with
      | none => simp only [e3] at z2; exact z2.elim
      | some res =>
        simp only [e3] at z2
        refine df _ H2 x y d e res _ (R3.rd (p := (x, w)) (.tail _ List.mem_cons_self) e1) (R3.rd (p := (y, u)) List.mem_cons_self e2) (fun a => R3.avdom) e3 ?_
        cases res with
        | f ds => exact z2.elim
        | v k =>
          cases k with
          | bl k =>
            intro v H3 hs rep
            cases rep
            refine ⟨k, rfl, ?_⟩
            have R4 := R3.same hs
            cases k with
            | false => exact iteF (z2 _ H3 ⟨ad, bv, bm, (R4.less sl2).pushV (.bl _)⟩)
            | true =>
              refine iteT (tD_bind (Z := ZD X.K I Wx G ts σ Q) ⟨ad, bv, bm, R4⟩ z2 (fun _ _ _ z dx H' q => z dx H' (q.less sl2)) (fun z => z) fun h env5 s5 t H5 _ R5 z5 => ?_)
              exact op_fin dg (R5.less (.cons_cons _ (.cons_cons _ sl1))) z5
          | _ => exact z2.elim
theorem t_chain {op op' : CmpOp} {r r' : R2} {f g : D → D → Option Rs} (ho : OpR X (compareOp op) r) (df : DOp X.K r f) (ho' : OpR X (compareOp op') r') (dg : DOp X.K r' g) (ha : PE X a (tD X.K I Wx ma)) (hb : PE X b (tD X.K I Wx mb)) (hc : PE X c (tD X.K I Wx mc))
    (hm : lastMarks [op, op'] [b, c] = false := by with_unfolding_all rfl) : PT X (.Compare a [op, op'] [b, c] pos) (LM.tB X.K I Wx (mTest (mChain f g ma mb mc))) := by
  refine PTimp (pt_chain ho ho' ha hb hc hm) fun σ H Q ⟨G, env, s, ts, R, h⟩ => ?_
  exact chain_red (op := op) (op' := op') df dg (test_of R h)
theorem pass0At {X : Cx} (σ : L2.St) {E : XK} : PassesAt CX0 X σ E := fun _ _ _ _ _ _ h => h.elim
/-- list + list -/
def rCatG (K : PySem.W.Frag) : R2 := fun x y H Q => ∃ l b xs zs, x = .ref l ∧ y = .ref b ∧ (Rd H l (.lst xs) ∨ WrL K l xs) ∧ (Rd H b (.lst zs) ∨ WrL K b zs) ∧ xs.length + zs.length ≤ sizeLine ∧ ∀ p, H p = none → Q (.ref p) (upd H p (.lst (xs ++ zs)))
theorem lst_obj {X : Cx} {pins : List (Addr × Obj)} {σ : L2.St} {H : Hp} {s : Shared} {l : Addr} {xs : List V} (J : Inv X pins σ H s) (h : Rd H l (.lst xs) ∨ WrL X.K l xs) : ∃ (its : List Value) (n : Nat), Vals xs its ∧ s.heap.get? l = some { cls := .type "list", data := .seq its.toArray n } := by
  rcases h with h | ⟨its, n, e, _, r⟩
  · obtain ⟨z, its, n, r, e⟩ := h.ok J.hok
    exact ⟨its, n, r, e⟩
  · refine ⟨its.toList, n, r, ?_⟩
    have := J.kIn l _ e
    simpa using this
theorem op_catG {X : Cx} : OpR X (binaryOp .Add) (rCatG X.K) := by
  intro pins s σ H x y v u Q J rx ry ⟨l, b, xs, zs, e1, e2, hH, hB, hz, q⟩
  subst e1 e2
  cases rx
  cases ry
  obtain ⟨its, n, r, e⟩ := lst_obj J hH
  obtain ⟨its2, n2, r2, e2⟩ := lst_obj J hB
  have l1 := r.length
  have l2 := r2.length
  refine PySem.P.add_list e e2 ?_ (by rw [List.size_toArray, List.size_toArray]; omega)
  rw [show its.toArray ++ its2.toArray = (its ++ its2).toArray by simp]
  exact ⟨.ref _, _, J.lnew (t' := s.toks) (r.append r2) (by rw [List.length_append]; omega), rfl, q _ J.fresh⟩
theorem Top.lstG {K : PySem.W.Frag} {T B : Addr → Prop} {H : Hp} {v : V} {ds : List D} (h : Top K T B H v (.lst ds)) : ∃ a xs, v = .ref a ∧ (Rd H a (.lst xs) ∨ WrL K a xs) ∧ Reps K B H xs ds := by
  rcases h with h | ⟨a, xs, es, rfl, e, _, r, q⟩
  · cases h with
    | lst n r q => exact ⟨_, _, rfl, .inl r, q⟩
    | wlst r q => exact ⟨_, _, rfl, .inr r, q⟩
  · cases e
    exact ⟨a, xs, rfl, .inl r, q⟩
theorem do_cat {K : PySem.W.Frag} : DOp K (rCatG K) fCat := by
  intro B H x y d e res Q hx hy _ h q
  cases d <;> cases e <;> try (cases h; done)
  rename_i ds es
  simp only [fCat] at h
  split at h
  · rename_i hl
    cases h
    obtain ⟨l, xs, e1, r1, q1⟩ := hx.lstG
    obtain ⟨b, zs, e2, r2, q2⟩ := hy.lstG
    exact ⟨l, b, xs, zs, e1, e2, r1, r2, by rw [q1.len, q2.len, sizeLine_eq]; exact hl, fun p hp => q p _ hp (q1.app q2)⟩
  · cases h
end
end LM

namespace LM
open PySem L2

/-! ### two names at once -/
def W.sl : W → Option Sl
  | .v d => some (.val d)
  | .t d => some (.top d)
  | .f ds => some (.own ds)
  | _ => none
def Nl (ts : List (V × W)) : Prop := ∀ p ∈ ts, ∀ i, p.2 ≠ .l i
section
variable {S : Type} {K : PySem.W.Frag} {I : BoxI S} {G : Gh} {ad : Nat → Addr} {bv : V} {bm : Addr → Prop} {env : List Sl} {s s' : S} {ts ts' : List (V × W)} {σ : St} {H H' : Hp}
theorem ERa.putNl {x : Sl} {i : Nat} {v : Option V} (R : ERa K I G ad bv bm env s ts σ H) (cl : Nl ts) (nx : x.isOwn = false) (h : SlR K (Tv bm ad env ts) (Bv G bm ad env ts) bv H (ad i) (some v) x) : ERa K I G ad bv bm (env.set i x) s ts (σ.set i v) H := by
  have go : ∀ a, Ow ad (env.set i x) ts a → Ow ad env ts a := fun a z => z.imp (fun ⟨j, y, e, o, q⟩ => by
    rcases set_get e with ⟨_, rfl, _⟩ | ⟨_, e⟩
    · rw [nx] at o; cases o
    · exact ⟨j, y, e, o, q⟩) fun q => q
  have gt : Gr (Tv bm ad env ts) (Tv bm ad (env.set i x) ts) H H := .sub fun a z => z.imp (fun q => q) (go a)
  have g : Gr (Bv G bm ad env ts) (Bv G bm ad (env.set i x) ts) H H := .sub fun a z => z.imp (fun q => q) fun z => z.imp (fun q => q) (go a)
  refine ⟨by rw [List.length_set, List.length_set]; exact R.len, R.ext, R.dom, R.box, R.bfr, R.bdom, fun j y e o => ?_, R.tow, fun j k y z ej ek oj ok => ?_, fun j y p e o => ?_, R.d3, fun j y e => ?_, fun p hp => ?_⟩
  · rcases set_get e with ⟨_, rfl, _⟩ | ⟨_, e⟩
    · rw [nx] at o; cases o
    · exact R.own j y e o
  · rcases set_get ej with ⟨_, rfl, _⟩ | ⟨_, ej⟩
    · rw [nx] at oj; cases oj
    rcases set_get ek with ⟨_, rfl, _⟩ | ⟨_, ek⟩
    · rw [nx] at ok; cases ok
    exact R.d1 j k y z ej ek oj ok
  · rcases set_get e with ⟨_, rfl, _⟩ | ⟨_, e⟩
    · rw [nx] at o; cases o
    · exact R.d2 j y p e o
  · rcases set_get e with ⟨rfl, rfl, hl⟩ | ⟨ne, e⟩
    · rw [List.getElem?_set_self (by rw [R.len]; exact hl)]
      exact h.gr gt g fun _ _ q => q
    · rw [List.getElem?_set_ne (Ne.symm ne)]
      exact (R.sl j y e).gr gt g fun _ _ q => q
  · exact (R.tm p hp).gr gt g (fun _ _ _ _ q => q) fun j y e _ _ => absurd e (cl p hp j)
theorem ERa.putFNl {ds : List D} {i : Nat} {v : V} (R : ERa K I G ad bv bm env s ((v, .f ds) :: ts) σ H) (cl : Nl ts) : ∃ ad', ERa K I G ad' bv bm (env.set i (.own ds)) s ts (σ.set i (some v)) H := by
  obtain ⟨a, xs, e, e1, r⟩ := R.tm _ List.mem_cons_self
  obtain rfl : v = .ref a := e
  obtain ⟨h0, hb⟩ := R.tow _ List.mem_cons_self rfl a rfl
  refine ⟨fun j => if j = i then a else ad j, ?_⟩
  have go : ∀ b, Ow (fun j => if j = i then a else ad j) (env.set i (.own ds)) ts b → Ow ad env ((.ref a, .f ds) :: ts) b := fun b z => by
    rcases z with ⟨j, y, e, o, q⟩ | ⟨p, hp, q⟩
    · rcases set_get e with ⟨rfl, rfl, _⟩ | ⟨ne, e⟩
      · exact .inr ⟨_, List.mem_cons_self, rfl, by rw [← q]; simp⟩
      · exact .inl ⟨j, y, e, o, by rw [← q]; simp [ne]⟩
    · exact .inr ⟨p, List.mem_cons_of_mem _ hp, q⟩
  have gt : Gr (Tv bm ad env ((.ref a, .f ds) :: ts)) (Tv bm (fun j => if j = i then a else ad j) (env.set i (.own ds)) ts) H H := .sub fun b z => z.imp (fun q => q) (go b)
  have g : Gr (Bv G bm ad env ((.ref a, .f ds) :: ts)) (Bv G bm (fun j => if j = i then a else ad j) (env.set i (.own ds)) ts) H H := .sub fun b z => z.imp (fun q => q) fun z => z.imp (fun q => q) (go b)
  refine ⟨by rw [List.length_set, List.length_set]; exact R.len, R.ext, R.dom, R.box, R.bfr, R.bdom, fun j y e o => ?_, fun p hp => R.tow p (List.mem_cons_of_mem _ hp), fun j k y z ej ek oj ok q => ?_, fun j y p e o hp f => ?_, (List.pairwise_cons.mp R.d3).2, fun j y e => ?_, fun p hp => ?_⟩
  · rcases set_get e with ⟨rfl, rfl, _⟩ | ⟨ne, e⟩
    · simp only [if_pos]; exact ⟨h0, hb⟩
    · simp only [if_neg ne]; exact R.own j y e o
  · rcases set_get ej with ⟨rfl, rfl, _⟩ | ⟨nj, ej'⟩
    · rcases set_get ek with ⟨rfl, rfl, _⟩ | ⟨nk, ek'⟩
      · rfl
      · simp only [if_pos, if_neg nk] at q
        exact absurd (by rw [q]) (R.d2 k z _ ek' ok List.mem_cons_self rfl)
    · rcases set_get ek with ⟨rfl, rfl, _⟩ | ⟨nk, ek'⟩
      · simp only [if_pos, if_neg nj] at q
        exact absurd (by rw [q]) (R.d2 j y _ ej' oj List.mem_cons_self rfl)
      · simp only [if_neg nj, if_neg nk] at q
        exact R.d1 j k y z ej' ek' oj ok q
  · rcases set_get e with ⟨rfl, rfl, _⟩ | ⟨ne, e⟩
    · simp only [if_pos]
      exact fun z => (List.pairwise_cons.mp R.d3).1 p hp rfl f z.symm
    · simp only [if_neg ne]
      exact R.d2 j y p e o (List.mem_cons_of_mem _ hp) f
  · rcases set_get e with ⟨rfl, rfl, hl⟩ | ⟨ne, e⟩
    · rw [List.getElem?_set_self (by rw [R.len]; exact hl)]
      exact ⟨by simp, xs, by simpa using e1, r.gr g⟩
    · rw [List.getElem?_set_ne (Ne.symm ne)]
      simp only [if_neg ne]
      exact (R.sl j y e).gr gt g fun _ _ q => q
  · have q := R.tm p (List.mem_cons_of_mem _ hp)
    obtain ⟨v, w⟩ := p
    cases w with
    | v d => exact Rep.gr g _ _ q
    | t d => exact Top.gr gt g q
    | l j => exact absurd rfl (cl _ hp j)
    | f es => obtain ⟨b, ys, e2, e3, r2⟩ := q; exact ⟨b, ys, e2, e3, r2.gr g⟩
    | b => exact q
theorem ERa.putW {w : W} {x : Sl} {i : Nat} {v : V} (R : ERa K I G ad bv bm env s ((v, w) :: ts) σ H) (cl : Nl ts) (e : w.sl = some x) : ∃ ad', ERa K I G ad' bv bm (env.set i x) s ts (σ.set i (some v)) H := by
  have cons : ∀ {u : W}, (∀ j, u ≠ .l j) → Nl ((v, u) :: ts) := fun h p hp => by
    rcases List.mem_cons.mp hp with rfl | hp
    · exact h
    · exact cl p hp
  cases w with
  | v d =>
    cases e
    have r : Rep K (Bv G bm ad env ((v, .v d) :: ts)) H v d := R.tm _ List.mem_cons_self
    exact ⟨ad, (R.putNl (x := .val d) (cons fun j z => by cases z) rfl ⟨v, rfl, r⟩).pop⟩
  | t d =>
    cases e
    have r : Top K (Tv bm ad env ((v, .t d) :: ts)) (Bv G bm ad env ((v, .t d) :: ts)) H v d := R.tm _ List.mem_cons_self
    exact ⟨ad, (R.putNl (x := .top d) (cons fun j z => by cases z) rfl ⟨v, rfl, r⟩).pop⟩
  | f ds => cases e; exact R.putFNl cl
  | _ => cases e
theorem Cl.toNl (c : Cl ts) : Nl ts := fun p hp i => c.nl hp i
theorem W.sl_nl {w : W} {x : Sl} (e : w.sl = some x) (i : Nat) : w ≠ .l i := fun z => by subst z; cases e
end
theorem pass0W {X : Cx} (σ : L2.St) : PassesAt CX0 X σ (WE W0 σ) := pass0At σ
def mPar {S : Type} (i j : Nat) (m n : MX S W) : MS S := fun env s => (m env s).bindS fun w env s => (n env s).bindS fun u env s => match w.sl, u.sl with
  | some x, some y => .nx ((env.set i x).set j y) s
  | _, _ => .bad
def mIS {S : Type} (ma : MX S W) : MX S (List D) := ma.bind fun w => fun env s => match w with
  | .v (.str x) => .ok (x.cps.toList.map fun c => .str ⟨#[c]⟩) env s
  | _ => .bad
section
variable {S : Type} {X : Cx} {I : BoxI S} {Wx : WX} {a b tg : Expr} {pos px py pt pt2 : Pos} {ma mb : MX S W} {kt k2 : Nat}
theorem s_par {i j : Nat} {x y : Str} (hc : X.calm = true) (hN : X.N.Nodup) (hi : X.N[i]? = some x) (hj : X.N[j]? = some y) (hij : i ≠ j)
    (hx : X.env.scope.names.lookup x = some .local) (hy : X.env.scope.names.lookup y = some .local) (ha : PE X a (tD X.K I Wx ma)) (hb : PE X b (tD X.K I Wx mb))
    (hw : swappedStores [.Tuple [.Name x px, .Name y py] kt pt] (.Tuple [a, b] k2 pt2) X.env = pure (some [x, y]) := by rfl)
    (hs : swapsWithSole [.Tuple [.Name x px, .Name y py] kt pt] (.Tuple [a, b] k2 pt2) pos.line X.env = pure false := by rfl)
    (h1 : starEach [a, b] X.env = (false, eval a X.env) :: starEach [b] X.env := by rfl) (h2 : starEach [b] X.env = (false, eval b X.env) :: starEach [] X.env := by rfl) :
    PS X (.Assign [.Tuple [.Name x px, .Name y py] kt pt] (.Tuple [a, b] k2 pt2) pos) (tS X.K I Wx (mPar i j ma mb)) := by
  refine PSimp (ps_par hc hN hi hj hij hx hy (a_cons ha (a_cons hb a_nil h2) h1) hw hs) fun Dn σ H ⟨G, env, s, ts, R, cl, h⟩ => ?_
  refine ⟨G, env, s, ts, R, ?_⟩
  have h : ZS X.K I Wx G ts Dn (mPar i j ma mb env s) := h
  simp only [mPar, Out.bindS] at h
  simp only [mCons, mNil, MX.bind, Out.bind]
  cases e : ma env s with
  | bad => simp only [e] at h; exact h.elim
  | ex x env' s' => simp only [e] at h ⊢; exact fun dx H' R' => h dx σ H' R'
  | ok w env1 s1 =>
    simp only [e] at h ⊢
    cases e2 : mb env1 s1 with
    | bad => simp only [e2] at h; exact h.elim
    | ex x env' s' => simp only [e2] at h ⊢; exact fun dx H' R' => h dx σ H' R'
    | ok u env2 s2 =>
      simp only [e2] at h ⊢
      intro vs H1 hl R1
      obtain ⟨v1, v2, rfl⟩ : ∃ v1 v2, vs = [v1, v2] := by
        match vs, hl with
        | [v1, v2], _ => exact ⟨_, _, rfl⟩
      refine ⟨v1, v2, rfl, ?_⟩
      obtain ⟨ad, bv, bm, R2⟩ := R1
      cases f1 : w.sl with
      | none => simp only [f1] at h; exact h.elim
      | some x1 =>
        cases f2 : u.sl with
        | none => simp only [f1, f2] at h; exact h.elim
        | some y1 =>
          simp only [f1, f2] at h
          have R2 : ERa X.K I G ad bv bm env2 s2 ((v1, w) :: (v2, u) :: ts) σ H1 := R2
          obtain ⟨ad1, R3⟩ := R2.putW (i := i) (fun p hp k => by
            rcases List.mem_cons.mp hp with rfl | hp
            · exact W.sl_nl f2 k
            · exact cl.toNl p hp k) f1
          obtain ⟨ad2, R4⟩ := R3.putW (i := j) cl.toNl f2
          exact h _ _ ⟨ad2, bv, bm, R4⟩
theorem s_doc {x : Str} {k : Nat} {pos' : Pos} : PS X (.Expr (.Constant (.str x) k pos) pos') (tS X.K I Wx (mNext (S := S))) := PSimp ps_doc fun Dn σ H ⟨G, env, s, ts, R, cl, h⟩ => h σ H R
theorem wk_str {K : PySem.W.Frag} {G : Gh} {ts : List (V × W)} {x : Str} : Wk K I G ts [] (Its x) (x.cps.toList.map fun c => .str ⟨#[c]⟩) := by
  refine ⟨fun q hq => (nomatch hq), fun env s l σ H i R hi => ?_, fun env s l σ H i d R hd => ?_⟩
  · show x.cps.size ≤ i
    rw [hi]; simp
  · rw [List.getElem?_map] at hd
    cases e : x.cps.toList[i]? with
    | none => rw [e] at hd; cases hd
    | some c =>
      rw [e] at hd
      cases hd
      have hi : i < x.cps.size := by
        have := (List.getElem?_eq_some_iff.mp e).1
        simpa using this
      refine ⟨hi, fun v H' ⟨e1, c', e2, e3⟩ => ?_⟩
      subst e1 e3
      have ec : c' = c := by
        rw [← Array.getElem?_toList, e] at e2
        exact (Option.some.inj e2).symm
      subst ec
      obtain ⟨ad, bv, bm, R⟩ := R
      exact ⟨ad, bv, bm, R.pushV (.str _)⟩
theorem i_str (ha : PE X a (tD X.K I Wx ma)) : PI X tg a (tI X.K I Wx (mIS ma)) := by
  refine PIimp (pi_str ha) fun σ H R0 ⟨G, env, s, ts, R, h⟩ => ?_
  show tD X.K I Wx ma σ H _
  refine ⟨G, env, s, ts, R, ?_⟩
  cases e : ma env s with
  | ex e' env1 s1 =>
    simp only [mIS, MX.bind, Out.bind, e] at h
    exact h
  | bad => simp only [mIS, MX.bind, Out.bind, e] at h
  | ok w env1 s1 =>
    simp only [mIS, MX.bind, Out.bind, e] at h
    intro v H1 R1
    cases w with
    | v d =>
      cases d with
      | str x =>
        simp only at h
        obtain ⟨ad, bv, bm, R2⟩ := id R1
        have q : Rep X.K _ H1 v (.str x) := R2.tm _ List.mem_cons_self
        cases q
        exact ⟨x, rfl, h (Its x) [] H1 R1.pop wk_str⟩
      | _ => exact h.elim
    | _ => exact h.elim
end
end LM

namespace LM
open PySem L2
theorem W.rd_v (env : List Sl) (d : D) : W.rd env (.v d) = some d := rfl
theorem W.rd_t (env : List Sl) (d : D) : W.rd env (.t d) = some d := rfl
theorem W.rd_f (env : List Sl) (ds : List D) : W.rd env (.f ds) = some (.lst ds) := rfl
theorem W.rd_l (env : List Sl) (i : Nat) : W.rd env (.l i) = match env[i]? with
    | some (.own ds) => some (.lst ds)
    | some (.fz ds) => some (.lst ds)
    | _ => none := rfl
theorem W.kp_v (d : D) : W.kp (.v d) = some d := rfl
theorem Rs.w_v (d : D) : Rs.w (.v d) = .v d := rfl
theorem Rs.w_f (ds : List D) : Rs.w (.f ds) = .f ds := rfl
theorem resO_some {S : Type} (env : List Sl) (s : S) (r : Rs) : resO env s (some r) = .ok r.w env s := rfl
end LM

namespace LM
open PySem L2
/-! ### the mirrors, step by step -/
section
variable {S : Type} {env e1 e2 : List Sl} {s s1 s2 : S} {m n : MS S} {me : MX S W} {mc : MX S Bool} {mi : MX S (List D)} {ms : MX S (List W)} {d : D} {ds : List D} {i : Nat} {g : D → List Sl → Option (List Sl)} {body : MS S}
theorem seq_nx (h : m env s = .nx e1 s1) : mSeq m n env s = n e1 s1 := by simp [mSeq, h]
theorem seq_rt (h : m env s = .rt d e1 s1) : mSeq m n env s = .rt d e1 s1 := by simp [mSeq, h]
theorem set_v (h : me env s = .ok (.v d) e1 s1) : mSet i me env s = .nx (e1.set i (.val d)) s1 := by simp [mSet, Out.bindS, h]
theorem set_f (h : me env s = .ok (.f ds) e1 s1) : mSet i me env s = .nx (e1.set i (.own ds)) s1 := by simp [mSet, Out.bindS, h]
theorem ret_v (h : me env s = .ok (.v d) e1 s1) : mRet me env s = .rt d e1 s1 := by simp [mRet, Out.bindS, h, W.kp]
theorem ret_f (h : me env s = .ok (.f ds) e1 s1) : mRet me env s = .rf ds e1 s1 := by simp [mRet, Out.bindS, h]
theorem if_t (h : mc env s = .ok true e1 s1) : mIf mc m n env s = m e1 s1 := by simp [mIf, Out.bindS, h]
theorem if_f (h : mc env s = .ok false e1 s1) : mIf mc m n env s = n e1 s1 := by simp [mIf, Out.bindS, h]
theorem exp_w {w : W} (h : me env s = .ok w e1 s1) : mExp me env s = .nx e1 s1 := by simp [mExp, Out.bindS, h]
theorem for_x {xs : List D} (h : mi env s = .ok xs e1 s1) : mFor mi g body env s = mForL g body xs e1 s1 := by simp [mFor, Out.bindS, h]
/-- what each turn keeps, the walk keeps -/
theorem forL_inv {L : List D} (P : List Sl → S → Prop) (step : ∀ d ∈ L, ∀ env s, P env s → ∃ e1 e2 s2, g d env = some e1 ∧ body e1 s = .nx e2 s2 ∧ P e2 s2) : ∀ env s, P env s → ∃ e1 s1, mForL g body L env s = .nx e1 s1 ∧ P e1 s1 := by
  induction L with
  | nil => exact fun env s h => ⟨env, s, rfl, h⟩
  | cons d L ih =>
    intro env s h
    obtain ⟨a, b, s2, h1, h2, h3⟩ := step d List.mem_cons_self env s h
    obtain ⟨c, s3, h4, h5⟩ := ih (fun d hd => step d (List.mem_cons_of_mem _ hd)) b s2 h3
    exact ⟨c, s3, by simp only [mForL, h1, h2]; exact h4, h5⟩
/-- .. with the turns that are left -/
theorem forL_cnt {L : List D} (P : Nat → List Sl → S → Prop) (step : ∀ k, ∀ d ∈ L, ∀ env s, P (k + 1) env s → ∃ e1 e2 s2, g d env = some e1 ∧ body e1 s = .nx e2 s2 ∧ P k e2 s2) : ∀ k env s, P (k + L.length) env s → ∃ e1 s1, mForL g body L env s = .nx e1 s1 ∧ P k e1 s1 := by
  induction L with
  | nil => exact fun k env s h => ⟨env, s, rfl, h⟩
  | cons d L ih =>
    intro k env s h
    obtain ⟨a, b, s2, h1, h2, h3⟩ := step (k + L.length) d List.mem_cons_self env s (by rw [List.length_cons] at h; exact h)
    obtain ⟨c, s3, h4, h5⟩ := ih (fun k d hd => step k d (List.mem_cons_of_mem _ hd)) k b s2 h3
    exact ⟨c, s3, by simp only [mForL, h1, h2]; exact h4, h5⟩
theorem comp_inv {vs : List Nat} {mt : MX S Bool} {P : S → Prop} {Q : D → Prop} {L : List D} (e0 : List Sl)
    (step : ∀ d ∈ L, ∀ s, P s → ∃ e1 e2 e3 s2 s3 w x, g d e0 = some e1 ∧ mt e1 s = .ok true e2 s2 ∧ me e2 s2 = .ok w e3 s3 ∧ w.kp = some x ∧ nonref vs e3 = true ∧ wipeE e3 vs = e0 ∧ P s3 ∧ Q x) :
    ∀ acc s, P s → acc.length + L.length ≤ 16777216 → ∃ ys s1, mCompL vs g mt me L acc e0 s = .ok (.f (acc ++ ys)) e0 s1 ∧ ys.length = L.length ∧ (∀ y ∈ ys, Q y) ∧ P s1 := by
  induction L with
  | nil => exact fun acc s h _ => ⟨[], s, by rw [List.append_nil]; rfl, rfl, fun _ h => (nomatch h), h⟩
  | cons d L ih =>
    intro acc s h hl
    obtain ⟨e1, e2, e3, s2, s3, w, x, h1, h2, h3, h4, h5, h6, h7, h8⟩ := step d List.mem_cons_self s h
    rw [List.length_cons] at hl
    obtain ⟨ys, s4, h9, h10, h11, h12⟩ := ih (fun d hd => step d (List.mem_cons_of_mem _ hd)) (acc ++ [x]) s3 h7 (by rw [List.length_append, List.length_singleton]; omega)
    refine ⟨x :: ys, s4, ?_, by rw [List.length_cons, List.length_cons, h10], fun y hy => ?_, h12⟩
    · simp only [mCompL, h1, h2, Out.bindN, if_true, h3, h4, h5, h6]
      rw [if_pos ⟨by omega, trivial⟩, h9]
      simp
    · rcases List.mem_cons.mp hy with rfl | hy
      · exact h8
      · exact h11 y hy
/-- a comprehension that reads alone -/
theorem comp_map {vs : List Nat} {mt : MX S Bool} {f : D → D} {L : List D} (e0 : List Sl) (s : S)
    (step : ∀ d ∈ L, ∃ e1 e2 e3 w, g d e0 = some e1 ∧ mt e1 s = .ok true e2 s ∧ me e2 s = .ok w e3 s ∧ w.kp = some (f d) ∧ nonref vs e3 = true ∧ wipeE e3 vs = e0) :
    ∀ acc, acc.length + L.length ≤ 16777216 → mCompL vs g mt me L acc e0 s = .ok (.f (acc ++ L.map f)) e0 s := by
  induction L with
  | nil => exact fun acc _ => by rw [List.map_nil, List.append_nil]; rfl
  | cons d L ih =>
    intro acc hl
    obtain ⟨e1, e2, e3, w, h1, h2, h3, h4, h5, h6⟩ := step d List.mem_cons_self
    rw [List.length_cons] at hl
    simp only [mCompL, h1, h2, Out.bindN, if_true, h3, h4, h5, h6]
    rw [if_pos ⟨by omega, trivial⟩, ih (fun d hd => step d (List.mem_cons_of_mem _ hd)) (acc ++ [f d]) (by rw [List.length_append, List.length_singleton]; omega)]
    simp
theorem comp_x {S : Type} {env e1 : List Sl} {s s1 : S} {mi : MX S (List D)} {vs : List Nat} {g : D → List Sl → Option (List Sl)} {mt : MX S Bool} {me : MX S W} {xs : List D} (h : mi env s = .ok xs e1 s1) (hn : nonref vs e1 = true) : mComp mi vs g mt me env s = mCompL vs g mt me xs [] (wipeE e1 vs) s1 := by
  simp only [mComp, MX.bind, h, Out.bind, if_pos hn]
theorem ir_int {S : Type} {env e1 : List Sl} {s s1 : S} {ma : MX S W} {n : Int} (h : ma env s = .ok (.v (.int n)) e1 s1) (c1 : -4611686018427387904 ≤ n) (c2 : n < 4611686018427387904) : mIR ma env s = .ok ((List.range n.toNat).map fun i => .int (i : Nat)) e1 s1 := by
  simp only [mIR, MX.bind, h, Out.bind, c1, c2, and_self, if_true]
theorem ir_nat {S : Type} {env e1 : List Sl} {s s1 : S} {ma : MX S W} {n : Nat} (h : ma env s = .ok (.v (.int (n : Int))) e1 s1) (c : n < 4611686018427387904) : mIR ma env s = .ok ((List.range n).map fun i => .int (i : Nat)) e1 s1 := by
  have e := ir_int h (by omega) (by omega)
  rw [Int.toNat_natCast] at e
  exact e
theorem pop_int {ds : List D} {i : Int} (c1 : 0 ≤ i) (c2 : i < 4611686018427387904) : gPopAt ds [.int i] = (ds[i.toNat]?).map fun d => (d, ds.eraseIdx i.toNat) := by
  simp only [gPopAt, c1, c2, and_self, if_true]
theorem pop_nat {ds : List D} {j : Nat} (hj : j < ds.length) (hl : ds.length < 4611686018427387904) : gPopAt ds [.int (j : Int)] = some (ds[j], ds.eraseIdx j) := by
  have e := pop_int (ds := ds) (i := (j : Int)) (by omega) (by omega)
  rw [Int.toNat_natCast, List.getElem?_eq_getElem hj] at e
  exact e
theorem mut_l {S : Type} {env e1 e2 : List Sl} {s s1 s2 : S} {g : List D → List D → Option (D × List D)} {ma : MX S W} {ms : MX S (List W)} {i : Nat} {ds0 ds ds' es : List D} {ws : List W} {res : D} (ha : ma env s = .ok (.l i) e1 s1) (h1 : e1[i]? = some (.own ds0)) (hm : ms e1 s1 = .ok ws e2 s2) (hk : ws.mapM W.kp = some es) (h2 : e2[i]? = some (.own ds))
    (hg : g ds es = some (res, ds')) (hl : ds'.length ≤ 16777216) : mMut g ma ms env s = .ok (.v res) (e2.set i (.own ds')) s2 := by
  simp only [mMut, MX.bind, Out.bind, ha, h1, hm, hk, h2, hg, if_pos hl]
theorem cons_w {S : Type} {env e1 e2 : List Sl} {s s1 s2 : S} {ma : MX S W} {ms : MX S (List W)} {w : W} {ws : List W} (ha : ma env s = .ok w e1 s1) (hm : ms e1 s1 = .ok ws e2 s2) : mCons ma ms env s = .ok (w :: ws) e2 s2 := by
  simp only [mCons, MX.bind, Out.bind, ha, hm]
theorem callB_w {S T : Type} {env e1 : List Sl} {s s1 : S} {L : Lens S T} {md : List Md} {f : List D → T → FO T D} {ms : MX S (List W)} {ws : List W} {ds : List D} {t t' : T} {d : D} (hm : ms env s = .ok ws e1 s1) (hb : bindA e1 md ws = some ds) (hg : L.get s1 = some t) (hf : f ds t = .ok d t') : mCallB L md f ms env s = .ok (.v d) e1 (L.put s1 t') := by
  simp only [mCallB, MX.bind, Out.bind, hm, hb, hg, hf, FO.outL]
theorem callP_w {S : Type} {env e1 : List Sl} {s s1 : S} {md : List Md} {f : List D → Unit → FO Unit D} {ms : MX S (List W)} {ws : List W} {ds : List D} {d : D} (hm : ms env s = .ok ws e1 s1) (hb : bindA e1 md ws = some ds) (hf : f ds () = .ok d ()) : mCallP md f ms env s = .ok (.v d) e1 s1 := by
  simp only [mCallP, MX.bind, Out.bind, hm, hb, hf, FO.outP]
theorem make_w {S : Type} {env e1 : List Sl} {s s1 : S} {C : Addr} {md : List Md} {f : List D → FO Unit (List Str × List D)} {ms : MX S (List W)} {ws : List W} {ds : List D} {p : List Str × List D} (hm : ms env s = .ok ws e1 s1) (hb : bindA e1 md ws = some ds) (hf : f ds = .ok p ()) : mMakeP C md f ms env s = .ok (.v (.ins C p.1 p.2)) e1 s1 := by
  simp only [mMakeP, MX.bind, Out.bind, hm, hb, hf, FO.outP]
theorem meth_w {S : Type} {env e1 e2 : List Sl} {s s1 s2 : S} {C : Addr} {m : Str} {md : List Md} {f : List D → Unit → FO Unit D} {ma : MX S W} {ms : MX S (List W)} {ws : List W} {ds : List D} {d : D} {ns : List Str} {es : List D} (ha : ma env s = .ok (.v (.ins C ns es)) e1 s1) (hn : ns.contains m = false) (hm : ms e1 s1 = .ok ws e2 s2) (hb : bindA e2 md ws = some ds) (hf : f (.ins C ns es :: ds) () = .ok d ()) : mMethP C m md f ma ms env s = .ok (.v d) e2 s2 := by
  simp only [mMethP, MX.bind, Out.bind, ha, hn, and_self, if_true, hm, hb, hf, FO.outP]
theorem op_w {S : Type} {env e1 e2 : List Sl} {s s1 s2 : S} {f : D → D → Option Rs} {ma mb : MX S W} {a b : W} {d e : D} {r : Rs} (ha : ma env s = .ok a e1 s1) (hb : mb e1 s1 = .ok b e2 s2) (h1 : a.rd e2 = some d) (h2 : b.rd e2 = some e) (hf : f d e = some r) : mOp f ma mb env s = .ok r.w e2 s2 := by
  simp only [mOp, MX.bind, Out.bind, ha, hb, h1, h2, hf, resO]
theorem cb_w {S : Type} {env e1 : List Sl} {s s1 : S} {f : List D → Option Rs} {ms : MX S (List W)} {ws : List W} {ds : List D} {r : Rs} (hm : ms env s = .ok ws e1 s1) (h : ws.mapM (W.rd e1) = some ds) (hf : f ds = some r) : mCB f ms env s = .ok r.w e1 s1 := by
  simp only [mCB, MX.bind, Out.bind, hm, h, hf, resO]
theorem test_w {S : Type} {env e1 : List Sl} {s s1 : S} {ma : MX S W} {b : Bool} (h : ma env s = .ok (.v (.bl b)) e1 s1) : mTest ma env s = .ok b e1 s1 := by
  simp only [mTest, MX.bind, Out.bind, h]
theorem not_w {S : Type} {env e1 : List Sl} {s s1 : S} {mc : MX S Bool} {b : Bool} (h : mc env s = .ok b e1 s1) : mNotT mc env s = .ok (!b) e1 s1 := by
  simp only [mNotT, MX.bind, Out.bind, h]
theorem or_f {S : Type} {env e1 : List Sl} {s s1 : S} {mc md : MX S Bool} (h : mc env s = .ok false e1 s1) : mOrT mc md env s = md e1 s1 := by
  simp only [mOrT, MX.bind, Out.bind, h, Bool.false_eq_true, if_false]
theorem par_w {S : Type} {env e1 e2 : List Sl} {s s1 s2 : S} {i j : Nat} {ma mb : MX S W} {a b : W} {x y : Sl} (ha : ma env s = .ok a e1 s1) (hb : mb e1 s1 = .ok b e2 s2) (h1 : a.sl = some x) (h2 : b.sl = some y) : mPar i j ma mb env s = .nx ((e2.set i x).set j y) s2 := by
  simp only [mPar, Out.bindS, ha, hb, h1, h2]
theorem sl_w {S : Type} {env e1 e2 e3 : List Sl} {s s1 s2 s3 : S} {f : D → Option Int → Option Int → Option Rs} {ma : MX S W} {ml mh : MX S (Option Int)} {a : W} {l h : Option Int} {d : D} {r : Rs} (ha : ma env s = .ok a e1 s1) (hl : ml e1 s1 = .ok l e2 s2) (hh : mh e2 s2 = .ok h e3 s3) (hr : a.rd e3 = some d) (hf : f d l h = some r) : mSl f ma ml mh env s = .ok r.w e3 s3 := by
  simp only [mSl, MX.bind, Out.bind, ha, hl, hh, hr, hf, resO]
theorem cut_nat {ds : List D} {k : Nat} (h : k ≤ ds.length) : cutD ds none (some (k : Int)) = ds.take k := by
  unfold cutD
  rw [HT.sIx_none, HT.sIx_nat, List.drop_zero, Nat.min_eq_left h, Nat.sub_zero]
theorem cat_ok {xs ys : List D} (h : xs.length + ys.length ≤ 16777216) : fCat (.lst xs) (.lst ys) = some (.f (xs ++ ys)) := by simp only [fCat, if_pos h]
theorem tup_w {S : Type} {env e1 : List Sl} {s s1 : S} {ms : MX S (List W)} {ws : List W} {ds : List D} (hm : ms env s = .ok ws e1 s1) (hk : ws.mapM W.kp = some ds) (hl : ds.length ≤ 16777216) : mTup ms env s = .ok (.v (.tup ds)) e1 s1 := by
  simp only [mTup, MX.bind, Out.bind, hm, hk, if_pos hl]
theorem ff_w {S : Type} {env e1 : List Sl} {s s1 : S} {ma : MX S W} {ds : List D} (h : ma env s = .ok (.f ds) e1 s1) : mFf ma env s = .ok (.v (.lst ds)) e1 s1 := by
  simp only [mFf, MX.bind, Out.bind, h]
theorem at_nat {α : Type} (l : List α) (i : Nat) : atI l (i : Int) = l[i]? := by
  unfold atI ixN
  rw [if_pos (Int.natCast_nonneg i)]
  by_cases h : i < l.length
  · rw [if_pos (by omega)]
    rfl
  · rw [if_neg (by omega), List.getElem?_eq_none (by omega)]
    rfl
end
end LM

namespace LM
open PySem L2
/-! ### f'..' -/
section
variable {S : Type}
def mFmt (ma : MX S W) : MX S W := ma.bind fun w => fun env s => match w with
  | .v (.str y) => if y.length ≤ 16777216 then .ok (.v (.str y)) env s else .bad
  | .v (.int i) => if i.natAbs.log2 < 1920 then .ok (.v (.str (toString i))) env s else .bad
  | _ => .bad
def mJs : List (MX S W) → Str → MX S W
  | [], acc => fun env s => .ok (.v (.str acc)) env s
  | m :: ms, acc => m.bind fun w => match w with
    | .v (.str y) => if (acc ++ y).length ≤ 16777216 then mJs ms (acc ++ y) else fun _ _ => .bad
    | _ => fun _ _ => .bad
variable {X : Cx} {I : BoxI S} {Wx : WX} {e : Expr} {pos : Pos} {ma : MX S W}
theorem d_fmt (he : PE X e (tD X.K I Wx ma)) : PE X (.FormattedValue e (-1) none pos) (tD X.K I Wx (mFmt ma)) := by
  refine PEimp (pe_fmt he) fun σ H Q ⟨G, env, s, ts, R, h⟩ => ?_
  refine tD_bind (Z := ZD X.K I Wx G ts σ Q) R h (fun _ _ _ z => z) (fun z => z) fun w env1 s1 x H1 _ R1 z1 => ?_
  obtain ⟨ad, bv, bm, R2⟩ := id R1
  cases w with
  | v d =>
    cases d with
    | str y =>
      have q : Rep X.K _ H1 x (.str y) := R2.tm _ List.mem_cons_self
      cases q
      by_cases hc : y.length ≤ 16777216
      · simp only [if_pos hc] at z1
        exact .inl ⟨y, rfl, by rw [sizeLine_eq]; exact hc, z1 _ H1 R1⟩
      · simp only [if_neg hc] at z1
        exact z1.elim
    | int i =>
      have q : Rep X.K _ H1 x (.int i) := R2.tm _ List.mem_cons_self
      cases q
      by_cases hc : i.natAbs.log2 < 1920
      · simp only [if_pos hc] at z1
        exact .inr ⟨i, rfl, hc, z1 _ H1 ⟨ad, bv, bm, R2.pop.pushV (.str _)⟩⟩
      · simp only [if_neg hc] at z1
        exact z1.elim
    | _ => exact z1.elim
  | _ => exact z1.elim
theorem js_run : ∀ (ms : List (MX S W)) (acc : Str) (σ : St) (H : Hp) (Q : VK), tD X.K I Wx (mJs ms acc) σ H Q → tJs (ms.map (tD X.K I Wx)) acc σ H fun out H1 => Q (.str out) H1
  | [], acc, σ, H, Q, ⟨G, env, s, ts, ⟨ad, bv, bm, R⟩, h⟩ => h _ H ⟨ad, bv, bm, R.pushV (.str _)⟩
  | m :: ms, acc, σ, H, Q, ⟨G, env, s, ts, R, h⟩ => by
    show tD X.K I Wx m σ H _
    refine tD_bind (Z := ZD X.K I Wx G ts σ Q) R h (fun _ _ _ z => z) (fun z => z) fun w env1 s1 x H1 _ R1 z1 => ?_
    obtain ⟨ad, bv, bm, R2⟩ := id R1
    cases w with
    | v d =>
      cases d with
      | str y =>
        have q : Rep X.K _ H1 x (.str y) := R2.tm _ List.mem_cons_self
        cases q
        by_cases hc : (acc ++ y).length ≤ 16777216
        · simp only [if_pos hc] at z1
          exact ⟨y, rfl, by rw [sizeLine_eq]; exact hc, js_run ms (acc ++ y) σ H1 Q ⟨G, env1, s1, ts, R1.pop, z1⟩⟩
        · simp only [if_neg hc] at z1
          exact z1.elim
      | _ => exact z1.elim
    | _ => exact z1.elim
/-- the parts of f'..' -/
structure JsP (X : Cx) (I : BoxI S) (Wx : WX) (es : List Expr) (ms : List (MX S W)) : Prop where
  pj : PJ X es (ms.map (tD X.K I Wx))
theorem j_nil : JsP X I Wx [] [] := ⟨.nil⟩
theorem j_cons {es : List Expr} {ms : List (MX S W)} (h : PE X e (tD X.K I Wx ma)) (r : JsP X I Wx es ms) : JsP X I Wx (e :: es) (ma :: ms) := ⟨.cons h r.pj⟩
theorem d_js {v1 v2 : Expr} {rest : List Expr} {ms : List (MX S W)} (h : JsP X I Wx (v1 :: v2 :: rest) ms) : PE X (.JoinedStr (v1 :: v2 :: rest) pos) (tD X.K I Wx (mJs ms Str.empty)) :=
  PEimp (pe_joined h.pj) fun σ H Q q => js_run ms Str.empty σ H Q q
end
end LM

namespace LM
open PySem L2
/-! ### what a text can be asked -/
def DSm (K : PySem.W.Frag) (r : V → List V → Hp → VK → Prop) (f : Str → List D → Option Rs) : Prop :=
  ∀ B H x vs ds res Q, Tps K B H vs ds → (∀ a, B a → H a ≠ none) → f x ds = some res → FinQ K B H Q res → r (.str x) vs H Q
def mSm {S : Type} (f : Str → List D → Option Rs) (ma : MX S W) (ms : MX S (List W)) : MX S W := ma.bind fun w => match w with
  | .v (.str x) => ms.bind fun ws => fun env s => match ws.mapM (W.rd env) with
    | some ds => resO env s (f x ds)
    | none => .bad
  | _ => fun _ _ => .bad
section
variable {S : Type} {X : Cx} {I : BoxI S} {Wx : WX} {o e : Expr} {es : List Expr} {pos apos cpos : Pos} {ma : MX S W} {ms : MX S (List W)} {name : Str} {id : String} {r : V → List V → Hp → VK → Prop} {f : Str → List D → Option Rs}
theorem sm_fin (df : DSm X.K r f) {σ : St} {H : Hp} {Q : VK} (h : tD X.K I Wx (mSm f ma ms) σ H Q) : tBM X.K "str" r (tD X.K I Wx ma) (tDs X.K I Wx ms) σ H Q := by
  obtain ⟨G, env, s, ts, R, h⟩ := h
  refine tD_bind (Z := ZD X.K I Wx G ts σ Q) R h (fun _ _ _ z => z) (fun z => z) fun w env1 s1 x H1 _ R1 z1 => ?_
  cases w with
  | v d =>
    cases d with
    | str y =>
      obtain ⟨ad, bv, bm, R2⟩ := id R1
      have q : Rep X.K _ H1 x (.str y) := R2.tm _ List.mem_cons_self
      cases q
      refine ⟨rfl, ?_⟩
      refine tDs_bind (Z := ZD X.K I Wx G ts σ Q) R1 z1 (fun _ _ _ z dx H' q => z dx H' (q.less sl1)) (fun z => z) fun ws env2 s2 vs H2 _ l R3 z2 => ?_
      obtain ⟨ad', bv', bm', R4⟩ := R3
      cases e1 : ws.mapM (W.rd env2) with
      | none => simp only [e1] at z2; exact z2.elim
      | some ds =>
        simp only [e1] at z2
        cases e3 : f y ds with
        | none => simp only [e3] at z2; exact z2.elim
        | some res =>
          simp only [e3] at z2
          exact df _ H2 y vs ds res Q (R4.rds l zip_in e1) (fun a => R4.avdom) e3 (fin_of R4 res fun v H' R5 => z2 v H' (R5.less (.cons_cons _ sl1)))
    | _ => exact z1.elim
  | _ => exact z1.elim
theorem d_sm (slot : Slot "str" name id) (hty : typeOf (.builtin id) = pure (.type "method_descriptor")) (hm : MtR X id r) (df : DSm X.K r f) (ho : PE X o (tD X.K I Wx ma)) (ha : PA X (e :: es) (tDs X.K I Wx ms))
    (hbase : attributeBase o name X.env (eval o X.env) = eval o X.env := by rfl)
    (hfew : ((backTo cpos (starEach (e :: es) X.env)).all (fun x => !x.1) && (backToKw cpos (keywordEach [] X.env)).all (fun x => x.1.isSome)
      && decide ((e :: es).length + ([] : List Keyword).length + (if ([] : List Keyword).isEmpty then 0 else 1) < 30)) = true := by rfl)
    (hline : (apos.endLine == cpos.line) = true := by rfl) (hs : starEach (e :: es) X.env = (false, eval e X.env) :: starEach es X.env := by rfl) (hplain : (backTo cpos (starEach es X.env)).any (·.1) = false := by rfl) :
    PE X (.Call (.Attribute o name apos) (e :: es) [] cpos) (tD X.K I Wx (mSm f ma ms)) :=
  PEimp (pe_bm PySem.F.plainAttrs_str slot hty hm ho ha hbase hfew hline hs hplain) fun _ _ _ h => sm_fin df h
end
/-- texts of data -/
def strsD : List D → Option (List Str)
  | [] => some []
  | .str x :: ds => (strsD ds).map (x :: ·)
  | _ => none
theorem strs_reps {K : PySem.W.Frag} {B : Addr → Prop} {H : Hp} : ∀ {ds : List D} {xs : List V} {ys : List Str}, Reps K B H xs ds → strsD ds = some ys → xs = ys.map V.str
  | [], _, _, h, e => by cases h; cases e; rfl
  | .str b :: ds, _, ys, h, e => by
    cases h with
    | cons h1 h2 =>
      cases h1
      cases q : strsD ds with
      | none => simp only [strsD, q] at e; cases e
      | some cs =>
        simp only [strsD, q, Option.map_some, Option.some.injEq] at e
        subst e
        rw [List.map_cons, strs_reps h2 q]
  | .non :: _, _, _, _, e => by cases e
  | .int _ :: _, _, _, _, e => by cases e
  | .bl _ :: _, _, _, _, e => by cases e
  | .tup _ :: _, _, _, _, e => by cases e
  | .lst _ :: _, _, _, _, e => by cases e
  | .ins _ _ _ :: _, _, _, _, e => by cases e
theorem reps_strs {K : PySem.W.Frag} {B : Addr → Prop} {H : Hp} : ∀ ys : List Str, Reps K B H (ys.map V.str) (ys.map D.str)
  | [] => .nil
  | y :: ys => .cons (.str y) (reps_strs ys)
def jSplit (a : Str) : List D → Option Rs
  | [.str b] => if (b.length == 0) = false ∧ a.length + 2 ≤ 16777216 then some (.f ((Txt.split a b).map .str)) else none
  | _ => none
theorem dj_split {K : PySem.W.Frag} : DSm K (fun x xs H Q => ∃ a b, x = .str a ∧ xs = [.str b] ∧ (b.length == 0) = false ∧ a.length + 2 ≤ sizeLine ∧ rNewStrs (Txt.split a b) H Q) jSplit := by
  intro B H x vs ds res Q h _ e q
  unfold jSplit at e
  split at e
  · rename_i b
    obtain ⟨v, rfl, hv⟩ := tps1 h
    split at e
    · rename_i hc
      cases e
      exact ⟨x, b, rfl, by rw [hv.str], hc.1, by rw [sizeLine_eq]; exact hc.2, fun p hp => q p _ hp (reps_strs _)⟩
    · cases e
  · cases e
def jPart (a : Str) : List D → Option Rs
  | [.str b] => if (b.length == 0) = false ∧ a.length ≤ 16777216 then some (.v (.tup [.str (Txt.partition a b).1, .str (Txt.partition a b).2.1, .str (Txt.partition a b).2.2])) else none
  | _ => none
theorem dj_part {K : PySem.W.Frag} : DSm K (fun x xs H Q => ∃ a b, x = .str a ∧ xs = [.str b] ∧ (b.length == 0) = false ∧ a.length ≤ sizeLine ∧ ∀ p, H p = none → Q (.ref p) (upd H p (.tup [.str (Txt.partition a b).1, .str (Txt.partition a b).2.1, .str (Txt.partition a b).2.2]))) jPart := by
  intro B H x vs ds res Q h hB e q
  unfold jPart at e
  split at e
  · rename_i b
    obtain ⟨v, rfl, hv⟩ := tps1 h
    split at e
    · rename_i hc
      cases e
      exact ⟨x, b, rfl, by rw [hv.str], hc.1, by rw [sizeLine_eq]; exact hc.2, fun p hp => q _ _ (same_upd hp) (.tup (fun z => hB p z hp) (.inl upd_same) (.cons (.str _) (.cons (.str _) (.cons (.str _) .nil))))⟩
    · cases e
  · cases e
def jJoin (a : Str) : List D → Option Rs
  | [.lst ds] => (strsD ds).bind fun ys => if (ys.map (·.length)).sum + ys.length * a.length ≤ 16777216 then some (.v (.str (Txt.join a ys))) else none
  | [.tup ds] => (strsD ds).bind fun ys => if (ys.map (·.length)).sum + ys.length * a.length ≤ 16777216 then some (.v (.str (Txt.join a ys))) else none
  | _ => none
theorem dj_join {K : PySem.W.Frag} : DSm K (fun x xs H Q => ∃ a p, ∃ ys : List Str, x = .str a ∧ xs = [.ref p] ∧ (SqL K H p (ys.map V.str) ∨ SqT K H p (ys.map V.str)) ∧ (ys.map (·.length)).sum + ys.length * a.length ≤ 16777216 ∧ Q (.str (Txt.join a ys)) H) jJoin := by
  intro B H x vs ds res Q h _ e q
  unfold jJoin at e
  split at e
  · rename_i ds
    obtain ⟨v, rfl, hv⟩ := tps1 h
    obtain ⟨p, xs, rfl, r, qq⟩ := hv.lst
    cases e2 : strsD ds with
    | none => rw [e2] at e; cases e
    | some ys =>
      rw [e2, Option.bind_some] at e
      split at e
      · rename_i hc
        cases e
        exact ⟨x, p, ys, rfl, rfl, .inl (by rw [← strs_reps qq e2]; exact r), hc, q _ _ (fun _ _ h => h) (.str _)⟩
      · cases e
  · rename_i ds
    obtain ⟨v, rfl, hv⟩ := tps1 h
    obtain ⟨p, xs, rfl, r, qq⟩ := hv.tup
    cases e2 : strsD ds with
    | none => rw [e2] at e; cases e
    | some ys =>
      rw [e2, Option.bind_some] at e
      split at e
      · rename_i hc
        cases e
        exact ⟨x, p, ys, rfl, rfl, .inr (by rw [← strs_reps qq e2]; exact r), hc, q _ _ (fun _ _ h => h) (.str _)⟩
      · cases e
  · cases e
end LM

namespace LM
open PySem L2
/-! ### truth -/
def truD : D → Option Bool
  | .non => some false
  | .bl b => some b
  | .int i => some (i != 0)
  | .str y => if y.length ≤ 16777216 then some ((y.length : Int) != 0) else none
  | .tup ds => some (!ds.isEmpty)
  | .lst ds => some (!ds.isEmpty)
  | .ins _ _ _ => none
theorem empty_len {α β : Type} {xs : List α} {ds : List β} (h : xs.length = ds.length) : (!xs.isEmpty) = !ds.isEmpty := by
  cases xs <;> cases ds <;> first | rfl | (simp at h)
theorem tru_of {K : PySem.W.Frag} {B : Addr → Prop} {H : Hp} {v : V} {d : D} {k : Bool} (h : Tp K B H v d) (e : truD d = some k) : TruV K v H k := by
  cases d with
  | non =>
    cases e
    rcases h with h | ⟨_, _, _, _, z, _⟩
    · cases h; rfl
    · cases z
  | bl b =>
    cases e
    rcases h with h | ⟨_, _, _, _, z, _⟩
    · cases h; rfl
    · cases z
  | int i => cases e; rw [h.int]; rfl
  | str y =>
    rw [h.str]
    simp only [truD] at e
    split at e
    · rename_i hc
      cases e
      exact ⟨by rw [sizeLine_eq]; exact hc, rfl⟩
    · cases e
  | tup ds =>
    cases e
    obtain ⟨p, xs, rfl, r, q⟩ := h.tup
    exact .inr (.inl ⟨xs, r, by rw [empty_len q.len]⟩)
  | lst ds =>
    cases e
    obtain ⟨p, xs, rfl, r, q⟩ := h.lst
    exact .inl ⟨xs, r, by rw [empty_len q.len]⟩
  | ins C ns ds => cases e
section
variable {S : Type}
def mTru (ma : MX S W) : MX S Bool := ma.bind fun w => fun env s => match w.rd env with
  | some d => match truD d with
    | some k => .ok k env s
    | none => .bad
  | none => .bad
def mOrX (ma mb : MX S W) : MX S W := ma.bind fun w => fun env s => match w.rd env with
  | some d => match truD d with
    | some true => .ok w env s
    | some false => mb env s
    | none => .bad
  | none => .bad
def mAndX (ma mb : MX S W) : MX S W := ma.bind fun w => fun env s => match w.rd env with
  | some d => match truD d with
    | some true => mb env s
    | some false => .ok w env s
    | none => .bad
  | none => .bad
variable {X : Cx} {I : BoxI S} {Wx : WX} {a b e : Expr} {es : List Expr} {pos : Pos} {ma mb : MX S W}
theorem x_or (ha : PE X a (tD X.K I Wx ma)) (hb : PE X (.BoolOp .Or (b :: es) pos) (tD X.K I Wx mb)) : PE X (.BoolOp .Or (a :: b :: es) pos) (tD X.K I Wx (mOrX ma mb)) := by
  refine PEimp (pe_orT ha hb) fun σ H Q ⟨G, env, s, ts, R, h⟩ => ?_
  refine tD_bind (Z := ZD X.K I Wx G ts σ Q) R h (fun _ _ _ z => z) (fun z => z) fun w env1 s1 x H1 _ R1 z1 => ?_
  obtain ⟨ad, bv, bm, R2⟩ := id R1
  cases e1 : w.rd env1 with
  | none => simp only [e1] at z1; exact z1.elim
  | some d =>
    have q : Tp X.K _ H1 x d := R2.rd (p := (x, w)) List.mem_cons_self e1
    cases e2 : truD d with
    | none => simp only [e1, e2] at z1; exact z1.elim
    | some k =>
      refine ⟨k, tru_of q e2, ?_⟩
      cases k with
      | true => simp only [e1, e2] at z1; rw [if_pos rfl]; exact z1 _ H1 R1
      | false => simp only [e1, e2] at z1; rw [if_neg (by decide)]; exact tD_of R1.pop z1
theorem x_and (ha : PE X a (tD X.K I Wx ma)) (hb : PE X (.BoolOp .And (b :: es) pos) (tD X.K I Wx mb)) : PE X (.BoolOp .And (a :: b :: es) pos) (tD X.K I Wx (mAndX ma mb)) := by
  refine PEimp (pe_andT ha hb) fun σ H Q ⟨G, env, s, ts, R, h⟩ => ?_
  refine tD_bind (Z := ZD X.K I Wx G ts σ Q) R h (fun _ _ _ z => z) (fun z => z) fun w env1 s1 x H1 _ R1 z1 => ?_
  obtain ⟨ad, bv, bm, R2⟩ := id R1
  cases e1 : w.rd env1 with
  | none => simp only [e1] at z1; exact z1.elim
  | some d =>
    have q : Tp X.K _ H1 x d := R2.rd (p := (x, w)) List.mem_cons_self e1
    cases e2 : truD d with
    | none => simp only [e1, e2] at z1; exact z1.elim
    | some k =>
      refine ⟨k, tru_of q e2, ?_⟩
      cases k with
      | true => simp only [e1, e2] at z1; rw [if_pos rfl]; exact tD_of R1.pop z1
      | false => simp only [e1, e2] at z1; rw [if_neg (by decide)]; exact z1 _ H1 R1
theorem t_tru (ha : PE X a (tD X.K I Wx ma)) (he : ∀ whole, isTrue a X.env whole = (do let v ← whole; standAt a.pos; holding [v] (truthy v)) := by intro _; rfl) : PT X a (LM.tB X.K I Wx (mTru ma)) := by
  refine PTimp (pt_truth ha he) fun σ H Q ⟨G, env, s, ts, R, h⟩ => ?_
  refine tD_bind (Z := ZB X.K I Wx G ts σ Q) R h (fun _ _ _ z => z) (fun z => z) fun w env1 s1 x H1 _ R1 z1 => ?_
  obtain ⟨ad, bv, bm, R2⟩ := id R1
  cases e1 : w.rd env1 with
  | none => simp only [e1] at z1; exact z1.elim
  | some d =>
    have q : Tp X.K _ H1 x d := R2.rd (p := (x, w)) List.mem_cons_self e1
    cases e2 : truD d with
    | none => simp only [e1, e2] at z1; exact z1.elim
    | some k =>
      simp only [e1, e2] at z1
      exact ⟨k, tru_of q e2, z1 H1 R1.pop⟩
end
end LM

/-! errors of own classes with one field: made -/
namespace LM
open PySem PySem.W PySem.Calls PyProof.Rows PySem.HandSPX
def xA (p : Str) (p1 p2 : Pos) : Arguments := { posonlyargs := [], args := [{ arg := "self", annotation := none, pos := p1 }, { arg := p, annotation := none, pos := p2 }], vararg := none, kwonlyargs := [], kw_defaults := [], kwarg := none, defaults := [] }
def xB (p : Str) (q1 q2 q3 q4 : Pos) : List Stmt := [.Assign [.Attribute (.Name "self" q1) p q2] (.Name p q3) q4]
def xS (p : Str) : Scope := { kind := .function, names := [(PySem.Str.ofString "self", .local), (p, .local)], isGenerator := false, isCoroutine := false, more := [] }
/-- what the written part says of the error's class x, at C, and of its __init__, at fI; its field and parameter: p -/
structure XTx (K : Frag) (mg : Str → Option Value) (x q p : Str) (C fI : Addr) (B newId initId : String) (bm : List Value) : Prop where
  gC : mg x = some (.ref C)
  sf : StoreFacts B bm "object.__setattr__" "object"
  bf : ExcBaseFacts B newId initId bm
  ci : excInitIn K C bm newId = true
  ov : excOver K C bm = true
  tk : takerIn K C p = some none
  hdC : hasDictIn K C = true
  sa : findIn K (.ref C) "__setattr__" = some (some (.builtin "object.__setattr__"))
  ga : findIn K (.ref C) "__getattribute__" = some (some (.builtin "BaseException.__getattribute__"))
  gg : findIn K (.ref C) "__getattr__" = some none
  noN : findIn K (.ref C) p = some none
  iC : findIn K (.ref C) "__init__" = some (some (.ref fI))
  tC : typeIn K (.ref fI) = some (.type "function")
  kC : keepIn K (.ref C) = true
  exC : subIn K (.ref C) (.type "BaseException") = some true
  tyC : typeIn K (.ref C) = some (.type "type")
  fn : ∃ (oc : Value) (od : Option Addr) (doc pm : Value) (an : Option Addr) (cdv ct : Value) (osl : Array (Option Value)) (p1 p2 q1 q2 q3 q4 : Pos),
    K.lookup fI = some ⟨oc, od, .func (fnOf "__init__" q (xA p p1 p2) (xB p q1 q2 q3 q4) (xS p) .none .none doc pm an cdv ct), osl⟩ ∧ codeIn K cdv q = true
/-- what __init__ leaves of a fresh error at x -/
structure XIn (h h' : Heap) (x C dx t1 : Addr) (p : Str) (v : Value) : Prop where
  keep : ∀ b o, b ≠ x → h.get? b = some o → h'.get? b = some o
  obj : h'.get? x = some { cls := .ref C, dict := some dx, data := .fields #[.ref t1, .none, .none, .none, .bool false, .none] }
  dbig : h.objs.size ≤ dx
  dne : dx ≠ x
  ns : h'.Ns1 dx (fun y => if y = p then some v else none)
structure XMd (h h' : Heap) (e C d : Addr) (p : Str) (v : Value) : Prop where
  keep : ∀ b o, h.get? b = some o → h'.get? b = some o
  new : h.objs.size ≤ e
  obj : ∃ oe vs, h'.get? e = some oe ∧ oe.cls = .ref C ∧ oe.dict = some d ∧ oe.data = .fields vs ∧ vs[1]? = some .none
  dbig : h.objs.size ≤ d
  dne : d ≠ e
  ns : h'.Ns1 d (fun y => if y = p then some v else none)
section
variable {prog : Program} {w : World} {A : Around} {E : Value → Shared → Prop} {R : Result → Shared → Prop} {s : Shared} {K : Frag} {mg : Str → Option Value} {C fI : Addr} {x q p : Str} {B newId initId : String} {bm : List Value}
theorem osaX {hp : Heap} {g : Array GenState} {d : Drawn} {t : Nat} {os : OsState} {tk : Tok} {v : Value} {x : Addr} {t0 : Addr} (SF : StoreFacts B bm "object.__setattr__" "object") (ov : excOver K C bm = true) (tkr : takerIn K C p = some none) (hh : hasDictIn K C = true)
    (X : K.In hp) (hx : hp.get? x = some (excO C t0)) (hq : ∀ h' tk' dx, (∀ b o, b ≠ x → hp.get? b = some o → h'.get? b = some o) → hp.objs.size ≤ dx → dx ≠ x → h'.get? x = some { cls := .ref C, dict := some dx, data := .fields #[.ref t0, .none, .none, .none, .bool false, .none] } →
      h'.Ns1 dx (fun y => if y = p then some v else none) → R (.ok (.ret .none)) ⟨h', g, d, tk', os⟩) :
    codeAny (model prog w) A (.call (.builtin "object.__setattr__") ⟨[.ref x, .str p tk, v], []⟩) R ⟨hp, g, d, t, os⟩ := by
  have hxs : x ≠ hp.objs.size := Nat.ne_of_lt (Heap.lt_size hx)
  refine osa_openX (od := none) (ox := excO C t0) SF X ⟨hx, rfl, rfl, trivial⟩ ov tkr fun b => ?_
  obtain ⟨cd, hc, hd'⟩ := any_some hh
  refine wpAny_bind (wpAny_pure (wpAny_bind (instanceDict_exc (t := t0) (c2 := .none) hx (looks_clsIn X hc) hd' ?_)))
  have hnd : ((hp.push (dictOf [] 0)).update x fun o => { o with dict := some hp.objs.size }).Ns hp.objs.size (fun _ => none) :=
    ⟨_, #[], _, (Heap.get?_update_ne _ _ _ _ hxs.symm).trans (Heap.get?_push_at rfl rfl), rfl, fun e he => absurd he (by simp), fun _ => rfl⟩
  refine HandSPX.store_in_new hnd fun h' tk' hn' hs => ?_
  have hx1 : (hp.push (dictOf [] 0)).get? x = some (excO C t0) := Heap.get?_push_of_some _ hx
  refine hq h' tk' hp.objs.size (fun b o hb ho => ?_) (Nat.le_refl _) hxs.symm ?_ hn'
  · have e1 := hs.2 b (Nat.ne_of_lt (Heap.lt_size ho))
    exact e1.trans ((Heap.get?_update_ne _ _ _ _ hb).trans (Heap.get?_push_of_some _ ho))
  · exact (hs.2 x hxs).trans (Heap.get?_update_self _ hx1 rfl)
theorem ld_loc {M : Model} {s : Shared} {name : Str} {scope : Scope} {L a : Addr} {cd : Value} {m : Str → Option Value} {x : Str} {pos : Pos} {v : Value} {Q : Value → Shared → Prop} {A : Around} {E : Value → Shared → Prop} (hn : s.heap.Ns L m) (hv : m x = some v) (h : Q v s)
    (hk : scope.kind = .function) (hl : (envOfC name scope L a cd).kindOf x = some .local) (hd : (x == ("__debug__" : Str)) = false) : wpAny M A (eval (.Name x pos) (envOfC name scope L a cd)) Q E s := wpAny_Name (wpAny_loadName_local hk hl hn hv h) hd
/-- a word that may be such a parameter -/
structure PWord (p : Str) : Prop where
  s : (p == ("self" : Str)) = false
  d : (p == ("__debug__" : Str)) = false
  b : ∀ (q : Str) (p1 p2 q1 q2 q3 q4 : Pos) (doc pm : Value) (an : Option Addr) (cdv ct u v : Value), bindArgs (fnOf "__init__" q (xA p p1 p2) (xB p q1 q2 q3 q4) (xS p) .none .none doc pm an cdv ct) ⟨[u, v], []⟩ = pure [(("self" : Str), u), (p, v)]
theorem pword_at : PWord "at" := ⟨by decide, by decide, fun _ _ _ _ _ _ _ _ _ _ _ _ _ _ => rfl⟩
theorem pword_word : PWord "word" := ⟨by decide, by decide, fun _ _ _ _ _ _ _ _ _ _ _ _ _ _ => rfl⟩
theorem pword_name : PWord "name" := ⟨by decide, by decide, fun _ _ _ _ _ _ _ _ _ _ _ _ _ _ => rfl⟩
theorem xinit_ok (T : XTx K mg x q p C fI B newId initId bm) (W : PWord p) {x t0 : Addr} {v : Value} (X : K.In s.heap) (hlim : s.heap.NoLimit) (hx : s.heap.get? x = some (excO C t0)) (hnx : K.lookup x = none) (hroom : A.depth < recursionLimit)
    (hq : ∀ h' tk dx, XIn s.heap h' x C dx t0 p v → R (.ok (.ret .none)) { s with heap := h', toks := tk }) :
    codeAny (model prog w) A (.call (.ref fI) ⟨[.ref x, v], []⟩) R s := by
  obtain ⟨oc, od, doc, pm, an, cdv, ct, osl, p1, p2, q1, q2, q3, q4, ho, hcd⟩ := T.fn
  have e1 : (p == ("self" : Str)) = false := W.s
  have e2 : (("self" : Str) == p) = false := by
    rw [Bool.eq_false_iff] at e1 ⊢
    exact fun z => e1 (by rw [beq_iff_eq] at z ⊢; exact z.symm)
  have lk : List.lookup p [(("self" : Str), NameKind.local), (p, NameKind.local)] = some NameKind.local := by rw [List.lookup, e1]; simp [List.lookup]
  have ks : ∀ {q : Str} {L a : Addr} {cd : Value}, (envOfC q (xS p) L a cd).kindOf ("self" : Str) = some .local := by intros; simp [Env.kindOf, envOfC, xS]
  have kp : ∀ {q : Str} {L a : Addr} {cd : Value}, (envOfC q (xS p) L a cd).kindOf p = some .local := by
    intros
    exact lk
  have ne : ("self" : Str) ≠ p := fun z => by rw [← z] at e1; cases (show ((("self" : Str) == ("self" : Str)) = false) from e1)
  refine Att.call_fn (binds := [("self", .ref x), (p, v)]) X hlim ho hcd hroom (BindsTo.of_eq ?_) ?_ (fun s₁ IC => ?_) rfl rfl rfl
  · exact W.b _ _ _ _ _ _ _ _ _ _ _ _ _ _
  · simp [xS, lk]
  obtain ⟨h₁, tk₁, rfl⟩ := IC.toInCall.same
  have k : ∀ b o, s.heap.get? b = some o → h₁.get? b = some o := IC.toInCall.keep
  have hn := IC.toInCall.ns
  have hxL : s.heap.objs.size ≠ x := Nat.ne_of_gt (Heap.lt_size hx)
  have X₁ : K.In h₁ := X.keeps k
  have hx₁ := k _ _ hx
  show wpAny _ _ (execs _ _) _ _ _
  refine wpAny_execs_cons (plainObj_wpAny_Assign_Attribute ?_)
  refine ld_loc (v := v) hn ?_ (ld_loc (v := .ref x) hn ?_ ?_ rfl ?_ (by decide)) rfl ?_ W.d
  · simp only [bindL, ks, kp, if_true]
  · simp only [bindL, ks, kp, if_true, ne, if_false]
  · refine set_plain X₁ (ox := excO C t0) (od := none) ⟨hx₁, rfl, rfl, trivial⟩ T.sa ?_
    refine osaX T.sf T.ov T.tk T.hdC X₁ hx₁ fun h₃ tk₃ dx k₃ dn dne hx₃ hn₃ => ?_
    show wpAny _ _ (execs _ _) _ _ _
    have z : s.heap.objs.size < h₁.objs.size := hn.lt
    exact wpAny_execs_nil (hq h₃ tk₃ dx ⟨fun b o hb e => k₃ b o hb (k b o e), hx₃, Nat.le_of_lt (Nat.lt_of_lt_of_le z dn), dne, hn₃⟩)
  · exact ks
  · exact kp
theorem one_line (v : Value) : [v].length ≤ sizeLine := by
  rw [sizeLine_eq]
  exact (by decide : 1 ≤ 16777216)
theorem xmade_ok (T : XTx K mg x q p C fI B newId initId bm) (W : PWord p) {v : Value} (X : K.In s.heap) (hlim : s.heap.NoLimit) (hroom : A.depth + 1 < recursionLimit)
    (hq : ∀ h' tk e d, XMd s.heap h' e C d p v → R (.ok (.ret (.ref e))) { s with heap := h', toks := tk }) :
    codeAny (model prog w) A (.call (.ref C) ⟨[v], []⟩) R s := by
  obtain ⟨nm, N, qn, bs, bm', hdct, sn, sub, ab, col, dd, k0, k1, k2, k3, k5, hC, hT⟩ := excInit_of X T.ci
  obtain ⟨hp, g, dr, tk, os⟩ := s
  have k : ∀ b o, hp.get? b = some o → ((hp.push (kdv_tup [v])).push (excO C hp.objs.size)).get? b = some o := fun b o e => Heap.get?_push_of_some _ (Heap.get?_push_of_some _ e)
  have hget : ((hp.push (kdv_tup [v])).push (excO C hp.objs.size)).get? (hp.objs.size + 1) = some (excO C hp.objs.size) := by heap_get
  have hnx : K.lookup (hp.objs.size + 1) = none := by
    cases e : K.lookup (hp.objs.size + 1) with
    | none => rfl
    | some o =>
      have z : hp.get? (hp.objs.size + 1) = some o := X _ _ e
      exact absurd (Nat.lt_of_succ_lt (Heap.lt_size z)) (Nat.lt_irrefl _)
  refine HandSPX.call_own T.bf hT hC (looks_findIn X T.iC) (fun self => bind_fn X self T.tC) (one_line v) ?_
  refine xinit_ok (s := ⟨(hp.push (kdv_tup [v])).push (excO C hp.objs.size), g, dr, tk, os⟩) T W (X.keeps k) (hlim.keeps k) hget hnx ?_ fun h' tk' dx ⟨k', hx, dn, dne, hns⟩ => ?_
  · show A.depth + 1 < recursionLimit
    exact hroom
  · have old : ∀ b o, hp.get? b = some o → h'.get? b = some o := fun b o e => k' b o (Nat.ne_of_lt (Nat.lt_succ_of_lt (Heap.lt_size e))) (k b o e)
    have z : hp.objs.size + 1 + 1 ≤ dx := by
      first
        | (simpa only [Heap.size_push] using dn)
        | exact dn
        | (have q := dn; rw [Heap.size_push, Heap.size_push] at q; exact q)
    exact ⟨rfl, hq h' tk' (hp.objs.size + 1) dx ⟨old, Nat.le_succ _, ⟨_, _, hx, rfl, rfl, rfl, rfl⟩, Nat.le_trans (Nat.le_trans (Nat.le_succ _) (Nat.le_succ _)) z, dne, hns⟩⟩
end
end LM
namespace LM
open PySem PySem.Spec PyProof.Rows L2
theorem relO_x {p : Str} {v : V} {v' : Value} (r : RelV v v') (f : Str) : RelO (List.lookup f [(p, v)]) (if f = p then some v' else none) := by
  by_cases hw : f = p
  · subst hw
    rw [if_pos rfl]
    have q : List.lookup f [(f, v)] = some v := by simp [List.lookup]
    rw [q]
    exact r
  · rw [if_neg hw]
    have qw : (f == p) = false := by simpa using hw
    have q2 : List.lookup f [(p, v)] = none := by simp [List.lookup, qw]
    rw [q2]
    trivial
section
variable {X : Cx} {C fI : Addr} {x q f : Str} {B newId initId : String} {bm : List Value}
/-- X(e) -/
def tMkX (C : Addr) (f : Str) (ta : TA) : L2.St → Hp → XK → Prop := fun σ H Q => ta σ H fun vs H1 => ∃ v, vs = [v] ∧ ∀ d, H1 d = none → Q (.ref C) (some d) (upd H1 d (.xd [(f, v)]))
theorem pmk_x {a : Expr} {ta : TA} {p pos : Pos} (T : XTx X.K X.mg x q f C fI B newId initId bm) (W : PWord f) (hr : Room 0 X.A) (ha : PA X [a] ta) (hg : Gl X x := by rfl) (hdb : (x == ("__debug__" : Str)) = false := by decide)
    (he : starEach (a :: []) X.env = (false, eval a X.env) :: starEach [] X.env := by rfl) (hpl : (backTo pos (starEach [] X.env)).any (·.1) = false := by rfl) :
    PMk X (.Call (.Name x p) [a] [] pos) (tMkX C f ta) := by
  intro pins s σ H Q I h
  refine wpAny_Call_Name_kw (ld_glob I hg T.gC ?_ hdb)
  refine PySem.W.callWith_K (h₀ := X.base) I.ok.mod.kin T.kC (thn (ha.run pos pins s σ H _ I h) fun us s1 hh => ?_) he hpl
  obtain ⟨vs, H1, I1, r1, v, ev, q1⟩ := hh
  subst ev
  refine ⟨I1.kIn, ?_⟩
  cases r1 with
  | cons rv rn =>
    rename_i v' us'
    cases rn
    show wpAny _ _ (call (.ref C) [v']) _ _ _
    have hlim := I1.nolimit
    obtain ⟨hp, g, dr, tk, os⟩ := s1
    refine wpAny_call (xmade_ok T W I1.kIn hlim (by have := hr.dp; omega) fun h' tk' e d M => ?_)
    show MkP X pins σ Q (.ref e) ⟨h', g, dr, tk', os⟩
    obtain ⟨oe, fv, hoe, hc, hd, hdat, h1⟩ := M.obj
    have hns := M.ns
    obtain ⟨G', g1, g2⟩ := restrict h' fun b => decide (b ≠ e)
    have gk : ∀ b, b ≠ e → G'.get? b = h'.get? b := fun b hb => g1 b (decide_eq_true hb)
    have ge : G'.get? e = none := g2 e (by simp)
    have old : ∀ b o, hp.get? b = some o → G'.get? b = some o := fun b o q => (gk b (Nat.ne_of_lt (Nat.lt_of_lt_of_le (Heap.lt_size q) M.new))).trans (M.keep b o q)
    have ob : ObjOk X.prog X.w (upd H1 d (.xd [(f, v)])) G' d (.xd [(f, v)]) :=
      ⟨_, hns.at (fun o q => (gk d M.dne).trans q), fun f => relO_x rv f⟩
    have J : Inv X pins σ (upd H1 d (.xd [(f, v)])) ⟨G', g, dr, tk', os⟩ := I1.laid (t' := tk') old M.dbig ob
    refine ⟨e, oe, fv, ⟨G', g, dr, tk', os⟩, _, .ref C, some d, rfl, J, fun b o q => ?_, ge, hoe, ⟨hc, hd⟩, hdat, h1, ?_, rfl, I1.bare, raises_own T.exC T.tyC, q1 d (I1.hok.fresh M.dbig)⟩
    · by_cases hb : b = e
      · have q' : G'.get? b = some o := q
        rw [hb, ge] at q'; cases q'
      · exact (gk b hb).symm.trans q
    · rw [upd_ne (Ne.symm M.dne)]
      exact I1.hok.fresh M.new
end
end LM

/-! what is raised, and defs that let it out -/
namespace LM
open PySem L2
/-- what a def wishes of what it lets out -/
def wE (E : XK) : WX := fun c d _ H => E c d H
def mRaise {S : Type} (C : Addr) (f : Str) (me : MX S W) : MS S := fun env s => (me env s).bindS fun w env s => match w.kp with
  | some d => .ex ⟨C, [f], [d]⟩ env s
  | none => .bad
section
variable {S : Type} {X : Cx} {I : BoxI S} {Wx : WX} {a : Expr} {p pos pos2 : Pos} {me : MX S W} {C fI : Addr} {x q f : Str} {B newId initId : String} {bmo : List Value}
theorem s_raise (hc : X.calm = true) (tk : Takes X Wx) (T : XTx X.K X.mg x q f C fI B newId initId bmo) (W : PWord f) (hr : Room 0 X.A) (he : PE X a (tD X.K I Wx me)) (hg : Gl X x := by rfl) (hdb : (x == ("__debug__" : Str)) = false := by decide)
    (hs : starEach (a :: []) X.env = (false, eval a X.env) :: starEach [] X.env := by rfl) (hpl : (backTo pos (starEach [] X.env)).any (·.1) = false := by rfl) :
    PS X (.Raise (some (.Call (.Name x p) [a] [] pos)) none pos2) (tS X.K I Wx (mRaise C f me)) := by
  refine PSimp (L2.ps_raise hc tk (pmk_x T W hr (a_cons (ms := mNil) he a_nil hs) hg hdb hs hpl)) fun Dn σ H ⟨G, env, s, ts, R, cl, h⟩ => ?_
  show tDs X.K I Wx (mCons me mNil) σ H _
  refine ⟨G, env, s, ts, R, ?_⟩
  cases e : me env s with
  | bad => simp only [mRaise, e, Out.bindS] at h
  | ex e' env1 s1 =>
    simp only [mRaise, e, Out.bindS] at h
    simp only [mCons, MX.bind, e, Out.bind]
    exact fun dx H' R' => h dx σ H' R'
  | ok w env1 s1 =>
    simp only [mRaise, e, Out.bindS] at h
    simp only [mCons, MX.bind, e, Out.bind, mNil]
    intro vs H' hl R1
    match vs, hl with
    | [v], _ =>
      refine ⟨v, rfl, fun dx n => ?_⟩
      cases e1 : w.kp with
      | none => simp only [e1] at h
      | some d =>
        simp only [e1] at h
        obtain ⟨ad, bv, bm, R2⟩ := R1
        have rep := R2.keep (p := (v, w)) List.mem_cons_self e1
        have R3 := R2.same (H' := upd H' dx (.xd [(f, v)])) (same_upd n)
        refine h dx σ _ (ERX.less (ts := [(v, w)] ++ ts) ⟨ad, bv, bm, R3, R2.dom _ n, [(f, v)], upd_same, rfl, .cons (rep.gr (.same (same_upd n))) .nil⟩ slA)
end
/-! ### defs -/
theorem erx_end {S : Type} {K : PySem.W.Frag} {I : BoxI S} (hI : I.fix = true) {B bm : Addr → Prop} {bv : V} {s : S} {H H' : Hp} {env : List Sl} {σ : L2.St} {e : Ex} {dx : Addr} (R : ERX K I ⟨B, bm, H, bv⟩ e dx env s [] σ H') :
    Ext bm H H' ∧ I.rel s bv bm H' ∧ H dx = none ∧ ∃ fs, H' dx = some (.xd fs) ∧ e.ns = fs.map (·.1) ∧ Reps K B H' (fs.map (·.2)) e.ds := by
  obtain ⟨ad, bv', bm', R, n, fs, e1, e2, r⟩ := R
  obtain ⟨rfl, rfl⟩ : bv' = bv ∧ bm' = bm := R.bfr.2 hI
  exact ⟨⟨R.ext, R.dom⟩, R.box, n, fs, e1, e2, r.gr (.sub fun a z => .inl z)⟩
def SO.foX {S : Type} : SO S → FO S D
  | .rt d _ s => .ok d s
  | .rf ds _ s => .ok (.lst ds) s
  | .nx _ s => .ok .non s
  | .ex e _ s => .ex e s
  | _ => .bad
section
variable {S : Type} {P : Program} {w : World} {K : PySem.W.Frag} {mg : Str → Option Value} {base : Heap} {I : BoxI S}
theorem fn_okX0 {x qual : Str} {st : Stmt} {f : Addr} {fd : FuncData} {N ps : List Str} {k : Nat} {md : List Md} {m : MS S} (F : Fun K x qual st f fd) (Sc : FnScope N ps (defScope st)) (hl : md.length = ps.length) (hI : I.fix = true)
    (hbody : ∀ (cdv : Value) (A : Around) (outer : List Env) (s : Shared) (H : Hp) (E : XK), Room k (A.deeper (PyProof.Rows.envOfC qual (defScope st) s.heap.objs.size f cdv)) →
      PSs (cxOf (L2.CX P w) P w K mg base N qual (defScope st) f cdv A outer s H E) (defBody st) (tS K I (wE E) m)) : FnOk P w K mg base (L2.CX P w) (k + 1) f fd ps (spD I K md fun ds s => (m (env0 md (N.length - ps.length) ds) s).foX) := by
  have hN : ps.length ≤ N.length := by have := congrArg List.length Sc.pre; rw [List.length_take] at this; omega
  refine F.okX Sc (fun vs H Q E ⟨_, _, _, _, _, _, _, _, ar, _⟩ => by rw [ar.len, hl]) fun cdv A outer s H vs Q E hr ⟨B, bm, bv, ds, s0, hmB, hB, rb, ar, z⟩ => ?_
  have hv : vs.length = ps.length := by rw [ar.len, hl]
  refine ⟨_, hbody cdv A outer s H E hr, ⟨B, bm, H, bv⟩, env0 md (N.length - ps.length) ds, s0, [], ?_, Cl.nil, ?_⟩
  · rw [← hv]; exact er_start (by omega) hmB hB rb ar
  · cases e : m (env0 md (N.length - ps.length) ds) s0 with
    | rt d env1 s1 =>
      simp only [e, SO.foX] at z
      exact fun v σ' H' R => let ⟨h1, h2, h3⟩ := er_end hI R; z v H' h1 h2 h3
    | rf d env1 s1 =>
      simp only [e, SO.foX] at z
      intro v σ' H' ⟨ad, bv', bm', R⟩
      obtain ⟨h1, h2, h3⟩ := er_end hI ⟨ad, bv', bm', R.fzF⟩
      exact z v H' h1 h2 h3
    | nx env1 s1 =>
      simp only [e, SO.foX] at z
      intro σ' H' ⟨ad, bv', bm', R⟩
      obtain ⟨h1, h2, h3⟩ := er_end hI ⟨ad, bv', bm', R.pushV .non⟩
      exact z .non H' h1 h2 h3
    | ex x env1 s1 =>
      simp only [e, SO.foX] at z
      intro dx σ' H' R
      obtain ⟨h1, h2, h3, h4⟩ := erx_end hI R
      exact z dx H' h1 h2 h3 h4
    | bk env1 s1 => simp only [e, SO.foX] at z
    | ct env1 s1 => simp only [e, SO.foX] at z
    | bad => simp only [e, SO.foX] at z
end
def SO.foJ (y C : Addr) : SO Unit → FO Unit (List Str × List D)
  | .nx (.slf y' C' ns ds :: _) _ => if y' = y ∧ C' = C then .ok (ns, ds) () else .bad
  | .ex e _ _ => .ex e ()
  | _ => .bad
section
variable {P : Program} {w : World} {K : PySem.W.Frag} {mg : Str → Option Value} {base : Heap}
/-- .. that may let something out -/
theorem fn_okXI {x qual : Str} {st : Stmt} {f C : Addr} {fd : FuncData} {N ps : List Str} {k : Nat} {md : List Md} {m : MS Unit} {g : List D → FO Unit (List Str × List D)} (F : Fun K x qual st f fd) (Sc : FnScope N ps (defScope st)) (hl : md.length + 1 = ps.length)
    (hg : ∀ y ds, (m (envI y C md (N.length - ps.length) ds) ()).foJ y C = g ds)
    (hbody : ∀ (cdv : Value) (A : Around) (outer : List Env) (s : Shared) (H : Hp) (E : XK), Room k (A.deeper (PyProof.Rows.envOfC qual (defScope st) s.heap.objs.size f cdv)) →
      PSs (cxOf (L2.CX P w) P w K mg base N qual (defScope st) f cdv A outer s H E) (defBody st) (tS K boxNil (wE E) m)) : FnOk P w K mg base (L2.CX P w) (k + 1) f fd ps (spI K C md g) := by
  have hN : ps.length ≤ N.length := by have := congrArg List.length Sc.pre; rw [List.length_take] at this; omega
  refine F.okX Sc (fun vs H Q E ⟨_, _, _, _, _, _, e, _, _, _, _, _, ar, _⟩ => by rw [e, List.length_cons, ar.len, hl]) fun cdv A outer s H vs Q E hr ⟨y, dx, H1, B, rest, ds, ev, n1, n2, n3, eH, hB, ar, z⟩ => ?_
  subst ev eH
  have hv : rest.length = md.length := ar.len
  rw [← hg y ds] at z
  have sm : ∀ a o, H1 a = some o → upd (upd H1 dx (.own y)) y (.ins C dx []) a = some o := fun a o e => by
    rw [upd_ne (ne_of_none e n1), upd_ne (ne_of_none e n2)]; exact e
  refine ⟨_, hbody cdv A outer s _ E hr, ⟨B, fun _ => False, H1, .non⟩, envI y C md (N.length - ps.length) ds, (), [], ?_, Cl.nil, ?_⟩
  · have hgo := envA_noB (T := fun _ => False) ar (N.length - ps.length)
    have own0 : ∀ (i : Nat) (u : Sl), (envI y C md (N.length - ps.length) ds)[i]? = some u → u.isOwn = true → i = 0 := fun i u e o => by
      cases i with
      | zero => rfl
      | succ i => rw [(hgo i u e).1] at o; cases o
    have est : L2.start N (.ref y :: rest) = some (.ref y) :: (rest.map some ++ List.replicate (N.length - ps.length) none) := by
      unfold L2.start
      rw [List.map_cons, List.cons_append, List.length_cons, hv, hl]
    have nO : ∀ a, Ow (fun _ => y) (envI y C md (N.length - ps.length) ds) [] a → a = y := fun a z => by
      rcases z with ⟨i, u, e, o, q⟩ | ⟨p, hp, _⟩
      · exact q.symm
      · cases hp
    have subB : ∀ a, Bv ⟨B, fun _ => False, H1, .non⟩ (fun _ => False) (fun _ => y) (envI y C md (N.length - ps.length) ds) [] a → B a ∨ H1 a = none := fun a z => z.imp (fun q => q) fun z => z.elim (fun z => z.elim) fun z => (nO a z) ▸ n1
    have subT : ∀ a, Tv (fun _ => False) (fun _ => y) (envI y C md (N.length - ps.length) ds) [] a → False ∨ H1 a = none := fun a z => z.imp (fun q => q) fun z => (nO a z) ▸ n1
    refine ⟨fun _ => y, .non, fun _ => False, ?_, fun a o e _ => sm a o e, fun a e => ?_, fun _ h => h, ⟨fun a z => z.elim, fun _ => ⟨rfl, rfl⟩⟩, hB, fun i u e o => ⟨n1, fun z => z⟩, fun p hp => (nomatch hp), fun i j u v ei ej oi oj _ => by rw [own0 i u ei oi, own0 j v ej oj], fun i u p e o hp => (nomatch hp), .nil, fun i u e => ?_, fun p hp => (nomatch hp)⟩
    · rw [est]
      unfold envI env0
      rw [List.length_cons, List.length_cons, List.length_append, List.length_append, List.length_map, List.length_replicate, List.length_replicate, envA_len ar]
    · show H1 a = none
      cases q : H1 a with
      | none => rfl
      | some o => rw [sm a o q] at e; cases e
    · rw [est]
      cases i with
      | zero =>
        have e : some (Sl.slf y C [] []) = some u := e
        cases e
        exact ⟨rfl, rfl, dx, [], upd_same, rfl, .nil⟩
      | succ i =>
        have q := (hgo i u e).2 (fun _ => False) B y (fun _ z => z) fun _ z => z
        exact q.gr ⟨fun a o e _ => sm a o e, subT⟩ ⟨fun a o e _ => sm a o e, subB⟩ fun ho _ _ => by rw [(hgo i u e).1] at ho; cases ho
  · cases e : m (envI y C md (N.length - ps.length) ds) () with
    | nx env1 s1 =>
      cases env1 with
      | nil => simp only [e, SO.foJ] at z
      | cons sl env1 =>
        cases sl with
        | slf y' C' ns es =>
          simp only [e, SO.foJ] at z
          by_cases hc : y' = y ∧ C' = C
          · rw [if_pos hc] at z
            obtain ⟨rfl, rfl⟩ := hc
            intro σ' H' ⟨ad, bv, bm, R⟩
            obtain ⟨fa, fσ, dx', fs, q1, q2, q3⟩ := R.sl 0 _ rfl
            rw [fa] at q1
            refine z H' (fun a o e => R.ext a o e fun z => z) ⟨dx', fs, q1, q2, q3.gr (.sub fun a h => ?_)⟩
            rcases h with h | h
            · exact .inl h
            · exact .inr (.inr (.inl ⟨0, _, rfl, rfl, fa.trans h.symm⟩))
          · rw [if_neg hc] at z; exact z.elim
        | _ => simp only [e, SO.foJ] at z
    | ex x env1 s1 =>
      simp only [e, SO.foJ] at z
      intro dx' σ' H' ⟨ad, bv', bm', R, n, fs, e1, e2, r⟩
      exact z dx' H' (fun a o e => R.ext a o e fun z => z) n ⟨fs, e1, e2, r.gr (.sub fun a z => .inl z)⟩
    | _ => simp only [e, SO.foJ] at z
end
end LM

/-! calls whose wish reads the slots -/
namespace LM
open PySem PySem.Spec PyProof.Rows L2
section
variable {X : Cx} {CX : CXT} {k : Nat} {f C : Addr} {fd : FuncData} {ps : List Str} {sp : Sp} {x m : Str} {p pos apos : Pos} {e o : Expr} {es : List Expr} {ta : TE} {t : TA}
def tMakeS (C : Addr) (sp : Sp) (E : L2.St → XK) (t : TA) : TE := fun σ H Q => t σ H fun vs H1 => ∀ x dx, H1 x = none → H1 dx = none → dx ≠ x →
  sp (.ref x :: vs) (upd (upd H1 dx (.own x)) x (.ins C dx [])) (fun v H2 => v = .non ∧ Q (.ref x) H2) (E σ)
theorem run_makeS {pins : List (Addr × Obj)} {σ : L2.St} {H : Hp} {s : Shared} {Q : VK} {us : List Value} {vs : List V} {E : XK} (M : Mk X.K C f) (F : FnOk X.prog X.w X.K X.mg X.base CX k f fd ps sp) (hr : Room (k + 1) X.A) (hb : Binds X.K fd ps [])
    (hx : PassesAt CX X σ E) (I : Inv X pins σ H s) (r : Vals vs us)
    (h : ∀ x dx, H x = none → H dx = none → dx ≠ x → sp (.ref x :: vs) (upd (upd H dx (.own x)) x (.ins C dx [])) (fun v H2 => v = .non ∧ Q (.ref x) H2) E) :
    wpAny (model X.prog X.w) X.A (call (.ref C) us) (EP X pins σ Q) X.xe s := by
  generalize ha : s.heap.objs.size = a
  have q0 := h (a + 1) a (I.hok.fresh (by rw [ha]; exact Nat.le_succ a)) (I.hok.fresh (by rw [ha]; exact Nat.le_refl a)) (Nat.ne_of_lt (Nat.lt_succ_self a))
  have J := Inv.made (C := C) I
  rw [ha] at J
  have r2 : Vals (V.ref (a + 1) :: vs) (Value.ref (a + 1) :: us) := .cons rfl r
  have hl : (Value.ref (a + 1) :: us).length = ps.length := by rw [← r2.length, F.len _ _ _ _ q0]
  have bnd := hb _ (Value.ref (a + 1) :: us) J.kIn (by rw [List.append_nil]; exact hl)
  rw [List.append_nil] at bnd
  have go := F.run _ X.stack _ _ ⟨Value.ref (a + 1) :: us, []⟩ (Value.ref (a + 1) :: us) _ _ E (hr.make C us []) (J.env0.make C us []) bnd r2 q0
  refine wpAny_call (make_map (f := f) I.kIn M.makes M.init (beq_iff_eq.mp M.fn) ?_)
  rw [ha]
  refine codeAny_mono go fun r s' z => ?_
  rcases r with er | fl
  · exact hx pins _ _ er s' J z
  · cases fl with
    | ret u =>
      obtain ⟨v, H', J', rv, ev, q3⟩ := J.after z
      subst ev
      exact ⟨rv, ⟨V.ref (a + 1), H', J', rfl, q3⟩⟩
    | _ => exact False.elim z
theorem pe_makeS {E : L2.St → XK} (M : Mk X.K C f) (F : FnOk X.prog X.w X.K X.mg X.base CX k f fd ps sp) (hr : Room (k + 1) X.A) (hg : Gl X x) (hm : X.mg x = some (.ref C)) (hb : Binds X.K fd ps []) (hx : ∀ σ, PassesAt CX X σ (E σ))
    (ha : PA X (e :: es) t) (hdb : (x == ("__debug__" : Str)) = false := by decide) (he : starEach (e :: es) X.env = (false, eval e X.env) :: starEach es X.env := by rfl) (hpl : (backTo pos (starEach es X.env)).any (·.1) = false := by rfl) :
    PE X (.Call (.Name x p) (e :: es) [] pos) (tMakeS C sp E t) := ⟨fun pins s σ H Q I h =>
  wpAny_Call_Name_kw (ld_glob I hg hm (PySem.W.callWith_K (h₀ := X.base) I.ok.mod.kin M.kp (thn (ha.run pos pins s σ H _ I h) fun us s1 ⟨vs, H1, I1, r, q⟩ => ⟨I1.kIn, run_makeS M F hr hb (hx σ) I1 r q⟩) he hpl) hdb)⟩
def tMethS (C : Addr) (m : Str) (sp : Sp) (E : L2.St → XK) (ta : TE) (t : TA) : TE := fun σ H Q => tMeth C m sp [] (E σ) ta t σ H Q
theorem pe_methS {pl : Sem Bool} {E : L2.St → XK} (he : PE X o ta) (c : Cls X.K C) (hm : Meth X.K C m f) (F : FnOk X.prog X.w X.K X.mg X.base CX k f fd ps sp) (hr : Room k X.A) (hb : Binds X.K fd ps []) (hx : ∀ σ, PassesAt CX X σ (E σ)) (ha : PA X (e :: es) t)
    (hst : starEach (e :: es) X.env = (false, eval e X.env) :: starEach es X.env := by rfl) (hpl : (backTo pos (starEach es X.env)).any (·.1) = false := by rfl)
    (ht : eval (.Call (.Attribute o m apos) (e :: es) [] pos) X.env = (do
      let ov ← eval o X.env
      standAt apos.atName
      let (f, first) ← holding [ov] (getMethod ov m pl)
      callWith pos f first (backTo pos (starEach (e :: es) X.env)) (backToKw pos (keywordEach [] X.env))) := by rfl) : PE X (.Call (.Attribute o m apos) (e :: es) [] pos) (tMethS C m sp E ta t) := by
  refine ⟨fun pins s σ H Q I h => PySem.W.methodCall_KW (pl := pl) (thn (he.run pins s σ H _ I h) fun u s1 ⟨x, H1, I1, rx, a, dx, fs, ex, ea, l, q⟩ => ?_) ht⟩
  subst ex
  obtain rfl : u = Value.ref a := rx
  refine getmeth_ok I1 ea c hm l (PySem.W.callWith_K (first := [.ref a]) (h₀ := X.base) I.ok.mod.kin hm.kp (thn (ha.run pos pins s1 σ H1 _ I1 q) fun us s2 ⟨vs, H2, I2, r, q2⟩ => ⟨I2.kIn, ?_⟩) hst hpl)
  exact run_fnSD (E := E) (us := .ref a :: us) (vs := .ref a :: vs) F hr hb .nil (hx σ) I2 (.cons rfl r) q2
end
section
variable {S : Type} {X : Cx} {I : BoxI S} {Wx : WX} {CX : CXT} {a o : Expr} {es : List Expr} {pos p apos : Pos} {ma : MX S W} {ms : MX S (List W)} {md : List Md} {k : Nat} {fa C : Addr} {fd : FuncData} {ps : List Str} {x m : Str}
theorem d_makeX {f : List D → FO Unit (List Str × List D)} (M : Mk X.K C fa) (F : FnOk X.prog X.w X.K X.mg X.base CX k fa fd ps (spI X.K C md f)) (hr : Room (k + 1) X.A) (hg : Gl X x) (hm : X.mg x = some (.ref C)) (hb : Binds X.K fd ps [])
    (hx : ∀ σ, PassesAt CX X σ (WE Wx σ)) (ha : PA X (a :: es) (tDs X.K I Wx ms)) (hmd : md.any Md.isB = false := by rfl) (hdb : (x == ("__debug__" : Str)) = false := by decide) (he : starEach (a :: es) X.env = (false, eval a X.env) :: starEach es X.env := by rfl)
    (hpl : (backTo pos (starEach es X.env)).any (·.1) = false := by rfl) : PE X (.Call (.Name x p) (a :: es) [] pos) (tD X.K I Wx (mMakeP C md f ms)) := by
  refine PEimp (pe_makeS (E := fun σ => WE Wx σ) M F hr hg hm hb hx ha hdb he hpl) fun σ H Q ⟨G, env, s, ts, R, h⟩ => ?_
  refine tDs_bind (Z := ZD X.K I Wx G ts σ Q) R h (fun _ _ _ z => z) (fun z => z) fun ws env1 s1 vs H1 _ l R1 z1 => ?_
  obtain ⟨ad, bv, bm, R2⟩ := R1
  intro y dx n1 n2 n3
  exact make_fin R2 l zip_in (fun c d H' h => h) hmd z1 n1 n2 n3
theorem d_methX {f : List D → Unit → FO Unit D} {pl : Sem Bool} (ho : PE X o (tD X.K I Wx ma)) (c : Cls X.K C) (hm : Meth X.K C m fa) (F : FnOk X.prog X.w X.K X.mg X.base CX k fa fd ps (spD boxNil X.K (.v :: md) f)) (hr : Room k X.A) (hb : Binds X.K fd ps [])
    (hx : ∀ σ, PassesAt CX X σ (WE Wx σ)) (ha : PA X (a :: es) (tDs X.K I Wx ms)) (hmd : md.any Md.isB = false := by rfl)
    (hst : starEach (a :: es) X.env = (false, eval a X.env) :: starEach es X.env := by rfl) (hpl : (backTo pos (starEach es X.env)).any (·.1) = false := by rfl)
    (ht : eval (.Call (.Attribute o m apos) (a :: es) [] pos) X.env = (do
      let ov ← eval o X.env
      standAt apos.atName
      let (f, first) ← holding [ov] (getMethod ov m pl)
      callWith pos f first (backTo pos (starEach (a :: es) X.env)) (backToKw pos (keywordEach [] X.env))) := by rfl) : PE X (.Call (.Attribute o m apos) (a :: es) [] pos) (tD X.K I Wx (mMethP C m md f ma ms)) :=
  PEimp (pe_methS (E := fun σ => WE Wx σ) ho c hm F hr hb hx ha hst hpl ht) fun σ H Q ⟨G, env, s, ts, R, h⟩ => meth_fin (E := WE Wx σ) R h (fun _ _ _ h => h) hmd
end
end LM

/-! try, except X as e -/
namespace LM
open PySem L2
section
variable {K : PySem.W.Frag} {B : Addr → Prop} {H : Hp} {dx : Addr} {fs : List (Str × V)}
theorem rd_nx {a : Addr} {u : HO} (h : H dx = some (.xd fs)) (hu : ∀ fs, u ≠ .xd fs) (r : Rd H a u) : a ≠ dx := fun z => by
  subst z
  rcases r with r | ⟨o, r⟩
  · rw [h] at r; exact hu _ (Option.some.inj r).symm
  · rw [h] at r; cases r
mutual
theorem Rep.nx (h : H dx = some (.xd fs)) : ∀ (d : D) (v : V), Rep K B H v d → Rep K (fun a => B a ∨ a = dx) H v d
  | .non, _, r => by cases r; exact .non
  | .bl _, _, r => by cases r; exact .bl _
  | .int _, _, r => by cases r; exact .int _
  | .str _, _, r => by cases r; exact .str _
  | .tup ds, _, r => by
    cases r with
    | tup n r q => exact .tup (fun z => z.elim n (rd_nx h (fun _ z => by cases z) r)) r (Reps.nx h ds _ q)
    | wtup r q => exact .wtup r (Reps.nx h ds _ q)
  | .lst ds, _, r => by
    cases r with
    | lst n r q => exact .lst (fun z => z.elim n (rd_nx h (fun _ z => by cases z) r)) r (Reps.nx h ds _ q)
    | wlst r q => exact .wlst r (Reps.nx h ds _ q)
  | .ins C ns ds, _, r => by
    cases r with
    | ins n r e q => exact .ins (fun z => z.elim n (rd_nx h (fun _ z => by cases z) (.inl r))) r e (Reps.nx h ds _ q)
theorem Reps.nx (h : H dx = some (.xd fs)) : ∀ (ds : List D) (vs : List V), Reps K B H vs ds → Reps K (fun a => B a ∨ a = dx) H vs ds
  | [], _, r => by cases r; exact .nil
  | d :: ds, _, r => by
    cases r with
    | cons h1 h2 => exact .cons (Rep.nx h d _ h1) (Reps.nx h ds _ h2)
end
theorem Top.nx {T : Addr → Prop} (h : H dx = some (.xd fs)) {v : V} {d : D} (r : Top K T B H v d) : Top K (fun a => T a ∨ a = dx) (fun a => B a ∨ a = dx) H v d := by
  rcases r with r | ⟨a, xs, ds, e1, e2, n, r, q⟩
  · exact .inl (r.nx h)
  · exact .inr ⟨a, xs, ds, e1, e2, fun z => z.elim n (rd_nx h (fun _ z => by cases z) r), r, q.nx h⟩
end
/-- an error in hand: at a, its class C, its dict dx -/
def excI (K : PySem.W.Frag) (a dx C : Addr) : BoxI Ex where
  rel := fun e bv bm H => bv = .ref a ∧ (∀ x, bm x ↔ x = dx) ∧ e.C = C ∧ ∃ fs, H dx = some (.xd fs) ∧ e.ns = fs.map (·.1) ∧ Reps K (fun _ => False) (fun _ => none) (fs.map (·.2)) e.ds
  frame := by
    rintro s bv bm H H' ⟨h1, h2, h3, fs, h4, h5, h6⟩ h
    exact ⟨h1, h2, h3, fs, (h dx ((h2 dx).mpr rfl)).trans h4, h5, h6⟩
  dom := fun ⟨_, h2, _, fs, h4, _⟩ m => by
    rw [(h2 _).mp m, h4]; exact fun z => by cases z
  fix := true
/-- data that lie in no heap -/
theorem reps_flat {K : PySem.W.Frag} {B : Addr → Prop} {H : Hp} : ∀ {ds : List D} {vs : List V}, ds.all D.flat = true → Reps K B H vs ds → Reps K (fun _ => False) (fun _ => none) vs ds
  | [], _, _, h => by cases h; exact .nil
  | d :: ds, _, f, h => by
    rw [List.all_cons, Bool.and_eq_true] at f
    cases h with
    | cons h1 h2 =>
      refine .cons ?_ (reps_flat f.2 h2)
      cases d with
      | non => cases h1; exact .non
      | bl b => cases h1; exact .bl _
      | int i => cases h1; exact .int _
      | str x => cases h1; exact .str _
      | _ => cases f.1
theorem rep_lift {K : PySem.W.Frag} {B : Addr → Prop} {H : Hp} {v : V} {d : D} (h : Rep K (fun _ => False) (fun _ => none) v d) : Rep K B H v d := h.gr ⟨fun _ _ e => (nomatch (show (none : Option HO) = _ from e)), fun _ _ => .inr rfl⟩
section
variable {K : PySem.W.Frag} {G : Gh} {env : List Sl} {s : Unit} {ts : List (V × W)} {σ : St} {H : Hp} {e : Ex} {a dx : Addr} {i : Nat}
/-- into the suite -/
theorem erx_in (R : ERX K boxNil G e dx env s ts σ H) (cl : Cl ts) (nb : env.all Sl.noBox = true) (fl : e.ds.all D.flat = true) (ni : ∀ x, env[i]? = some x → x.isRef = false) :
    ER K (excI K a dx e.C) ⟨G.B, fun x => x = dx, G.H0, .ref a⟩ (env.set i .box) e ts (σ.set i (some (.ref a))) H := by
  obtain ⟨ad, bv, bm, R, n, fs, e1, e2, r⟩ := R
  have b0 : ∀ a, ¬ bm a := R.box
  have gM : bm = G.M := (R.bfr.2 rfl).2
  have xn : ∀ {j : Nat} {x : Sl}, env[j]? = some x → x.isOwn = true → ad j ≠ dx := fun {j x} ej o z => by
    have q := R.sl j x ej
    cases x with
    | own ds => obtain ⟨_, xs, q, _⟩ := q; rw [z, e1] at q; cases q
    | slf y C ns ds => obtain ⟨_, _, dx', fs', q, _⟩ := q; rw [z, e1] at q; cases q
    | _ => cases o
  have go : ∀ b, Ow ad (env.set i .box) ts b → Ow ad env ts b := fun b z => z.imp (fun ⟨j, y, ej, o, q⟩ => by
    rcases set_get ej with ⟨_, rfl, _⟩ | ⟨_, ej⟩
    · cases o
    · exact ⟨j, y, ej, o, q⟩) fun q => q
  have gb : Gr (fun b => Bv G bm ad env ts b ∨ b = dx) (Bv ⟨G.B, fun x => x = dx, G.H0, .ref a⟩ (fun x => x = dx) ad (env.set i .box) ts) H H := .sub fun b z => by
    rcases z with z | z | z
    · exact .inl (.inl z)
    · exact .inr z
    · exact .inl (.inr (.inr (go b z)))
  have gt : Gr (fun b => Tv bm ad env ts b ∨ b = dx) (Tv (fun x => x = dx) ad (env.set i .box) ts) H H := .sub fun b z => by
    rcases z with z | z
    · exact .inr z
    · exact .inl (.inr (go b z))
  refine ⟨ad, .ref a, fun x => x = dx, ?_, fun b o q m => R.ext b o q fun z => b0 b (gM ▸ z), R.dom, ⟨rfl, fun _ => Iff.rfl, rfl, fs, e1, e2, reps_flat fl r⟩, ⟨fun b z => .inl z, fun _ => ⟨rfl, rfl⟩⟩, R.bdom, fun j x ej o => ?_, fun p hp f => ?_, fun j k x y ej ek oj ok => ?_, fun j x p ej o hp f => ?_, R.d3, fun j x ej => ?_, fun p hp => ?_⟩
  · rw [List.length_set, List.length_set]; exact R.len
  · rcases set_get ej with ⟨_, rfl, _⟩ | ⟨_, ej⟩
    · cases o
    · exact ⟨(R.own j x ej o).1, xn ej o⟩
  · rw [cl.nf hp] at f; cases f
  · rcases set_get ej with ⟨_, rfl, _⟩ | ⟨_, ej⟩
    · cases oj
    rcases set_get ek with ⟨_, rfl, _⟩ | ⟨_, ek⟩
    · cases ok
    exact R.d1 j k x y ej ek oj ok
  · rw [cl.nf hp] at f; cases f
  · rcases set_get ej with ⟨rfl, rfl, hl⟩ | ⟨ne, ej⟩
    · rw [List.getElem?_set_self (by rw [R.len]; exact hl)]
      exact rfl
    · rw [List.getElem?_set_ne (Ne.symm ne)]
      have q := R.sl j x ej
      have nbx : x.noBox = true := List.all_eq_true.mp nb x (List.mem_of_getElem? ej)
      cases x with
      | no => exact q
      | val d => obtain ⟨v, q1, q2⟩ := q; exact ⟨v, q1, (q2.nx e1).gr gb⟩
      | top d => obtain ⟨v, q1, q2⟩ := q; exact ⟨v, q1, (q2.nx e1).gr gt gb⟩
      | own ds => obtain ⟨q1, xs, q2, q3⟩ := q; exact ⟨q1, xs, q2, (q3.nx e1).gr gb⟩
      | fz ds => obtain ⟨q1, q2⟩ := q; exact ⟨q1, (q2.nx e1).gr gb⟩
      | slf y C ns ds => obtain ⟨q1, q2, dx', fs', q3, q4, q5⟩ := q; exact ⟨q1, q2, dx', fs', q3, q4, (q5.nx e1).gr gb⟩
      | box => cases nbx
  · have q := R.tm p hp
    obtain ⟨v, w⟩ := p
    rcases cl _ hp with ⟨d, ew⟩ | ⟨d, ew⟩
    · have ew : w = .v d := ew
      subst ew
      exact (Rep.nx e1 d v q).gr gb
    · have ew : w = .t d := ew
      subst ew
      exact (Top.nx e1 q).gr gt gb
/-- out of the suite -/
theorem erx_out {C : Addr} {v0 : Option V} (n : G.H0 dx = none) (gM : ∀ x, ¬ G.M x) (R : ER K (excI K a dx C) ⟨G.B, fun x => x = dx, G.H0, .ref a⟩ env e ts σ H) (cl : Cl ts) (nb : (env.set i .no).all Sl.noBox = true) (ni : ∀ x, env[i]? = some x → x.isRef = false) :
    ER K boxNil G (env.set i .no) () ts (σ.set i v0) H := by
  obtain ⟨ad, bv, bm, R⟩ := R
  obtain ⟨_, b0, _, fs, e1, _⟩ := R.box
  obtain ⟨rfl, gm⟩ := R.bfr.2 rfl
  have go : ∀ b, Ow ad (env.set i .no) ts b → Ow ad env ts b := fun b z => z.imp (fun ⟨j, y, ej, o, q⟩ => by
    rcases set_get ej with ⟨_, rfl, _⟩ | ⟨_, ej⟩
    · cases o
    · exact ⟨j, y, ej, o, q⟩) fun q => q
  have gb : Gr (Bv ⟨G.B, fun x => x = dx, G.H0, .ref a⟩ bm ad env ts) (Bv G G.M ad (env.set i .no) ts) H H := .sub fun b z => by
    rcases z with z | z | z
    · exact .inl z
    · exact absurd z (gM b)
    · exact .inr (.inr (go b z))
  have gt : Gr (Tv bm ad env ts) (Tv G.M ad (env.set i .no) ts) H H := .sub fun b z => by
    rcases z with z | z
    · exact absurd z (gM b)
    · exact .inr (go b z)
  refine ⟨ad, G.bv, G.M, ?_, fun b o q m => ?_, R.dom, gM, ⟨fun b z => .inl z, fun _ => ⟨rfl, rfl⟩⟩, R.bdom, fun j x ej o => ?_, fun p hp f => ?_, fun j k x y ej ek oj ok => ?_, fun j x p ej o hp f => ?_, R.d3, fun j x ej => ?_, fun p hp => ?_⟩
  · rw [List.length_set, List.length_set]; exact R.len
  · refine R.ext b o q ?_
    intro z
    have z : b = dx := z
    rw [z, n] at q; cases q
  · rcases set_get ej with ⟨_, rfl, _⟩ | ⟨_, ej⟩
    · cases o
    · exact ⟨(R.own j x ej o).1, gM _⟩
  · rw [cl.nf hp] at f; cases f
  · rcases set_get ej with ⟨_, rfl, _⟩ | ⟨_, ej⟩
    · cases oj
    rcases set_get ek with ⟨_, rfl, _⟩ | ⟨_, ek⟩
    · cases ok
    exact R.d1 j k x y ej ek oj ok
  · rw [cl.nf hp] at f; cases f
  · rcases set_get ej with ⟨rfl, rfl, hl⟩ | ⟨ne, ej⟩
    · exact True.intro
    · rw [List.getElem?_set_ne (Ne.symm ne)]
      have q := R.sl j x ej
      have nbx : x.noBox = true := List.all_eq_true.mp nb x (List.mem_of_getElem? (i := j) (by rw [List.getElem?_set_ne (Ne.symm ne)]; exact ej))
      cases x with
      | no => exact q
      | val d => obtain ⟨v, q1, q2⟩ := q; exact ⟨v, q1, q2.gr gb⟩
      | top d => obtain ⟨v, q1, q2⟩ := q; exact ⟨v, q1, q2.gr gt gb⟩
      | own ds => obtain ⟨q1, xs, q2, q3⟩ := q; exact ⟨q1, xs, q2, q3.gr gb⟩
      | fz ds => obtain ⟨q1, q2⟩ := q; exact ⟨q1, q2.gr gb⟩
      | slf y C ns ds => obtain ⟨q1, q2, dx', fs', q3, q4, q5⟩ := q; exact ⟨q1, q2, dx', fs', q3, q4, q5.gr gb⟩
      | box => cases nbx
  · have q := R.tm p hp
    obtain ⟨v, w⟩ := p
    rcases cl _ hp with ⟨d, ew⟩ | ⟨d, ew⟩
    · have ew : w = .v d := ew
      subst ew
      exact Rep.gr gb d v q
    · have ew : w = .t d := ew
      subst ew
      exact Top.gr gt gb q
end
end LM

/-! try, except X as e: the rule -/
namespace LM
open PySem L2
def noRefAt (env : List Sl) (i : Nat) : Bool := match env[i]? with
  | some x => !x.isRef
  | none => true
theorem noRefAt_ok {env : List Sl} {i : Nat} (h : noRefAt env i = true) : ∀ x, env[i]? = some x → x.isRef = false := fun x e => by
  unfold noRefAt at h
  rw [e] at h
  simpa using h
/-- behind the suite: the name is gone -/
def tryOut (i : Nat) (o : SO Ex) : SO Unit := match o with
  | .nx env _ => if (env.set i .no).all Sl.noBox && noRefAt env i then .nx (env.set i .no) () else .bad
  | .rt d env _ => if (env.set i .no).all Sl.noBox && noRefAt env i then .rt d (env.set i .no) () else .bad
  | _ => .bad
def mTryAs (sub : Addr → Option Bool) (i : Nat) (mb : MS Unit) (mh : MS Ex) : MS Unit := fun env s => match mb env s with
  | .ex e env' s' => match sub e.C with
    | some true => if env'.all Sl.noBox && e.ds.all D.flat && noRefAt env' i then tryOut i (mh (env'.set i .box) e) else .bad
    | some false => .ex e env' s'
    | none => .bad
  | o => o
section
variable {X : Cx} {Wx : WX} {x n : Str} {Cc : Addr} {i : Nat} {body suite : List Stmt} {b₀ : Stmt} {np pos pos' : Pos} {mb : MS Unit} {mh : MS Ex} {sub : Addr → Option Bool}
theorem s_try_as (hs : X.stack = X.env :: X.outer) (hf : X.env.frame = some X.env.locals) (hN : X.N.Nodup) (hi : X.N[i]? = some n) (hln : X.env.kindOf n = some .local) (hc : Names X x (.ref Cc)) (tk : Takes X Wx)
    (hsub : ∀ C b, sub C = some b → PySem.W.exmOne X.K (.ref C) (.ref Cc) = some b)
    (hb : ∀ (W : WX) (pn : List (Addr × Obj)) (xe : Value → Shared → Prop), Takes (X.tr pn xe) W → PassesOwn (model X.prog X.w) X.A X.env xe → PSs (X.tr pn xe) body (tS X.K boxNil W mb))
    (hsu : ∀ (a : Addr) (oe : Obj) (C dx : Addr) (pn : List (Addr × Obj)), Zc (.ref C) (some dx) oe → (∃ vs, oe.data = .fields vs) → PSs (X.suite a ((a, oe) :: pn)) (b₀ :: suite) (tS X.K (excI X.K a dx C) W0 mh)) :
    PS X (.Try body [.ExceptHandler (some (.Name x np)) (some n) (b₀ :: suite) pos'] [] [] pos) (tS X.K boxNil Wx (mTryAs sub i mb mh)) := by
  refine PSimp (L2.ps_try_as (ts := fun a cls d => fun Dn σ H => ∃ C dx, cls = .ref C ∧ d = some dx ∧ tS X.K (excI X.K a dx C) W0 mh Dn σ H) hs hf hN hi hln hc tk hb
    (fun a oe cls d pn hz hv => ⟨fun pins s σ H Dn J ⟨C, dx, e1, e2, h⟩ => (hsu a oe C dx pn (by rw [← e1, ← e2]; exact hz) hv).run pins s σ H Dn J h⟩)) fun Dn σ H ⟨G, env, s, ts, R, cl, h⟩ => ?_
  refine ⟨G, env, s, ts, R, cl, ?_⟩
  unfold mTryAs at h
  cases e : mb env s with
  | nx env1 s1 => rw [e] at h; exact h
  | rt d env1 s1 => rw [e] at h; exact h
  | rf d env1 s1 => rw [e] at h; exact h
  | bk env1 s1 => rw [e] at h; exact h
  | ct env1 s1 => rw [e] at h; exact h
  | bad => rw [e] at h; exact h
  | ex x env1 s1 =>
    simp only [e] at h
    intro dx σ' H' R'
    cases e1 : sub x.C with
    | none => simp only [e1] at h
    | some b =>
      cases b with
      | false =>
        simp only [e1] at h
        exact ⟨false, hsub _ _ e1, fun z => absurd z Bool.false_ne_true, fun _ => h dx σ' H' R'⟩
      | true =>
        simp only [e1] at h
        refine ⟨true, hsub _ _ e1, fun _ a na => ?_, fun z => absurd z.symm Bool.false_ne_true⟩
        by_cases hc : (env1.all Sl.noBox && x.ds.all D.flat && noRefAt env1 i) = true
        · simp only [if_pos hc] at h
          simp only [Bool.and_eq_true] at hc
          obtain ⟨⟨h1, h2⟩, h3⟩ := hc
          have gM : ∀ x, ¬ G.M x := by
            obtain ⟨ad, bv, bm, R2, _⟩ := id R'
            have e5 : bm = G.M := (R2.bfr.2 rfl).2
            exact fun x z => R2.box x (by rw [e5]; exact z)
          have nG : G.H0 dx = none := by obtain ⟨_, _, _, _, q, _⟩ := R'; exact q
          refine ⟨x.C, dx, rfl, rfl, _, _, _, ts, erx_in R' cl h1 h2 (noRefAt_ok h3), cl, ?_⟩
          cases e4 : mh (env1.set i .box) x with
          | nx env2 s2 =>
            simp only [e4, tryOut] at h
            intro σ2 H2 R2
            by_cases hc : ((env2.set i .no).all Sl.noBox && noRefAt env2 i) = true
            · simp only [if_pos hc] at h
              rw [Bool.and_eq_true] at hc
              exact h _ H2 (erx_out nG gM R2 cl hc.1 (noRefAt_ok hc.2))
            · simp only [if_neg hc] at h
          | rt d env2 s2 =>
            simp only [e4, tryOut] at h
            intro v σ2 H2 R2
            by_cases hc : ((env2.set i .no).all Sl.noBox && noRefAt env2 i) = true
            · simp only [if_pos hc] at h
              rw [Bool.and_eq_true] at hc
              exact h v (σ2.set i none) H2 (erx_out nG gM R2 cl.cons hc.1 (noRefAt_ok hc.2))
            · simp only [if_neg hc] at h
          | rf d env2 s2 => simp only [e4, tryOut] at h
          | bk env2 s2 => simp only [e4, tryOut] at h
          | ct env2 s2 => simp only [e4, tryOut] at h
          | ex y env2 s2 => simp only [e4, tryOut] at h
          | bad => simp only [e4, tryOut] at h
        · simp only [if_neg hc] at h
end
/-! ### in the suite -/
/-- e.f -/
def mXf (okC : Addr → Bool) (f : Str) (m : MX Ex W) : MX Ex W := m.bind fun w => fun env e => match w with
  | .b => match (e.ns.zip e.ds).lookup f with
    | some d => if okC e.C then .ok (.v d) env e else .bad
    | none => .bad
  | _ => .bad
/-- isinstance(e, ..) -/
def mIsE (f : Addr → Option Bool) (m : MX Ex W) : MX Ex W := m.bind fun w => fun env e => match w with
  | .b => match f e.C with
    | some b => .ok (.v (.bl b)) env e
    | none => .bad
  | _ => .bad
/-- what an error's class says to isinstance and to e.f -/
structure XIs (K : PySem.W.Frag) (C : Addr) : Prop where
  ga : PySem.W.findIn K (.ref C) "__getattribute__" = some (some (.builtin "BaseException.__getattribute__"))
  gg : PySem.W.findIn K (.ref C) "__getattr__" = some none
  exC : PySem.W.subIn K (.ref C) (.type "BaseException") = some true
  hdC : PySem.W.hasDictIn K C = true
  ha : PySem.W.findIn K (.ref C) "__class__" = some (some (.builtin "object.__class__"))
  hn : PySem.W.specialIn K (.builtin "object.__class__") "__get__" = some (some (.builtin "getset_descriptor.__get__"))
  ht : PySem.W.takesIn K (.builtin "object.__class__") = some true
  hm : PySem.W.mroIn K C (.type "object") = some true
/-- the error in hand lies so -/
theorem exc_at {X : Cx} {a D dx : Addr} {oe : Obj} {pn pins : List (Addr × Obj)} {σ : L2.St} {H : Hp} {s : Shared} {fs : List (Str × V)} (hz : Zc (.ref D) (some dx) oe) (hf : ∃ vs, oe.data = .fields vs) (I : Inv (X.suite a ((a, oe) :: pn)) pins σ H s) (ed : H dx = some (.xd fs)) :
    ∃ (od : Obj) (mA : Str → Option Value), PySem.W.InstAt s.heap a oe D (some od) ∧ (∀ n, PySem.W.lookIn n od = some (mA n)) ∧ ∀ f, RelO (fs.lookup f) (mA f) := by
  obtain ⟨hget, _⟩ := I.pin (a, oe) (List.mem_append.mpr (.inl List.mem_cons_self))
  obtain ⟨mA, hns, hr⟩ : ∃ mA, s.heap.Ns1 dx mA ∧ ∀ f, RelO (fs.lookup f) (mA f) := I.hok dx _ ed
  obtain ⟨od, ho, hl⟩ := lookIn_ns hns
  obtain ⟨vs, hv⟩ := hf
  exact ⟨od, mA, ⟨hget, hz.1, by unfold PySem.W.notCls; rw [hv] <;> rfl, by rw [hz.2]; exact ho⟩, fun n => hl n, hr⟩
section
variable {X : Cx} {Wx : WX} {a C dx : Addr} {oe : Obj} {pn : List (Addr × Obj)} {e : Expr} {m : MX Ex W} {f : Str} {pos p : Pos} {okC : Addr → Bool}
theorem d_xf (hk : ∀ C, okC C = true → XIs X.K C ∧ PySem.W.findIn X.K (.ref C) f = some none) (hz : Zc (.ref C) (some dx) oe) (hf : ∃ vs, oe.data = .fields vs) (he : PE (X.suite a ((a, oe) :: pn)) e (tD X.K (excI X.K a dx C) Wx m))
    (hb : attributeBase e f X.env (eval e X.env) = eval e X.env := by rfl) : PE (X.suite a ((a, oe) :: pn)) (.Attribute e f pos) (tD X.K (excI X.K a dx C) Wx (mXf okC f m)) := by
  refine ⟨fun pins s σ H Q I ⟨G, env, t, ts, R, h⟩ => attr_of hb (thn (he.run pins s σ H (fun x H1 => x = .ref a ∧ ∃ fs v, okC C = true ∧ H1 dx = some (.xd fs) ∧ fs.lookup f = some v ∧ Q v H1) I ?_) fun u s1 ⟨x, H1, I1, rx, ex, fs, v, ok, ed, l, q⟩ => ?_)⟩
  · refine tD_bind (Z := ZD X.K (excI X.K a dx C) Wx G ts σ Q) R h (fun _ _ _ z => z) (fun z => z) fun w env1 t1 x H1 _ R1 z1 => ?_
    cases w with
    | b =>
      obtain ⟨ad, bv, bm, R2⟩ := id R1
      obtain ⟨b1, b2, b3, fs, b4, b5, b6⟩ := R2.box
      have ex : x = bv := R2.tm _ List.mem_cons_self
      cases e1 : (t1.ns.zip t1.ds).lookup f with
      | none => simp only [e1] at z1; exact z1.elim
      | some d =>
        simp only [e1] at z1
        by_cases hc : okC t1.C = true
        · simp only [if_pos hc] at z1
          rw [b5] at e1
          obtain ⟨v, e4, r4⟩ := fld_get b6 e1
          refine ⟨by rw [ex, b1], fs, v, by rw [← b3]; exact hc, b4, e4, z1 v H1 ⟨ad, bv, bm, (R2.pushV (rep_lift r4)).less (.cons_cons _ sl1)⟩⟩
        · simp only [if_neg hc] at z1; exact z1.elim
    | _ => exact z1.elim
  · subst ex
    obtain rfl : u = Value.ref a := rx
    obtain ⟨T, hno⟩ := hk C ok
    obtain ⟨od, mA, J, hl, hr⟩ := exc_at hz hf I1 ed
    obtain ⟨y, hy, ry⟩ := RelO.some_of (v := v) (o := mA f) (by rw [← l]; exact hr f)
    exact HandSPX.exc_get I1.kIn J T.ga T.gg T.exC (PySem.W.findObj_own T.hdC hno rfl (by rw [hl, hy])) (handed_of ry) ⟨v, H1, I1.tok _, ry, q⟩
theorem k_own {X : Cx} {x : Str} {D : Addr} (hg : Gl X x) (hm : X.mg x = some (.ref D)) (hd : (x == ("__debug__" : Str)) = false := by decide) : ClsA X (.Name x pos) [.ref D] (tC (.ref D)) :=
  ⟨pe_glob hg hm rfl hd, fun σ H Q h => h _ H (fun _ _ e => e) (.inl ⟨_, rfl, .own D⟩)⟩
def rIsX (K : PySem.W.Frag) (D a dx : Addr) : List V → Hp → VK → Prop := fun xs H Q => ∃ (c : V) (cv : Value) (b : Bool) (fs : List (Str × V)), xs = [.ref a, c] ∧ XIs K D ∧ H dx = some (.xd fs) ∧ ClsV c cv ∧ PySem.W.kitOne K (.ref D) cv = some b ∧ Q (.bl b) H
theorem call_isX (hz : Zc (.ref C) (some dx) oe) (hf : ∃ vs, oe.data = .fields vs) : CallR (X.suite a ((a, oe) :: pn)) (.builtin "isinstance") (rIsX X.K C a dx) := by
  intro pins s σ H xs us Q I r ⟨c, cv, b, fs, exs, T, ed, hcv, e, q⟩
  subst exs
  match r with
  | .cons rx (.cons rt .nil) =>
    cases rx
    have ec := hcv.eq rt
    subst ec
    obtain ⟨od, mA, J, hl, hr⟩ := exc_at hz hf I ed
    obtain ⟨cd, hcd, _⟩ := PySem.W.any_some T.hdC
    exact PySem.W.kia_one (PySem.W.kitx_exc (by rw [hcd]; rfl) T.ga T.gg T.exC T.ha T.hn T.ht T.hm) I.kIn J e (fun z => nomatch z) fun tk => ⟨.bl b, H, I.kept (t' := tk) fun _ _ z => z, rfl, q⟩
theorem d_isE {g : Addr → Option Bool} {cv : Value} {tc : TE} {c : Expr} (hk : ∀ C b, g C = some b → XIs X.K C ∧ PySem.W.kitOne X.K (.ref C) cv = some b) (hz : Zc (.ref C) (some dx) oe) (hf : ∃ vs, oe.data = .fields vs) (hg : Gl X "isinstance") (hm : X.mg "isinstance" = none) (hv : bootBuiltins "isinstance" = some (.builtin "isinstance"))
    (he : PE (X.suite a ((a, oe) :: pn)) e (tD X.K (excI X.K a dx C) Wx m)) (hc : ClsA (X.suite a ((a, oe) :: pn)) c [cv] tc) (tc0 : ∀ σ H Q, (∀ v, ClsV v cv → Q v H) → tc σ H Q)
    (h1 : starEach [e, c] X.env = (false, eval e X.env) :: starEach [c] X.env := by rfl) (h2 : starEach [c] X.env = (false, eval c X.env) :: starEach [] X.env := by rfl) (hpl : (backTo pos (starEach [c] X.env)).any (·.1) = false := by rfl) :
    PE (X.suite a ((a, oe) :: pn)) (.Call (.Name "isinstance" p) [e, c] [] pos) (tD X.K (excI X.K a dx C) Wx (mIsE g m)) := by
  refine PEimp (pe_callB (X := X.suite a ((a, oe) :: pn)) (call_isX hz hf) hg hm hv (pa_cons he (pa_cons hc.pe pa_nil h2) h1) (by decide) (by decide) h1 hpl) fun σ H Q ⟨G, env, t, ts, R, h⟩ => ?_
  refine tD_bind (Z := ZD X.K (excI X.K a dx C) Wx G ts σ Q) R h (fun _ _ _ z => z) (fun z => z) fun w env1 t1 x H1 _ R1 z1 => ?_
  refine tc0 σ H1 _ fun v hcv => ?_
  cases w with
  | b =>
    obtain ⟨ad, bv, bm, R2⟩ := id R1
    obtain ⟨b1, b2, b3, fs, b4, b5, b6⟩ := R2.box
    have ex : x = bv := R2.tm _ List.mem_cons_self
    cases e1 : g t1.C with
    | none => simp only [e1] at z1; exact z1.elim
    | some b =>
      simp only [e1] at z1
      obtain ⟨T, k⟩ := hk _ _ e1
      rw [b3] at T k
      exact ⟨v, cv, b, fs, by rw [ex, b1], T, b4, hcv, k, z1 _ H1 ⟨ad, bv, bm, (R2.pushV (.bl b)).less (.cons_cons _ sl1)⟩⟩
  | _ => exact z1.elim
end
end LM

/-! len(o), o[i] by own defs -/
namespace LM
open PySem PySem.Spec PyProof.Rows L2
/-- a def that the class has for a special name -/
structure Spc (K : PySem.W.Frag) (C : Addr) (n : Str) (f : Addr) : Prop where
  at_ : PySem.W.findIn K (.ref C) n = some (some (.ref f))
  fn : PySem.W.typeIn K (.ref f) = some (.type "function")
section
variable {X : Cx} {k : Nat} {f C : Addr} {fd : FuncData} {ps : List Str} {sp : Sp}
theorem run_in1 {pins : List (Addr × Obj)} {σ : L2.St} {H : Hp} {s : Shared} {Q : VK} {us : List Value} {vs : List V} {Er : Value → Shared → Prop} (F : FnOk X.prog X.w X.K X.mg X.base CX0 k f fd ps sp) (hr : Room (k + 1) X.A) (hb : Binds X.K fd ps [])
    (I : Inv X pins σ H s) (r : Vals vs us) (h : sp vs H Q E0) : wpAny (model X.prog X.w) X.A.in1 (call (.ref f) us) (EP X pins σ Q) Er s := by
  have hl : us.length = ps.length := by rw [← r.length]; exact F.len _ _ _ _ h
  have bnd := hb s us I.kIn (by rw [List.append_nil]; exact hl)
  rw [List.append_nil] at bnd
  refine wpAny_call (codeAny_mono (F.run X.A.in1 X.stack s H ⟨us, []⟩ us vs Q E0 hr.in1 I.env0.in1 bnd r h) fun r s' hq => ?_)
  rcases r with er | fl
  · exact (show False from hq).elim
  · cases fl with
    | ret u => exact I.after hq
    | _ => exact False.elim hq
theorem call_lenO (S : Spc X.K C "__len__" f) (F : FnOk X.prog X.w X.K X.mg X.base CX0 k f fd ps sp) (hr : Room (k + 1) X.A) (hb : Binds X.K fd ps []) :
    CallR X (.builtin "len") (fun xs H Q => ∃ a dx fs, xs = [.ref a] ∧ H a = some (.ins C dx fs) ∧ sp [.ref a] H (fun v H' => ∃ n : Int, v = .int n ∧ 0 ≤ n ∧ n < 9223372036854775808 ∧ Q (.int n) H') E0) := by
  intro pins s σ H xs us Q I r ⟨a, dx, fs, exs, ea, h⟩
  subst exs
  match r with
  | .cons ru .nil =>
    cases ru
    obtain ⟨mA, O, _⟩ := ins_get I.hok ea
    obtain ⟨od, J, _⟩ := O.look
    have go := run_in1 (Er := X.xe) (vs := [.ref a]) (us := [.ref a]) F hr hb I (.cons rfl .nil) h
    refine Calls.call_function_entry kind_len plain_len entry_len (args_len1 (.ref a)) ?_
    unfold Builtin.«len»
    refine wpAny_bind (m := oneArg "len" _) (wpAny_pure (wpAny_bind (m := callSpecial? (.ref a) (PySem.Str.ofString "__len__")) (PySem.W.special_fn I.kIn J S.at_ S.fn (wpAny_mono go (fun v s' hv => ?_) fun _ _ z => z))))
    obtain ⟨y, H', I', ry, n, ey, h0, h1, q⟩ := hv
    subst ey
    obtain ⟨tk, etk⟩ : ∃ tk, v = .int n tk := ry
    subst etk
    refine wpAny_bind (wpAny_holding (wpAny_pure (wpAny_bind (wpAny_letGo ?_))))
    show wpAny _ _ (if n < 0 then _ else _) _ _ _
    rw [if_neg (Int.not_lt.mpr h0)]
    show wpAny _ _ (if n ≥ 2 ^ 63 then _ else _) _ _ _
    rw [if_neg (Int.not_le.mpr (show n < 2 ^ 63 from h1))]
    exact wpAny_bind (wpAny_mkInt (wpAny_pure ⟨_, rfl, ⟨.int n, H', I'.tok _, ⟨_, rfl⟩, q⟩⟩))
theorem run_in1X {CX : CXT} {E : XK} {pins : List (Addr × Obj)} {σ : L2.St} {H : Hp} {s : Shared} {Q : VK} {us : List Value} {vs : List V} (F : FnOk X.prog X.w X.K X.mg X.base CX k f fd ps sp) (hr : Room (k + 1) X.A) (hb : Binds X.K fd ps []) (hx : PassesAt CX X σ E)
    (I : Inv X pins σ H s) (r : Vals vs us) (h : sp vs H Q E) : wpAny (model X.prog X.w) X.A.in1 (call (.ref f) us) (EP X pins σ Q) X.xe s := by
  have hl : us.length = ps.length := by rw [← r.length]; exact F.len _ _ _ _ h
  have bnd := hb s us I.kIn (by rw [List.append_nil]; exact hl)
  rw [List.append_nil] at bnd
  refine wpAny_call (codeAny_mono (F.run X.A.in1 X.stack s H ⟨us, []⟩ us vs Q E hr.in1 I.env0.in1 bnd r h) fun r s' hq => ?_)
  rcases r with er | fl
  · exact hx pins H s er s' I hq
  · cases fl with
    | ret u => exact I.after hq
    | _ => exact False.elim hq
/-- o[i] by an own def -/
theorem tail_own {prog : Program} {w : World} {A : Around} {E : Value → Shared → Prop} {s : Shared} {K : PySem.W.Frag} {x : Addr} {ox : Obj} {od : Option Obj} {value slice : Expr} {i : Value} {Q : Value → Shared → Prop} (Y : K.In s.heap) (J : PySem.W.InstAt s.heap x ox C od) (S : Spc K C "__getitem__" f) (hf : PySem.W.fnIn K f = true)
    (h : wpAny (model prog w) A.in1 (call (.ref f) [.ref x, i]) Q E s) (hsl : subscripted slice true (.ref x) i = runValue (.builtin "lifetime.subscript" ⟨[.ref x, i], []⟩)) : wpAny (model prog w) A (subscriptTail value slice (.ref x) i) Q E s := by
  unfold PySem.W.fnIn at hf
  split at hf
  · rename_i eq
    unfold subscriptTail getitemInPython
    refine wpAny_bind (wpAny_bind (wpAny_bind (J.type.here ((PySem.W.looks_findIn Y S.at_).here (wpAny_bind (wpAny_load (Y _ _ eq) (wpAny_pure ?_)))))))
    dsimp only
    rw [hsl]
    refine wpAny_bind (wpAny_runValue (codeAny_builtin PySem.W.entry_sub ?_))
    unfold Builtin.«lifetime.subscript»
    exact wpAny_bind (PySem.W.special_fn Y J S.at_ S.fn (wpAny_mono h (fun v s' z => wpAny_pure (show wpAny (model prog w) A (letTemporaryGo value (.ref x) v >>= fun _ => pure v) Q E s' from wpAny_bind (wpAny_letTemporaryGo (wpAny_pure z)))) fun _ _ z => z))
  · cases hf
def PlainIxO (b : Expr) : Prop := ∀ v u, subscripted b true v u = runValue (.builtin "lifetime.subscript" ⟨[v, u], []⟩)
theorem pe_getO {CX : CXT} {E : L2.St → XK} {a b : Expr} {ta tb : TE} {pos : Pos} (S : Spc X.K C "__getitem__" f) (hfn : PySem.W.fnIn X.K f = true) (F : FnOk X.prog X.w X.K X.mg X.base CX k f fd ps sp) (hr : Room (k + 1) X.A) (hb : Binds X.K fd ps []) (hx : ∀ σ, PassesAt CX X σ (E σ))
    (ha : PE X a ta) (hi : PE X b tb) (hs : PlainIxO b) : PE X (.Subscript a b pos) (fun σ H Q => ta σ H fun x H1 => tb σ H1 fun y H2 => ∃ o dx fs, x = .ref o ∧ H2 o = some (.ins C dx fs) ∧ sp [x, y] H2 Q (E σ)) := by
  refine ⟨fun pins s σ H Q I h => Subscript_ (binT ha hi I (R := fun x y H2 => ∃ o dx fs, x = .ref o ∧ H2 o = some (.ins C dx fs) ∧ sp [x, y] H2 Q (E σ)) h fun v u s2 x y H2 I2 rx ry ⟨o, dx, fs, ex, eo, q⟩ => ?_)⟩
  subst ex
  obtain rfl : v = Value.ref o := rx
  obtain ⟨mA, O, _⟩ := ins_get I2.hok eo
  obtain ⟨od, J, _⟩ := O.look
  exact tail_own I2.kIn J S hfn (run_in1X (vs := [.ref o, y]) (us := [.ref o, u]) F hr hb (hx σ) I2 (.cons rfl (.cons ry .nil)) q) (hs _ _)
end
/-- len(o) -/
def mLenO {S : Type} (C : Addr) (f : List D → Unit → FO Unit D) (ma : MX S W) : MX S W := ma.bind fun w => fun env s => match w with
  | .v (.ins C' ns es) => if C' = C then (match f [.ins C' ns es] () with
    | .ok (.int n) _ => if 0 ≤ n ∧ n < 9223372036854775808 then .ok (.v (.int n)) env s else .bad
    | _ => .bad) else .bad
  | _ => .bad
/-- o[i] -/
def mGetO {S : Type} (C : Addr) (f : List D → Unit → FO Unit D) (ma mb : MX S W) : MX S W := ma.bind fun w => mb.bind fun u => fun env s => match w with
  | .v (.ins C' ns es) => if C' = C then (match u.kp with
    | some d => (f [.ins C' ns es, d] ()).outP .v env s
    | none => .bad) else .bad
  | _ => .bad
section
variable {S : Type} {X : Cx} {I : BoxI S} {Wx : WX} {CX : CXT} {a b : Expr} {pos p : Pos} {ma mb : MX S W} {k : Nat} {fa C : Addr} {fd : FuncData} {ps : List Str}
theorem d_lenO {f : List D → Unit → FO Unit D} (Sp : Spc X.K C "__len__" fa) (F : FnOk X.prog X.w X.K X.mg X.base CX0 k fa fd ps (spD boxNil X.K [.v] f)) (hr : Room (k + 1) X.A) (hb : Binds X.K fd ps []) (hg : Gl X "len") (hm : X.mg "len" = none) (hv : bootBuiltins "len" = some (.builtin "len")) (ha : PE X a (tD X.K I Wx ma))
    (he : starEach [a] X.env = (false, eval a X.env) :: starEach [] X.env := by rfl) (hpl : (backTo pos (starEach [] X.env)).any (·.1) = false := by rfl) : PE X (.Call (.Name "len" p) [a] [] pos) (tD X.K I Wx (mLenO C f ma)) := by
  refine PEimp (pe_callB (call_lenO Sp F hr hb) hg hm hv (a_cons (ms := mNil) ha a_nil he) (by decide) (by decide) he hpl) fun σ H Q ⟨G, env, s, ts, R, h⟩ => ?_
  refine ⟨G, env, s, ts, R, ?_⟩
  cases e : ma env s with
  | bad => simp only [mLenO, MX.bind, e, Out.bind] at h
  | ex x env1 s1 => simp only [mLenO, MX.bind, e, Out.bind] at h; simp only [mCons, MX.bind, e, Out.bind]; exact h
  | ok w env1 s1 =>
    simp only [mLenO, MX.bind, e, Out.bind] at h
    simp only [mCons, MX.bind, e, Out.bind, mNil]
    intro vs H' hl R1
    match vs, hl with
    | [x], _ =>
      cases w with
      | v d =>
        cases d with
        | ins C' ns es =>
          simp only at h
          by_cases hc : C' = C
          · subst hc
            simp only [if_true] at h
            obtain ⟨ad, bv, bm, R2⟩ := id R1
            have q : Rep X.K _ H' x (.ins C' ns es) := R2.tm _ List.mem_cons_self
            cases q with
            | ins n r e' q =>
              rename_i o dx fs _
              refine ⟨o, dx, fs, rfl, r, ?_⟩
              refine call_finP (Wx := W0) (G := G) (σ := σ) (I := I) (s := s1) (ws := [.v (.ins C' ns es)]) (l := [(.ref o, .v (.ins C' ns es))]) (ts := ts) (env := env1) R2 rfl (fun p hp => List.mem_append_left _ hp) (fun _ _ _ z => z.elim) rfl ?_
              simp only [bindA, W.kp]
              cases e2 : f [.ins C' ns es] () with
              | bad => simp only [e2] at h
              | ex y s2 => simp only [e2] at h
              | ok d2 s2 =>
                cases d2 with
                | int m =>
                  simp only [e2] at h
                  by_cases h2 : 0 ≤ m ∧ m < 9223372036854775808
                  · simp only [if_pos h2] at h
                    intro v H3 R3
                    obtain ⟨ad3, bv3, bm3, R4⟩ := id R3
                    have q3 : Rep X.K _ H3 v (.int m) := R4.tm _ List.mem_cons_self
                    cases q3
                    exact ⟨m, rfl, h2.1, h2.2, h _ H3 R3⟩
                  · simp only [if_neg h2] at h
                | _ => simp only [e2] at h
          · simp only [if_neg hc] at h
        | _ => simp only at h
      | _ => simp only at h
theorem d_getO {f : List D → Unit → FO Unit D} (Sp : Spc X.K C "__getitem__" fa) (hfn : PySem.W.fnIn X.K fa = true) (F : FnOk X.prog X.w X.K X.mg X.base CX k fa fd ps (spD boxNil X.K [.v, .v] f)) (hr : Room (k + 1) X.A) (hb : Binds X.K fd ps []) (hx : ∀ σ, PassesAt CX X σ (WE Wx σ))
    (ha : PE X a (tD X.K I Wx ma)) (hi : PE X b (tD X.K I Wx mb)) (hs : PlainIxO b := by exact fun _ _ => rfl) : PE X (.Subscript a b pos) (tD X.K I Wx (mGetO C f ma mb)) := by
  refine PEimp (pe_getO (E := fun σ => WE Wx σ) Sp hfn F hr hb hx ha hi hs) fun σ H Q ⟨G, env, s, ts, R, h⟩ => ?_
  refine two_of (r := fun x y H2 Q => ∃ o dx fs, x = .ref o ∧ H2 o = some (.ins C dx fs) ∧ spD boxNil X.K [.v, .v] f [x, y] H2 Q (WE Wx σ)) R h fun x y w u env1 s1 H1 R1 z1 => ?_
  cases w with
  | v d =>
    cases d with
    | ins C' ns es =>
      by_cases hc : C' = C
      · subst hc
        simp only [if_true] at z1
        cases e1 : u.kp with
        | none => simp only [e1] at z1; exact z1.elim
        | some d =>
          simp only [e1] at z1
          obtain ⟨ad, bv, bm, R2⟩ := id R1
          have q : Rep X.K _ H1 x (.ins C' ns es) := R2.tm (x, .v (.ins C' ns es)) (.tail _ List.mem_cons_self)
          cases q with
          | ins n r e' q =>
            rename_i o dx fs
            refine ⟨o, dx, fs, rfl, r, ?_⟩
            refine call_finP (Wx := Wx) (G := G) (σ := σ) (I := I) (s := s1) (ws := [.v (.ins C' ns es), u]) (l := [(y, u), (.ref o, .v (.ins C' ns es))]) (ts := ts) (env := env1) R2 rfl (fun p hp => ?_) (fun _ _ _ z => z) rfl ?_
            · simp only [List.zip_cons_cons, List.zip_nil_right, List.mem_cons, List.not_mem_nil, or_false] at hp
              rcases hp with rfl | rfl
              · simp
              · simp
            · simp only [bindA, W.kp]
              have e2 : u.kp = some d := e1
              unfold W.kp at e2
              simp only [e2]
              exact z1
      · simp only [if_neg hc] at z1; exact z1.elim
    | _ => exact z1.elim
  | _ => exact z1.elim
end
end LM

/-! writing into own lists; negative numbers; isinstance of own objects -/
namespace LM
open PySem PySem.Spec PyProof.Rows L2
def gIns : List D → List D → Option (D × List D)
  | ds, [.int i, d] => if 0 ≤ i ∧ i < 4611686018427387904 then some (.non, ds.take i.toNat ++ [d] ++ ds.drop i.toNat) else none
  | _, _ => none
def rIns : V → List V → Hp → VK → Prop := fun x vs H Q => ∃ (l : Addr) (xs : List V) (i : Int) (y : V), x = .ref l ∧ vs = [.int i, y] ∧ H l = some (.lst xs) ∧ xs.length < sizeLine ∧ 0 ≤ i ∧ i < 2 ^ 63 ∧
    Q .non (upd H l (.lst (xs.take i.toNat ++ [y] ++ xs.drop i.toNat)))
theorem dm_ins {K : PySem.W.Frag} : DMut K rIns gIns := by
  intro B H a xs ds vs es res ds' Q hH rx rv e hl q
  unfold gIns at e
  split at e
  · rename_i i d
    split at e
    · rename_i hi
      cases e
      cases rv with
      | cons r1 r2 =>
        cases r2 with
        | cons r2 r3 =>
          cases r3
          cases r1
          refine ⟨a, xs, i, _, rfl, rfl, hH, ?_, hi.1, by omega, q _ _ (((rx.take _).app (.one r2)).app (rx.drop _)) .non⟩
          rw [rx.len, sizeLine_eq]
          have e : (ds.take i.toNat ++ [d] ++ ds.drop i.toNat).length = ds.length + 1 := by
            rw [List.append_assoc, List.length_append, List.length_append, List.length_singleton, List.length_take, List.length_drop]
            omega
          omega
    · cases e
  · cases e
/-! ### found[k] = .. -/
def mIxSet {S : Type} (i : Nat) (mi me : MX S W) : MS S := fun env s => (me env s).bindS fun w env s => match env[i]? with
  | some (.own _) => (mi env s).bindS fun u env s => match w.kp, u, env[i]? with
    | some d, .v (.int k), some (.own ds) => if 0 ≤ k ∧ k < ds.length then .nx (env.set i (.own (ds.set k.toNat d))) s else .bad
    | _, _, _ => .bad
  | _ => .bad
/-- .. the store itself -/
def ixSt (i : Nat) (d : D) (u : W) (env : List Sl) : Option (List Sl) := match u, env[i]? with
  | .v (.int k), some (.own ds) => if 0 ≤ k ∧ k < ds.length then some (env.set i (.own (ds.set k.toNat d))) else none
  | _, _ => none
theorem ixN_of {n : Nat} {k : Int} (h0 : 0 ≤ k) (h1 : k < n) : ixN n k = some k.toNat := by
  unfold ixN
  rw [if_pos h0, if_pos (by omega)]
section
variable {S : Type} {K : PySem.W.Frag} {I : BoxI S} {G : Gh} {env : List Sl} {s : S} {ts l : List (V × W)} {σ : L2.St} {H : Hp} {i : Nat} {vi vo v : V} {w u : W} {d : D}
theorem ix_fin {env' : List Sl} (R : ER K I G env s ((vi, u) :: (vo, .l i) :: (l ++ ts)) σ H) (hv : (v, w) ∈ l) (hk : w.kp = some d) (he : ixSt i d u env = some env') {Q : Hp → Prop} (q : ∀ H', ER K I G env' s (l ++ ts) σ H' → Q H') : rSetL vo vi v H Q := by
  obtain ⟨ad, bv, bm, R⟩ := R
  unfold ixSt at he
  split at he
  · rename_i k ds e1
    split at he
    · rename_i hb
      cases he
      have q1 : Rep K _ H vi (.int k) := R.tm (vi, .v (.int k)) List.mem_cons_self
      cases q1
      obtain ⟨q2, _⟩ : vo = .ref (ad i) ∧ _ := R.tm (vo, .l i) (.tail _ List.mem_cons_self)
      obtain ⟨q3, xs, q4, q5⟩ := R.sl i _ e1
      have rep := R.keep (p := (v, w)) (.tail _ (.tail _ (List.mem_append_left _ hv))) hk
      refine ⟨ad i, xs, k, k.toNat, q2, rfl, q4, ixN_of hb.1 (by rw [q5.len]; exact hb.2), q _ ⟨ad, bv, bm, (R.wrS e1 (q5.set k.toNat rep)).less (.cons _ (.cons _ (List.Sublist.refl _)))⟩⟩
    · cases he
  · cases he
end
section
variable {S : Type} {X : Cx} {I : BoxI S} {Wx : WX} {a b c e o : Expr} {pos p p2 pt pt2 px py : Pos} {ma mb me mi m1 m2 : MX S W} {i : Nat} {x : Str} {kt k2 : Nat}
/-- the target found[c], for a value that lies in l -/
theorem g_ix {l : List (V × W)} (hN : X.N[i]? = some x) (hv : Vis X.env.scope x) (hi : PE X c (tD X.K I Wx mi)) (hd : (x == ("__debug__" : Str)) = false) (hcd : (x == ("__classdict__" : Str)) = false)
    {G : Gh} {env : List Sl} {s : S} {ts : List (V × W)} {σ : L2.St} {H : Hp} {v : V} {w : W} {d : D} {Q : L2.St → Hp → Prop} (R : ER X.K I G env s (l ++ ts) σ H) (hm : (v, w) ∈ l) (hk : w.kp = some d) {ds0 : List D} (h0 : env[i]? = some (.own ds0))
    {env1 env2 : List Sl} {s1 : S} {u : W} (h1 : mi env s = .ok u env1 s1) (h2 : ixSt i d u env1 = some env2) (q : ∀ H', ER X.K I G env2 s1 (l ++ ts) σ H' → Q σ H') :
    gSub (tD X.K I Wx (mVar i)) (tD X.K I Wx mi) rSetL v σ H Q := by
  refine ⟨G, env, s, l ++ ts, R, ?_⟩
  simp only [mVar, h0]
  intro vo H1 R1
  refine ⟨G, env, s, (vo, .l i) :: (l ++ ts), R1, ?_⟩
  simp only [h1]
  intro vi H2 R2
  exact ix_fin R2 hm hk h2 q
theorem s_ixset (hN : X.N[i]? = some x) (hv : Vis X.env.scope x) (he : PE X e (tD X.K I Wx me)) (hi : PE X c (tD X.K I Wx mi)) (hd : (x == ("__debug__" : Str)) = false := by decide) (hcd : (x == ("__classdict__" : Str)) = false := by decide)
    (ha : ∀ v, assign (.Subscript (.Name x px) c p) X.env v = (do
      let ov ← holding [v] (eval (.Name x px) X.env)
      let iv ← holding [v, ov] (eval c X.env)
      standAt p
      holding [v, ov, iv] (setItem ov iv v)
      release [v, ov, iv] []) := by intro _; rfl)
    (hs : swapsWithSole [.Subscript (.Name x px) c p] e pos.line X.env = pure false := by rfl) (hw : swappedStores [.Subscript (.Name x px) c p] e X.env = pure none := by rfl)
    (h1 : (assignEach [.Subscript (.Name x px) c p] X.env).map (·.2) = [assign (.Subscript (.Name x px) c p) X.env] := by rfl) : PS X (.Assign [.Subscript (.Name x px) c p] e pos) (tS X.K I Wx (mIxSet i mi me)) := by
  refine PSimp (ps_asg he (pg_sub (d_var (S := S) (I := I) (Wx := Wx) i hN hv hd hcd) hi set_list ha) hs hw h1) fun Dn σ H ⟨G, env, s, ts, R, cl, h⟩ => ?_
  have h : ZS X.K I Wx G ts Dn (mIxSet i mi me env s) := h
  show tD X.K I Wx me σ H _
  refine ⟨G, env, s, ts, R, ?_⟩
  cases e1 : me env s with
  | bad => simp only [mIxSet, e1, Out.bindS] at h; exact h.elim
  | ex y env1 s1 => simp only [mIxSet, e1, Out.bindS] at h ⊢; exact fun dx H' R' => h dx σ H' R'
  | ok w env1 s1 =>
    simp only [mIxSet, e1, Out.bindS] at h
    intro v H1 R1
    cases e2 : env1[i]? with
    | none => simp only [e2] at h; exact h.elim
    | some y =>
      cases y with
      | own ds0 =>
        simp only [e2] at h
        cases e3 : mi env1 s1 with
        | bad => simp only [e3] at h; exact h.elim
        | ex y env2 s2 =>
          simp only [e3] at h
          refine ⟨G, env1, s1, _, R1, ?_⟩
          simp only [mVar, e2]
          intro vo H2 R2
          refine ⟨G, env1, s1, _, R2, ?_⟩
          simp only [e3]
          exact fun dx H' R' => h dx σ H' ((R'.less sl1).less sl1)
        | ok u env2 s2 =>
          simp only [e3] at h
          cases e4 : w.kp with
          | none => simp only [e4] at h; exact h.elim
          | some d =>
            cases e5 : ixSt i d u env2 with
            | none =>
              exfalso
              simp only [e4] at h
              unfold ixSt at e5
              split at e5
              · rename_i k ds e6
                simp only [e6] at h
                split at e5
                · cases e5
                · rename_i hb
                  rw [if_neg hb] at h
                  exact h.elim
              · rename_i hne
                split at h
                · first
                  | exact hne _ _ rfl (by assumption)
                  | (rename_i e6; exact hne _ _ rfl e6)
                · exact h.elim
            | some env3 =>
              refine g_ix (l := [(v, w)]) hN hv hi hd hcd R1 List.mem_cons_self e4 e2 e3 e5 fun H' R' => ?_
              unfold ixSt at e5
              split at e5
              · rename_i k ds e6
                simp only [e4, e6] at h
                split at e5
                · rename_i hb
                  rw [if_pos hb] at h
                  cases e5
                  exact h σ H' R'.pop
                · cases e5
              · cases e5
      | _ => simp only [e2] at h; exact h.elim
/-- found[c], found[b] = (.., ..) -/
def mSwapIx {S : Type} (i : Nat) (m1 m2 me : MX S W) : MS S := fun env s => (me env s).bindS fun w env s => match w, env[i]? with
  | .v (.tup [d1, d2]), some (.own _) => (m1 env s).bindS fun u env s => match ixSt i d1 u env with
    | some env => (match env[i]? with
      | some (.own _) => (m2 env s).bindS fun u env s => match ixSt i d2 u env with
        | some env => .nx env s
        | none => .bad
      | _ => .bad)
    | none => .bad
  | _, _ => .bad
theorem s_swapix {p3 px2 : Pos} (hc : X.calm = true) (hN : X.N[i]? = some x) (hv : Vis X.env.scope x) (he : PE X e (tD X.K I Wx me)) (hi : PE X c (tD X.K I Wx m1)) (hj : PE X b (tD X.K I Wx m2)) (hd : (x == ("__debug__" : Str)) = false := by decide) (hcd : (x == ("__classdict__" : Str)) = false := by decide)
    (ha : ∀ v, assign (.Subscript (.Name x px) c p) X.env v = (do
      let ov ← holding [v] (eval (.Name x px) X.env)
      let iv ← holding [v, ov] (eval c X.env)
      standAt p
      holding [v, ov, iv] (setItem ov iv v)
      release [v, ov, iv] []) := by intro _; rfl)
    (hb : ∀ v, assign (.Subscript (.Name x px2) b p3) X.env v = (do
      let ov ← holding [v] (eval (.Name x px2) X.env)
      let iv ← holding [v, ov] (eval b X.env)
      standAt p3
      holding [v, ov, iv] (setItem ov iv v)
      release [v, ov, iv] []) := by intro _; rfl)
    (hs : swapsWithSole [.Tuple [.Subscript (.Name x px) c p, .Subscript (.Name x px2) b p3] kt pt] e pos.line X.env = pure false := by rfl) (hw : swappedStores [.Tuple [.Subscript (.Name x px) c p, .Subscript (.Name x px2) b p3] kt pt] e X.env = pure none := by rfl)
    (h1 : (assignEach [.Tuple [.Subscript (.Name x px) c p, .Subscript (.Name x px2) b p3] kt pt] X.env).map (·.2) = [assign (.Tuple [.Subscript (.Name x px) c p, .Subscript (.Name x px2) b p3] kt pt) X.env] := by rfl)
    (g1 : (assignEach [.Subscript (.Name x px) c p, .Subscript (.Name x px2) b p3] X.env).map (·.2) = assign (.Subscript (.Name x px) c p) X.env :: (assignEach [.Subscript (.Name x px2) b p3] X.env).map (·.2) := by rfl)
    (g2 : (assignEach [.Subscript (.Name x px2) b p3] X.env).map (·.2) = assign (.Subscript (.Name x px2) b p3) X.env :: (assignEach [] X.env).map (·.2) := by rfl)
    (hn : (assignEach [.Subscript (.Name x px) c p, .Subscript (.Name x px2) b p3] X.env).length = 2 := by rfl) (hst : (assignEach [.Subscript (.Name x px) c p, .Subscript (.Name x px2) b p3] X.env).findIdx? (·.1) = none := by rfl) :
    PS X (.Assign [.Tuple [.Subscript (.Name x px) c p, .Subscript (.Name x px2) b p3] kt pt] e pos) (tS X.K I Wx (mSwapIx i m1 m2 me)) := by
  refine PSimp (ps_asg he (pg_tup hc (pgs_cons (pg_sub (d_var (S := S) (I := I) (Wx := Wx) i hN hv hd hcd) hi set_list ha) (pgs_cons (pg_sub (d_var (S := S) (I := I) (Wx := Wx) i hN hv hd hcd) hj set_list hb) pgs_nil g2) g1) hn hst) hs hw h1) fun Dn σ H ⟨G, env, s, ts, R, cl, h⟩ => ?_
  have h : ZS X.K I Wx G ts Dn (mSwapIx i m1 m2 me env s) := h
  show tD X.K I Wx me σ H _
  refine ⟨G, env, s, ts, R, ?_⟩
  cases e1 : me env s with
  | bad => simp only [mSwapIx, e1, Out.bindS] at h; exact h.elim
  | ex y env1 s1 => simp only [mSwapIx, e1, Out.bindS] at h ⊢; exact fun dx H' R' => h dx σ H' R'
  | ok w env1 s1 =>
    simp only [mSwapIx, e1, Out.bindS] at h
    intro v H1 R1
    split at h
    · rename_i d1 d2 ds0 e2
      obtain ⟨ad, bv, bm, R2⟩ := id R1
      have q : Tp X.K (Bv G bm ad env1 ((v, .v (.tup [d1, d2])) :: ts)) H1 v (.tup [d1, d2]) := R2.rd (p := (v, .v (.tup [d1, d2]))) List.mem_cons_self rfl
      obtain ⟨a, xs, ea, r, q⟩ := q.tup
      have q2 : ∃ v1 v2, xs = [v1, v2] ∧ Rep X.K (Bv G bm ad env1 ((v, .v (.tup [d1, d2])) :: ts)) H1 v1 d1 ∧ Rep X.K (Bv G bm ad env1 ((v, .v (.tup [d1, d2])) :: ts)) H1 v2 d2 := by
        cases q with
        | cons r1 q =>
          cases q with
          | cons r2 q =>
            cases q
            exact ⟨_, _, rfl, r1, r2⟩
      obtain ⟨v1, v2, ex, r1, r2⟩ := q2
      subst ex
      have R3 : ER X.K I G env1 s1 ([(v1, .v d1), (v2, .v d2)] ++ ts) σ H1 := ⟨ad, bv, bm, (R2.pop).pushes (l := [(v1, .v d1), (v2, .v d2)]) fun p hp => by
        have sub : ∀ {d : D} {v' : V}, Rep X.K (Bv G bm ad env1 ((v, .v (.tup [d1, d2])) :: ts)) H1 v' d → Rep X.K (Bv G bm ad env1 ts) H1 v' d := fun r => r.gr (.sub fun a z => z.imp (fun q => q) fun z => z.imp (fun q => q) fun z => z.imp (fun q => q) fun ⟨q, hq, f⟩ => ⟨q, List.mem_cons_of_mem _ hq, f⟩)
        rcases List.mem_cons.mp hp with rfl | hp
        · exact ⟨d1, rfl, sub r1⟩
        · rcases List.mem_cons.mp hp with rfl | hp
          · exact ⟨d2, rfl, sub r2⟩
          · cases hp⟩
      show gTup X.K 2 (gCons (gSub (tD X.K I Wx (mVar i)) (tD X.K I Wx m1) rSetL) (gCons (gSub (tD X.K I Wx (mVar i)) (tD X.K I Wx m2) rSetL) gNil)) v σ H1 Dn.nx
      refine (fun go : gCons (gSub (tD X.K I Wx (mVar i)) (tD X.K I Wx m1) rSetL) (gCons (gSub (tD X.K I Wx (mVar i)) (tD X.K I Wx m2) rSetL) gNil) [v1, v2] σ H1 Dn.nx => ⟨a, [v1, v2], ea, r, rfl, go⟩) ?_
      refine (fun go2 : gSub (tD X.K I Wx (mVar i)) (tD X.K I Wx m1) rSetL v1 σ H1 (fun σ1 H1 => gCons (gSub (tD X.K I Wx (mVar i)) (tD X.K I Wx m2) rSetL) gNil [v2] σ1 H1 Dn.nx) => ⟨v1, [v2], rfl, go2⟩) ?_
      cases e3 : m1 env1 s1 with
      | bad => simp only [e3] at h; exact h.elim
      | ex y env2 s2 =>
        simp only [e3] at h
        refine ⟨G, env1, s1, _, R3, ?_⟩
        simp only [mVar, e2]
        intro vo H2 R4
        refine ⟨G, env1, s1, _, R4, ?_⟩
        simp only [e3]
        exact fun dx H' R' => h dx σ H' (((R'.less sl1).less sl1).less sl1)
      | ok u env2 s2 =>
        simp only [e3] at h
        cases e4 : ixSt i d1 u env2 with
        | none => simp only [e4] at h; exact h.elim
        | some env3 =>
          simp only [e4] at h
          refine g_ix (l := [(v1, .v d1), (v2, .v d2)]) (w := .v d1) hN hv hi hd hcd R3 List.mem_cons_self rfl e2 e3 e4 fun H' R5 => ?_
          refine (fun go3 : gSub (tD X.K I Wx (mVar i)) (tD X.K I Wx m2) rSetL v2 σ H' (fun σ1 H1 => gNil [] σ1 H1 Dn.nx) => ⟨v2, [], rfl, go3⟩) ?_
          split at h
          · rename_i ds1 e5
            cases e6 : m2 env3 s2 with
            | bad => simp only [e6] at h; exact h.elim
            | ex y env4 s4 =>
              simp only [e6] at h
              refine ⟨G, env3, s2, _, R5, ?_⟩
              simp only [mVar, e5]
              intro vo H2 R4
              refine ⟨G, env3, s2, _, R4, ?_⟩
              simp only [e6]
              exact fun dx H' R' => h dx σ H' (((R'.less sl1).less sl1).less sl1)
            | ok u2 env4 s4 =>
              simp only [e6] at h
              cases e7 : ixSt i d2 u2 env4 with
              | none => simp only [e7] at h; exact h.elim
              | some env5 =>
                simp only [e7] at h
                refine g_ix (l := [(v1, .v d1), (v2, .v d2)]) (w := .v d2) hN hv hj hd hcd R5 (.tail _ List.mem_cons_self) rfl e5 e6 e7 fun H' R6 => ?_
                exact ⟨rfl, h σ H' (R6.less (.cons _ (.cons _ (List.Sublist.refl _))))⟩
          · exact h.elim
    · exact h.elim
/-! ### -i, isinstance of own objects -/
def mNeg {S : Type} (ma : MX S W) : MX S W := ma.bind fun w => fun env s => match w with
  | .v (.int i) => .ok (.v (.int (-i))) env s
  | _ => .bad
theorem d_neg (ha : PE X a (tD X.K I Wx ma)) : PE X (.UnaryOp .USub a pos) (tD X.K I Wx (mNeg ma)) := by
  refine PEimp (pe_un un_neg ha) fun σ H Q ⟨G, env, s, ts, R, h⟩ => ?_
  refine tD_bind (Z := ZD X.K I Wx G ts σ Q) R h (fun _ _ _ z => z) (fun z => z) fun w env1 s1 y H1 _ R1 z1 => ?_
  cases w with
  | v d =>
    cases d with
    | int k =>
      obtain ⟨ad, bv, bm, R2⟩ := id R1
      have q : Rep X.K _ H1 y (.int k) := R2.tm _ List.mem_cons_self
      cases q
      exact ⟨k, rfl, z1 _ H1 ⟨ad, bv, bm, R2.pop.pushV (.int _)⟩⟩
    | _ => exact z1.elim
  | _ => exact z1.elim
end
/-- a class whose objects isinstance asks -/
structure InsT (K : PySem.W.Frag) (C : Addr) : Prop where
  cl : Cls K C
  ha : PySem.W.findIn K (.ref C) "__class__" = some (some (.builtin "object.__class__"))
  hn : PySem.W.specialIn K (.builtin "object.__class__") "__get__" = some (some (.builtin "getset_descriptor.__get__"))
  ht : PySem.W.takesIn K (.builtin "object.__class__") = some true
  hm : PySem.W.mroIn K C (.type "object") = some true
def isFO (f : D → Option Bool) (g : Addr → Option Bool) (d : D) : Option Bool := match d with
  | .ins C _ _ => g C
  | d => f d
theorem isFO_ok {K : PySem.W.Frag} {us : List Value} {f : D → Option Bool} {g : Addr → Option Bool} (hf : IsF K us f) (hg : ∀ C b, g C = some b → InsT K C ∧ PySem.W.kitAny K (.ref C) us = some b) : IsF K us (isFO f g) := by
  intro B H v d b hv e
  cases d with
  | ins C ns ds =>
    obtain ⟨T, k⟩ := hg C b e
    obtain ⟨a, dx, fs, e1, r, _⟩ := Top.ins hv
    subst e1
    exact ⟨.ref C, .base (.ins r T.cl T.ha T.hn T.ht T.hm), k⟩
  | _ => exact hf B H v _ b hv e
end LM

/-! odds and ends for the printed text -/
namespace LM
open PySem PySem.Spec PyProof.Rows L2
theorem passW0 {X : Cx} (σ : L2.St) : PassesAt (L2.CX X.prog X.w) X σ (WE W0 σ) := fun pins H s e s' I c => passL pins σ H s e s' I c
theorem passX {X : Cx} {Wx : WX} (tk : Takes X Wx) (σ : L2.St) : PassesAt (L2.CX X.prog X.w) X σ (WE Wx σ) := passAt tk σ
theorem takesE {X : Cx} {E : XK} (hs : X.stack = X.env :: X.outer) (hf : X.env.frame = some X.env.locals) (hex : X.ex = []) {E₁ : Value → Shared → Prop}
    (hx : X.xe = fun e s' => wpAny (model X.prog X.w) X.A (leaving X.env e) (fun _ s'' => L2.CX X.prog X.w X.outer X.H_0 X.s_0 E e s'') E₁ s') : Takes X (wE E) := takes_of hs hf hex hx
def one (C0 : Addr) (C : Addr) : Option Bool := if C = C0 then some true else none
theorem one_self (C : Addr) : one C C = some true := if_pos rfl
theorem one_ok {K : PySem.W.Frag} {C0 : Addr} (h : PySem.W.exmOne K (.ref C0) (.ref C0) = some true) : ∀ C b, one C0 C = some b → PySem.W.exmOne K (.ref C) (.ref C0) = some b := by
  intro C b e
  unfold one at e
  split at e
  · rename_i z; cases e; rw [z]; exact h
  · cases e
def is1 (C0 : Addr) (b : Bool) (C : Addr) : Option Bool := if C = C0 then some b else none
theorem is1_self (C : Addr) (b : Bool) : is1 C b C = some b := if_pos rfl
theorem is1_ok {K : PySem.W.Frag} {C0 : Addr} {cv : Value} {b : Bool} (x : XIs K C0) (h : PySem.W.kitOne K (.ref C0) cv = some b) : ∀ C b', is1 C0 b C = some b' → XIs K C ∧ PySem.W.kitOne K (.ref C) cv = some b' := by
  intro C b' e
  unfold is1 at e
  split at e
  · rename_i z; cases e; rw [z]; exact ⟨x, h⟩
  · cases e
theorem is1_okA {K : PySem.W.Frag} {C0 : Addr} {us : List Value} {b : Bool} (x : InsT K C0) (h : PySem.W.kitAny K (.ref C0) us = some b) : ∀ C b', is1 C0 b C = some b' → InsT K C ∧ PySem.W.kitAny K (.ref C) us = some b' := by
  intro C b' e
  unfold is1 at e
  split at e
  · rename_i z; cases e; rw [z]; exact ⟨x, h⟩
  · cases e
def at1 (C0 C : Addr) : Bool := decide (C = C0)
theorem at1_self (C : Addr) : at1 C C = true := by simp [at1]
theorem at1_ok {K : PySem.W.Frag} {C0 : Addr} {f : Str} (x : XIs K C0) (h : PySem.W.findIn K (.ref C0) f = some none) : ∀ C, at1 C0 C = true → XIs K C ∧ PySem.W.findIn K (.ref C) f = some none := by
  intro C e
  have z : C = C0 := of_decide_eq_true e
  rw [z]; exact ⟨x, h⟩
theorem tc_own {D : Addr} : ∀ σ H Q, (∀ v, ClsV v (.ref D) → Q v H) → tC (.ref D) σ H Q := fun σ H Q h => h _ (.own D)
theorem tc_ty {n : String} : ∀ σ H Q, (∀ v, ClsV v (.type n) → Q v H) → tC (.ty n) σ H Q := fun σ H Q h => h _ (.ty n)
/-- a def of which nothing is promised -/
theorem fn_none {S : Type} {I : BoxI S} {P : Program} {w : World} {K : PySem.W.Frag} {mg : Str → Option Value} {base : Heap} {CX : CXT} {k : Nat} {fa : Addr} {fd : FuncData} {ps : List Str} {md : List Md} : FnOk P w K mg base CX k fa fd ps (spD I K md fun _ _ => .bad) :=
  ⟨fun vs H Q E ⟨_, _, _, _, _, _, _, _, _, z⟩ => z.elim, fun A outer s H args us vs Q E hr he hb hv ⟨_, _, _, _, _, _, _, _, _, z⟩ => z.elim⟩
section
variable {S : Type} {X : Cx} {I : BoxI S} {Wx : WX} {mi : MX S (List D)} {mt : MX S Bool} {me : MX S W} {g : D → List Sl → Option (List Sl)} {idx : List Nat} {pos py spos : Pos}
theorem s_setcomp {i : Nat} {y : Str} {elt tg iter : Expr} {ifs : List Expr} {scope : Scope} {own : List (Str × Nat)} (hc : X.calm = true) (hN : X.N.Nodup) (hy : X.N[i]? = some y) (hyl : X.env.scope.names.lookup y = some .local) (hk : X.env.scope.kind = .function) (hl : (py.line == pos.line) = true)
    (hsc : (scope.names.any fun (n, k) => n == y && (k == .local || k == .cell)) = false) (hi : PI X tg iter (tI X.K I Wx mi)) (ok : BlkOk X.N X.env.scope scope own) (hv : ∀ i ∈ idx, i ∈ own.map (·.2))
    (hg : ∀ (s : Shared) (H : Hp) (C : Addr) (cl : List (Str × Addr)) (fp : List Addr), PG (X.blk s H scope (compEnvC scope cl C X.env) fp) tg (tG X.K I idx g)) (ht : ∀ (s : Shared) (H : Hp) (C : Addr) (cl : List (Str × Addr)) (fp : List Addr), PTs (X.blk s H scope (compEnvC scope cl C X.env) fp) ifs (LM.tB X.K I W0 mt))
    (he : ∀ (s : Shared) (H : Hp) (C : Addr) (cl : List (Str × Addr)) (fp : List Addr), PE (X.blk s H scope (compEnvC scope cl C X.env) fp) elt (tD X.K I W0 me)) (hs : ∀ x, foldedSetIterable iter X.env x = pure x := by intro _; rfl) :
    PS X (.Assign [.Name y py] (.ListComp elt [⟨tg, iter, ifs, 0⟩] scope pos) spos) (tS X.K I Wx (mSet i (mComp mi (own.map (·.2)) g mt me))) := by
  refine PSimp (ps_setLc hc hN hy hyl (sw_true hk hyl hl hsc) hi ok hg ht he hs) fun Dn σ H ⟨G, env, s, ts, R, cl, h⟩ => comp_fin hv (tD_bindS R h fun w env' s' v H' R' z => ?_)
  obtain ⟨ad, bv, bm, R'⟩ := R'
  cases w with
  | v d => exact z _ _ ⟨ad, bv, bm, R'.putV cl⟩
  | t d => exact z _ _ ⟨ad, bv, bm, R'.putT cl⟩
  | f ds =>
    obtain ⟨ad', R'⟩ := R'.putF cl
    exact z _ _ ⟨ad', bv, bm, R'⟩
  | _ => exact z.elim
end
end LM

namespace LM
open PySem L2
theorem cl_lst (ds : List D) : cLen [.lst ds] = some (.v (.int ds.length)) := rfl
theorem cl_tup (ds : List D) : cLen [.tup ds] = some (.v (.int ds.length)) := rfl
theorem if_s_non : isF ["str"] .non = some false := rfl
theorem if_s_bl (b : Bool) : isF ["str"] (.bl b) = some false := rfl
theorem if_s_int (i : Int) : isF ["str"] (.int i) = some false := rfl
theorem if_s_str (x : Str) : isF ["str"] (.str x) = some true := rfl
theorem if_s_tup (ds : List D) : isF ["str"] (.tup ds) = some false := rfl
theorem if_s_lst (ds : List D) : isF ["str"] (.lst ds) = some false := rfl
theorem if_i_non : isF ["int"] .non = some false := rfl
theorem if_i_bl (b : Bool) : isF ["int"] (.bl b) = some true := rfl
theorem if_i_int (i : Int) : isF ["int"] (.int i) = some true := rfl
theorem if_i_str (x : Str) : isF ["int"] (.str x) = some false := rfl
theorem if_i_tup (ds : List D) : isF ["int"] (.tup ds) = some false := rfl
theorem if_i_lst (ds : List D) : isF ["int"] (.lst ds) = some false := rfl
theorem if_b_non : isF ["bool"] .non = some false := rfl
theorem if_b_bl (b : Bool) : isF ["bool"] (.bl b) = some true := rfl
theorem if_b_int (i : Int) : isF ["bool"] (.int i) = some false := rfl
theorem if_b_str (x : Str) : isF ["bool"] (.str x) = some false := rfl
theorem if_b_tup (ds : List D) : isF ["bool"] (.tup ds) = some false := rfl
theorem if_b_lst (ds : List D) : isF ["bool"] (.lst ds) = some false := rfl
theorem if_t_non : isF ["tuple"] .non = some false := rfl
theorem if_t_bl (b : Bool) : isF ["tuple"] (.bl b) = some false := rfl
theorem if_t_int (i : Int) : isF ["tuple"] (.int i) = some false := rfl
theorem if_t_str (x : Str) : isF ["tuple"] (.str x) = some false := rfl
theorem if_t_tup (ds : List D) : isF ["tuple"] (.tup ds) = some true := rfl
theorem if_t_lst (ds : List D) : isF ["tuple"] (.lst ds) = some false := rfl
theorem if_l_non : isF ["list"] .non = some false := rfl
theorem if_l_bl (b : Bool) : isF ["list"] (.bl b) = some false := rfl
theorem if_l_int (i : Int) : isF ["list"] (.int i) = some false := rfl
theorem if_l_str (x : Str) : isF ["list"] (.str x) = some false := rfl
theorem if_l_tup (ds : List D) : isF ["list"] (.tup ds) = some false := rfl
theorem if_l_lst (ds : List D) : isF ["list"] (.lst ds) = some true := rfl
theorem if_lt2_non : isF ["list", "tuple"] .non = some false := rfl
theorem if_lt2_bl (b : Bool) : isF ["list", "tuple"] (.bl b) = some false := rfl
theorem if_lt2_int (i : Int) : isF ["list", "tuple"] (.int i) = some false := rfl
theorem if_lt2_str (x : Str) : isF ["list", "tuple"] (.str x) = some false := rfl
theorem if_lt2_tup (ds : List D) : isF ["list", "tuple"] (.tup ds) = some true := rfl
theorem if_lt2_lst (ds : List D) : isF ["list", "tuple"] (.lst ds) = some true := rfl
end LM

/-! comprehensions with a test; words of data -/
namespace LM
open PySem L2
section
variable {S : Type} {vs : List Nat} {g : D → List Sl → Option (List Sl)} {mt : MX S Bool} {me : MX S W} {f : D → D} {p : D → Bool}
theorem comp_fm {L : List D} (e0 : List Sl) (s : S)
    (step : ∀ d ∈ L, ∃ e1 e2, g d e0 = some e1 ∧ mt e1 s = .ok (p d) e2 s ∧ (p d = false → nonref vs e2 = true ∧ wipeE e2 vs = e0) ∧ (p d = true → ∃ e3 w, me e2 s = .ok w e3 s ∧ w.kp = some (f d) ∧ nonref vs e3 = true ∧ wipeE e3 vs = e0)) :
    ∀ acc, acc.length + L.length ≤ 16777216 → mCompL vs g mt me L acc e0 s = .ok (.f (acc ++ (L.filter p).map f)) e0 s := by
  induction L with
  | nil => exact fun acc _ => by rw [List.filter_nil, List.map_nil, List.append_nil]; rfl
  | cons d L ih =>
    intro acc hl
    obtain ⟨e1, e2, h1, h2, h3, h4⟩ := step d List.mem_cons_self
    rw [List.length_cons] at hl
    have ih := ih fun d hd => step d (List.mem_cons_of_mem _ hd)
    cases hp : p d with
    | false =>
      obtain ⟨q1, q2⟩ := h3 hp
      rw [hp] at h2
      simp only [mCompL, h1, h2, Out.bindN, Bool.false_eq_true, if_false, q1, if_true, q2]
      rw [ih acc (by omega), List.filter_cons_of_neg (by rw [hp]; decide)]
    | true =>
      obtain ⟨e3, w, q1, q2, q3, q4⟩ := h4 hp
      rw [hp] at h2
      simp only [mCompL, h1, h2, Out.bindN, if_true, q1, q2, q3, q4]
      rw [if_pos ⟨by omega, trivial⟩, ih (acc ++ [f d]) (by rw [List.length_append, List.length_singleton]; omega), List.filter_cons_of_pos hp]
      simp
theorem comp_sub {L : List D} (e0 : List Sl)
    (step : ∀ d ∈ L, ∀ s, ∃ e1 e2 b s', g d e0 = some e1 ∧ mt e1 s = .ok b e2 s' ∧ (b = false → nonref vs e2 = true ∧ wipeE e2 vs = e0) ∧ (b = true → ∃ e3 w s'', me e2 s' = .ok w e3 s'' ∧ w.kp = some (f d) ∧ nonref vs e3 = true ∧ wipeE e3 vs = e0)) :
    ∀ acc s, acc.length + L.length ≤ 16777216 → ∃ (L' : List D) (s1 : S), L'.Sublist L ∧ mCompL vs g mt me L acc e0 s = .ok (.f (acc ++ L'.map f)) e0 s1 := by
  induction L with
  | nil => exact fun acc s _ => ⟨[], s, .slnil, by rw [List.map_nil, List.append_nil]; rfl⟩
  | cons d L ih =>
    intro acc s hl
    obtain ⟨e1, e2, b, s', h1, h2, h3, h4⟩ := step d List.mem_cons_self s
    rw [List.length_cons] at hl
    have ih := ih fun d hd => step d (List.mem_cons_of_mem _ hd)
    cases b with
    | false =>
      obtain ⟨q1, q2⟩ := h3 rfl
      obtain ⟨L', s1, hs, hr⟩ := ih acc s' (by omega)
      refine ⟨L', s1, .cons _ hs, ?_⟩
      simp only [mCompL, h1, h2, Out.bindN, Bool.false_eq_true, if_false, q1, if_true, q2]
      exact hr
    | true =>
      obtain ⟨e3, w, s'', q1, q2, q3, q4⟩ := h4 rfl
      obtain ⟨L', s1, hs, hr⟩ := ih (acc ++ [f d]) s'' (by rw [List.length_append, List.length_singleton]; omega)
      refine ⟨d :: L', s1, .cons_cons _ hs, ?_⟩
      simp only [mCompL, h1, h2, Out.bindN, if_true, q1, q2, q3, q4]
      rw [if_pos ⟨by omega, trivial⟩, hr]
      simp
end
theorem if_no {S : Type} {env e1 : List Sl} {s s1 : S} {mc : MX S Bool} {m : MS S} (h : mc env s = .ok false e1 s1) : mIf mc m mNext env s = .nx e1 s1 := by simp [mIf, Out.bindS, h, mNext]
theorem eqv_nil : ∀ ys : List PyData, PyData.eqv (.list ys) (.list []) = ys.isEmpty
  | [] => by simp [PyData.eqv, PyData.eqvAll]
  | y :: ys => by simp [PyData.eqv, PyData.eqvAll]
theorem isE_pys : ∀ ds : List D, (pys ds).isEmpty = ds.isEmpty
  | [] => rfl
  | _ :: _ => rfl
theorem oks_of {n : Nat} : ∀ {ds : List D}, (∀ d ∈ ds, d.ok n = true) → oks n ds = true
  | [], _ => rfl
  | d :: ds, h => by
    unfold oks
    rw [h d List.mem_cons_self, oks_of fun d hd => h d (List.mem_cons_of_mem _ hd)]
    rfl
theorem ne_int (i j : Int) : fNe (.int i) (.int j) = some (.v (.bl (!decide (i = j)))) := by
  simp [fNe, D.ok, rb, D.py, PyData.eqv, BEq.beq]
theorem eq_int (i j : Int) : fEq (.int i) (.int j) = some (.v (.bl (decide (i = j)))) := by
  simp [fEq, D.ok, rb, D.py, PyData.eqv, BEq.beq]
theorem ne_str (x y : Str) : fNe (.str x) (.str y) = some (.v (.bl (!decide (x = y)))) := by
  simp [fNe, D.ok, rb, D.py, PyData.eqv, BEq.beq]
theorem eq_str (x y : Str) : fEq (.str x) (.str y) = some (.v (.bl (decide (x = y)))) := by
  simp [fEq, D.ok, rb, D.py, PyData.eqv, BEq.beq]
/-- a list and the empty one -/
theorem ne_nil {ds : List D} (h : oks 59 ds = true) : fNe (.lst ds) (.lst []) = some (.v (.bl (!ds.isEmpty))) := by
  have h1 : (D.lst ds).ok 60 = true := by unfold D.ok; rw [h]; rfl
  have h2 : (D.lst []).ok 60 = true := rfl
  unfold fNe
  rw [h1, h2]
  simp only [Bool.and_self, if_true, rb, D.py, pys, eqv_nil, isE_pys]
theorem eq_nil {ds : List D} (h : oks 59 ds = true) : fEq (.lst ds) (.lst []) = some (.v (.bl ds.isEmpty)) := by
  have h1 : (D.lst ds).ok 60 = true := by unfold D.ok; rw [h]; rfl
  have h2 : (D.lst []).ok 60 = true := rfl
  unfold fEq
  rw [h1, h2]
  simp only [Bool.and_self, if_true, rb, D.py, pys, eqv_nil, isE_pys]
end LM

/-! str(o) by an own def -/
namespace LM
open PySem PySem.Spec PyProof.Rows L2
section
variable {X : Cx} {k : Nat} {f C : Addr} {fd : FuncData} {ps : List Str} {sp : Sp}
theorem run_in2 {pins : List (Addr × Obj)} {σ : L2.St} {H : Hp} {s : Shared} {Q : VK} {us : List Value} {vs : List V} {Er : Value → Shared → Prop} (F : FnOk X.prog X.w X.K X.mg X.base CX0 k f fd ps sp) (hr : Room (k + 2) X.A) (hb : Binds X.K fd ps [])
    (I : Inv X pins σ H s) (r : Vals vs us) (h : sp vs H Q E0) : wpAny (model X.prog X.w) X.A.in1.in1 (call (.ref f) us) (EP X pins σ Q) Er s := by
  have hl : us.length = ps.length := by rw [← r.length]; exact F.len _ _ _ _ h
  have bnd := hb s us I.kIn (by rw [List.append_nil]; exact hl)
  rw [List.append_nil] at bnd
  refine wpAny_call (codeAny_mono (F.run X.A.in1.in1 X.stack s H ⟨us, []⟩ us vs Q E0 hr.in1.in1 I.env0.in1.in1 bnd r h) fun r s' hq => ?_)
  rcases r with er | fl
  · exact (show False from hq).elim
  · cases fl with
    | ret u => exact I.after hq
    | _ => exact False.elim hq
theorem call_strO (S : Spc X.K C "__str__" f) (hf : PySem.W.isFn X.K (.ref f) = true) (F : FnOk X.prog X.w X.K X.mg X.base CX0 k f fd ps sp) (hr : Room (k + 2) X.A) (hb : Binds X.K fd ps []) :
    CallR X (.type "str") (fun xs H Q => ∃ a dx fs, xs = [.ref a] ∧ H a = some (.ins C dx fs) ∧ sp [.ref a] H (fun v H' => ∃ y : Str, v = .str y ∧ Q (.str y) H') E0) := by
  intro pins s σ H xs us Q I r ⟨a, dx, fs, exs, ea, h⟩
  subst exs
  match r with
  | .cons ru .nil =>
    cases ru
    obtain ⟨mA, O, _⟩ := ins_get I.hok ea
    obtain ⟨od, J, _⟩ := O.look
    have go := run_in2 (Er := X.xe) (vs := [.ref a]) (us := [.ref a]) F hr hb I (.cons rfl .nil) h
    refine PySem.W.kso_call hr.in1.in1.units0 I.kIn J S.at_ hf (wpAny_mono go (fun v s' hv => ?_) fun _ _ z => z)
    obtain ⟨y, H', I', ry, n, ey, q⟩ := hv
    subst ey
    obtain ⟨tk, etk⟩ : ∃ tk, v = .str n tk := ry
    subst etk
    exact ⟨.str n, H', I', ⟨tk, rfl⟩, q⟩
end
/-- str(o) -/
def mStrO {S : Type} (C : Addr) (f : List D → Unit → FO Unit D) (ma : MX S W) : MX S W := ma.bind fun w => fun env s => match w with
  | .v (.ins C' ns es) => if C' = C then (match f [.ins C' ns es] () with
    | .ok (.str y) _ => .ok (.v (.str y)) env s
    | _ => .bad) else .bad
  | _ => .bad
section
variable {S : Type} {X : Cx} {I : BoxI S} {Wx : WX} {CX : CXT} {a b : Expr} {pos p : Pos} {ma mb : MX S W} {k : Nat} {fa C : Addr} {fd : FuncData} {ps : List Str}
theorem d_strO {f : List D → Unit → FO Unit D} (Sp : Spc X.K C "__str__" fa) (hfn : PySem.W.isFn X.K (.ref fa) = true) (F : FnOk X.prog X.w X.K X.mg X.base CX0 k fa fd ps (spD boxNil X.K [.v] f)) (hr : Room (k + 2) X.A) (hb : Binds X.K fd ps []) (hg : Gl X "str") (hm : X.mg "str" = none) (hv : bootBuiltins "str" = some (.type "str")) (ha : PE X a (tD X.K I Wx ma))
    (he : starEach [a] X.env = (false, eval a X.env) :: starEach [] X.env := by rfl) (hpl : (backTo pos (starEach [] X.env)).any (·.1) = false := by rfl) : PE X (.Call (.Name "str" p) [a] [] pos) (tD X.K I Wx (mStrO C f ma)) := by
  refine PEimp (pe_callTy (call_strO Sp hfn F hr hb) hg hm hv (a_cons (ms := mNil) ha a_nil he) (by decide) (by decide) he hpl) fun σ H Q ⟨G, env, s, ts, R, h⟩ => ?_
  refine ⟨G, env, s, ts, R, ?_⟩
  cases e : ma env s with
  | bad => simp only [mStrO, MX.bind, e, Out.bind] at h
  | ex x env1 s1 => simp only [mStrO, MX.bind, e, Out.bind] at h; simp only [mCons, MX.bind, e, Out.bind]; exact h
  | ok w env1 s1 =>
    simp only [mStrO, MX.bind, e, Out.bind] at h
    simp only [mCons, MX.bind, e, Out.bind, mNil]
    intro vs H' hl R1
    match vs, hl with
    | [x], _ =>
      cases w with
      | v d =>
        cases d with
        | ins C' ns es =>
          simp only at h
          by_cases hc : C' = C
          · subst hc
            simp only [if_true] at h
            obtain ⟨ad, bv, bm, R2⟩ := id R1
            have q : Rep X.K _ H' x (.ins C' ns es) := R2.tm _ List.mem_cons_self
            cases q with
            | ins n r e' q =>
              rename_i o dx fs _
              refine ⟨o, dx, fs, rfl, r, ?_⟩
              refine call_finP (Wx := W0) (G := G) (σ := σ) (I := I) (s := s1) (ws := [.v (.ins C' ns es)]) (l := [(.ref o, .v (.ins C' ns es))]) (ts := ts) (env := env1) R2 rfl (fun p hp => List.mem_append_left _ hp) (fun _ _ _ z => z.elim) rfl ?_
              simp only [bindA, W.kp]
              cases e2 : f [.ins C' ns es] () with
              | bad => simp only [e2] at h
              | ex y s2 => simp only [e2] at h
              | ok d2 s2 =>
                cases d2 with
                | str m =>
                  simp only [e2] at h
                  intro v H3 R3
                  obtain ⟨ad3, bv3, bm3, R4⟩ := id R3
                  have q3 : Rep X.K _ H3 v (.str m) := R4.tm _ List.mem_cons_self
                  cases q3
                  exact ⟨m, rfl, h _ H3 R3⟩
                | _ => simp only [e2] at h
          · simp only [if_neg hc] at h
        | _ => simp only at h
      | _ => simp only at h
end
end LM

/-! classmethods: cls is the box of its def -/
namespace LM
open PySem PySem.Spec PyProof.Rows L2 ClX
/-- the class that a classmethod is handed -/
def boxCls (C : Addr) : BoxI Unit where
  rel := fun _ bv bm _ => bv = .ref C ∧ ∀ a, ¬ bm a
  frame := fun h _ => h
  dom := fun h m => absurd m (h.2 _)
  fix := true
theorem ArgsR.pureB {K : PySem.W.Frag} {bm B : Addr → Prop} {H : Hp} {bv bv' : V} : ∀ {m : List Md} {xs : List V} {ds : List D}, ArgsR K bm B H bv m xs ds → m.any Md.isB = false → ArgsR K (fun _ => False) B H bv' m xs ds
  | _, _, _, .nil, _ => .nil
  | _, _, _, .v r h, e => .v r (h.pureB (by simpa [Md.isB] using e))
  | _, _, _, .t r h, e => .t (r.gr (.sub fun _ z => z.elim) (.sub fun _ z => z)) (h.pureB (by simpa [Md.isB] using e))
  | _, _, _, .b h, e => by simp [Md.isB] at e
section
variable {X : Cx} {CX : CXT} {k : Nat} {f C : Addr} {fd : FuncData} {ps : List Str} {sp : Sp} {x m : Str} {p pos apos : Pos} {e o : Expr} {es : List Expr} {ta : TE} {t : TA}
theorem pe_clsS {i : Nat} {E : L2.St → XK} (hN : X.N[i]? = some x) (hv : Vis X.env.scope x) (M : Mk X.K C f) (F : FnOk X.prog X.w X.K X.mg X.base CX k f fd ps sp) (hr : Room (k + 1) X.A) (hb : Binds X.K fd ps []) (hx : ∀ σ, PassesAt CX X σ (E σ))
    (ha : PA X (e :: es) t) (hdb : (x == ("__debug__" : Str)) = false := by decide) (hcd : (x == ("__classdict__" : Str)) = false := by decide) (he : starEach (e :: es) X.env = (false, eval e X.env) :: starEach es X.env := by rfl) (hpl : (backTo pos (starEach es X.env)).any (·.1) = false := by rfl) :
    PE X (.Call (.Name x p) (e :: es) [] pos) (fun σ H Q => σ[i]? = some (some (.ref C)) ∧ tMakeS C sp E t σ H Q) := ⟨fun pins s σ H Q I ⟨h0, h⟩ => by
  refine wpAny_Call_Name_kw (thn ((pe_var (pos := p) hN hv hdb hcd).run pins s σ H (fun v H1 => v = .ref C ∧ H1 = H) I ⟨_, h0, rfl, rfl⟩) fun u s1 ⟨v, H1, I1, rv, ev, eH⟩ => ?_)
  subst ev; subst eH
  obtain rfl : u = Value.ref C := rv
  exact PySem.W.callWith_K (h₀ := X.base) I.ok.mod.kin M.kp (thn (ha.run pos pins s1 σ H1 _ I1 h) fun us s2 ⟨vs, H2, I2, r, q⟩ => ⟨I2.kIn, run_makeS M F hr hb (hx σ) I2 r q⟩) he hpl⟩
theorem run_cmS {q g : Addr} {pins : List (Addr × Obj)} {σ : L2.St} {H : Hp} {s : Shared} {Q : VK} {us : List Value} {vs : List V} {E : XK} (F : FnOk X.prog X.w X.K X.mg X.base CX k g fd ps sp) (hr : Room k X.A) (hb : Binds X.K fd ps []) (hx : PassesAt CX X σ E) (I : Inv X ((q, PySem.W.methodObj (.ref g) (.ref C)) :: pins) σ H s)
    (r : Vals vs us) (h : sp (.ref C :: vs) H Q E) : wpAny (model X.prog X.w) X.A (call (.ref q) us) (EP X pins σ Q) X.xe s := by
  have r2 : Vals (V.ref C :: vs) (Value.ref C :: us) := .cons rfl r
  have hl : (Value.ref C :: us).length = ps.length := by rw [← r2.length]; exact F.len _ _ _ _ h
  have bnd := hb s (Value.ref C :: us) I.kIn (by rw [List.append_nil]; exact hl)
  rw [List.append_nil] at bnd
  have z : wpAny (model X.prog X.w) X.A (call (.ref q) us) (EP X ((q, PySem.W.methodObj (.ref g) (.ref C)) :: pins) σ Q) X.xe s := by
    refine wpAny_call (PySem.W.method_call (pin_at I) (codeAny_mono (F.run X.A X.stack s H ⟨Value.ref C :: us, []⟩ (Value.ref C :: us) (V.ref C :: vs) Q E hr I.env0 bnd r2 h) fun r s' hq => ?_))
    rcases r with er | fl
    · exact hx _ H s er s' I hq
    · cases fl with
      | ret u => exact I.after hq
      | _ => exact False.elim hq
  exact thn z fun _ _ y => unpinE y
theorem pe_cmethS {g : Addr} {mc : Value} {pl : Sem Bool} {q : Addr} {E : L2.St → XK} (hg : Gl X x) (hm : X.mg x = some (.ref C)) (r : CRead X.K C mc) (c : CMet X.K C mc m q g) (F : FnOk X.prog X.w X.K X.mg X.base CX k g fd ps sp) (hr : Room k X.A) (hb : Binds X.K fd ps []) (hx : ∀ σ, PassesAt CX X σ (E σ)) (ha : PA X (e :: es) t)
    (hdb : (x == ("__debug__" : Str)) = false := by decide)
    (hst : starEach (e :: es) X.env = (false, eval e X.env) :: starEach es X.env := by rfl) (hpl : (backTo pos (starEach es X.env)).any (·.1) = false := by rfl)
    (ht : eval (.Call (.Attribute (.Name x p) m apos) (e :: es) [] pos) X.env = (do
      let ov ← eval (.Name x p) X.env
      standAt apos.atName
      let (f, first) ← holding [ov] (getMethod ov m pl)
      callWith pos f first (backTo pos (starEach (e :: es) X.env)) (backToKw pos (keywordEach [] X.env))) := by rfl) :
    PE X (.Call (.Attribute (.Name x p) m apos) (e :: es) [] pos) (fun σ H Q => t σ H fun vs H2 => sp (.ref C :: vs) H2 Q (E σ)) := by
  refine ⟨fun pins s σ H Q I h => ?_⟩
  refine PySem.W.methodCall_KW (pl := pl) (ld_glob I hg hm ?_ hdb) ht
  refine getmethcm_ok I r c fun s2 I2 => ?_
  refine callwith_cm I2 (base_none I (Nat.le_refl _)) c.fi (thn (ha.run pos _ s2 σ H _ I2 h) fun us s3 ⟨vs, H2, I3, rv, q2⟩ => ⟨⟨pin_at I3, I3.kIn⟩, ?_⟩) hst hpl
  exact run_cmS F hr hb (hx σ) I3 rv q2
end
/-- cls(..) -/
def mClsP {S : Type} (i : Nat) (C : Addr) (md : List Md) (f : List D → FO Unit (List Str × List D)) (ms : MX S (List W)) : MX S W := fun env s => match env[i]? with
  | some .box => mMakeP C md f ms env s
  | _ => .bad
section
variable {S : Type} {X : Cx} {I : BoxI S} {Wx : WX} {CX : CXT} {a o : Expr} {es : List Expr} {pos p apos : Pos} {ma : MX S W} {ms : MX Unit (List W)} {md : List Md} {k : Nat} {fa C : Addr} {fd : FuncData} {ps : List Str} {x m : Str}
theorem d_cls {i : Nat} {f : List D → FO Unit (List Str × List D)} (hN : X.N[i]? = some x) (hv : Vis X.env.scope x) (M : Mk X.K C fa) (F : FnOk X.prog X.w X.K X.mg X.base CX k fa fd ps (spI X.K C md f)) (hr : Room (k + 1) X.A) (hb : Binds X.K fd ps [])
    (hx : ∀ σ, PassesAt CX X σ (WE Wx σ)) (ha : PA X (a :: es) (tDs X.K (boxCls C) Wx ms)) (hmd : md.any Md.isB = false := by rfl) (hdb : (x == ("__debug__" : Str)) = false := by decide) (hcd : (x == ("__classdict__" : Str)) = false := by decide) (he : starEach (a :: es) X.env = (false, eval a X.env) :: starEach es X.env := by rfl)
    (hpl : (backTo pos (starEach es X.env)).any (·.1) = false := by rfl) : PE X (.Call (.Name x p) (a :: es) [] pos) (tD X.K (boxCls C) Wx (mClsP i C md f ms)) := by
  refine PEimp (pe_clsS (E := fun σ => WE Wx σ) hN hv M F hr hb hx ha hdb hcd he hpl) fun σ H Q ⟨G, env, s, ts, R, h⟩ => ?_
  have h : ZD X.K (boxCls C) Wx G ts σ Q (mClsP i C md f ms env s) := h
  have key : env[i]? = some .box := by
    unfold mClsP at h
    cases e : env[i]? with
    | none => rw [e] at h; exact False.elim h
    | some y =>
      rw [e] at h
      cases y with
      | box => rfl
      | _ => exact False.elim h
  have h2 : ZD X.K (boxCls C) Wx G ts σ Q (mMakeP C md f ms env s) := by
    unfold mClsP at h
    rw [key] at h
    exact h
  refine ⟨?_, ?_⟩
  · obtain ⟨ad, bv, bm, R0⟩ := id R
    have h1 := R0.sl i .box key
    have h3 : bv = .ref C := R0.box.1
    subst h3
    exact h1
  · refine tDs_bind (Z := ZD X.K (boxCls C) Wx G ts σ Q) R h2 (fun _ _ _ z => z) (fun z => z) fun ws env1 s1 vs H1 _ l R1 z1 => ?_
    obtain ⟨ad, bv, bm, R2⟩ := R1
    intro y dx n1 n2 n3
    exact make_fin R2 l zip_in (fun c d H' h => h) hmd z1 n1 n2 n3
end
section
variable {S : Type} {K : PySem.W.Frag} {I : BoxI S} {Wx : WX} {G : Gh} {ad : Nat → Addr} {bv : V} {bm : Addr → Prop} {env : List Sl} {s : S} {l ts : List (V × W)} {σ : L2.St} {H : Hp}
theorem call_finC {C : Addr} {md : List Md} {f : List D → Unit → FO Unit D} {ws : List W} {vs : List V} {Q : VK} {E : XK} (R : ERa K I G ad bv bm env s (l ++ ts) σ H) (hl : vs.length = ws.length) (hin : ∀ p ∈ vs.zip ws, p ∈ l ++ ts)
    (hE : ∀ c d H', Wx c d σ H' → E c d H') (hmd : md.any Md.isB = false) (z : ZD K I Wx G ts σ Q (match bindA env md ws with
      | some ds => (f ds ()).outP .v env s
      | none => .bad)) : spD (boxCls C) K (.b :: md) f (.ref C :: vs) H Q E := by
  cases e : bindA env md ws with
  | none => rw [e] at z; exact z.elim
  | some ds =>
    rw [e] at z
    refine ⟨_, fun _ => False, .ref C, ds, (), fun a h => h.elim, fun a => R.avdom, ⟨rfl, fun _ h => h⟩, .b ((argsB R hl hin e).pureB hmd), ?_⟩
    have z : ZD K I Wx G ts σ Q ((f ds ()).outP .v env s) := z
    have same : ∀ {H' : Hp}, Ext (fun _ => False) H H' → ∀ a o, H a = some o → H' a = some o := fun x a o h => x.kp a o h fun z => z
    cases q : f ds () with
    | ok d s' =>
      rw [q] at z
      exact fun v H' x rb rep => z v H' ⟨ad, bv, bm, ((R.same (same x)).pushV rep).less (.cons_cons _ slA)⟩
    | ex e s' =>
      rw [q] at z
      refine fun dx H' x rb n ⟨fs, e1, e2, r⟩ => hE _ _ _ (z dx H' ?_)
      exact ERX.less ⟨ad, bv, bm, R.same (same x), R.dom _ n, fs, e1, e2, r⟩ slA
    | bad => rw [q] at z; exact z.elim
end
section
variable {S : Type} {X : Cx} {I : BoxI S} {Wx : WX} {CX : CXT} {a o : Expr} {es : List Expr} {pos p apos : Pos} {ma : MX S W} {ms : MX S (List W)} {md : List Md} {k : Nat} {fa C : Addr} {fd : FuncData} {ps : List Str} {x m : Str}
/-- C.m(..), m a classmethod -/
theorem d_cmeth {f : List D → Unit → FO Unit D} {pl : Sem Bool} {mc : Value} {q : Addr} (r : CRead X.K C mc) (c : CMet X.K C mc m q fa) (F : FnOk X.prog X.w X.K X.mg X.base CX k fa fd ps (spD (boxCls C) X.K (.b :: md) f)) (hr : Room k X.A) (hg : Gl X x) (hm : X.mg x = some (.ref C)) (hb : Binds X.K fd ps [])
    (hx : ∀ σ, PassesAt CX X σ (WE Wx σ)) (ha : PA X (a :: es) (tDs X.K I Wx ms)) (hmd : md.any Md.isB = false := by rfl) (hdb : (x == ("__debug__" : Str)) = false := by decide)
    (hst : starEach (a :: es) X.env = (false, eval a X.env) :: starEach es X.env := by rfl) (hpl : (backTo pos (starEach es X.env)).any (·.1) = false := by rfl)
    (ht : eval (.Call (.Attribute (.Name x p) m apos) (a :: es) [] pos) X.env = (do
      let ov ← eval (.Name x p) X.env
      standAt apos.atName
      let (f, first) ← holding [ov] (getMethod ov m pl)
      callWith pos f first (backTo pos (starEach (a :: es) X.env)) (backToKw pos (keywordEach [] X.env))) := by rfl) : PE X (.Call (.Attribute (.Name x p) m apos) (a :: es) [] pos) (tD X.K I Wx (mCallP md f ms)) := by
  refine PEimp (pe_cmethS (E := fun σ => WE Wx σ) hg hm r c F hr hb hx ha hdb hst hpl ht) fun σ H Q ⟨G, env, s, ts, R, h⟩ => ?_
  refine tDs_bind (Z := ZD X.K I Wx G ts σ Q) R h (fun _ _ _ z => z) (fun z => z) fun ws env1 s1 vs H1 _ l R1 z1 => ?_
  obtain ⟨ad, bv, bm, R2⟩ := R1
  exact call_finC R2 l zip_in (fun c d H' h => h) hmd z1
end
end LM

/-! str of an int, int of a text -/
namespace LM
open PySem L2
def cStr : List D → Option Rs
  | [.int i] => if i.natAbs.log2 < 1920 then some (.v (.str (toString i))) else none
  | _ => none
def cIntS : List D → Option Rs
  | [.str x] => match PySem.intText? x with
    | some n => if x.length ≤ 640 then ri n else none
    | none => none
  | _ => none
section
variable {K : PySem.W.Frag}
theorem dc_str : DCall K (fun xs H Q => ∃ i, xs = [.int i] ∧ i.natAbs.log2 < 1920 ∧ Q (.str (toString i)) H) cStr := by
  intro B H vs ds res Q h _ e q
  unfold cStr at e
  split at e
  · obtain ⟨v, rfl, hv⟩ := tps1 h
    rw [hv.int]
    split at e
    · rename_i hk
      exact ⟨_, rfl, hk, fin_v e q (.str _)⟩
    · cases e
  · cases e
theorem dc_intS : DCall K (fun xs H Q => ∃ a n, xs = [.str a] ∧ PySem.intText? a = some n ∧ a.length ≤ 640 ∧ Q (.int n) H) cIntS := by
  intro B H vs ds res Q h _ e q
  unfold cIntS at e
  split at e
  · rename_i x
    obtain ⟨v, rfl, hv⟩ := tps1 h
    rw [hv.str]
    cases hn : PySem.intText? x with
    | none => rw [hn] at e; cases e
    | some n =>
      rw [hn] at e
      simp only at e
      split at e
      · rename_i hk
        exact ⟨_, n, rfl, hn, hk, fin_int e q⟩
      · cases e
  · cases e
end
end LM

/-! a, b, c = e -/
namespace LM
open PySem PySem.Spec PyProof.Rows L2
def mSetG {S : Type} (g : D → List Sl → Option (List Sl)) (me : MX S W) : MS S := fun env s => (me env s).bindS fun w env s => match w with
  | .v d => match g d env with
    | some env' => .nx env' s
    | none => .bad
  | _ => .bad
section
variable {S : Type} {X : Cx} {I : BoxI S} {Wx : WX} {e : Expr} {tg : Expr} {pos : Pos} {me : MX S W} {g : D → List Sl → Option (List Sl)} {ix : List Nat}
theorem s_setG (he : PE X e (tD X.K I Wx me)) (hg : PG X tg (tG X.K I ix g)) (hs : swapsWithSole [tg] e pos.line X.env = pure false := by rfl) (hw : swappedStores [tg] e X.env = pure none := by rfl)
    (h1 : (assignEach [tg] X.env).map (·.2) = [assign tg X.env] := by rfl) : PS X (.Assign [tg] e pos) (tS X.K I Wx (mSetG g me)) := by
  refine PSimp (ps_asg he hg hs hw h1) fun Dn σ H ⟨G, env, s, ts, R, cl, h⟩ => ?_
  have h : ZS X.K I Wx G ts Dn (mSetG g me env s) := h
  show tD X.K I Wx me σ H _
  refine ⟨G, env, s, ts, R, ?_⟩
  cases e1 : me env s with
  | bad => simp only [mSetG, e1, Out.bindS] at h; exact h.elim
  | ex y env1 s1 => simp only [mSetG, e1, Out.bindS] at h ⊢; exact fun dx H' R' => h dx σ H' R'
  | ok w env1 s1 =>
    simp only [mSetG, e1, Out.bindS] at h
    intro v H1 R1
    cases w with
    | v d =>
      simp only at h
      refine ⟨G, env1, s1, ts, d, R1, ?_⟩
      cases eg : g d env1 with
      | none => simp only [eg] at h; exact h.elim
      | some env2 =>
        simp only [eg] at h
        exact fun σ' R2 _ => h σ' H1 R2
    | _ => exact h.elim
end
end LM

/-! a comprehension over the own list of a slot -/
namespace LM
open PySem L2
def GK (k : Nat) (g : D → List Sl → Option (List Sl)) : Prop := ∀ d env env', g d env = some env' → env'[k]? = env[k]?
def GKs (k : Nat) (g : List D → List Sl → Option (List Sl)) : Prop := ∀ d env env', g d env = some env' → env'[k]? = env[k]?
def MK {S : Type} (k : Nat) (m : MX S W) : Prop := ∀ env s w env' s', m env s = .ok w env' s' → env'[k]? = env[k]?
theorem gk_n {i k : Nat} (h : i ≠ k) : GK k (gN i) := by
  intro d env env' e
  unfold gN at e
  cases q : env[i]? with
  | none => rw [q] at e; cases e
  | some y =>
    rw [q] at e
    simp only at e
    split at e
    · cases e
    · cases e
      rw [List.getElem?_set_ne h]
theorem gk_t {k n : Nat} {g : List D → List Sl → Option (List Sl)} (h : GKs k g) : GK k (gT n g) := by
  intro d env env' e
  unfold gT at e
  split at e
  · split at e
    · exact h _ _ _ e
    · cases e
  · cases e
theorem gks_n {k : Nat} : GKs k gsN := by
  intro d env env' e
  unfold gsN at e
  split at e
  · cases e; rfl
  · cases e
theorem gks_c {k : Nat} {g : D → List Sl → Option (List Sl)} {gs : List D → List Sl → Option (List Sl)} (h : GK k g) (hs : GKs k gs) : GKs k (gsC g gs) := by
  intro d env env' e
  unfold gsC at e
  cases d with
  | nil => cases e
  | cons d ds =>
    simp only at e
    cases q : g d env with
    | none => simp only [q] at e; cases e
    | some env1 =>
      simp only [q] at e
      exact (hs _ _ _ e).trans (h _ _ _ q)
theorem mk_var {S : Type} {k : Nat} (i : Nat) : MK (S := S) k (mVar i) := by
  intro env s w env' s' e
  unfold mVar at e
  split at e <;> first | (cases e; rfl) | cases e
theorem wipeE_keep {env : List Sl} {k : Nat} : ∀ {vs : List Nat}, k ∉ vs → (wipeE env vs)[k]? = env[k]?
  | [], _ => rfl
  | v :: vs, h => by
    show ((wipeE env vs).set v .no)[k]? = env[k]?
    rw [List.getElem?_set_ne (fun e => h (by simp [e])), wipeE_keep fun z => h (List.mem_cons_of_mem _ z)]
def mCompO {S : Type} (k : Nat) (vs : List Nat) (g : D → List Sl → Option (List Sl)) (me : MX S W) : MX S W := fun env s => match env[k]? with
  | some (.own ds) => mComp (fun env s => .ok ds env s) vs g mYes me env s
  | _ => .bad
section
variable {S : Type} {K : PySem.W.Frag} {I : BoxI S} {Wx : WX} {me : MX S W} {g : D → List Sl → Option (List Sl)} {idx : List Nat} {k : Nat}
theorem own_rd {G : Gh} {ts l : List (V × W)} {a : Addr} {ds : List D} {env : List Sl} {s : S} {σ : St} {H : Hp} (hR : ER K I G env s (l ++ ([(.ref a, .l k)] ++ ts)) σ H) (he : env[k]? = some (.own ds)) :
    ∃ ad bv bm xs, ERa K I G ad bv bm env s (l ++ ([(.ref a, .l k)] ++ ts)) σ H ∧ SqL K H a xs ∧ Reps K (Bv G bm ad env (l ++ ([(.ref a, .l k)] ++ ts))) H xs ds := by
  obtain ⟨ad, bv, bm, R⟩ := hR
  have q : Tp K (Bv G bm ad env (l ++ ([(.ref a, .l k)] ++ ts))) H (.ref a) (.lst ds) := R.rd (p := (.ref a, .l k)) (by simp) (by simp only [W.rd, he])
  obtain ⟨a', xs, e, r, q⟩ := q.lst
  cases e
  exact ⟨ad, bv, bm, xs, R, r, q⟩
theorem compO_fin {vs : List Nat} (hv : ∀ i ∈ idx, i ∈ vs) (hk : k ∉ vs) (hgk : GK k g) (hmk : MK k me) {σ : St} {H : Hp} {Q : VK} (h : tD K I Wx (mCompO k vs g me) σ H Q) :
    tLc (iList K (tD K I Wx (mVar k))) (tG K I idx g) (LM.tB K I W0 mYes) (tD K I W0 me) vs σ H Q := by
  obtain ⟨G, env1, s1, ts, R, h⟩ := h
  have h : ZD K I Wx G ts σ Q (mCompO k vs g me env1 s1) := h
  obtain ⟨ds, hds⟩ : ∃ ds, env1[k]? = some (.own ds) := by
    unfold mCompO at h
    split at h
    · rename_i ds e; exact ⟨ds, e⟩
    · exact h.elim
  simp only [mCompO, hds, mComp, MX.bind, Out.bind] at h
  have h : ZD K I Wx G ts σ Q (if nonref vs env1 = true then mCompL vs g mYes me ds [] (wipeE env1 vs) s1 else .bad) := h
  refine ⟨G, env1, s1, ts, R, ?_⟩
  simp only [mVar, hds]
  intro v H1 R1
  obtain ⟨a, rfl⟩ : ∃ a, v = .ref a := by
    obtain ⟨ad, bv, bm, R2⟩ := id R1
    have q := R2.tm (v, .l k) List.mem_cons_self
    exact ⟨_, q.1⟩
  obtain ⟨_, _, _, xs0, _, r0, _⟩ := own_rd (l := []) R1 hds
  refine ⟨a, rfl, ⟨xs0, r0⟩, ?_⟩
  intro L hL
  by_cases hn : nonref vs env1 = true
  · rw [if_pos hn] at h
    obtain ⟨ad, bv, bm, R2⟩ := R1
    let St0 : List D → Hp → Prop := fun rest H => ∃ env s acc, ER K I G env s ((.ref L, .f acc) :: ([(.ref a, .l k)] ++ ts)) (wipe σ vs) H ∧ (∀ v ∈ vs, ∀ y, env[v]? = some y → y = Sl.no) ∧ env[k]? = some (.own ds) ∧ ZD K I Wx G ts σ Q (mCompL vs g mYes me rest acc env s)
    refine ⟨fun i m H => m = ds.length - i ∧ i ≤ ds.length ∧ St0 (ds.drop i) H, ⟨_, rfl, Nat.zero_le _, wipeE env1 vs, s1, [], ?_, wipeE_no, (wipeE_keep hk).trans hds, h⟩, ?_⟩
    · exact ⟨ad, bv, bm, (R2.wipes hn).newF hL .nil⟩
    · rintro i m H2 ⟨rfl, hi, env2, s2, acc, R3, no, hk2, z⟩
      by_cases hlt : i < ds.length
      · have ed : ds.drop i = ds[i] :: ds.drop (i + 1) := List.drop_eq_getElem_cons hlt
        obtain ⟨ad3, bv3, bm3, xs3, R3', r3, q3⟩ := own_rd (l := [(.ref L, .f acc)]) R3 hk2
        obtain ⟨x3, hx3, rx3⟩ := q3.get (List.getElem?_eq_getElem hlt)
        refine .inr ⟨⟨xs3, x3, r3, hx3⟩, St0 (ds.drop (i + 1)), fun H' q => ⟨ds.length - (i + 1), by omega, rfl, hlt, q⟩, fun x H' ⟨eH, hy⟩ => ?_⟩
        subst eH
        have e2 := hy xs3 r3
        rw [hx3] at e2
        cases e2
        rw [ed] at z
        unfold mCompL at z
        refine ⟨G, env2, s2, (V.ref L, W.f acc) :: ([(V.ref a, W.l k)] ++ ts), ds[i], ⟨ad3, bv3, bm3, R3'.pushV rx3⟩, ?_⟩
        cases eg : g ds[i] env2 with
        | none => simp only [eg] at z; exact z.elim
        | some env3 =>
          simp only [eg] at z
          have hk3 := (hgk _ _ _ eg).trans hk2
          intro σ2 R4 w4
          have ew : wipe σ2 vs = wipe σ vs := (w4 vs hv).trans (wipe_wipe σ vs)
          refine ⟨ew, G, env3, s2, _, R4, ?_⟩
          simp only [mYes, Out.bindN, if_true] at z ⊢
          intro H3 R5
          refine ⟨G, env3, s2, _, R5, ?_⟩
          cases ee : me env3 s2 with
          | ex e' env5 s5 => simp only [ee] at z; exact z.elim
          | bad => simp only [ee] at z; exact z.elim
          | ok w env5 s5 =>
            simp only [ee] at z
            have hk5 := (hmk _ _ _ _ _ ee).trans hk3
            intro y H4 R6
            cases ek : w.kp with
            | none => simp only [ek] at z; exact z.elim
            | some e0 =>
              simp only [ek] at z
              by_cases hn5 : acc.length < 16777216 ∧ nonref vs env5 = true
              · rw [if_pos hn5] at z
                obtain ⟨ad, bv, bm, R7⟩ := R6
                have ry := R7.keep (p := (y, w)) List.mem_cons_self ek
                obtain ⟨a', xs', f1, f2, f3⟩ := R7.tm (.ref L, .f acc) (by simp)
                have fD : L = a' := by injection f1
                subst fD
                have sub : ∀ b, Bv G bm ad env5 ((.ref L, .f acc) :: ([(.ref a, .l k)] ++ ts)) b → Bv G bm ad env5 ((y, w) :: (.ref L, .f acc) :: ([(.ref a, .l k)] ++ ts)) b := fun b z => z.imp (fun q => q) fun z => z.imp (fun q => q) fun z => z.imp (fun q => q) fun ⟨q, hq, f⟩ => ⟨q, List.mem_cons_of_mem _ hq, f⟩
                have R8 := R7.pop.wrF (xs' := xs' ++ [y]) (ds' := acc ++ [e0]) ((f3.gr (.sub sub)).app (.one (ry.gr (.sub sub))))
                refine ⟨xs', f2, by rw [f3.len, sizeLine_eq]; exact hn5.1, ?_⟩
                have R9 := R8.wipes hn5.2
                rw [ew] at R9
                exact ⟨_, s5, _, ⟨ad, bv, bm, R9⟩, wipeE_no, (wipeE_keep hk).trans hk5, z⟩
              · rw [if_neg hn5] at z; exact z.elim
      · have ei : i = ds.length := by omega
        subst ei
        rw [List.drop_length] at z
        obtain ⟨_, _, _, xs3, _, r3, q3⟩ := own_rd (l := [(.ref L, .f acc)]) R3 hk2
        refine .inl ⟨⟨xs3, r3, by rw [q3.len]; exact Nat.le_refl _⟩, z _ H2 ?_⟩
        exact (wipeE_env no R3).less (.cons_cons _ slA)
  · rw [if_neg hn] at h; exact h.elim
end
section
variable {S : Type} {X : Cx} {I : BoxI S} {Wx : WX} {pos ip : Pos} {me : MX S W} {g : D → List Sl → Option (List Sl)} {idx : List Nat}
theorem d_compO {elt tg : Expr} {x : Str} {scope : Scope} {own : List (Str × Nat)} (k : Nat) (hc : X.calm = true) (hN : X.N.Nodup) (hx : X.N[k]? = some x) (hvx : Vis X.env.scope x) (ok : BlkOk X.N X.env.scope scope own) (hv : ∀ i ∈ idx, i ∈ own.map (·.2)) (hk : k ∉ own.map (·.2)) (hgk : GK k g) (hmk : MK k me)
    (hg : ∀ (s : Shared) (H : Hp) (C : Addr) (cl : List (Str × Addr)) (fp : List Addr), PG (X.blk s H scope (compEnvC scope cl C X.env) fp) tg (tG X.K I idx g))
    (he : ∀ (s : Shared) (H : Hp) (C : Addr) (cl : List (Str × Addr)) (fp : List Addr), PE (X.blk s H scope (compEnvC scope cl C X.env) fp) elt (tD X.K I W0 me)) (hd : (x == ("__debug__" : Str)) = false := by decide) (hcd : (x == ("__classdict__" : Str)) = false := by decide)
    (hs : ∀ y, foldedSetIterable (.Name x ip) X.env y = pure y := by intro _; rfl) :
    PE X (.ListComp elt [⟨tg, .Name x ip, [], 0⟩] scope pos) (tD X.K I Wx (mCompO k (own.map (·.2)) g me)) :=
  PEimp (pe_lc hc hN (pi_list (d_var (I := I) (Wx := Wx) (S := S) k hx hvx hd hcd)) ok hg (fun _ _ _ _ _ => y_nil) he hs) fun _ _ _ h => compO_fin hv hk hgk hmk h
end
end LM

/-! o == p by an own def, both of the class -/
namespace LM
open PySem PySem.Spec PyProof.Rows L2
section
variable {X : Cx} {k : Nat} {f C : Addr} {fd : FuncData} {ps : List Str} {sp : Sp}
theorem run_in0 {pins : List (Addr × Obj)} {σ : L2.St} {H : Hp} {s : Shared} {Q : VK} {us : List Value} {vs : List V} {Er : Value → Shared → Prop} (F : FnOk X.prog X.w X.K X.mg X.base CX0 k f fd ps sp) (hr : Room k X.A) (hb : Binds X.K fd ps [])
    (I : Inv X pins σ H s) (r : Vals vs us) (h : sp vs H Q E0) : wpAny (model X.prog X.w) X.A (call (.ref f) us) (EP X pins σ Q) Er s := by
  have hl : us.length = ps.length := by rw [← r.length]; exact F.len _ _ _ _ h
  have bnd := hb s us I.kIn (by rw [List.append_nil]; exact hl)
  rw [List.append_nil] at bnd
  refine wpAny_call (codeAny_mono (F.run X.A X.stack s H ⟨us, []⟩ us vs Q E0 hr I.env0 bnd r h) fun r s' hq => ?_)
  rcases r with er | fl
  · exact (show False from hq).elim
  · cases fl with
    | ret u => exact I.after hq
    | _ => exact False.elim hq
theorem op_eqO (hs : PySem.W.findIn X.K (.ref C) "__eq__" = some (some (.ref f))) (hf : PySem.W.isFn X.K (.ref f) = true) (F : FnOk X.prog X.w X.K X.mg X.base CX0 k f fd ps sp) (hr : Room k X.A) (hb : Binds X.K fd ps []) :
    OpR X (compareOp .Eq) (fun x y H Q => ∃ a b dx dy fs gs, x = .ref a ∧ y = .ref b ∧ H a = some (.ins C dx fs) ∧ H b = some (.ins C dy gs) ∧ sp [.ref a, .ref b] H (fun v H' => ∃ r : Bool, v = .bl r ∧ Q (.bl r) H') E0) := by
  intro pins s σ H x y v u Q I rx ry hq
  obtain ⟨a, b, dx, dy, fs, gs, ex, ey, ha, hb', q⟩ := hq
  subst ex; subst ey
  obtain rfl : v = Value.ref a := rx
  obtain rfl : u = Value.ref b := ry
  obtain ⟨mA, J, _⟩ := ins_get I.hok ha
  obtain ⟨mB, J', _⟩ := ins_get I.hok hb'
  obtain ⟨od, J, _⟩ := J.look
  obtain ⟨od', J', _⟩ := J'.look
  obtain ⟨m, hF⟩ := I.fr
  show wpAny (model X.prog X.w) X.A (richCompare .Eq (.ref a) (.ref b)) (EP X pins σ Q) X.xe s
  refine PySem.W.cmp_K (op := .Eq) (tb := .ref C) hr.units0 hF I.ok.mod.kin J J'.type (by simp [PySem.W.notFirst]) hs hf ?_
  refine wpAny_mono (run_in0 (Er := X.xe) (vs := [.ref a, .ref b]) (us := [.ref a, .ref b]) F hr hb I (.cons rfl (.cons rfl .nil)) q) (fun z s' hz => ?_) fun _ _ e => e
  obtain ⟨y, H', I', ry, n, ey, q2⟩ := hz
  subst ey
  obtain rfl : z = Value.bool n := ry
  exact ⟨.bl n, H', I', rfl, q2⟩
end
/-- o == p -/
def mEqO {S : Type} (C : Addr) (f : List D → Unit → FO Unit D) (ma mb : MX S W) : MX S W := ma.bind fun w => mb.bind fun u => fun env s => match w with
  | .v (.ins C' ns es) => match u with
    | .v (.ins C2 ns2 es2) => if C' = C ∧ C2 = C then (match f [.ins C' ns es, .ins C2 ns2 es2] () with
      | .ok (.bl b) _ => .ok (.v (.bl b)) env s
      | _ => .bad) else .bad
    | _ => .bad
  | _ => .bad
section
variable {S : Type} {X : Cx} {I : BoxI S} {Wx : WX} {a b : Expr} {pos p : Pos} {ma mb : MX S W} {k : Nat} {fa C : Addr} {fd : FuncData} {ps : List Str}
theorem eqO_fin {f : List D → Unit → FO Unit D} {σ : L2.St} {H : Hp} {Q : VK} (h : tD X.K I Wx (mEqO C f ma mb) σ H Q) : tOp (fun x y H Q => ∃ a b dx dy fs gs, x = .ref a ∧ y = .ref b ∧ H a = some (.ins C dx fs) ∧ H b = some (.ins C dy gs) ∧ spD boxNil X.K [.v, .v] f [.ref a, .ref b] H (fun v H' => ∃ r : Bool, v = .bl r ∧ Q (.bl r) H') E0) (tD X.K I Wx ma) (tD X.K I Wx mb) σ H Q := by
  obtain ⟨G, env, s, ts, R, h⟩ := h
  refine two_of (r := fun x y H Q => ∃ a b dx dy fs gs, x = .ref a ∧ y = .ref b ∧ H a = some (.ins C dx fs) ∧ H b = some (.ins C dy gs) ∧ spD boxNil X.K [.v, .v] f [.ref a, .ref b] H (fun v H' => ∃ r : Bool, v = .bl r ∧ Q (.bl r) H') E0) R h fun x y w u env1 s1 H1 R1 z1 => ?_
  cases w with
  | v d =>
    cases d with
    | ins C1 ns es =>
      cases u with
      | v d2 =>
        cases d2 with
        | ins C2 ns2 es2 =>
          by_cases hc : C1 = C ∧ C2 = C
          · obtain ⟨c1, c2⟩ := hc
            subst c1; subst c2
            simp only [and_self, if_true] at z1
            obtain ⟨ad, bv, bm, R2⟩ := id R1
            have q : Rep X.K _ H1 x (.ins C2 ns es) := R2.tm (x, .v (.ins C2 ns es)) (.tail _ List.mem_cons_self)
            have q' : Rep X.K _ H1 y (.ins C2 ns2 es2) := R2.tm (y, .v (.ins C2 ns2 es2)) List.mem_cons_self
            cases q with
            | ins n r e' q =>
              rename_i o dx fs
              cases q' with
              | ins n2 r2 e2' q2 =>
                rename_i o2 dx2 fs2
                refine ⟨o, o2, dx, dx2, fs, fs2, rfl, rfl, r, r2, ?_⟩
                refine call_finP (Wx := W0) (G := G) (σ := σ) (I := I) (s := s1) (ws := [.v (.ins C2 ns es), .v (.ins C2 ns2 es2)]) (l := [(.ref o2, .v (.ins C2 ns2 es2)), (.ref o, .v (.ins C2 ns es))]) (ts := ts) (env := env1) R2 rfl (fun p hp => ?_) (fun _ _ _ z => z.elim) rfl ?_
                · simp only [List.zip_cons_cons, List.zip_nil_right, List.mem_cons, List.not_mem_nil, or_false] at hp
                  rcases hp with rfl | rfl
                  · simp
                  · simp
                · simp only [bindA, W.kp]
                  cases e2 : f [.ins C2 ns es, .ins C2 ns2 es2] () with
                  | bad => simp only [e2] at z1; exact z1.elim
                  | ex y s2 => simp only [e2] at z1; exact z1.elim
                  | ok d2 s2 =>
                    cases d2 with
                    | bl m =>
                      simp only [e2] at z1
                      intro v H3 R3
                      obtain ⟨ad3, bv3, bm3, R4⟩ := id R3
                      have q3 : Rep X.K _ H3 v (.bl m) := R4.tm _ List.mem_cons_self
                      cases q3
                      exact ⟨m, rfl, z1 _ H3 R3⟩
                    | _ => simp only [e2] at z1; exact z1.elim
          · simp only [if_neg hc] at z1; exact z1.elim
        | _ => exact z1.elim
      | _ => exact z1.elim
    | _ => exact z1.elim
  | _ => exact z1.elim
theorem d_eqO {f : List D → Unit → FO Unit D} (Sp : Spc X.K C "__eq__" fa) (hfn : PySem.W.isFn X.K (.ref fa) = true) (F : FnOk X.prog X.w X.K X.mg X.base CX0 k fa fd ps (spD boxNil X.K [.v, .v] f)) (hr : Room k X.A) (hb : Binds X.K fd ps [])
    (ha : PE X a (tD X.K I Wx ma)) (hi : PE X b (tD X.K I Wx mb)) (hm : behindInMarks .Eq b = false := by first | exact nomark _ | with_unfolding_all rfl) : PE X (.Compare a [.Eq] [b] pos) (tD X.K I Wx (mEqO C f ma mb)) := by
  exact PEimp (pe_cmpR (op_eqO Sp.at_ hfn F hr hb) ha hi hm) fun σ H Q h => eqO_fin h
theorem t_eqO {f : List D → Unit → FO Unit D} (Sp : Spc X.K C "__eq__" fa) (hfn : PySem.W.isFn X.K (.ref fa) = true) (F : FnOk X.prog X.w X.K X.mg X.base CX0 k fa fd ps (spD boxNil X.K [.v, .v] f)) (hr : Room k X.A) (hb : Binds X.K fd ps [])
    (ha : PE X a (tD X.K I Wx ma)) (hi : PE X b (tD X.K I Wx mb)) (hm : behindInMarks .Eq b = false := by first | exact nomark _ | with_unfolding_all rfl) : PT X (.Compare a [.Eq] [b] pos) (LM.tB X.K I Wx (mTest (mEqO C f ma mb))) := by
  exact PTimp (pt_cmpR (op_eqO Sp.at_ hfn F hr hb) ha hi hm) fun σ H Q ⟨G, env, s, ts, R, h⟩ => eqO_fin (test_of (X := X) R h)
end
end LM

/-! zip of two lists -/
namespace LM
open PySem L2
def zipD (ds es : List D) : List D := (ds.zip es).map fun p => .tup [p.1, p.2]
theorem zipD_len (ds es : List D) : (zipD ds es).length = min ds.length es.length := by rw [zipD, List.length_map, List.length_zip]
theorem zipD_get {ds es : List D} {i : Nat} {d : D} (h : (zipD ds es)[i]? = some d) : ∃ x y, ds[i]? = some x ∧ es[i]? = some y ∧ d = .tup [x, y] := by
  unfold zipD at h
  rw [List.getElem?_map] at h
  cases e : (ds.zip es)[i]? with
  | none => rw [e] at h; cases h
  | some p =>
    rw [e] at h
    cases h
    obtain ⟨h1, h2⟩ := List.getElem?_zip_eq_some.mp e
    exact ⟨_, _, h1, h2, rfl⟩
section
variable {S : Type} {I : BoxI S}
theorem wk_zip {K : PySem.W.Frag} {G : Gh} {ts : List (V × W)} {ds es : List D} {a b : Addr} : Wk K I G ts [(.ref a, .v (.lst ds)), (.ref b, .v (.lst es))] (Itz K a b) (zipD ds es) := by
  have rd : ∀ env s l σ H, ER K I G env s (l ++ ([(V.ref a, W.v (.lst ds)), (V.ref b, W.v (.lst es))] ++ ts)) σ H → ∃ ad bv bm xs ys, ERa K I G ad bv bm env s (l ++ ([(V.ref a, W.v (.lst ds)), (V.ref b, W.v (.lst es))] ++ ts)) σ H ∧ SqL K H a xs ∧ SqL K H b ys ∧
      Reps K (Bv G bm ad env (l ++ ([(V.ref a, W.v (.lst ds)), (V.ref b, W.v (.lst es))] ++ ts))) H xs ds ∧ Reps K (Bv G bm ad env (l ++ ([(V.ref a, W.v (.lst ds)), (V.ref b, W.v (.lst es))] ++ ts))) H ys es := by
    rintro env s l σ H ⟨ad, bv, bm, R⟩
    have q1 : Tp K (Bv G bm ad env (l ++ ([(V.ref a, W.v (.lst ds)), (V.ref b, W.v (.lst es))] ++ ts))) H (.ref a) (.lst ds) := R.rd (p := (.ref a, .v (.lst ds))) (by simp) rfl
    have q2 : Tp K (Bv G bm ad env (l ++ ([(V.ref a, W.v (.lst ds)), (V.ref b, W.v (.lst es))] ++ ts))) H (.ref b) (.lst es) := R.rd (p := (.ref b, .v (.lst es))) (by simp) rfl
    obtain ⟨a', xs, e1, r1, q1⟩ := q1.lst
    obtain ⟨b', ys, e2, r2, q2⟩ := q2.lst
    cases e1; cases e2
    exact ⟨ad, bv, bm, xs, ys, R, r1, r2, q1, q2⟩
  refine ⟨fun q hq => ?_, fun env s l σ H i R hi => ?_, fun env s l σ H i d R hd => ?_⟩
  · simp only [List.mem_cons, List.not_mem_nil, or_false] at hq
    rcases hq with rfl | rfl
    · exact .inl ⟨_, rfl⟩
    · exact .inl ⟨_, rfl⟩
  · obtain ⟨_, _, _, xs, ys, _, r1, r2, q1, q2⟩ := rd env s l σ H R
    rw [zipD_len] at hi
    refine ⟨xs, ys, r1, r2, ?_⟩
    rw [q1.len, q2.len]
    omega
  · obtain ⟨x, y, hx, hy, rfl⟩ := zipD_get hd
    obtain ⟨ad, bv, bm, xs, ys, R', r1, r2, q1, q2⟩ := rd env s l σ H R
    obtain ⟨x0, hx0, rx⟩ := q1.get hx
    obtain ⟨y0, hy0, ry⟩ := q2.get hy
    refine ⟨⟨xs, ys, x0, y0, r1, r2, hx0, hy0⟩, fun z H' ⟨T, x1, y1, e1, e2, e3, e4, e5⟩ => ?_⟩
    subst e1
    subst e3
    have f1 := e4 xs r1
    rw [hx0] at f1; cases f1
    have f2 := e5 ys r2
    rw [hy0] at f2; cases f2
    exact ⟨ad, bv, bm, R'.newT e2 (.cons rx (.cons ry .nil))⟩
def mIZp (ms : MX S (List W)) : MX S (List D) := ms.bind fun ws => fun env s => match ws with
  | [.v (.lst ds), .v (.lst es)] => .ok (zipD ds es) env s
  | _ => .bad
end
section
variable {S : Type} {X : Cx} {I : BoxI S} {Wx : WX} {a b : Expr} {pos p : Pos} {ms : MX S (List W)}
theorem i_zip {elts : List Expr} {kk : Nat} {tpos : Pos} (hg : Gl X "zip") (hm : X.mg "zip" = none) (ha : PA X [a, b] (tDs X.K I Wx ms)) (hs : starEach [a, b] X.env = (false, eval a X.env) :: starEach [b] X.env := by rfl) (hpl : (backTo pos (starEach [b] X.env)).any (·.1) = false := by rfl) :
    PI X (.Tuple elts kk tpos) (.Call (.Name "zip" p) [a, b] [] pos) (tI X.K I Wx (mIZp ms)) := by
  refine PIimp (pi_zip hg hm ha hs hpl) fun σ H R0 ⟨G, env, s, ts, R, h⟩ => ?_
  show tDs X.K I Wx ms σ H _
  refine ⟨G, env, s, ts, R, ?_⟩
  cases e : ms env s with
  | ex e' env1 s1 =>
    simp only [mIZp, MX.bind, Out.bind, e] at h
    exact h
  | bad => simp only [mIZp, MX.bind, Out.bind, e] at h
  | ok ws env1 s1 =>
    simp only [mIZp, MX.bind, Out.bind, e] at h
    intro vs H1 hl R1
    split at h
    · rename_i xs env' s' heq
      split at heq
      · rename_i ds es
        cases heq
        match vs, hl with
        | [v1, v2], _ =>
          obtain ⟨ad, bv, bm, R2⟩ := id R1
          have q1 : Tp X.K _ H1 v1 (.lst ds) := R2.rd (p := (v1, .v (.lst ds))) (by simp) rfl
          have q2 : Tp X.K _ H1 v2 (.lst es) := R2.rd (p := (v2, .v (.lst es))) (by simp) rfl
          obtain ⟨a', xs, e1, r1, _⟩ := q1.lst
          obtain ⟨b', ys, e2, r2, _⟩ := q2.lst
          subst e1; subst e2
          exact ⟨a', b', xs, ys, rfl, r1, r2, h (Itz X.K a' b') [(.ref a', .v (.lst ds)), (.ref b', .v (.lst es))] H1 R1 wk_zip⟩
      · cases heq
    · rename_i heq
      split at heq <;> cases heq
    · exact h.elim
end
end LM

/-! xs.reverse() -/
namespace LM
open PySem L2
def gRev : List D → List D → Option (D × List D)
  | ds, [] => some (.non, ds.reverse)
  | _, _ => none
theorem dm_rev {K : PySem.W.Frag} : DMut K rReverse gRev := by
  intro B H a xs ds vs es res ds' Q hH rx rv e hl q
  unfold gRev at e
  split at e
  · cases e
    cases rv
    exact ⟨a, xs, rfl, rfl, hH, q _ _ rx.rev .non⟩
  · cases e
end LM

/-! isinstance(x, C), C an own class -/
namespace LM
open PySem L2
def isC (C : Addr) (d : D) : Option Bool := match d with
  | .ins C' _ _ => if C' = C then some true else none
  | d => d.ty.map fun _ => false
theorem isC_ok {K : PySem.W.Frag} {C : Addr} (T : InsT K C) (hb : ∀ t ∈ ["NoneType", "bool", "int", "str", "tuple", "list"], PySem.W.kitAny K (.type t) [.ref C] = some false) : IsF K [.ref C] (isC C) := by
  intro B H v d b hv e
  cases d with
  | ins C' ns ds =>
    simp only [isC] at e
    split at e
    · rename_i hc
      subst hc
      cases e
      obtain ⟨a, dx, fs, e1, r, _⟩ := Top.ins hv
      subst e1
      refine ⟨.ref C', .base (.ins r T.cl T.ha T.hn T.ht T.hm), ?_⟩
      have k : PySem.W.kitOne K (.ref C') (.ref C') = some true := by
        unfold PySem.W.kitOne
        rw [if_pos (by simp)]
      unfold PySem.W.kitAny
      rw [k]
    · cases e
  | _ =>
    simp only [isC, D.ty, Option.map_some, Option.some.injEq] at e
    subst e
    exact ⟨_, tyx_of hv rfl, hb _ (by simp)⟩
end LM

/-! o != p by an own __eq__ -/
namespace LM
open PySem PySem.Spec PyProof.Rows PySem.W
section
variable {prog : Program} {w : World} {A : Around} {E : Value → Shared → Prop} {s : Shared} {K : Frag} {x y C f : Addr} {ox : Obj} {od : Option Obj}
theorem objNe_in (hu : A.units < cLine) (Y : K.In s.heap) (J : InstAt s.heap x ox C od) (hs : findIn K (.ref C) "__eq__" = some (some (.ref f))) (hf : isFn K (.ref f) = true) {Q : Fin → Shared → Prop}
    (h : wpAny (model prog w) A (call (.ref f) [.ref x, .ref y]) (fun v s' => ∃ b, v = .bool b ∧ Q (.done (.ret (.bool (!b)))) s') E s) : wpAny (model prog w) A (Builtin.«object.__ne__» ⟨[.ref x, .ref y], []⟩) Q E s := by
  unfold Builtin.«object.__ne__»
  repeat (first
    | with_reducible refine wpAny_cRoomFor hu ?_
    | (refine wpAny_bind (m := callSpecialIfBound? (.ref x) (Str.ofString "__eq__") [.ref y])
        (ifBound_K Y J hs hf (wpAny_mono h (fun r s' hr => by
          obtain ⟨b, rfl, hq⟩ := hr
          repeat (first | exact hq | exact wpAny_pure hq | exact wpAny_truthy_bool hq | (refine wpAny_bind (m := truthy (.bool _)) (wpAny_truthy_bool ?_)) | wp_step)) fun _ _ e => e)))
    | wp_step)
theorem ifBound_ne {args : List Value} {Q : Option Value → Shared → Prop} (Y : K.In s.heap) (J : InstAt s.heap x ox C od) (hs : findIn K (.ref C) "__ne__" = some (some (.builtin "object.__ne__")))
    (h : wpAny (model prog w) A (call (.builtin "object.__ne__") (.ref x :: args)) (fun v => Q (some v)) E s) : wpAny (model prog w) A (callSpecialIfBound? (.ref x) "__ne__" args) Q E s := by
  simp only [callSpecialIfBound?, bindSpecialIfBound?]
  refine wpAny_holding (wpAny_bind (wpAny_bind (wpAny_bind (J.type.here ((looks_findIn Y hs).here ?_)))))
  refine wpAny_bind (wpAny_askSetting (wpAny_ite ?_))
  have fin : wpAny (model prog w) A (call (.builtin "object.__ne__") ([.ref x] ++ args) >>= fun v => pure (some v)) Q E s := wpAny_bind (wpAny_mono h (fun v s' h' => wpAny_pure h') fun _ _ h' => h')
  split
  · exact wpAny_bind (wpAny_of_eq (F.cmp_object.ne.bind _) (wpAny_pure (by exact fin)))
  · exact wpAny_tryCatch (wpAny_bind (wpAny_of_eq (F.cmp_object.ne.bind _) (wpAny_pure (by exact fin))))
theorem ne_own {oy : Obj} {dy : Option Obj} {Q : Value → Shared → Prop} (hu : A.units < cLine) (hu1 : A.in1.units < cLine) (Y : K.In s.heap) (J : InstAt s.heap x ox C od) (J' : InstAt s.heap y oy C dy) (hm : mroIn K C (.type "object") = some true) (hn : findIn K (.ref C) "__ne__" = some (some (.builtin "object.__ne__")))
    (hs : findIn K (.ref C) "__eq__" = some (some (.ref f))) (hf : isFn K (.ref f) = true) (h : wpAny (model prog w) A.in1 (call (.ref f) [.ref x, .ref y]) (fun v s' => ∃ b, v = .bool b ∧ Q (.bool (!b)) s') E s) :
    wpAny (model prog w) A (richCompare .NotEq (.ref x) (.ref y)) Q E s := by
  have one : wpAny (model prog w) A (tryCompare (.ref x) "__ne__" (.ref y)) (fun r s' => ∃ v, r = some v ∧ Q v s') E s := by
    unfold tryCompare
    refine wpAny_bind (ifBound_ne Y J hn (wpAny_call (codeAny_call_builtin F.cmp_object.ne.plain F.cmpEntry_ne (check_slot F.cmpKind_ne F.cmpSplit_ne (J.type.andThen (looks_mroIn Y hm)) (F.cmpArgs_ne _ _)
      (objNe_in (A := A.in1) hu1 Y J hs hf (wpAny_mono h (fun v s' hv => ?_) fun _ _ e => e))))))
    obtain ⟨b, rfl, hq⟩ := hv
    first | exact ⟨b, rfl, wpAny_pure ⟨_, rfl, hq⟩⟩ | exact ⟨b, rfl, wpAny_pure (wpAny_pure ⟨_, rfl, hq⟩)⟩
  unfold richCompare
  simp only [oneThing_ref]
  refine wpAny_holding (wpAny_bind (wpAny_cRoomFor hu ?_))
  refine wpAny_bind (J.type.here (wpAny_bind (J'.type.here ?_)))
  split
  · rename_i q
    simp at q
  · refine wpAny_bind (wpAny_pure ?_)
    simp only [Bool.false_eq_true, if_false]
    refine wpAny_bind (m := tryCompare (.ref x) _ (.ref y)) (wpAny_mono one (fun r s' z => ?_) fun _ _ e => e)
    obtain ⟨v, rfl, hq⟩ := z
    exact wpAny_pure hq
end
end LM

namespace LM
open PySem PySem.Spec PyProof.Rows L2
section
variable {X : Cx} {k : Nat} {f C : Addr} {fd : FuncData} {ps : List Str} {sp : Sp}
theorem op_neO (T : InsT X.K C) (hn : PySem.W.findIn X.K (.ref C) "__ne__" = some (some (.builtin "object.__ne__"))) (hs : PySem.W.findIn X.K (.ref C) "__eq__" = some (some (.ref f))) (hf : PySem.W.isFn X.K (.ref f) = true) (F : FnOk X.prog X.w X.K X.mg X.base CX0 k f fd ps sp) (hr : Room (k + 1) X.A) (hb : Binds X.K fd ps []) :
    OpR X (compareOp .NotEq) (fun x y H Q => ∃ a b dx dy fs gs, x = .ref a ∧ y = .ref b ∧ H a = some (.ins C dx fs) ∧ H b = some (.ins C dy gs) ∧ sp [.ref a, .ref b] H (fun v H' => ∃ r : Bool, v = .bl r ∧ Q (.bl (!r)) H') E0) := by
  intro pins s σ H x y v u Q I rx ry hq
  obtain ⟨a, b, dx, dy, fs, gs, ex, ey, ha, hb', q⟩ := hq
  subst ex; subst ey
  obtain rfl : v = Value.ref a := rx
  obtain rfl : u = Value.ref b := ry
  obtain ⟨mA, J, _⟩ := ins_get I.hok ha
  obtain ⟨mB, J', _⟩ := ins_get I.hok hb'
  obtain ⟨od, J, _⟩ := J.look
  obtain ⟨od', J', _⟩ := J'.look
  show wpAny (model X.prog X.w) X.A (richCompare .NotEq (.ref a) (.ref b)) (EP X pins σ Q) X.xe s
  refine ne_own hr.units0 hr.in1.units0 I.kIn J J' T.hm hn hs hf ?_
  refine wpAny_mono (run_in1 (Er := X.xe) (vs := [.ref a, .ref b]) (us := [.ref a, .ref b]) F hr hb I (.cons rfl (.cons rfl .nil)) q) (fun z s' hz => ?_) fun _ _ e => e
  obtain ⟨y, H', I', ry, n, ey, q2⟩ := hz
  subst ey
  obtain rfl : z = Value.bool n := ry
  exact ⟨n, rfl, .bl (!n), H', I', rfl, q2⟩
end
/-- o != p -/
def mNeO {S : Type} (C : Addr) (f : List D → Unit → FO Unit D) (ma mb : MX S W) : MX S W := ma.bind fun w => mb.bind fun u => fun env s => match w with
  | .v (.ins C' ns es) => match u with
    | .v (.ins C2 ns2 es2) => if C' = C ∧ C2 = C then (match f [.ins C' ns es, .ins C2 ns2 es2] () with
      | .ok (.bl b) _ => .ok (.v (.bl (!b))) env s
      | _ => .bad) else .bad
    | _ => .bad
  | _ => .bad
section
variable {S : Type} {X : Cx} {I : BoxI S} {Wx : WX} {a b : Expr} {pos p : Pos} {ma mb : MX S W} {k : Nat} {fa C : Addr} {fd : FuncData} {ps : List Str}
theorem neO_fin {f : List D → Unit → FO Unit D} {σ : L2.St} {H : Hp} {Q : VK} (h : tD X.K I Wx (mNeO C f ma mb) σ H Q) : tOp (fun x y H Q => ∃ a b dx dy fs gs, x = .ref a ∧ y = .ref b ∧ H a = some (.ins C dx fs) ∧ H b = some (.ins C dy gs) ∧ spD boxNil X.K [.v, .v] f [.ref a, .ref b] H (fun v H' => ∃ r : Bool, v = .bl r ∧ Q (.bl (!r)) H') E0) (tD X.K I Wx ma) (tD X.K I Wx mb) σ H Q := by
  obtain ⟨G, env, s, ts, R, h⟩ := h
  refine two_of (r := fun x y H Q => ∃ a b dx dy fs gs, x = .ref a ∧ y = .ref b ∧ H a = some (.ins C dx fs) ∧ H b = some (.ins C dy gs) ∧ spD boxNil X.K [.v, .v] f [.ref a, .ref b] H (fun v H' => ∃ r : Bool, v = .bl r ∧ Q (.bl (!r)) H') E0) R h fun x y w u env1 s1 H1 R1 z1 => ?_
  cases w with
  | v d =>
    cases d with
    | ins C1 ns es =>
      cases u with
      | v d2 =>
        cases d2 with
        | ins C2 ns2 es2 =>
          by_cases hc : C1 = C ∧ C2 = C
          · obtain ⟨c1, c2⟩ := hc
            subst c1; subst c2
            simp only [and_self, if_true] at z1
            obtain ⟨ad, bv, bm, R2⟩ := id R1
            have q : Rep X.K _ H1 x (.ins C2 ns es) := R2.tm (x, .v (.ins C2 ns es)) (.tail _ List.mem_cons_self)
            have q' : Rep X.K _ H1 y (.ins C2 ns2 es2) := R2.tm (y, .v (.ins C2 ns2 es2)) List.mem_cons_self
            cases q with
            | ins n r e' q =>
              rename_i o dx fs
              cases q' with
              | ins n2 r2 e2' q2 =>
                rename_i o2 dx2 fs2
                refine ⟨o, o2, dx, dx2, fs, fs2, rfl, rfl, r, r2, ?_⟩
                refine call_finP (Wx := W0) (G := G) (σ := σ) (I := I) (s := s1) (ws := [.v (.ins C2 ns es), .v (.ins C2 ns2 es2)]) (l := [(.ref o2, .v (.ins C2 ns2 es2)), (.ref o, .v (.ins C2 ns es))]) (ts := ts) (env := env1) R2 rfl (fun p hp => ?_) (fun _ _ _ z => z.elim) rfl ?_
                · simp only [List.zip_cons_cons, List.zip_nil_right, List.mem_cons, List.not_mem_nil, or_false] at hp
                  rcases hp with rfl | rfl
                  · simp
                  · simp
                · simp only [bindA, W.kp]
                  cases e2 : f [.ins C2 ns es, .ins C2 ns2 es2] () with
                  | bad => simp only [e2] at z1; exact z1.elim
                  | ex y s2 => simp only [e2] at z1; exact z1.elim
                  | ok d2 s2 =>
                    cases d2 with
                    | bl m =>
                      simp only [e2] at z1
                      intro v H3 R3
                      obtain ⟨ad3, bv3, bm3, R4⟩ := id R3
                      have q3 : Rep X.K _ H3 v (.bl m) := R4.tm _ List.mem_cons_self
                      cases q3
                      exact ⟨m, rfl, z1 _ H3 ⟨ad3, bv3, bm3, R4.pop.pushV (.bl _)⟩⟩
                    | _ => simp only [e2] at z1; exact z1.elim
          · simp only [if_neg hc] at z1; exact z1.elim
        | _ => exact z1.elim
      | _ => exact z1.elim
    | _ => exact z1.elim
  | _ => exact z1.elim
theorem d_neO {f : List D → Unit → FO Unit D} (T : InsT X.K C) (hn : PySem.W.findIn X.K (.ref C) "__ne__" = some (some (.builtin "object.__ne__"))) (Sp : Spc X.K C "__eq__" fa) (hfn : PySem.W.isFn X.K (.ref fa) = true) (F : FnOk X.prog X.w X.K X.mg X.base CX0 k fa fd ps (spD boxNil X.K [.v, .v] f)) (hr : Room (k + 1) X.A) (hb : Binds X.K fd ps [])
    (ha : PE X a (tD X.K I Wx ma)) (hi : PE X b (tD X.K I Wx mb)) (hm : behindInMarks .NotEq b = false := by first | exact nomark _ | with_unfolding_all rfl) : PE X (.Compare a [.NotEq] [b] pos) (tD X.K I Wx (mNeO C f ma mb)) := by
  exact PEimp (pe_cmpR (op_neO T hn Sp.at_ hfn F hr hb) ha hi hm) fun σ H Q h => neO_fin h
theorem t_neO {f : List D → Unit → FO Unit D} (T : InsT X.K C) (hn : PySem.W.findIn X.K (.ref C) "__ne__" = some (some (.builtin "object.__ne__"))) (Sp : Spc X.K C "__eq__" fa) (hfn : PySem.W.isFn X.K (.ref fa) = true) (F : FnOk X.prog X.w X.K X.mg X.base CX0 k fa fd ps (spD boxNil X.K [.v, .v] f)) (hr : Room (k + 1) X.A) (hb : Binds X.K fd ps [])
    (ha : PE X a (tD X.K I Wx ma)) (hi : PE X b (tD X.K I Wx mb)) (hm : behindInMarks .NotEq b = false := by first | exact nomark _ | with_unfolding_all rfl) : PT X (.Compare a [.NotEq] [b] pos) (LM.tB X.K I Wx (mTest (mNeO C f ma mb))) := by
  exact PTimp (pt_cmpR (op_neO T hn Sp.at_ hfn F hr hb) ha hi hm) fun σ H Q ⟨G, env, s, ts, R, h⟩ => neO_fin (test_of (X := X) R h)
end
end LM

/-! y == o by o's own __eq__, y of a built-in type -/
namespace LM
open PySem PySem.Spec PyProof.Rows PySem.W
section
variable {prog : Program} {w : World} {A : Around} {E : Value → Shared → Prop} {s : Shared} {K : Frag} {x C f dx : Addr} {od : Option Obj}
theorem rc_refl {y : Value} {T id : String} {Q : Value → Shared → Prop} (hu : A.units < cLine) (hT : s.TypeIs y T) (X : K.In s.heap) (I : InstAt s.heap x (instObj C dx) C od)
    (h1 : Slot T (cmpInfo .Eq).2.1 id) (hc : ∀ Q' : Value → Shared → Prop, Q' .notImplemented s → wpAny (model prog w) A (call (.builtin id) [y, .ref x]) Q' E s)
    (hsub : mroIn K C (.type T) = some false) (hs : findIn K (.ref C) "__eq__" = some (some (.ref f))) (hf : isFn K (.ref f) = true)
    (h : wpAny (model prog w) A (call (.ref f) [.ref x, y]) (fun v s' => ∃ b, v = .bool b ∧ Q (.bool b) s') E s) : wpAny (model prog w) A (richCompare .Eq y (.ref x)) Q E s := by
  rcases hi : cmpInfo CmpOp.Eq with ⟨sym, f1, r1⟩
  rw [hi] at h1
  have er : r1 = "__eq__" := by
    have := congrArg (fun z => z.2.2) hi
    exact this.symm
  simp only [richCompare, hi, hT.oneThing_none]
  try with_reducible refine wpAny_holding ?_
  refine wpAny_bind (wpAny_cRoomFor hu ?_)
  refine wpAny_bind (wpAny_typeOf hT (wpAny_bind (I.type.here ?_)))
  have ne : (Value.type T != Value.ref C) = true := by simp
  simp only [ne, if_true]
  refine wpAny_bind ((looks_mroIn X hsub).here ?_)
  simp only [Bool.false_eq_true, if_false, Bool.not_false, if_true]
  refine wpAny_bind (m := tryCompare y _ (.ref x)) (wpAny_tryCompare_declines hT h1 (hc _ ⟨rfl, ?_⟩))
  have one : wpAny (model prog w) A (tryCompare (.ref x) r1 y) (fun r s' => ∃ b, r = some (.bool b) ∧ Q (.bool b) s') E s := by
    subst er
    unfold tryCompare
    refine wpAny_bind (ifBound_K X I hs hf (wpAny_mono h (fun v s' hv => ?_) fun _ _ e => e))
    obtain ⟨b, rfl, hq⟩ := hv
    exact wpAny_pure ⟨b, rfl, hq⟩
  refine wpAny_bind (m := tryCompare (.ref x) _ y) (wpAny_mono one (fun r s' z => ?_) fun _ _ e => e)
  obtain ⟨b, rfl, hq⟩ := z
  exact wpAny_pure hq
theorem isInst_own {T : String} {Q : Bool → Shared → Prop} (X : K.In s.heap) (I : InstAt s.heap x (instObj C dx) C od) (hsub : mroIn K C (.type T) = some false) (h : Q false s) : wpAny (model prog w) A (isInstance (.ref x) (.type T)) Q E s :=
  by
  show wpAny _ _ (typeOf (.ref x) >>= fun t => isSubtype t (.type T)) _ _ _
  exact wpAny_bind (I.type.here ((looks_mroIn X hsub).here h))
theorem str_dec {a : Str} {t : Tok} {Q : Value → Shared → Prop} (I : InstAt s.heap x (instObj C dx) C od) (h : Q .notImplemented s) : wpAny (model prog w) A (call (.builtin "str.__eq__") [.str a t, .ref x]) Q E s := by
  refine wpAny_call_entry F.slot_str_eq (typeIs_str s a t) F.entry_str_eq ?_ (F.args_str_eq_2 _ _)
  have hx := I.at_
  unfold Builtin.«str.__eq__» Builtin.Str.strCompare
  repeat (first | with_reducible refine wpAny_loadPart' hx ?_ | wp_step)
  exact ⟨_, rfl, h⟩
theorem tup_dec {l : Addr} {Q : Value → Shared → Prop} (X : K.In s.heap) (I : InstAt s.heap x (instObj C dx) C od) (hT : s.TypeIs (.ref l) "tuple") (hsub : mroIn K C (.type "tuple") = some false) (h : Q .notImplemented s) : wpAny (model prog w) A (call (.builtin "tuple.__eq__") [.ref l, .ref x]) Q E s := by
  refine wpAny_call_entry F.slot_tuple_eq hT F.entry_tuple_eq ?_ (F.args_tuple_eq_2 _ _)
  show wpAny _ _ (isInstance (.ref x) (.type "tuple") >>= _) _ _ s
  refine wpAny_bind (isInst_own X I hsub ?_)
  repeat (first | with_reducible refine isInst_own X I hsub ?_ | wp_step)
  exact ⟨_, rfl, h⟩
theorem list_dec {l : Addr} {Q : Value → Shared → Prop} (X : K.In s.heap) (I : InstAt s.heap x (instObj C dx) C od) (hT : s.TypeIs (.ref l) "list") (hsub : mroIn K C (.type "list") = some false) (h : Q .notImplemented s) : wpAny (model prog w) A (call (.builtin "list.__eq__") [.ref l, .ref x]) Q E s := by
  refine wpAny_call_entry F.slot_list_eq hT F.entry_list_eq ?_ (F.args_list_eq_2 _ _)
  show wpAny _ _ (isInstance (.ref x) (.type "list") >>= _) _ _ s
  refine wpAny_bind (isInst_own X I hsub ?_)
  repeat (first | with_reducible refine isInst_own X I hsub ?_ | wp_step)
  exact ⟨_, rfl, h⟩
theorem none_dec {Q : Value → Shared → Prop} (h : Q .notImplemented s) : wpAny (model prog w) A (call (.builtin "NoneType.__eq__") [.none, .ref x]) Q E s :=
  call_gives F.slot_NoneType_eq rfl F.entry_NoneType_eq (F.args_NoneType_eq_2 _ _) (PySem.SeqAt.NoneType___eq___none_ref_0 x) h
end
end LM

/-! o in (x, y, ..), o of an own class with its own __eq__, the others strings, tuples, lists, None -/
namespace LM
open PySem PySem.Spec PyProof.Rows L2
/-- bases that the class has not -/
structure NoB (K : PySem.W.Frag) (C : Addr) : Prop where
  str : PySem.W.mroIn K C (.type "str") = some false
  tup : PySem.W.mroIn K C (.type "tuple") = some false
  lst : PySem.W.mroIn K C (.type "list") = some false
  non : PySem.W.mroIn K C (.type "NoneType") = some false
def Foreign (K : PySem.W.Frag) (H : Hp) (z : V) : Prop := z = .non ∨ (∃ t, z = .str t) ∨ (∃ p xs, z = .ref p ∧ SqT K H p xs) ∨ (∃ p xs, z = .ref p ∧ SqL K H p xs)
def inCh (K : PySem.W.Frag) (C : Addr) (sp : Sp) (a : Addr) : List V → Hp → VK → Prop
  | [], H, Q => Q (.bl false) H
  | z :: zs, H, Q => (∃ dx fs, H a = some (.ins C dx fs)) ∧ Foreign K H z ∧ sp [.ref a, z] H (fun v H' => v = .bl false ∧ inCh K C sp a zs H' Q) E0
section
variable {prog : Program} {w : World} {A : Around} {E : Value → Shared → Prop} {s : Shared}
theorem eqBool_vref {y : Value} {x : Addr} {Q : Bool → Shared → Prop} (hne : y ≠ .ref x) (h : wpAny (model prog w) A (richCompare .Eq y (.ref x)) (fun v s' => ∃ r, v = .bool r ∧ Q r s') E s) : wpAny (model prog w) A (eqBool y (.ref x)) Q E s := by
  unfold eqBool
  refine wpAny_holding ?_
  refine wpAny_ite_split (fun hab => absurd (eq_of_beq hab) hne) (fun _ => ?_)
  have fin : wpAny (model prog w) A (richCompare .Eq y (.ref x) >>= fun r => truthOfDropped r) Q E s := by
    refine wpAny_bind (wpAny_mono h (fun v s' hv => ?_) fun _ _ x => x)
    obtain ⟨r, rfl, q⟩ := hv
    exact wpAny_truthy_bool q
  cases y <;> exact fin
end
section
variable {X : Cx} {k : Nat} {f C : Addr} {fd : FuncData} {ps : List Str} {sp : Sp}
theorem op_inO (N : NoB X.K C) (hs : PySem.W.findIn X.K (.ref C) "__eq__" = some (some (.ref f))) (hf : PySem.W.isFn X.K (.ref f) = true) (F : FnOk X.prog X.w X.K X.mg X.base CX0 k f fd ps sp) (hr : Room (k + 1) X.A) (hb : Binds X.K fd ps []) :
    OpR X (compareOp .In) (fun x y H Q => ∃ a p xs, x = .ref a ∧ y = .ref p ∧ SqT X.K H p xs ∧ inCh X.K C sp a xs H Q) := by
  intro pins s σ H x y v u Q I rx ry hq
  obtain ⟨a, p, xs, ex, ey, hp, q⟩ := hq
  subst ex; subst ey
  obtain rfl : v = Value.ref a := rx
  obtain rfl : u = Value.ref p := ry
  obtain ⟨its, r, ht, _⟩ := I.tuple hp
  show wpAny (model X.prog X.w) X.A (do return .bool (← contains (.ref p) (.ref a))) (EP X pins σ Q) X.xe s
  have key : wpAny (model X.prog X.w) X.A.in1 (Builtin.«tuple.__contains__» ⟨[.ref p, .ref a], []⟩) (fun fin s' => ∃ v, fin = .done (.ret v) ∧ wpAny (model X.prog X.w) X.A (truthy v) (fun b s' => EP X pins σ Q (.bool b) s') X.xe s') X.xe s := by
    show wpAny _ _ (Builtin.Tuple.tupleItemsOf (.ref p) >>= _) _ _ s
    refine wpAny_bind (tupleItemsOf_ ht ?_)
    refine wpAny_bind (forIn_array_ _ (fun rest b s' => b.1 = none ∧ ∃ zs H', Vals zs rest ∧ Inv X pins σ H' s' ∧ inCh X.K C sp a zs H' Q) _ ?_ ?_ its.toArray _ ⟨rfl, xs, H, by simpa using r, I, q⟩)
    · rintro y rest b s' ⟨hbn, zs, H', hv, I', hc⟩
      cases hv with
      | cons rz rr =>
        rename_i z zs
        obtain ⟨⟨dx, fs, ha⟩, fo, hsp⟩ := hc
        obtain ⟨mA, J, _⟩ := ins_get I'.hok ha
        obtain ⟨od, J, _⟩ := J.look
        have call : wpAny (model X.prog X.w) X.A.in1 (call (.ref f) [.ref a, y]) (fun v s2 => ∃ b, v = Value.bool b ∧ (fun v s2 => ∃ r : Bool, v = Value.bool r ∧ r = false ∧ ∃ H2, Inv X pins σ H2 s2 ∧ inCh X.K C sp a zs H2 Q) (Value.bool b) s2) X.xe s' := by
          refine wpAny_mono (run_in1 (Er := X.xe) (vs := [.ref a, z]) (us := [.ref a, y]) F hr hb I' (.cons rfl (.cons rz .nil)) hsp) (fun v s2 hz => ?_) fun _ _ e => e
          obtain ⟨y2, H2, I2, ry, ey, hc2⟩ := hz
          subst ey
          obtain rfl : v = Value.bool false := ry
          exact ⟨false, rfl, false, rfl, rfl, H2, I2, hc2⟩
        have goal : wpAny (model X.prog X.w) X.A.in1 (eqBool y (.ref a)) (fun r s2 => r = false ∧ ∃ H2, Inv X pins σ H2 s2 ∧ inCh X.K C sp a zs H2 Q) X.xe s' := by
          rcases fo with rfl | ⟨t, rfl⟩ | ⟨o, ys, rfl, ho⟩ | ⟨o, ys, rfl, ho⟩
          · cases rz
            exact eqBool_vref nofun (rc_refl hr.in1.units0 (show s'.TypeIs .none "NoneType" from rfl) I'.kIn J PySem.F.slot_NoneType_eq (fun _ h => none_dec h) N.non hs hf call)
          · obtain ⟨t', rfl⟩ := rz
            exact eqBool_vref nofun (rc_refl hr.in1.units0 (typeIs_str s' t t') I'.kIn J PySem.F.slot_str_eq (fun _ h => str_dec J h) N.str hs hf call)
          · obtain rfl : y = Value.ref o := rz
            obtain ⟨its2, r2, ht2, _⟩ := I'.tuple ho
            refine eqBool_vref (fun e => ?_) (rc_refl hr.in1.units0 ht2.typeIs I'.kIn J PySem.F.slot_tuple_eq (fun _ h => tup_dec I'.kIn J ht2.typeIs N.tup h) N.tup hs hf call)
            injection e with e
            subst e
            obtain ⟨o2, g1, g2, _⟩ := ht2
            have g3 := J.at_
            rw [g1] at g3
            cases g3
            cases g2
          · obtain rfl : y = Value.ref o := rz
            obtain ⟨its2, r2, ⟨o2, n2, g1, g2, _, _⟩, _⟩ := I'.list ho
            refine eqBool_vref (fun e => ?_) (rc_refl hr.in1.units0 ⟨_, g1, g2⟩ I'.kIn J PySem.F.slot_list_eq (fun _ h => list_dec I'.kIn J ⟨_, g1, g2⟩ N.lst h) N.lst hs hf call)
            injection e with e
            subst e
            have g3 := J.at_
            rw [g1] at g3
            cases g3
            cases g2
        refine wpAny_bind (wpAny_mono goal (fun r s2 hz => ?_) fun _ _ e => e)
        obtain ⟨rfl, H2, I2, hc2⟩ := hz
        exact wpAny_pure ⟨rfl, zs, H2, rr, I2, hc2⟩
    · rintro ⟨b1, b2⟩ s' ⟨hbn, zs, H', hv, I', hc⟩
      cases hv
      simp only at hbn
      subst hbn
      exact wpAny_pure ⟨_, rfl, wpAny_truthy_bool ⟨.bl false, H', I', rfl, hc⟩⟩
  refine wpAny_bind (m := contains (.ref p) (.ref a)) ?_
  unfold contains
  refine wpAny_holding ?_
  refine wpAny_bind (wpAny_specialOf ht.typeIs slot_tuple_contains.lookup ?_)
  rw [if_neg (by decide)]
  refine wpAny_bind (wpAny_callSpecialUnlessNone?_slot (name := Str.ofString "__contains__") ht.typeIs slot_tuple_contains
    (wpAny_call_entry slot_tuple_contains ht.typeIs entry_tuple_contains (wpAny_mono key (fun fin s' hz => ?_) fun _ _ e => e) (args_tuple_contains _ _)))
  obtain ⟨v, rfl, hv⟩ := hz
  exact ⟨v, rfl, wpAny_mono hv (fun b s' hb => wpAny_pure hb) fun _ _ e => e⟩
end
end LM

namespace LM
open PySem PySem.Spec PyProof.Rows L2
def frnD : D → Bool
  | .non => true
  | .str _ => true
  | .tup _ => true
  | .lst _ => true
  | _ => false
def inChD (f : List D → Unit → FO Unit D) (i : D) : List D → Bool
  | [] => true
  | d :: ds => frnD d && (match f [i, d] () with | .ok (.bl false) _ => true | _ => false) && inChD f i ds
/-- o in (x, y, ..) -/
def mInO {S : Type} (C : Addr) (f : List D → Unit → FO Unit D) (ma mb : MX S W) : MX S W := ma.bind fun w => mb.bind fun u => fun env s => match w with
  | .v (.ins C' ns es) => match u with
    | .v (.tup ds) => if C' = C then (if inChD f (.ins C' ns es) ds = true then .ok (.v (.bl false)) env s else .bad) else .bad
    | _ => .bad
  | _ => .bad
section
variable {S : Type} {K : PySem.W.Frag} {I : BoxI S} {G : Gh} {ad : Nat → Addr} {bv : V} {bm : Addr → Prop} {env : List Sl} {s : S} {ts : List (V × W)} {σ : L2.St} {H : Hp}
theorem ERa.pushVs : ∀ {ds : List D} {xs : List V}, ERa K I G ad bv bm env s ts σ H → Reps K (Bv G bm ad env ts) H xs ds → ERa K I G ad bv bm env s (xs.zip (ds.map W.v) ++ ts) σ H
  | [], _, R, h => by cases h; exact R
  | d :: ds, _, R, h => by
    cases h with
    | cons h1 h2 =>
      rename_i x xs
      refine (ERa.pushVs R h2).pushV (h1.gr (.sub fun a z => ?_))
      refine z.imp (fun q => q) fun z => z.imp (fun q => q) fun z => z.imp (fun q => q) fun ⟨p, hp, f, e⟩ => ?_
      rcases List.mem_append.mp hp with hp | hp
      · have : p.2 ∈ ds.map W.v := (List.of_mem_zip hp).2
        obtain ⟨d', _, e'⟩ := List.mem_map.mp this
        rw [← e'] at f
        cases f
      · exact ⟨p, hp, f, e⟩
theorem foreign_of {B : Addr → Prop} {d : D} {z : V} (h : frnD d = true) (r : Rep K B H z d) : Foreign K H z := by
  cases d with
  | non => cases r; exact .inl rfl
  | str x => cases r; exact .inr (.inl ⟨_, rfl⟩)
  | tup ds =>
    cases r with
    | tup n r q => exact .inr (.inr (.inl ⟨_, _, rfl, .inl r⟩))
    | wtup r q => exact .inr (.inr (.inl ⟨_, _, rfl, .inr r⟩))
  | lst ds =>
    cases r with
    | lst n r q => exact .inr (.inr (.inr ⟨_, _, rfl, .inl r⟩))
    | wlst r q => exact .inr (.inr (.inr ⟨_, _, rfl, r.sq⟩))
  | _ => cases h
theorem inCh_of {C : Addr} {f : List D → Unit → FO Unit D} {o : Addr} {ns : List Str} {es : List D} {T : List (V × W)} {Q : VK} (hi : (V.ref o, W.v (.ins C ns es)) ∈ T) : ∀ {ds : List D} {xs : List V} {H : Hp}, ER K I G env s T σ H → (∀ p ∈ xs.zip (ds.map W.v), p ∈ T) → xs.length = ds.length →
    inChD f (.ins C ns es) ds = true → (∀ H', ER K I G env s T σ H' → Q (.bl false) H') → inCh K C (spD boxNil K [.v, .v] f) o xs H Q
  | [], [], H, R, _, _, _, fin => fin H R
  | [], _ :: _, _, _, _, hl, _, _ => by cases hl
  | _ :: _, [], _, _, _, hl, _, _ => by cases hl
  | d :: ds, x :: xs, H, R, hm, hl, h, fin => by
    simp only [inChD, Bool.and_eq_true] at h
    obtain ⟨⟨h1, h2⟩, h3⟩ := h
    have mem : (x, W.v d) ∈ T := hm _ List.mem_cons_self
    obtain ⟨ad, bv, bm, R'⟩ := id R
    have q := R'.tm _ hi
    refine ⟨?_, foreign_of h1 (R'.tm _ mem), ?_⟩
    · cases (show Rep K _ H (.ref o) (.ins C ns es) from q) with
      | ins n r e' q => exact ⟨_, _, r⟩
    · refine call_finP (Wx := W0) (G := G) (σ := σ) (I := I) (s := s) (ws := [.v (.ins C ns es), .v d]) (l := []) (ts := T) (env := env) R' rfl (fun p hp => ?_) (fun _ _ _ z => z.elim) rfl ?_
      · simp only [List.zip_cons_cons, List.zip_nil_right, List.mem_cons, List.not_mem_nil, or_false] at hp
        rcases hp with rfl | rfl
        · exact hi
        · exact mem
      · simp only [bindA, W.kp]
        cases e2 : f [.ins C ns es, d] () with
        | bad => simp only [e2] at h2; cases h2
        | ex y s2 => simp only [e2] at h2; cases h2
        | ok d2 s2 =>
          cases d2 with
          | bl m =>
            cases m with
            | true => simp only [e2] at h2; cases h2
            | false =>
              intro v H3 R3
              obtain ⟨ad3, bv3, bm3, R4⟩ := id R3
              have q3 : Rep K _ H3 v (.bl false) := R4.tm _ List.mem_cons_self
              cases q3
              exact ⟨rfl, inCh_of hi R3.pop (fun p hp => hm p (.tail _ hp)) (by simpa using hl) h3 fin⟩
          | _ => simp only [e2] at h2; cases h2
end
section
variable {S : Type} {X : Cx} {I : BoxI S} {Wx : WX} {a b : Expr} {pos p : Pos} {ma mb : MX S W} {k : Nat} {fa C : Addr} {fd : FuncData} {ps : List Str}
theorem inO_fin {f : List D → Unit → FO Unit D} {σ : L2.St} {H : Hp} {Q : VK} (h : tD X.K I Wx (mInO C f ma mb) σ H Q) : tOp (fun x y H Q => ∃ a p xs, x = .ref a ∧ y = .ref p ∧ SqT X.K H p xs ∧ inCh X.K C (spD boxNil X.K [.v, .v] f) a xs H Q) (tD X.K I Wx ma) (tD X.K I Wx mb) σ H Q := by
  obtain ⟨G, env, s, ts, R, h⟩ := h
  refine two_of (r := fun x y H Q => ∃ a p xs, x = .ref a ∧ y = .ref p ∧ SqT X.K H p xs ∧ inCh X.K C (spD boxNil X.K [.v, .v] f) a xs H Q) R h fun x y w u env1 s1 H1 R1 z1 => ?_
  cases w with
  | v d =>
    cases d with
    | ins C1 ns es =>
      cases u with
      | v d2 =>
        cases d2 with
        | tup ds =>
          by_cases hc : C1 = C
          · subst hc
            simp only [if_true] at z1
            by_cases hh : inChD f (.ins C1 ns es) ds = true
            · rw [if_pos hh] at z1
              obtain ⟨ad, bv, bm, R2⟩ := id R1
              have q : Rep X.K _ H1 x (.ins C1 ns es) := R2.tm (x, .v (.ins C1 ns es)) (.tail _ List.mem_cons_self)
              have q' : Rep X.K _ H1 y (.tup ds) := R2.tm (y, .v (.tup ds)) List.mem_cons_self
              cases q with
              | ins n r e' q =>
                rename_i o dx fs
                have key : ∀ {p : Addr} {xs : List V}, y = .ref p → SqT X.K H1 p xs → Reps X.K (Bv G bm ad env1 ((y, .v (.tup ds)) :: (.ref o, .v (.ins C1 ns es)) :: ts)) H1 xs ds →
                    ∃ a p xs, V.ref o = .ref a ∧ y = .ref p ∧ SqT X.K H1 p xs ∧ inCh X.K C1 (spD boxNil X.K [.v, .v] f) a xs H1 Q := by
                  intro p xs ey hs hq
                  refine ⟨o, p, xs, rfl, ey, hs, ?_⟩
                  refine inCh_of (T := xs.zip (ds.map W.v) ++ ((y, .v (.tup ds)) :: (.ref o, .v (.ins C1 ns es)) :: ts)) (List.mem_append.mpr (.inr (.tail _ List.mem_cons_self))) ⟨ad, bv, bm, R2.pushVs hq⟩ (fun p hp => List.mem_append.mpr (.inl hp)) hq.len hh fun H' R' => ?_
                  obtain ⟨ad3, bv3, bm3, R4⟩ := id (R'.pops.pop.pop)
                  exact z1 _ H' ⟨ad3, bv3, bm3, R4.pushV (.bl _)⟩
                cases q' with
                | tup n r q => exact key rfl (.inl r) q
                | wtup r q => exact key rfl (.inr r) q
            · rw [if_neg hh] at z1; exact z1.elim
          · simp only [if_neg hc] at z1; exact z1.elim
        | _ => exact z1.elim
      | _ => exact z1.elim
    | _ => exact z1.elim
  | _ => exact z1.elim
theorem d_inO {f : List D → Unit → FO Unit D} (N : NoB X.K C) (Sp : Spc X.K C "__eq__" fa) (hfn : PySem.W.isFn X.K (.ref fa) = true) (F : FnOk X.prog X.w X.K X.mg X.base CX0 k fa fd ps (spD boxNil X.K [.v, .v] f)) (hr : Room (k + 1) X.A) (hb : Binds X.K fd ps [])
    (ha : PE X a (tD X.K I Wx ma)) (hi : PE X b (tD X.K I Wx mb)) (hm : behindInMarks .In b = false := by first | exact nomark _ | with_unfolding_all rfl) : PE X (.Compare a [.In] [b] pos) (tD X.K I Wx (mInO C f ma mb)) := by
  exact PEimp (pe_cmpR (op_inO N Sp.at_ hfn F hr hb) ha hi hm) fun σ H Q h => inO_fin h
theorem t_inO {f : List D → Unit → FO Unit D} (N : NoB X.K C) (Sp : Spc X.K C "__eq__" fa) (hfn : PySem.W.isFn X.K (.ref fa) = true) (F : FnOk X.prog X.w X.K X.mg X.base CX0 k fa fd ps (spD boxNil X.K [.v, .v] f)) (hr : Room (k + 1) X.A) (hb : Binds X.K fd ps [])
    (ha : PE X a (tD X.K I Wx ma)) (hi : PE X b (tD X.K I Wx mb)) (hm : behindInMarks .In b = false := by first | exact nomark _ | with_unfolding_all rfl) : PT X (.Compare a [.In] [b] pos) (LM.tB X.K I Wx (mTest (mInO C f ma mb))) := by
  exact PTimp (pt_cmpR (op_inO N Sp.at_ hfn F hr hb) ha hi hm) fun σ H Q ⟨G, env, s, ts, R, h⟩ => inO_fin (test_of (X := X) R h)
end
end LM

/-! while: so many turns at most -/
namespace LM
open PySem L2
section
variable {S : Type}
def mWhL (c : MX S Bool) (m : MS S) : Nat → MS S
  | 0 => fun _ _ => .bad
  | n + 1 => fun env s => (c env s).bindS fun b env s => if b then (match m env s with
    | .nx env s => mWhL c m n env s
    | .ct env s => mWhL c m n env s
    | .bk env s => .nx env s
    | .rt d env s => .rt d env s
    | .rf d env s => .rf d env s
    | .ex e env s => .ex e env s
    | .bad => .bad) else .nx env s
def mWh (k : Nat) (c : MX S Bool) (m : MS S) : MS S := mWhL c m k
end
section
variable {S : Type} {X : Cx} {I : BoxI S} {Wx : WX} {pos : Pos} {mc : MX S Bool} {m : MS S}
theorem s_while {k : Nat} {c : Expr} {body : List Stmt} (hp : PassesOwn (model X.prog X.w) X.A X.env X.xe) (hc : PT X c (LM.tB X.K I Wx mc)) (hb : PSs X body (tS X.K I Wx m)) : PS X (.While c body [] pos) (tS X.K I Wx (mWh k mc m)) := by
  refine PSimp (ps_while hp hc hb) fun Dn σ H ⟨G, env, s, ts, R, cl, h⟩ => ?_
  have h : ZS X.K I Wx G ts Dn (mWhL mc m k env s) := h
  refine ⟨fun n σ H => ∃ env s, ER X.K I G env s ts σ H ∧ ZS X.K I Wx G ts Dn (mWhL mc m n env s), ⟨k, env, s, R, h⟩, ?_⟩
  rintro n σ1 H1 ⟨env1, s1, R1, z⟩
  cases n with
  | zero => exact z.elim
  | succ n =>
    refine tB_bindS (Dn := Dn) R1 z fun b env2 s2 H2 R2 z2 => ?_
    cases b with
    | false =>
      rw [if_neg Bool.false_ne_true] at z2 ⊢
      exact z2 _ _ R2
    | true =>
      rw [if_pos rfl] at z2 ⊢
      refine ⟨fun σ H => ∃ env s, ER X.K I G env s ts σ H ∧ ZS X.K I Wx G ts Dn (mWhL mc m n env s), fun σ' H' q => ⟨n, Nat.lt_succ_self n, q⟩, G, env2, s2, ts, R2, cl, ?_⟩
      cases eb : m env2 s2 with
      | nx env4 s4 => simp only [eb] at z2; exact fun σ' H' R5 => ⟨env4, s4, R5, z2⟩
      | ct env4 s4 => simp only [eb] at z2; exact fun σ' H' R5 => ⟨env4, s4, R5, z2⟩
      | bk env4 s4 => simp only [eb] at z2; exact fun σ' H' R5 => z2 σ' H' R5
      | rt d env4 s4 => simp only [eb] at z2; exact z2
      | rf d env4 s4 => simp only [eb] at z2; exact z2
      | ex e env4 s4 => simp only [eb] at z2; exact z2
      | bad => simp only [eb] at z2; exact z2.elim
/-- while stepped -/
theorem wh_f {S : Type} {c : MX S Bool} {m : MS S} {k : Nat} {env e1 : List Sl} {s s1 : S} (h : c env s = .ok false e1 s1) : mWhL c m (k + 1) env s = .nx e1 s1 := by simp [mWhL, Out.bindS, h]
theorem wh_t {S : Type} {c : MX S Bool} {m : MS S} {k : Nat} {env e1 e2 : List Sl} {s s1 s2 : S} (h : c env s = .ok true e1 s1) (hb : m e1 s1 = .nx e2 s2) : mWhL c m (k + 1) env s = mWhL c m k e2 s2 := by simp [mWhL, Out.bindS, h, hb]
end
end LM

/-! the box: a dict of a list of whole numbers and three numbers -/
namespace LM
open PySem L2
structure Bd where
  gr : List Int
  now : Int
  mix : Int
  turn : Int
def Bd.kv (s : Bd) (q : Addr) : List (Key × V) := [(.inr "great", .ref q), (.inr "now", .int s.now), (.inr "mixed", .int s.mix), (.inr "turn", .int s.turn)]
inductive Fd where
  | now | mix | turn
def Fd.key : Fd → Str
  | .now => "now"
  | .mix => "mixed"
  | .turn => "turn"
def Bd.at (s : Bd) : Fd → Int
  | .now => s.now
  | .mix => s.mix
  | .turn => s.turn
def Bd.put (s : Bd) (z : Int) : Fd → Bd
  | .now => { s with now := z }
  | .mix => { s with mix := z }
  | .turn => { s with turn := z }
def boxDR (s : Bd) (bv : V) (bm : Addr → Prop) (H : Hp) : Prop := ∃ p q, bv = .ref p ∧ p ≠ q ∧ (∀ a, bm a ↔ (a = p ∨ a = q)) ∧ H p = some (.dK (s.kv q)) ∧ H q = some (.lst (s.gr.map .int))
def boxD : BoxI Bd where
  rel := boxDR
  frame := fun ⟨p, q, e, n, m, h1, h2⟩ k => ⟨p, q, e, n, m, (k p ((m p).mpr (.inl rfl))).trans h1, (k q ((m q).mpr (.inr rfl))).trans h2⟩
  dom := fun ⟨p, q, e, n, m, h1, h2⟩ k => by
    rcases (m _).mp k with z | z
    · rw [z, h1]; exact fun z => by cases z
    · rw [z, h2]; exact fun z => by cases z
  fix := true
def boxDW : BoxI (Option Bd) where
  rel := fun s bv bm H => match s with
    | none => ∀ a, ¬ bm a
    | some s => boxDR s bv bm H
  frame := fun {s bv bm H H'} h k => by
    cases s with
    | none => exact h
    | some s => exact boxD.frame h k
  dom := fun {s bv bm H a} h k => by
    cases s with
    | none => exact absurd k (h a)
    | some s => exact boxD.dom h k
  fix := false
def lensDW : Lens (Option Bd) Bd := ⟨fun s => s, fun _ t => some t⟩
theorem lensDW_ok : LensOk boxDW boxD lensDW := ⟨fun {s t bv bm H} e h => by cases (show s = some t from e); exact h, fun _ _ h => h⟩
def lensD : Lens Bd Bd := ⟨some, fun _ t => t⟩
theorem lensD_ok : LensOk boxD boxD lensD := ⟨fun e h => by cases e; exact h, fun _ _ h => h⟩
def mDGet (i : Nat) (fd : Fd) : MX Bd W := fun env s => match env[i]? with
  | some .box => .ok (.v (.int (s.at fd))) env s
  | _ => .bad
def mDLen (i : Nat) : MX Bd W := fun env s => match env[i]? with
  | some .box => .ok (.v (.int (s.gr.length : Nat))) env s
  | _ => .bad
def mDSet (i : Nat) (fd : Fd) (me : MX Bd W) : MS Bd := fun env s => (me env s).bindS fun w env s => match w, env[i]? with
  | .v (.int z), some .box => .nx env (s.put z fd)
  | _, _ => .bad
def mDPop (i : Nat) : MS Bd := fun env s => match env[i]? with
  | some .box => match s.gr.getLast? with
    | some z => .nx env { s with gr := s.gr.dropLast, now := z }
    | none => .bad
  | _ => .bad
theorem kv_at (s : Bd) (q : Addr) (fd : Fd) : valV (s.kv q) (.inr fd.key) = some (.int (s.at fd)) := by
  cases fd <;> rfl
theorem kv_gr (s : Bd) (q : Addr) : valV (s.kv q) (.inr "great") = some (.ref q) := by rfl
theorem kv_put (s : Bd) (q : Addr) (z : Int) (fd : Fd) : putK (s.kv q) (.inr fd.key) (.int z) = (s.put z fd).kv q := by
  cases fd <;> rfl
theorem kv_len (s : Bd) (q : Addr) : (s.kv q).length < sizeLine := by rw [sizeLine_eq]; show 4 < 16777216; decide
section
variable {X : Cx} {Wx : WX} {e : Expr} {pos pos' p1 p2 p3 p4 p5 apos cpos : Pos} {me : MX Bd W}
theorem d_dget {i : Nat} {fd : Fd} {x : Str} {k} (hu : X.A.units + 64 < cLine) (hN : X.N[i]? = some x := by rfl) (hv : Vis X.env.scope x := by first | exact Or.inl rfl | exact Or.inr (Or.inl rfl) | exact Or.inr (Or.inr rfl)) (hd : (x == ("__debug__" : Str)) = false := by decide) (hcd : (x == ("__classdict__" : Str)) = false := by decide) :
    PE X (.Subscript (.Name x p1) (.Constant (.str fd.key) k p2) pos) (tD X.K boxD Wx (mDGet i fd)) := by
  refine PEimp (pe_dget (by omega) (pe_var (i := i) hN hv hd hcd) pe_str (fun _ _ => rfl)) fun σ H Q ⟨G, env, s, ts, ⟨ad, bv, bm, R⟩, h⟩ => ?_
  unfold mDGet at h
  cases q : env[i]? with
  | none => simp only [q] at h
  | some y =>
    cases y with
    | box =>
      simp only [q] at h
      obtain ⟨p, r, eb, ne, mb, h1, h2⟩ := R.box
      have e1 : σ[i]? = some (some bv) := R.sl i _ q
      have g := DGet.k (k := .inr fd.key) h1
      rw [kv_at] at g
      exact ⟨bv, e1, p, .int (s.at fd), eb, g, h _ H ⟨ad, bv, bm, R.pushV (.int _)⟩⟩
    | _ => simp only [q] at h
theorem d_dlen {i : Nat} {x : Str} {k} {p0 : Pos} (hu : X.A.units + 64 < cLine) (hg : Gl X "len") (hm : X.mg "len" = none) (hb : bootBuiltins "len" = some (.builtin "len")) (hN : X.N[i]? = some x := by rfl) (hv : Vis X.env.scope x := by first | exact Or.inl rfl | exact Or.inr (Or.inl rfl) | exact Or.inr (Or.inr rfl)) (hd : (x == ("__debug__" : Str)) = false := by decide) (hcd : (x == ("__classdict__" : Str)) = false := by decide)
    (he : starEach [.Subscript (.Name x p1) (.Constant (.str "great") k p2) p3] X.env = (false, eval (.Subscript (.Name x p1) (.Constant (.str "great") k p2) p3) X.env) :: starEach [] X.env := by rfl) (hpl : (backTo pos (starEach [] X.env)).any (·.1) = false := by rfl) :
    PE X (.Call (.Name "len" p0) [.Subscript (.Name x p1) (.Constant (.str "great") k p2) p3] [] pos) (tD X.K boxD Wx (mDLen i)) := by
  refine PEimp (pe_callB call_len hg hm hb (pa_cons (pe_dget (by omega) (pe_var (i := i) hN hv hd hcd) pe_str (fun _ _ => rfl)) pa_nil he) (by decide) (by decide) he hpl) fun σ H Q ⟨G, env, s, ts, ⟨ad, bv, bm, R⟩, h⟩ => ?_
  unfold mDLen at h
  cases q : env[i]? with
  | none => simp only [q] at h
  | some y =>
    cases y with
    | box =>
      simp only [q] at h
      obtain ⟨p, r, eb, ne, mb, h1, h2⟩ := R.box
      have e1 : σ[i]? = some (some bv) := R.sl i _ q
      have g := DGet.k (k := .inr "great") h1
      rw [kv_gr] at g
      refine ⟨bv, e1, p, .ref r, eb, g, ?_⟩
      refine ⟨.ref r, s.gr.length, rfl, .inl ⟨_, .of h2, by rw [List.length_map]⟩, h _ H ⟨ad, bv, bm, R.pushV (.int _)⟩⟩
    | _ => simp only [q] at h
/-- the box turns -/
theorem ERa.turnD {S : Type} {K : PySem.W.Frag} {I : BoxI S} {G : Gh} {ad : Nat → Addr} {bv : V} {bm : Addr → Prop} {env : List Sl} {s s' : S} {ts : List (V × W)} {σ : L2.St} {H H' : Hp} (R : ERa K I G ad bv bm env s ts σ H)
    (h : ∀ a, ¬ bm a → H' a = H a) (hd : ∀ a, bm a → H' a ≠ none) (hb : I.rel s' bv bm H') : ERa K I G ad bv bm env s' ts σ H' :=
  R.grow (fun a o e n => (h a n).trans e) (fun a e => by
    by_cases hm : bm a
    · exact absurd e (hd a hm)
    · rw [h a hm] at e; exact e) hb
theorem s_dset {i : Nat} {fd : Fd} {x : Str} {k} (hu : X.A.units + 64 < cLine) (he : PE X e (tD X.K boxD Wx me)) (hN : X.N[i]? = some x := by rfl) (hv : Vis X.env.scope x := by first | exact Or.inl rfl | exact Or.inr (Or.inl rfl) | exact Or.inr (Or.inr rfl)) (hd : (x == ("__debug__" : Str)) = false := by decide) (hcd : (x == ("__classdict__" : Str)) = false := by decide)
    (hs : swapsWith e (some (.Subscript (.Name x p1) (.Constant (.str fd.key) k p2) pos')) pos.line X.env = pure false := by rfl) :
    PS X (.Assign [.Subscript (.Name x p1) (.Constant (.str fd.key) k p2) pos'] e pos) (tS X.K boxD Wx (mDSet i fd me)) := by
  refine PSimp (ps_dput (by omega) (pe_var (i := i) hN hv hd hcd) pe_str he hs) fun Dn σ H ⟨G, env, s, ts, R, cl, h⟩ => ?_
  refine tD_bindS (Dn := Dn) R h fun w env1 s1 v H1 ⟨ad, bv, bm, R1⟩ z => ?_
  cases w with
  | v d =>
    cases d with
    | int y =>
      cases q : env1[i]? with
      | none => simp only [q] at z; exact z.elim
      | some u =>
        cases u with
        | box =>
          simp only [q] at z
          have rv : Rep X.K _ H1 v (.int y) := R1.tm _ List.mem_cons_self
          cases rv
          obtain ⟨p, r, eb, ne, mb, h1, h2⟩ := R1.box
          have e1 : σ[i]? = some (some bv) := R1.sl i _ q
          have g := DPut.k (k := .inr fd.key) (v := .int y) h1 (kv_len s1 r)
          rw [kv_put] at g
          refine ⟨bv, e1, p, _, eb, g, ?_⟩
          refine z σ _ ⟨ad, bv, bm, R1.pop.turnD (fun a n => upd_ne fun z => n ((mb a).mpr (.inl z))) (fun a hm => ?_) ⟨p, r, eb, ne, mb, upd_same, ?_⟩⟩
          · rcases (mb a).mp hm with rfl | rfl
            · rw [upd_same]; exact fun z => by cases z
            · rw [upd_ne (Ne.symm ne), h2]; exact fun z => by cases z
          · rw [upd_ne (Ne.symm ne), h2]
            cases fd <;> rfl
        | _ => simp only [q] at z; exact z.elim
    | _ => exact z.elim
  | _ => exact z.elim
theorem last_i {l : List Int} {z : Int} (h : l.getLast? = some z) : (l.map V.int)[(l.map V.int).length - 1]? = some (.int z) := by
  rw [List.getLast?_eq_getElem?] at h
  rw [List.length_map, List.getElem?_map, h]
  rfl
theorem s_dpop {i : Nat} {x : Str} {k k2} (hu : X.A.units + 64 < cLine) (hN : X.N[i]? = some x := by rfl) (hv : Vis X.env.scope x := by first | exact Or.inl rfl | exact Or.inr (Or.inl rfl) | exact Or.inr (Or.inr rfl)) (hd : (x == ("__debug__" : Str)) = false := by decide) (hcd : (x == ("__classdict__" : Str)) = false := by decide)
    (hbase : attributeBase (.Subscript (.Name x p3) (.Constant (.str "great") k2 p4) p5) "pop" X.env (eval (.Subscript (.Name x p3) (.Constant (.str "great") k2 p4) p5) X.env) = eval (.Subscript (.Name x p3) (.Constant (.str "great") k2 p4) p5) X.env := by rfl) (hline : (apos.endLine == cpos.line) = true := by rfl)
    (hs : swapsWith (.Call (.Attribute (.Subscript (.Name x p3) (.Constant (.str "great") k2 p4) p5) "pop" apos) [] [] cpos) (some (.Subscript (.Name x p1) (.Constant (.str "now") k p2) pos')) pos.line X.env = pure false := by rfl) :
    PS X (.Assign [.Subscript (.Name x p1) (.Constant (.str "now") k p2) pos'] (.Call (.Attribute (.Subscript (.Name x p3) (.Constant (.str "great") k2 p4) p5) "pop" apos) [] [] cpos) pos) (tS X.K boxD Wx (mDPop i)) := by
  refine PSimp (ps_dput (by omega) (pe_var (i := i) hN hv hd hcd) pe_str (pe_bm0 PySem.F.plainAttrs_list PySem.F.slot_list_pop PySem.F.type_list_pop mt_pop (pe_dget (by omega) (pe_var (i := i) hN hv hd hcd) pe_str (fun _ _ => rfl)) hbase hline) hs) fun Dn σ H ⟨G, env, s, ts, ⟨ad, bv, bm, R⟩, cl, h⟩ => ?_
  have h : ZS X.K boxD Wx G ts Dn (mDPop i env s) := h
  unfold mDPop at h
  cases q : env[i]? with
  | none => simp only [q] at h; exact h.elim
  | some y =>
    cases y with
    | box =>
      simp only [q] at h
      cases q2 : s.gr.getLast? with
      | none => simp only [q2] at h; exact h.elim
      | some z =>
        simp only [q2] at h
        obtain ⟨p, r, eb, ne, mb, h1, h2⟩ := R.box
        have e1 : σ[i]? = some (some bv) := R.sl i _ q
        have g := DGet.k (k := .inr "great") h1
        rw [kv_gr] at g
        refine ⟨bv, e1, p, .ref r, eb, g, .inl ⟨rfl, _, .of h2⟩, r, _, .int z, rfl, rfl, h2, last_i q2, ?_⟩
        have h1' : upd H r (.lst (s.gr.map V.int).dropLast) p = some (.dK (s.kv r)) := by rw [upd_ne ne]; exact h1
        have g2 := DPut.k (k := .inr Fd.now.key) (v := .int z) h1' (kv_len s r)
        rw [kv_put] at g2
        refine ⟨bv, e1, p, _, eb, g2, ?_⟩
        refine h σ _ ⟨ad, bv, bm, R.turnD (fun a n => ?_) (fun a hm => ?_) ⟨p, r, eb, ne, mb, ?_, ?_⟩⟩
        · rw [upd_ne fun z => n ((mb a).mpr (.inl z)), upd_ne fun z => n ((mb a).mpr (.inr z))]
        · rcases (mb a).mp hm with rfl | rfl
          · rw [upd_same]; exact fun z => by cases z
          · rw [upd_ne (Ne.symm ne), upd_same]; exact fun z => by cases z
        · rw [upd_same]; rfl
        · rw [upd_ne (Ne.symm ne), upd_same]
          show some (HO.lst (s.gr.map V.int).dropLast) = some (HO.lst (s.gr.dropLast.map V.int))
          rw [List.map_dropLast]
    | _ => simp only [q] at h; exact h.elim
end
end LM

/-! a def that hands back a new box; the box is kept under a name -/
namespace LM
open PySem L2
def intsD : List D → Option (List Int)
  | [] => some []
  | .int i :: ds => (intsD ds).map (i :: ·)
  | _ => none
def outG (m : MS Unit) (e1 e2 : MX Unit W) (env : List Sl) (s : Unit) : FO Unit Bd := match m env s with
  | .nx env1 s1 => match e1 env1 s1 with
    | .ok (.f gs) env2 s2 => match e2 env2 s2 with
      | .ok (.v (.int z)) _ _ => match intsD gs with
        | some ns => .ok ⟨ns, 0, z, 0⟩ ()
        | none => .bad
      | _ => .bad
    | _ => .bad
  | _ => .bad
def ZG (G : Gh) (Dn : Ends) (o : FO Unit Bd) : Prop := match o with
  | .ok t _ => ∀ p q H', (∀ b o, G.H0 b = some o → H' b = some o) → G.H0 p = none → G.H0 q = none → p ≠ q → H' p = some (.dK (t.kv q)) → H' q = some (.lst (t.gr.map .int)) → Dn.rt (.ref p) H'
  | _ => False
def tGd (K : PySem.W.Frag) (m : MS Unit) (e1 e2 : MX Unit W) : TS := fun Dn σ H => ∃ G env s ts, (∀ a, ¬ G.M a) ∧ ER K boxNil G env s ts σ H ∧ Cl ts ∧ ZG G Dn (outG m e1 e2 env s)
theorem reps_intsD {K : PySem.W.Frag} {B : Addr → Prop} {H : Hp} : ∀ {gs : List D} {xs : List V} {ns : List Int}, intsD gs = some ns → Reps K B H xs gs → xs = ns.map .int
  | [], _, _, h, r => by cases h; cases r; rfl
  | d :: gs, _, ns, h, r => by
    cases r with
    | cons r1 r2 =>
      cases d with
      | int i =>
        simp only [intsD] at h
        cases e : intsD gs with
        | none => rw [e] at h; cases h
        | some ms =>
          rw [e] at h
          cases h
          cases r1
          rw [reps_intsD e r2]
          rfl
      | _ => simp only [intsD] at h; cases h
theorem upd_old {H0 : Hp} {p : Addr} {o : HO} (n : H0 p = none) {H : Hp} (h : ∀ a u, upd H0 p o a = some u → H a = some u) : ∀ a u, H0 a = some u → H a = some u := fun a u e => h a u (by rw [upd_ne (ne_of_none e n)]; exact e)
/-- a thing more is held -/
theorem ERa.addH0 {S : Type} {K : PySem.W.Frag} {I : BoxI S} {G : Gh} {ad : Nat → Addr} {bv : V} {bm : Addr → Prop} {env : List Sl} {s : S} {ts : List (V × W)} {σ : L2.St} {H : Hp} {p : Addr} {o : HO} (R : ERa K I G ad bv bm env s ts σ H) (n : H p = none) (nb : ∀ a, ¬ bm a) :
    ERa K I ⟨G.B, G.M, upd G.H0 p o, G.bv⟩ ad bv bm env s ts σ (upd H p o) := by
  have R1 := R.same (H' := upd H p o) (same_upd n)
  have np : ∀ a, Tv bm ad env ts a → a ≠ p := fun a z e => R.tdom z (e ▸ n)
  refine ⟨R1.len, fun a u e hm => ?_, fun a e => ?_, R1.box, ⟨fun a z => absurd z (nb a), R1.bfr.2⟩, fun a z => ?_, fun i x e h => ⟨?_, (R1.own i x e h).2⟩, fun q hq f a e => ⟨?_, (R1.tow q hq f a e).2⟩, R1.d1, R1.d2, R1.d3, R1.sl, R1.tm⟩
  · have e : upd G.H0 p o a = some u := e
    by_cases h : a = p
    · subst h; rw [upd_same] at e ⊢; exact e
    · rw [upd_ne h] at e; exact R1.ext a u e hm
  · by_cases h : a = p
    · subst h; rw [upd_same] at e; cases e
    · rw [upd_ne h] at e; show upd G.H0 p o a = none; rw [upd_ne h]; exact R.dom a e
  · by_cases h : a = p
    · subst h; show upd G.H0 a o a ≠ none; rw [upd_same]; exact fun z => by cases z
    · show upd G.H0 p o a ≠ none; rw [upd_ne h]; exact R1.bdom a z
  · show upd G.H0 p o (ad i) = none
    rw [upd_ne (np _ (.inr (.inl ⟨i, x, e, h, rfl⟩)))]; exact (R1.own i x e h).1
  · show upd G.H0 p o a = none
    rw [upd_ne (np _ (.inr (.inr ⟨q, hq, f, e⟩)))]; exact (R1.tow q hq f a e).1
theorem merge_kv (s : Bd) (q : Addr) : mergeK [] (s.kv q) = s.kv q := by rfl
section
variable {X : Cx} {pos pos' q1 q2 q3 q4 q5 q6 : Pos} {a b : Expr} {m n : MS Unit} {e1 e2 : MX Unit W} {st : Stmt} {sts : List Stmt}
theorem g_ret {k1 k2 k3 k4 k5 k6} (h1 : PE X a (tD X.K boxNil W0 e1)) (h2 : PE X b (tD X.K boxNil W0 e2)) :
    PS X (.Return (some (.Dict [some (.Constant (.str "great") k1 q1), some (.Constant (.str "now") k2 q2), some (.Constant (.str "mixed") k3 q3), some (.Constant (.str "turn") k4 q4)] [a, .Constant (.int 0) k5 q5, b, .Constant (.int 0) k6 q6] pos)) pos') (tGd X.K mNext e1 e2) := by
  refine PSimp (ps_ret (pe_disp (pps_cons pe_str h1 (pps_cons pe_str pe_int (pps_cons pe_str h2 (pps_cons pe_str pe_int pps_nil)))) rfl rfl (by simp) (by simp))) fun Dn σ H ⟨G, env, s, ts, nM, ⟨ad, bv, bm, R⟩, cl, h⟩ => ?_
  intro p hp
  have nb : ∀ a, ¬ bm a := fun a z => R.box a z
  have R1 := R.addH0 (o := HO.dK []) hp nb
  have h0 : G.H0 p = none := R.dom _ hp
  unfold outG mNext at h
  dsimp only at h
  refine ⟨⟨G.B, G.M, upd G.H0 p (.dK []), G.bv⟩, env, s, ts, ⟨ad, bv, bm, R1⟩, ?_⟩
  cases q : e1 env s with
  | bad => simp only [q] at h; exact h
  | ex e env2 s2 => simp only [q] at h; exact h.elim
  | ok w env2 s2 =>
    cases w with
    | f gs =>
      simp only [q] at h
      intro v1 H1 R2
      refine ⟨_, env2, s2, _, R2, ?_⟩
      cases q' : e2 env2 s2 with
      | bad => simp only [q'] at h; exact h
      | ex e env3 s3 => simp only [q'] at h; exact h.elim
      | ok w env3 s3 =>
        cases w with
        | v d =>
          cases d with
          | int z =>
            simp only [q'] at h
            cases hi : intsD gs with
            | none => simp only [hi] at h; exact h.elim
            | some ns =>
              simp only [hi] at h
              intro v2 H2 ⟨ad3, bv3, bm3, R3⟩
              have r2 : Rep X.K _ H2 v2 (.int z) := R3.tm (v2, .v (.int z)) List.mem_cons_self
              cases r2
              obtain ⟨l, xs, ev, hl, rx⟩ := R3.tm (v1, .f gs) (.tail _ List.mem_cons_self)
              obtain rfl : v1 = .ref l := ev
              have ex := reps_intsD hi rx
              subst ex
              have hH0 : ∀ a u, upd G.H0 p (.dK []) a = some u → H2 a = some u := fun a u e => R3.ext a u e (nM a)
              have hpd : H2 p = some (.dK []) := hH0 p _ upd_same
              obtain ⟨hq0, _⟩ := R3.tow (.ref l, .f gs) (.tail _ List.mem_cons_self) rfl l rfl
              have hq0 : upd G.H0 p (.dK []) l = none := hq0
              have npl : p ≠ l := fun e => by
                rw [← e, upd_same] at hq0; cases hq0
              rw [upd_ne (Ne.symm npl)] at hq0
              refine ⟨hpd, Bd.kv ⟨ns, 0, z, 0⟩ l, rfl, by show 4 ≤ 15; decide, ?_⟩
              rw [merge_kv]
              refine h p l _ (fun b o e => ?_) h0 hq0 npl upd_same (by rw [upd_ne (Ne.symm npl)]; exact hl)
              rw [upd_ne (ne_of_none e h0)]
              exact upd_old h0 hH0 b o e
          | _ => simp only [q'] at h; exact h.elim
        | _ => simp only [q'] at h; exact h.elim
    | _ => simp only [q] at h; exact h.elim
theorem g_one (h : PS X st (tGd X.K m e1 e2)) : PSs X [st] (tGd X.K m e1 e2) := pss_one h
theorem g_cons (h1 : PS X st (tS X.K boxNil W0 m)) (h2 : PSs X sts (tGd X.K n e1 e2)) : PSs X (st :: sts) (tGd X.K (mSeq m n) e1 e2) := by
  refine PSsimp (pss_cons h1 h2) fun Dn σ H ⟨G, env, s, ts, nM, R, cl, h⟩ => ?_
  refine ⟨G, env, s, ts, R, cl, ?_⟩
  unfold outG mSeq at h
  cases e : m env s with
  | nx env1 s1 =>
    simp only [e] at h
    exact fun σ' H' R' => ⟨G, env1, s1, ts, nM, R', cl, h⟩
  | rt d env1 s1 => simp only [e] at h; exact h.elim
  | rf d env1 s1 => simp only [e] at h; exact h.elim
  | bk env1 s1 => simp only [e] at h; exact h.elim
  | ct env1 s1 => simp only [e] at h; exact h.elim
  | ex x env1 s1 => simp only [e] at h; exact h.elim
  | bad => simp only [e] at h; exact h.elim
end
def spG (K : PySem.W.Frag) (md : List Md) (m : List D → FO Unit Bd) : Sp := fun vs H Q E => ∃ (B : Addr → Prop) (ds : List D),
  (∀ a, B a → H a ≠ none) ∧ ArgsR K (fun _ => False) B H .non md vs ds ∧
  match m ds with
  | .ok t _ => ∀ p q H', (∀ b o, H b = some o → H' b = some o) → H p = none → H q = none → p ≠ q → H' p = some (.dK (t.kv q)) → H' q = some (.lst (t.gr.map .int)) → Q (.ref p) H'
  | _ => False
section
variable {P : Program} {w : World} {K : PySem.W.Frag} {mg : Str → Option Value} {base : Heap}
theorem fn_okG {x qual : Str} {st : Stmt} {f : Addr} {fd : FuncData} {N ps : List Str} {k : Nat} {md : List Md} {m : MS Unit} {e1 e2 : MX Unit W} (F : Fun K x qual st f fd) (Sc : FnScope N ps (defScope st)) (hl : md.length = ps.length)
    (hbody : ∀ (cdv : Value) (A : Around) (outer : List Env) (s : Shared) (H : Hp) (E : XK), Room k (A.deeper (PyProof.Rows.envOfC qual (defScope st) s.heap.objs.size f cdv)) →
      PSs (cxOf CX0 P w K mg base N qual (defScope st) f cdv A outer s H E).nox (defBody st) (tGd K m e1 e2)) : FnOk P w K mg base CX0 (k + 1) f fd ps (spG K md fun ds => outG m e1 e2 (env0 md (N.length - ps.length) ds) ()) := by
  have hN : ps.length ≤ N.length := by have := congrArg List.length Sc.pre; rw [List.length_take] at this; omega
  refine F.ok Sc (fun vs H Q E ⟨_, _, _, ar, _⟩ => by rw [ar.len, hl]) fun cdv A outer s H vs Q E hr ⟨B, ds, hB, ar, z⟩ => ?_
  have hv : vs.length = ps.length := by rw [ar.len, hl]
  refine ⟨_, hbody cdv A outer s H E hr, ⟨B, fun _ => False, H, .non⟩, env0 md (N.length - ps.length) ds, (), [], fun _ h => h, ?_, Cl.nil, ?_⟩
  · rw [← hv]; exact er_start (by omega) (fun _ h => h.elim) hB (fun _ h => h) ar
  · cases e : outG m e1 e2 (env0 md (N.length - ps.length) ds) () with
    | ok t u => simp only [e] at z; exact z
    | ex x u => simp only [e] at z
    | bad => simp only [e] at z
end
/-- box = f(..), f hands back a new box -/
def mNewBoxD (i : Nat) (md : List Md) (f : List D → FO Unit Bd) (ms : MX (Option Bd) (List W)) : MS (Option Bd) := fun env s => (ms env s).bindS fun ws env s => match bindA env md ws with
  | some ds => match f ds with
    | .ok t _ => if (env.set i .no).all Sl.noBox then .nx (env.set i .box) (some t) else .bad
    | _ => .bad
  | none => .bad
section
variable {X : Cx} {Wx : WX} {CX : CXT} {a : Expr} {es : List Expr} {pos p pos' pc : Pos} {ms : MX (Option Bd) (List W)} {md : List Md} {k : Nat} {fa : Addr} {fd : FuncData} {ps : List Str} {x y : Str}
theorem ERa.newboxD {K : PySem.W.Frag} {G : Gh} {ad : Nat → Addr} {bv : V} {bm : Addr → Prop} {env : List Sl} {s : Option Bd} {ts : List (V × W)} {σ : L2.St} {H H' : Hp} {i : Nat} {b c : Addr} {t : Bd} (R : ERa K boxDW G ad bv bm env s ts σ H) (cl : Cl ts)
    (hs : ∀ a o, H a = some o → H' a = some o) (hn : H b = none) (hc : H c = none) (ne : b ≠ c) (hb : H' b = some (.dK (t.kv c))) (hb2 : H' c = some (.lst (t.gr.map .int))) (ha : (env.set i Sl.no).all Sl.noBox = true) :
    ERa K boxDW G ad (.ref b) (fun a => a = b ∨ a = c) (env.set i .box) (some t) ts (σ.set i (some (.ref b))) H' := by
  have R1 := R.putNo (i := i) (v := some (.ref b)) cl
  have hall : ∀ (j : Nat) (x : Sl), (env.set i Sl.no)[j]? = some x → x ≠ Sl.box := fun j x e z => by
    have := List.all_eq_true.mp ha x (List.mem_of_getElem? e)
    rw [z] at this; cases this
  have get : ∀ (j : Nat) (x : Sl), (env.set i Sl.box)[j]? = some x → (j = i ∧ x = Sl.box) ∨ (j ≠ i ∧ (env.set i Sl.no)[j]? = some x) := fun j x e => by
    rcases set_get e with ⟨h1, h2, _⟩ | ⟨h1, h2⟩
    · exact .inl ⟨h1, h2⟩
    · exact .inr ⟨h1, by rw [List.getElem?_set_ne (Ne.symm h1)]; exact h2⟩
  have go : ∀ a, Ow ad (env.set i .box) ts a → Ow ad (env.set i .no) ts a := fun a z => z.imp (fun ⟨j, x, e, o, q⟩ => by
    rcases get j x e with ⟨_, rfl⟩ | ⟨_, e⟩
    · cases o
    · exact ⟨j, x, e, o, q⟩) fun q => q
  have dm : ∀ a, H' a = none → H a = none := fun a e => by cases q : H a with | none => rfl | some o => rw [hs a o q] at e; cases e
  have nn : ∀ a, (a = b ∨ a = c) → H a = none := fun a z => z.elim (fun z => z ▸ hn) fun z => z ▸ hc
  have gt : Gr (Tv bm ad (env.set i .no) ts) (Tv (fun a => a = b ∨ a = c) ad (env.set i .box) ts) H H' := ⟨fun a o e _ => hs a o e, fun a z => z.elim (fun z => .inr (nn a z)) fun z => .inl (.inr (go a z))⟩
  have g : Gr (Bv G bm ad (env.set i .no) ts) (Bv G (fun a => a = b ∨ a = c) ad (env.set i .box) ts) H H' := ⟨fun a o e _ => hs a o e, fun a z => z.elim (fun z => .inl (.inl z)) fun z => z.elim (fun z => .inr (nn a z)) fun z => .inl (.inr (.inr (go a z)))⟩
  refine ⟨by rw [List.length_set, List.length_set]; exact R.len, fun a o e n => hs a o (R.ext a o e n), fun a e => R.dom a (dm a e), ⟨b, c, rfl, ne, fun a => Iff.rfl, hb, hb2⟩, ⟨fun a z => .inr (R.dom a (nn a z)), fun z => nomatch z⟩, R.bdom, fun j x e o => ?_, fun p hp f => (by rw [cl.nf hp] at f; cases f), fun j l x u ej el oj ol => ?_, fun j x p e o hp f => (by rw [cl.nf hp] at f; cases f), R.d3, fun j x e => ?_, fun p hp => ?_⟩
  · rcases get j x e with ⟨_, rfl⟩ | ⟨_, e⟩
    · cases o
    · refine ⟨(R1.own j x e o).1, fun z => ?_⟩
      exact R1.tdom (.inr (.inl ⟨j, x, e, o, rfl⟩)) (nn _ z)
  · rcases get j x ej with ⟨_, rfl⟩ | ⟨_, ej'⟩
    · cases oj
    rcases get l u el with ⟨_, rfl⟩ | ⟨_, el'⟩
    · cases ol
    exact R1.d1 j l x u ej' el' oj ol
  · rcases set_get e with ⟨rfl, rfl, hl⟩ | ⟨ne, _⟩
    · show (σ.set j (some (.ref b)))[j]? = some (some (.ref b))
      rw [List.getElem?_set_self (by rw [R.len]; exact hl)]
    · rcases get j x e with ⟨h, _⟩ | ⟨_, e'⟩
      · exact absurd h ne
      · have q := (R1.sl j x e').gr gt g fun _ u q => hs _ _ q
        cases x with
        | box => exact absurd rfl (hall j _ e')
        | _ => exact q
  · have q := R1.tm p hp
    rcases cl p hp with ⟨d, e⟩ | ⟨d, e⟩
    · rw [e] at q ⊢; exact Rep.gr g _ _ q
    · rw [e] at q ⊢; exact Top.gr gt g q
theorem s_newboxD {i : Nat} {f : List D → FO Unit Bd} (F : FnOk X.prog X.w X.K X.mg X.base CX k fa fd ps (spG X.K md f)) (hr : Room k X.A) (hg : Gl X x) (hm : X.mg x = some (.ref fa)) (hk : PySem.W.keepIn X.K (.ref fa) = true) (hb : Binds X.K fd ps [])
    (hx : ∀ σ, PassesAt CX X σ (WE W0 σ)) (ha : PA X (a :: es) (tDs X.K boxDW Wx ms)) (hN : X.N.Nodup) (hi : X.N[i]? = some y) (hy : Loc X.env.scope y) (hmd : md.any Md.isB = false := by rfl) (hdb : (x == ("__debug__" : Str)) = false := by decide) (he : starEach (a :: es) X.env = (false, eval a X.env) :: starEach es X.env := by rfl)
    (hpl : (backTo pc (starEach es X.env)).any (·.1) = false := by rfl) (hs : swapsWith (.Call (.Name x p) (a :: es) [] pc) (some (.Name y pos')) pos.line X.env = pure false := by rfl)
    (hf : X.fn y = true ∨ X.env.scope.names.lookup y = some .local := by first | exact .inl rfl | exact .inr rfl | assumption) :
    PS X (.Assign [.Name y pos'] (.Call (.Name x p) (a :: es) [] pc) pos) (tS X.K boxDW Wx (mNewBoxD i md f ms)) := by
  refine PSimp (ps_set hN hi hy (pe_callSD (E := fun σ => WE W0 σ) F hr hg hm hk hb .nil hx ha hdb he hpl) hs hf) fun Dn σ H ⟨G, env, s, ts, R, cl, h⟩ => ?_
  refine ⟨G, env, s, ts, R, ?_⟩
  unfold mNewBoxD at h
  cases e : ms env s with
  | ex e' env1 s1 => rw [e] at h; exact fun dx H' q => h dx σ H' q
  | bad => rw [e] at h; exact h
  | ok ws env1 s1 =>
    rw [e] at h
    intro vs H1 hl ⟨ad, bv, bm, R1⟩
    rw [List.append_nil]
    dsimp only [Out.bindS] at h
    cases e2 : bindA env1 md ws with
    | none => simp only [e2] at h
    | some ds =>
      simp only [e2] at h
      refine ⟨_, ds, fun a => R1.avdom, (argsB R1 hl zip_in e2).pure hmd, ?_⟩
      cases e3 : f ds with
      | ex _ _ => simp only [e3] at h
      | bad => simp only [e3] at h
      | ok t u =>
        simp only [e3] at h
        intro b c H2 same hn hc ne hb2 hb3
        have R2 := R1.pops
        by_cases hh : (env1.set i Sl.no).all Sl.noBox = true
        · rw [if_pos hh] at h
          exact h _ _ ⟨ad, .ref b, _, R2.newboxD (t := t) cl same hn hc ne hb2 hb3 hh⟩
        · rw [if_neg hh] at h; exact h.elim
end
end LM

namespace LM
open PySem PySem.Spec PyProof.Rows L2
/-- what the law's body is to do: from the script's data it hands back True -/
def LawOkD (m : MS (Option Bd)) (n : Nat) : Prop := ∀ ns : List Int, ns.length ≤ 63 → ∃ env s, m (env0 [.v] n [.lst (ns.map D.int)]) none = .rt (.bl true) env s
theorem reps_intsE {K : PySem.W.Frag} {B : Addr → Prop} {Hh : Hp} : ∀ ns : List Int, Reps K B Hh (ns.map V.int) (ns.map D.int)
  | [] => .nil
  | n :: ns => .cons (.int n) (reps_intsE ns)
theorem law_goD {P : Program} {w : World} {K : PySem.W.Frag} {mg mb : Str → Option Value} {k : Nat} {fa a : Addr} {fd : FuncData} {qual : Str} {st : Stmt} {N : List Str} {x : Str} {m : MS (Option Bd)} {sh : Shared} {vs : List Value} {ns : List Int}
    (inK : K.In sh.heap) (hns : sh.heap.Ns mainGlobals mg) (hbl : sh.heap.Ns builtinsNs mb) (hbb : ∀ x : Str, x ≠ "__name__" → mb x = bootBuiltins x) (nolim : sh.heap.NoLimit) (hgens : sh.gens = #[])
    (ha : sh.heap.get? a = some { cls := .type "list", data := .seq vs.toArray }) (hi : IntsAre vs ns) (hl : ns.length ≤ 63) (room : Room (k + 1) callerA) (F : Fun K qual qual st fa fd) (Sc : FnScope N [x] (defScope st)) (bnd : ∀ (s : Shared) (u : Value), BindsTo s fd ⟨[u], []⟩ [(x, u)])
    (hbody : ∀ (base : Heap) (cdv : Value) (s : Shared) (H : Hp) (E : XK), K.In base → base.Ns mainGlobals mg → Room k (callerA.deeper (envOfC qual (defScope st) s.heap.objs.size fa cdv)) →
      PSs (cxOf CX0 P w K mg base N qual (defScope st) fa cdv callerA [] s H E).nox (defBody st) (tS K boxDW W0 m)) (ok : LawOkD m (N.length - 1)) :
    codeAny (model P w) callerA (.call (.ref fa) ⟨[.ref a], []⟩) (fun r s' => r = .ok (.ret (.bool true)) ∧ OldK sh.heap s'.heap ∧ s'.os = sh.os ∧ AllBare s'.gens) sh := by
  have rel := vals_ints hi
  have lenV := hi.length
  have h63 : ns.length ≤ sizeLine := by rw [sizeLine_eq]; omega
  have hN : 1 ≤ N.length := by have := congrArg List.length Sc.pre; rw [List.length_take] at this; simp at this; omega
  have main : ∀ H : Hp, Only H → (Rd H a (.lst (ns.map V.int)) ∨ WrL K a (ns.map V.int)) → HOk P w H sh.heap → (∀ b, H b ≠ none → b = a) → (H a ≠ none → K.lookup a = none) →
      codeAny (model P w) callerA (.call (.ref fa) ⟨[.ref a], []⟩) (fun r s' => r = .ok (.ret (.bool true)) ∧ OldK sh.heap s'.heap ∧ s'.os = sh.os ∧ AllBare s'.gens) sh := by
    intro H only seq hok onlyA notK
    have noDict : ∀ {b : Addr} {o : Obj} {es : Array DictEntry} {ep : Nat}, sh.heap.get? b = some o → o.data = .dict es ep → H b = none := by
      intro b o es ep e d
      cases q : H b with
      | none => rfl
      | some u =>
        obtain rfl : b = a := onlyA b (by rw [q]; simp)
        rw [ha] at e; cases e
        cases (show Data.seq vs.toArray _ = Data.dict es ep from d)
    have nsK : ∀ {b : Addr} {m : Str → Option Value}, sh.heap.Ns b m → (hidT sh.heap H).Ns b m := by
      rintro b m ⟨o, es, ep, e, d, r⟩
      exact ⟨o, es, ep, hidT_get e (noDict e d), d, r⟩
    have inB : K.In (hidT sh.heap H) := fun b o e => hidT_get (inK b o e) (by
      cases q : H b with
      | none => rfl
      | some u =>
        obtain rfl : b = a := onlyA b (by rw [q]; simp)
        rw [notK (by rw [q]; simp)] at e; cases e)
    have mod : Mod K mg (hidT sh.heap H) := ⟨inB, nsK hns, ⟨mb, nsK hbl, hbb⟩, let ⟨mc, h1, h2⟩ := nolim; ⟨mc, nsK h1, h2⟩⟩
    have en : Env0 P w K mg (hidT sh.heap H) callerA [] sh H := ⟨rfl, mod, fun b o e => of_hidT e, Nat.le_of_eq (hidT_size _ _), trivial, fun b hb => (nomatch hb), hok, .of_eq hgens⟩
    obtain ⟨env1, s1, res⟩ := ok ns hl
    refine codeAny_mono (body_run (Q := fun v _ => v = .bl true) (vs := [.ref a]) (us := [.ref a]) (ps := [x]) F Sc room en (bnd sh (.ref a)) (.cons rfl .nil) rfl fun cdv E r => ?_) fun r s' h => ?_
    · refine ⟨_, hbody _ cdv sh H E inB (nsK hns) r, ⟨fun _ => False, fun _ => False, H, .non⟩, env0 [.v] (N.length - 1) [.lst (ns.map D.int)], none, [], ?_, Cl.nil, ?_⟩
      · have hs : ArgsR K (fun _ => False) (fun _ => False) H .non [.v] [.ref a] [.lst (ns.map D.int)] := by
          refine .v ?_ .nil
          rcases seq with seq | seq
          · exact .lst (fun z => z) seq (reps_intsE ns)
          · exact .wlst seq (reps_intsE ns)
        exact er_start (I := boxDW) (s := none) (bm := fun _ => False) (bv := .non) (N := N) (vs := [.ref a]) hN (fun _ h => h) (fun _ h => h.elim) (fun _ h => h) hs
      · rw [res]
        intro v σ' H' ⟨ad, bv, bm, R⟩
        have q : Rep K _ H' v (.bl true) := R.tm _ List.mem_cons_self
        cases q
        rfl
    · cases r with
      | error e => exact False.elim h
      | ok fl =>
        cases fl with
        | next => exact False.elim h
        | brk => exact False.elim h
        | cont => exact False.elim h
        | ret u =>
          obtain ⟨v, H', os, bare, un, hok', r', q⟩ := h
          obtain rfl : v = .bl true := q
          obtain rfl : u = Value.bool true := r'
          refine ⟨rfl, OldK.of_keep fun b o e => ?_, os, bare⟩
          cases q : H b with
          | none => exact un.keep b o e q (fun z => nomatch z) (fun z => nomatch z)
          | some u =>
            rcases only b with z | ⟨ob, xs, z⟩
            · rw [q] at z; cases z
            · obtain ⟨e1, _⟩ := hok b _ z
              obtain ⟨e2, _⟩ := hok' b _ (un.frzs b ob _ z)
              rw [e] at e1; cases e1
              exact e2
  cases hk : K.lookup a with
  | some o =>
    have e := inK a o hk
    rw [ha] at e
    cases e
    exact main (fun _ => none) (fun _ => .inl rfl) (.inr ⟨vs.toArray, _, hk, by rw [List.size_toArray, lenV]; exact h63, by simpa using rel⟩) (fun b u z => nomatch (show (none : Option HO) = some u from z)) (fun b z => absurd rfl z) fun z => absurd rfl z
  | none =>
    have at_ : ∀ {b : Addr} {u : HO}, (if b = a then some (HO.frz { cls := .type "list", data := .seq vs.toArray } (.lst (ns.map V.int))) else none) = some u → b = a ∧ u = HO.frz { cls := .type "list", data := .seq vs.toArray } (.lst (ns.map V.int)) := by
      intro b u z
      by_cases hb : b = a
      · rw [if_pos hb] at z; cases z; exact ⟨hb, rfl⟩
      · rw [if_neg hb] at z; cases z
    refine main (fun b => if b = a then some (.frz { cls := .type "list", data := .seq vs.toArray } (.lst (ns.map V.int))) else none) (fun b => ?_) (.inl (.inr ⟨{ cls := .type "list", data := .seq vs.toArray }, if_pos rfl⟩)) (fun b u z => ?_) (fun b z => ?_) fun _ => hk
    · by_cases hb : b = a
      · exact .inr ⟨_, _, if_pos hb⟩
      · exact .inl (if_neg hb)
    · obtain ⟨rfl, rfl⟩ := at_ z
      exact ⟨ha, by rw [List.length_map]; exact h63, vs, _, rel, ha⟩
    · by_cases hb : b = a
      · exact hb
      · exact absurd (if_neg hb) z
/-- THE END: the goal that the head leaves -/
theorem walk_lawD {l : PySem.W.OpenLaw} {k : Nat} {q : Program} {loose : List Str} {XP : (Str → Option Value) → Heap → Prop} {YP : World → Heap → Prop} {d : DefRec} {K : Params → PySem.W.Frag} {st : Stmt} {N : List Str} {x : Str}
    (hn : l.most = some 63) (hdf : d.params.defaults = []) (room : Room (k + 1) callerA) (hY : ∀ (w : World) (h : Heap), YP w h → (K w.params).In h) (Sc : FnScope N [x] (defScope st))
    (F : ∀ (w : World) (mg : Str → Option Value) (fa : Addr) (h : Heap), (K w.params).In h → h.Ns mainGlobals mg → mg d.name = some (.ref fa) →
      ∃ (fd : FuncData) (m : MS (Option Bd)) (qual : Str), Fun (K w.params) qual qual st fa fd ∧ (∀ (s : Shared) (u : Value), BindsTo s fd ⟨[u], []⟩ [(x, u)]) ∧ LawOkD m (N.length - 1) ∧
        ∀ (base : Heap) (cdv : Value) (s : Shared) (H : Hp) (E : XK), (K w.params).In base → base.Ns mainGlobals mg → Room k (callerA.deeper (envOfC qual (defScope st) s.heap.objs.size fa cdv)) →
          PSs (cxOf CX0 l.prog w (K w.params) mg base N qual (defScope st) fa cdv callerA [] s H E).nox (defBody st) (tS (K w.params) boxDW W0 m)) :
    PySem.W.WalkO q loose XP YP l.row.toRowW d [] (fun f vs => PySem.call f vs) := by
  refine Att.attach_call hn hdf fun w s0 s1 mg mb fa o pm cd doc a vs ns G Y ho hd hcd hmg hobj hints hlen hg => ?_
  have inK := hY w _ Y
  obtain ⟨fd, m, qual, Ff, bnd, ok, hbody⟩ := F w mg fa _ inK G.T.g hmg
  exact law_goD inK G.T.g G.T.b G.T.builtins G.T.nolimit hg hobj hints hlen room Ff Sc bnd hbody ok
end LM

/-! a base's __init__, called on an instance that has attributes already -/
namespace LM
open PySem L2
def spS (K : PySem.W.Frag) (C : Addr) (md : List Md) (m : List Str → List D → List D → FO Unit (List Str × List D)) : Sp := fun vs H Q E => ∃ (x dx : Addr) (fs : List (Str × V)) (B : Addr → Prop) (rest : List V) (es ds : List D),
  vs = .ref x :: rest ∧ H x = some (.ins C dx fs) ∧ (∀ a, B a → H a ≠ none) ∧ ¬ B x ∧ ArgsR K (fun _ => False) (fun a => B a ∨ a = x) H .non md rest ds ∧ Reps K (fun a => B a ∨ a = x) H (fs.map (·.2)) es ∧
  match m (fs.map (·.1)) es ds with
  | .ok p _ => ∀ H', (∀ a o, a ≠ x → H a = some o → H' a = some o) → (∃ dx' fs', H' x = some (.ins C dx' fs') ∧ p.1 = fs'.map (·.1) ∧ Reps K (fun a => B a ∨ a = x) H' (fs'.map (·.2)) p.2) → Q .non H'
  | _ => False
def envS (x C : Addr) (ns : List Str) (es : List D) (md : List Md) (n : Nat) (ds : List D) : List Sl := .slf x C ns es :: env0 md n ds
section
variable {P : Program} {w : World} {K : PySem.W.Frag} {mg : Str → Option Value} {base : Heap}
theorem fn_okS {x qual : Str} {st : Stmt} {f C : Addr} {fd : FuncData} {N ps : List Str} {k : Nat} {md : List Md} {m : MS Unit} {g : List Str → List D → List D → FO Unit (List Str × List D)} (F : Fun K x qual st f fd) (Sc : FnScope N ps (defScope st)) (hl : md.length + 1 = ps.length)
    (hg : ∀ y ns es ds, (m (envS y C ns es md (N.length - ps.length) ds) ()).foI y C = g ns es ds)
    (hbody : ∀ (cdv : Value) (A : Around) (outer : List Env) (s : Shared) (H : Hp) (E : XK), Room k (A.deeper (PyProof.Rows.envOfC qual (defScope st) s.heap.objs.size f cdv)) →
      PSs (cxOf CX0 P w K mg base N qual (defScope st) f cdv A outer s H E).nox (defBody st) (tS K boxNil W0 m)) : FnOk P w K mg base CX0 (k + 1) f fd ps (spS K C md g) := by
  have hN : ps.length ≤ N.length := by have := congrArg List.length Sc.pre; rw [List.length_take] at this; omega
  refine F.ok Sc (fun vs H Q E ⟨_, _, _, _, _, _, _, e, _, _, _, ar, _⟩ => by rw [e, List.length_cons, ar.len, hl]) fun cdv A outer s H vs Q E hr ⟨y, dx, fs, B, rest, es, ds, ev, hy, hB, nB, ar, re, z⟩ => ?_
  subst ev
  have hv : rest.length = md.length := ar.len
  rw [← hg y _ es ds] at z
  have lo : ∀ a, a ≠ y → (fun a => if a = y then none else H a) a = H a := fun a n => if_neg n
  have ly : (fun a => if a = y then none else H a) y = (none : Option HO) := if_pos rfl
  have sm : ∀ a o, (fun a => if a = y then none else H a) a = some o → H a = some o := fun a o e => by
    by_cases n : a = y
    · rw [n] at e; rw [ly] at e; cases e
    · rw [lo a n] at e; exact e
  refine ⟨_, hbody cdv A outer s _ E hr, ⟨B, fun _ => False, fun a => if a = y then none else H a, .non⟩, envS y C (fs.map (·.1)) es md (N.length - ps.length) ds, (), [], ?_, Cl.nil, ?_⟩
  · have hgo : ∀ (i : Nat) (x : Sl), (env0 md (N.length - ps.length) ds)[i]? = some x → x.isOwn = false ∧ ∀ (T B' : Addr → Prop) (a : Addr), (∀ a, T a → False) → (∀ a, B' a → (B a ∨ a = y)) → SlR K T B' .non H a ((rest.map some ++ List.replicate (N.length - ps.length) none)[i]?) x := envA_noB (T := fun _ => False) ar (N.length - ps.length)
    have own0 : ∀ (i : Nat) (u : Sl), (envS y C (fs.map (·.1)) es md (N.length - ps.length) ds)[i]? = some u → u.isOwn = true → i = 0 := fun i u e o => by
      cases i with
      | zero => rfl
      | succ i => rw [(hgo i u e).1] at o; cases o
    have est : L2.start N (.ref y :: rest) = some (.ref y) :: (rest.map some ++ List.replicate (N.length - ps.length) none) := by
      unfold L2.start
      rw [List.map_cons, List.cons_append, List.length_cons, hv, hl]
    have nO : ∀ a, Ow (fun _ => y) (envS y C (fs.map (·.1)) es md (N.length - ps.length) ds) [] a → a = y := fun a z => by
      rcases z with ⟨i, u, e, o, q⟩ | ⟨p, hp, _⟩
      · exact q.symm
      · cases hp
    have subB : ∀ a, Bv ⟨B, fun _ => False, fun a => if a = y then none else H a, .non⟩ (fun _ => False) (fun _ => y) (envS y C (fs.map (·.1)) es md (N.length - ps.length) ds) [] a → B a ∨ a = y := fun a z => z.imp (fun q => q) fun z => z.elim (fun z => z.elim) fun z => nO a z
    refine ⟨fun _ => y, .non, fun _ => False, ?_, fun a o e _ => sm a o e, fun a e => ?_, fun _ h => h, ⟨fun a z => z.elim, fun _ => ⟨rfl, rfl⟩⟩, fun a h => ?_, fun i u e o => ⟨ly, fun z => z⟩, fun p hp => (nomatch hp), fun i j u v ei ej oi oj _ => by rw [own0 i u ei oi, own0 j v ej oj], fun i u p e o hp => (nomatch hp), .nil, fun i u e => ?_, fun p hp => (nomatch hp)⟩
    · rw [est]
      unfold envS env0
      rw [List.length_cons, List.length_cons, List.length_append, List.length_append, List.length_map, List.length_replicate, List.length_replicate, envA_len ar]
    · by_cases n : a = y
      · rw [n]; exact ly
      · exact (lo a n).trans e
    · have n : a ≠ y := fun e => nB (e ▸ h)
      show (fun a => if a = y then none else H a) a ≠ none
      rw [lo a n]; exact hB a h
    · rw [est]
      cases i with
      | zero =>
        have e : some (Sl.slf y C (fs.map (·.1)) es) = some u := e
        cases e
        exact ⟨rfl, rfl, dx, fs, hy, rfl, re.gr (.sub subB)⟩
      | succ i =>
        have q := (hgo i u e).2 (fun _ => False) _ y (fun _ z => z) subB
        cases u with
        | top d =>
          obtain ⟨v, e1, r⟩ := q
          refine ⟨v, e1, r.imp (fun r => r) fun ⟨a, xs, ds', f1, f2, _, rd, q⟩ => ⟨a, xs, ds', f1, f2, fun z => ?_, rd, q⟩⟩
          have ea : a = y := z.elim (fun z => z.elim) (nO a)
          subst ea
          rcases rd with rd | ⟨o, rd⟩ <;> · rw [hy] at rd; cases rd
        | _ => exact q
  · cases e : m (envS y C (fs.map (·.1)) es md (N.length - ps.length) ds) () with
    | nx env1 s1 =>
      cases env1 with
      | nil => simp only [e, SO.foI] at z
      | cons sl env1 =>
        cases sl with
        | slf y' C' ns es' =>
          simp only [e, SO.foI] at z
          by_cases hc : y' = y ∧ C' = C
          · rw [if_pos hc] at z
            obtain ⟨rfl, rfl⟩ := hc
            intro σ' H' ⟨ad, bv, bm, R⟩
            obtain ⟨fa, fσ, dx', fs', q1, q2, q3⟩ := R.sl 0 _ rfl
            rw [fa] at q1
            refine z H' (fun a o n e => R.ext a o ((lo a n).trans e) fun z => z) ⟨dx', fs', q1, q2, q3.gr (.sub fun a h => ?_)⟩
            rcases h with h | h
            · exact .inl h
            · exact .inr (.inr (.inl ⟨0, _, rfl, rfl, fa.trans h.symm⟩))
          · rw [if_neg hc] at z; exact z.elim
        | _ => simp only [e, SO.foI] at z
    | _ => simp only [e, SO.foI] at z
end
end LM

/-! defs that close over __class__; super().__init__(..) as the last statement -/
namespace LM
open PySem PySem.Spec PyProof.Rows L2 PySem.W
abbrev nfC (x qual : Str) (st : Stmt) (cc cda : Addr) : NdefX.NF := ⟨x, qual, defArgs st, defBody st, defScope st, [("__class__", cc)], cda⟩
structure FunC (P : Program) (K : Frag) (x qual : Str) (st : Stmt) (f : Addr) (fd : FuncData) (D cc cda : Addr) : Prop where
  ex : ∃ (oc : Value) (od : Option Addr) (kV doc pm : Value) (an : Option Addr) (ct : Value) (osl : Array (Option Value)),
    fd = fnX x qual (defArgs st) (defBody st) (defScope st) [("__class__", cc)] .none kV doc pm an (.ref cda) ct ∧ K.lookup f = some ⟨oc, od, .func fd, osl⟩
  cd : codeIn K (.ref cda) qual = true
  kp : keepIn K (.ref f) = true
  code : ∃ (ccl : Value) (cdd : Option Addr) (vs : Array Value) (ccs : Array (Option Value)) (file : Str) (tf : Tok), K.lookup cda = some ⟨ccl, cdd, .fields vs, ccs⟩ ∧ vs[2]? = some (.str file tf) ∧ ((P.main.file : Str) == file) = true
  cell : ∃ (cl : Value) (cld : Option Addr) (csl : Array (Option Value)), K.lookup cc = some ⟨cl, cld, .cell (some (.ref D)), csl⟩
  cls : ∃ cdD, clsIn K D = some cdD
  top : (P.main.scope.names.lookup ("super" : Str)).isSome = false
/-- statements of a body, run as such -/
structure PSsA (X : Cx) (body sts : List Stmt) (t : TS) : Prop where
  run : ∀ (pins : List (Addr × Obj)) (s : Shared) (σ : L2.St) (H : Hp) (Dn : Ends), Inv X pins σ H s → t Dn σ H → PySem.wpAt (model X.prog X.w) X.A (.func body X.env) (execs sts X.env) (SP X pins Dn) X.xe s
structure PSA (X : Cx) (body : List Stmt) (st : Stmt) (t : TS) : Prop where
  run : ∀ (pins : List (Addr × Obj)) (s : Shared) (σ : L2.St) (H : Hp) (Dn : Ends), Inv X pins σ H s → t Dn σ H → PySem.wpAt (model X.prog X.w) X.A (.func body X.env) (exec st X.env) (SP X pins Dn) X.xe s
section
variable {X : Cx} {body : List Stmt} {st : Stmt} {sts : List Stmt} {t u : TS}
theorem PSsA.cons (h1 : PS X st t) (h2 : PSsA X body sts u) : PSsA X body (st :: sts) (tSeq t u) := by
  refine ⟨fun pins s σ H Dn I h => ?_⟩
  refine ks_wpAt_execs_cons (wpAt_of_wpAny (thn (h1.run pins s σ H { Dn with nx := u Dn } I h) fun f s1 q => ?_))
  cases f with
  | next =>
    obtain ⟨σ', H', I', q⟩ := q
    exact h2.run pins s1 σ' H' Dn I' q
  | ret v => exact q
  | brk => exact q
  | cont => exact q
theorem PSsA.one (h1 : PSA X body st t) : PSsA X body [st] t := by
  refine ⟨fun pins s σ H Dn I h => ?_⟩
  refine ks_wpAt_execs_cons (ks_wpAt_mono (h1.run pins s σ H Dn I h) (fun f s1 q => ?_) fun _ _ e => e)
  cases f with
  | next => exact wpAt_of_wpAny (wpAny_execs_nil q)
  | ret v => exact q
  | brk => exact q
  | cont => exact q
theorem PSsA.imp (h : PSsA X body sts t) (w : ∀ Dn σ H, u Dn σ H → t Dn σ H) : PSsA X body sts u := ⟨fun pins s σ H Dn I q => h.run pins s σ H Dn I (w _ _ _ q)⟩
end
section
variable {P : Program} {w : World} {K : Frag} {mg : Str → Option Value} {base : Heap}
theorem FunC.ok {x qual : Str} {st : Stmt} {f D cc cda : Addr} {fd : FuncData} {N ps : List Str} {k : Nat} {sp : Sp} (F : FunC P K x qual st f fd D cc cda) (S : NdefX.NScope N ps ["__class__"] (defScope st)) (len : ∀ vs H Q E, sp vs H Q E → vs.length = ps.length)
    (hbody : ∀ (A : Around) (outer : List Env) (s : Shared) (H : Hp) (vs : List V) (Q : VK) (E : XK), Room k (A.deeper (NdefX.envF (nfC x qual st cc cda) f s.heap.objs.size)) → sp vs H Q E →
      ∃ t, PSsA (NdefX.ncx CX0 P w K mg base N (nfC x qual st cc cda) f A outer s H E) (defBody st) (defBody st) t ∧ t { nx := fun _ H' => Q .non H', rt := Q } (L2.start N vs) H) : FnOk P w K mg base CX0 (k + 1) f fd ps sp := by
  obtain ⟨oc, od, kV, doc, pm, an, ct, osl, rfl, lk⟩ := F.ex
  obtain ⟨cl, cld, csl, hcc⟩ := F.cell
  refine ⟨len, fun A outer s H args us vs Q E hr he hb hv hs => ?_⟩
  have hl := len _ _ _ _ hs
  have inK : K.In s.heap := he.mod.kin.keeps fun b o e => (he.bs b o e).1
  have lim : s.heap.NoLimit := he.mod.nolimit.keeps fun b o e => (he.bs b o e).1
  have hloc : ∀ y ∈ ps.zip us, (defScope st).names.lookup y.1 = some .local := fun ⟨n, v⟩ hy => S.par n (List.of_mem_zip hy).1
  obtain ⟨t, ht, hq⟩ := hbody A outer s H vs Q E (hr.deeper _) hs
  have C : NdefX.CellsAt (nfC x qual st cc cda).cl ["__class__"] [none] s.heap H := by
    refine ⟨rfl, fun y c e => ?_, fun a b c e1 e2 => ?_, fun i y e => ?_⟩
    · have hc : c = cc := by
        simp only [List.lookup] at e
        split at e
        · cases e; rfl
        · cases e
      rw [hc]
      refine ⟨(he.bs _ _ (he.mod.kin _ _ hcc)).2, some (.ref D), _, inK _ _ hcc, rfl⟩
    · simp only [List.lookup] at e1 e2
      split at e1
      · rename_i q1
        split at e2
        · rename_i q2
          exact (beq_iff_eq.mp q1).trans (beq_iff_eq.mp q2).symm
        · cases e2
      · cases e1
    · cases i with
      | zero =>
        have ey : y = "__class__" := by cases e; rfl
        subst ey
        exact ⟨cc, by simp [List.lookup], fun v hv => nomatch hv⟩
      | succ i => cases e
  have es : NdefX.startF N vs [none] = L2.start N vs := by
    have hp := congrArg List.length S.pre
    rw [List.length_take, List.length_append] at hp
    simp only [List.length_cons, List.length_nil] at hp
    unfold NdefX.startF L2.start
    have e1 : N.length - vs.length = (N.length - vs.length - 1) + 1 := by omega
    rw [e1, List.replicate_succ]
    rfl
  refine ks_codeAny_call_defAt (fd := fnX x qual (defArgs st) (defBody st) (defScope st) [("__class__", cc)] .none kV doc pm an (.ref cda) ct) (body := defBody st) hr.depth (inK _ _ lk) rfl lim (codeRec_of inK F.cd) rfl hb S.nocell hloc (fun h₁ hns kp => ?_) S.co S.gen S.kind
  have I : Inv (NdefX.ncx CX0 P w K mg base N (nfC x qual st cc cda) f A outer s H E) [] (NdefX.startF N vs [none]) H { s with heap := h₁, toks := s.toks + (ps.zip us).length } := NdefX.inv_startN S hr.hd he hl hv C hns kp
  rw [es] at I
  refine ks_wpAt_mono (ht.run [] _ (L2.start N vs) H _ I hq) (fun fl s' hs => ?_) fun e s' hs => hs
  have fin : ∀ {σ' : L2.St} {H' : Hp} {v : V} {u : Value}, Inv (NdefX.ncx CX0 P w K mg base N (nfC x qual st cc cda) f A outer s H E) [] σ' H' s' → L2.RelV v u → Q v H' → CE outer P w H s Q u s' :=
    fun {σ' H' v u} J rv q => ⟨v, H', J.os, J.bare, J.base, J.hok, rv, q⟩
  cases fl with
  | ret u =>
    obtain ⟨v, σ', H', J, rv, q⟩ := hs
    exact fin J rv q
  | next =>
    obtain ⟨σ', H', J, q⟩ := hs
    exact fin (v := V.non) (u := Value.none) J rfl q
  | brk =>
    obtain ⟨_, _, _, q⟩ := hs
    exact False.elim q
  | cont =>
    obtain ⟨_, _, _, q⟩ := hs
    exact False.elim q
end
/-- what super() finds: the base's __init__ at f2, for instances of C, in a def of the class D -/
structure SupI (K : Frag) (C D f2 : Addr) : Prop where
  fnd : ks_superIn K C D "__init__" = some (some (.ref f2))
  typ : typeIn K (.ref f2) = some (.type "function")
  fn : fnIn K f2 = true
  sub : mroIn K C (.ref D) = some true
  opq : nsIn K cStatics "thirdparty.any" = some none
def tSup (C : Addr) (sp : Sp) (ta : TA) : TS := fun Dn σ H => ∃ x dx fs, σ[0]? = some (some (.ref x)) ∧ H x = some (.ins C dx fs) ∧ ta σ H fun vs H1 => sp (.ref x :: vs) H1 (fun _ H2 => Dn.nx σ H2) E0
section
variable {P : Program} {w : World} {K : Frag} {mg : Str → Option Value} {base : Heap}
theorem a_sup {x qual sn : Str} {st : Stmt} {f C D cc cda f2 : Addr} {fd fd2 : FuncData} {N ps ps2 : List Str} {k : Nat} {sp : Sp} {A : Around} {outer : List Env} {s0 : Shared} {H0 : Hp} {E : XK} {ar : Arg} {e : Expr} {es : List Expr} {ta : TA} {p0 p1 pa pc pos : Pos} {pl : Sem Bool}
    (F : FunC P K x qual st f fd D cc cda) (S : NdefX.NScope N ps ["__class__"] (defScope st)) (hC : SupI K C D f2) (F2 : FnOk P w K mg base CX0 k f2 fd2 ps2 sp) (hr : Room k (A.deeper (NdefX.envF (nfC x qual st cc cda) f s0.heap.objs.size))) (hb2 : Binds K fd2 ps2 []) (hm : mg "super" = none)
    (hks : (defScope st).names.lookup ("super" : Str) = some .globalImplicit) (hkc : (defScope st).names.lookup ("__class__" : Str) = some .free) (har : ((defArgs st).posonlyargs ++ (defArgs st).args).head? = some ar) (hN0 : N[0]? = some ar.arg) (hsn : (defScope st).names.lookup ar.arg = some .local)
    (ha : PA (NdefX.ncx CX0 P w K mg base N (nfC x qual st cc cda) f A outer s0 H0 E) (e :: es) ta)
    (hs : swapsWith (.Call (.Attribute (.Call (.Name "super" p0) [] [] p1) "__init__" pa) (e :: es) [] pc) none pos.line (NdefX.envF (nfC x qual st cc cda) f s0.heap.objs.size) = pure false := by rfl)
    (hst : starEach (e :: es) (NdefX.envF (nfC x qual st cc cda) f s0.heap.objs.size) = (false, eval e (NdefX.envF (nfC x qual st cc cda) f s0.heap.objs.size)) :: starEach es (NdefX.envF (nfC x qual st cc cda) f s0.heap.objs.size) := by rfl)
    (hpl : (backTo pc (starEach es (NdefX.envF (nfC x qual st cc cda) f s0.heap.objs.size))).any (·.1) = false := by rfl)
    (he : eval (.Call (.Attribute (.Call (.Name "super" p0) [] [] p1) "__init__" pa) (e :: es) [] pc) (NdefX.envF (nfC x qual st cc cda) f s0.heap.objs.size) = (do
      let ov ← attributeBase (.Call (.Name "super" p0) [] [] p1) "__init__" (NdefX.envF (nfC x qual st cc cda) f s0.heap.objs.size) (eval (.Call (.Name "super" p0) [] [] p1) (NdefX.envF (nfC x qual st cc cda) f s0.heap.objs.size))
      standAt pa.atName
      let (fg, first) ← holding [ov] (getMethod ov "__init__" pl)
      callWith pc fg first (backTo pc (starEach (e :: es) (NdefX.envF (nfC x qual st cc cda) f s0.heap.objs.size))) []) := by rfl) :
    PSA (NdefX.ncx CX0 P w K mg base N (nfC x qual st cc cda) f A outer s0 H0 E) (defBody st) (.Expr (.Call (.Attribute (.Call (.Name "super" p0) [] [] p1) "__init__" pa) (e :: es) [] pc) pos) (tSup C sp ta) := by
  obtain ⟨oc, od, kV, doc, pm, an, ct, osl, rfl, lk⟩ := F.ex
  obtain ⟨cl, cld, csl, hcc⟩ := F.cell
  obtain ⟨ccl, cdd, cvs, ccs, file, tf, hcode, hvs, hfile⟩ := F.code
  obtain ⟨cdD, hD⟩ := F.cls
  refine ⟨fun pins s σ H Dn I ⟨y, dx, fs, hσ, hy, h⟩ => ?_⟩
  have inK := I.kIn
  obtain ⟨oD, hD1, hD2⟩ : ∃ oD, s.heap.get? D = some oD ∧ oD.data = .cls cdD := by
    unfold clsIn at hD
    split at hD
    · rename_i c d cd' sl ho
      cases hD
      exact ⟨_, inK _ _ ho, rfl⟩
    · cases hD
  obtain ⟨mA, J, _⟩ := ins_get I.hok hy
  obtain ⟨odd, J, _⟩ := J.look
  obtain ⟨mL, hnsL, hloc⟩ := I.loc
  obtain ⟨u, ru, lo⟩ := hloc 0 ar.arg (.ref y) hN0 hσ (.inl hsn)
  obtain rfl : u = Value.ref y := ru
  have hmself : mL ar.arg = some (.ref y) := by
    rcases lo with ⟨_, z⟩ | ⟨z, _⟩
    · exact z
    · have z : (defScope st).names.lookup ar.arg = some .cell ∨ (defScope st).names.lookup ar.arg = some .free := z
      rw [hsn] at z
      rcases z with z | z <;> cases z
  refine ks_wpAt_Expr_any ?_ I.quiet hs
  refine ks_wpAt_MethodCall (pl := pl) ?_ he
  refine ks_wpAt_super_base (f := f) (cc := cda) hks hkc (by decide) rfl (inK _ _ lk) rfl har rfl (inK _ _ hcode) rfl hvs hfile F.top ?_
  obtain ⟨mb, hbl1, hbl2⟩ := I.mod.blt
  refine ks_loadName_global I.ok.kind hks (Calls.loadGlobal_builtin (by rw [I.ok.glob]; exact I.mod.glob.keeps I.bk) hm (by rw [I.ok.blt]; exact hbl1.keeps I.bk) ((hbl2 _ (by decide +kernel)).trans (show bootBuiltins "super" = some (.type "super") by rfl)) ⟨rfl, ?_⟩)
  refine wpAny_loadName_free I.ok.kind hkc (c := cc) (v := .ref D) (by rfl) ⟨_, inK _ _ hcc, rfl⟩ ?_
  refine wpAny_loadName_local I.ok.kind hsn hnsL hmself ?_
  obtain ⟨hh, g, d, t, os⟩ := s
  refine ks_wpAny_isType_cls hD1 hD2 ⟨rfl, ?_⟩
  refine ks_wpAny_call_super hD1 hD2 J.at_ rfl (fun c e => nomatch e) (looks_mroIn inK hC.sub) (fun h' e1 k1 => ?_)
  have I1 := I.kept (h' := h') (t' := t) k1
  have inK1 := I1.kIn
  cases hc : clsIn K C with
  | none =>
    have z := hC.fnd
    unfold ks_superIn at z
    rw [hc] at z
    cases z
  | some cd =>
    have hfnd := hC.fnd
    unfold ks_superIn at hfnd
    rw [hc] at hfnd
    obtain ⟨of, hof, hofc⟩ : ∃ of, h'.get? f2 = some of ∧ of.cls = .type "function" := by
      have ht' : (K.lookup f2).map (·.cls) = some (.type "function") := hC.typ
      cases z : K.lookup f2 with
      | none => rw [z] at ht'; cases ht'
      | some of => rw [z] at ht'; exact ⟨of, inK1 _ _ z, Option.some.inj ht'⟩
    have J1 : InstAt h' y (instObj C dx) C (some odd) := ⟨k1 _ _ J.at_, J.cls, J.no, by have := J.dict; exact k1 _ _ this⟩
    refine ks_wpAny_getMethod_super e1 (looks_opaque inK1 hC.opq) (l₀ := cd.mro) ?_ rfl inK1 hfnd hof hofc (ks_ne inK1 J1 hc) (by decide) ?_
    · exact fun A Q E s k q => wpAny_bind ((looks_clsIn inK1 hc) A _ E s k (wpAny_pure q))
    have I2 := I1.kept (h' := h'.push (methodObj (.ref f2) (.ref y))) (t' := t + 1) fun b o e => Heap.get?_push_of_some _ e
    have hq2 : (h'.push (methodObj (.ref f2) (.ref y))).get? h'.objs.size = some (methodObj (.ref f2) (.ref y)) := Heap.get?_push_at rfl rfl
    have I3 : Inv (NdefX.ncx CX0 P w K mg base N (nfC x qual st cc cda) f A outer s0 H0 E) ((h'.objs.size, methodObj (.ref f2) (.ref y)) :: pins) σ H { heap := h'.push (methodObj (.ref f2) (.ref y)), gens := g, drawn := d, toks := t + 1, os := os } := by
      refine I2.pins_of fun p hp => ?_
      rcases List.mem_cons.mp hp with rfl | hp
      · exact ⟨hq2, I1.hok.fresh (Nat.le_refl _), Ne.symm (Nat.ne_of_lt I1.lt), I1.nofs (Nat.le_refl _), fun v => nofun⟩
      · exact I2.pin p (List.mem_append_right _ hp)
    show wpAny _ _ (callWith pc (.ref h'.objs.size) [] (backTo pc (starEach (e :: es) (NdefX.envF (nfC x qual st cc cda) f s0.heap.objs.size))) []) _ _ _
    have hA := wpAny_mono (Q' := fun us s1 => MethP K h'.objs.size f2 (.ref y) s1.heap ∧ wpAny (model P w) (A.deeper (NdefX.envF (nfC x qual st cc cda) f s0.heap.objs.size)) (call (.ref h'.objs.size) ([] ++ us)) (fun _ => SP (NdefX.ncx CX0 P w K mg base N (nfC x qual st cc cda) f A outer s0 H0 E) pins Dn .next) (NdefX.ncx CX0 P w K mg base N (nfC x qual st cc cda) f A outer s0 H0 E).xe s1)
      (ha.run pc _ _ σ H _ I3 h) (fun us s1 ⟨vs, H1, J3, rv, hq⟩ => ?_) fun _ _ e => e
    · have hA : wpAny (model P w) (A.deeper (NdefX.envF (nfC x qual st cc cda) f s0.heap.objs.size)) (spliced (backTo pc (starEach (e :: es) (NdefX.envF (nfC x qual st cc cda) f s0.heap.objs.size)))) _ _ _ := hA
      rw [hst] at hA ⊢
      exact callWith_of (P := MethP K h'.objs.size f2 (.ref y)) (by show ((false || (backTo pc (starEach es (NdefX.envF (nfC x qual st cc cda) f s0.heap.objs.size))).any (·.1)) || false) = false; rw [hpl]; rfl) (keeps_M hC.fn) (PySem.Calls.evalArgs_plain hA)
    have hqo := (J3.pin (h'.objs.size, methodObj (.ref f2) (.ref y)) (List.mem_append_right _ List.mem_cons_self)).1
    refine ⟨⟨hqo, J3.kIn⟩, ?_⟩
    have hl2 : (Value.ref y :: us).length = ps2.length := by
      have e1 := F2.len _ _ _ _ hq
      have e2 := rv.length
      simp only [List.length_cons] at e1 ⊢
      omega
    have bnd := hb2 s1 (.ref y :: us) J3.kIn (by rw [List.append_nil]; exact hl2)
    rw [List.append_nil] at bnd
    refine wpAny_call (ks_codeAny_call_bound hqo (codeAny_mono (F2.run _ _ s1 H1 ⟨.ref y :: us, []⟩ (.ref y :: us) (.ref y :: vs) _ E0 hr J3.env0 bnd (.cons rfl rv) hq) fun r s2 hz => ?_))
    rcases r with er | fl
    · exact (show False from hz).elim
    · cases fl with
      | ret u =>
        obtain ⟨v, H2, I4, _, q4⟩ := J3.after hz
        exact ⟨σ, H2, I4.pins_of fun p hp => I4.pin p (List.mem_append_right _ (List.mem_cons_of_mem _ hp)), q4⟩
      | _ => exact False.elim hz
end
end LM

namespace LM
open PySem L2 PySem.W
def mSup (C : Addr) (md : List Md) (f : List Str → List D → List D → FO Unit (List Str × List D)) (ms : MX Unit (List W)) : MS Unit := fun env s => match env[(0 : Nat)]? with
  | some (.slf _ C0 _ _) => if C0 = C then ((ms env s).bindS fun ws env1 s1 => match env1[(0 : Nat)]? with
    | some (.slf x C' ns es) => if C' = C then (match bindA env1 md ws with
      | some ds => match f ns es ds with
        | .ok p _ => .nx (env1.set 0 (.slf x C' p.1 p.2)) s1
        | _ => .bad
      | none => .bad) else .bad
    | _ => .bad) else .bad
  | _ => .bad
theorem ArgsR.sub {K : Frag} {bm B B' : Addr → Prop} {H : Hp} {bv : V} (h : ∀ a, B' a → B a) : ∀ {m : List Md} {xs : List V} {ds : List D}, ArgsR K bm B H bv m xs ds → ArgsR K bm B' H bv m xs ds
  | _, _, _, .nil => .nil
  | _, _, _, .v r q => .v (r.gr (.sub h)) (q.sub h)
  | _, _, _, .t r q => .t (r.gr (.sub fun _ z => z) (.sub h)) (q.sub h)
  | _, _, _, .b q => .b (q.sub h)
theorem sup_fin {K : Frag} {C : Addr} {md : List Md} {f : List Str → List D → List D → FO Unit (List Str × List D)} {ms : MX Unit (List W)} (hmd : md.any Md.isB = false) {Dn : Ends} {σ : L2.St} {H : Hp} (h : tS K boxNil W0 (mSup C md f ms) Dn σ H) : tSup C (spS K C md f) (tDs K boxNil W0 ms) Dn σ H := by
  obtain ⟨G, env, s, ts, R, cl, h⟩ := h
  unfold mSup at h
  cases e0 : env[0]? with
  | none => simp only [e0] at h
  | some y =>
    cases y with
    | slf x0 C0 ns0 es0 =>
      simp only [e0] at h
      by_cases hc0 : C0 = C
      · subst hc0
        rw [if_pos rfl] at h
        obtain ⟨ad, bv, bm, R0⟩ := id R
        obtain ⟨f1, f2, dx0, fs0, f3, f4, f5⟩ := R0.sl 0 _ e0
        refine ⟨ad 0, dx0, fs0, f2, f3, ?_⟩
        refine ⟨G, env, s, ts, R, ?_⟩
        cases em : ms env s with
        | ex x env1 s1 => rw [em] at h; exact fun dx H' q => h dx σ H' q
        | bad => rw [em] at h; exact h
        | ok ws env1 s1 =>
          rw [em] at h
          intro vs H1 hl ⟨ad1, bv1, bm1, R1⟩
          dsimp only [Out.bindS] at h
          cases e1 : env1[0]? with
          | none => simp only [e1] at h
          | some y1 =>
            cases y1 with
            | slf x C' ns es =>
              simp only [e1] at h
              by_cases hc : C' = C0
              · subst hc
                rw [if_pos rfl] at h
                cases e2 : bindA env1 md ws with
                | none => simp only [e2] at h
                | some ds =>
                  simp only [e2] at h
                  obtain ⟨g1, g2, dx, fs, g3, g4, g5⟩ := R1.sl 0 _ e1
                  have ea : ad 0 = ad1 0 := by
                    rw [f2] at g2
                    injection g2 with g2
                    injection g2 with g2
                    injection g2
                  have ox : Ow ad1 env1 (vs.zip ws ++ ts) (ad1 0) := .inl ⟨0, _, e1, rfl, rfl⟩
                  have sb : ∀ a, ((Bv G bm1 ad1 env1 (vs.zip ws ++ ts) a ∧ a ≠ ad1 0) ∨ a = ad1 0) → Bv G bm1 ad1 env1 (vs.zip ws ++ ts) a := fun a z => z.elim (fun z => z.1) fun z => z ▸ .inr (.inr ox)
                  rw [ea]
                  refine ⟨ad1 0, dx, fs, fun a => Bv G bm1 ad1 env1 (vs.zip ws ++ ts) a ∧ a ≠ ad1 0, vs, es, ds, rfl, g3, fun a z => R1.avdom z.1, fun z => z.2 rfl, ((argsB R1 hl zip_in e2).pure hmd).sub sb, g5.gr (.sub sb), ?_⟩
                  rw [← g4]
                  cases e3 : f ns es ds with
                  | ex _ _ => simp only [e3] at h
                  | bad => simp only [e3] at h
                  | ok p u =>
                    simp only [e3] at h
                    intro H' same ⟨dx', fs', k1, k2, k3⟩
                    have R2 := R1.pops
                    have eH : upd (fun a => if a = ad1 0 then H1 (ad1 0) else H' a) (ad1 0) (.ins C' dx' fs') = H' := by
                      funext a
                      by_cases n : a = ad1 0
                      · subst n; rw [upd_same, k1]
                      · rw [upd_ne n]; exact if_neg n
                    have R3 := R2.same (H' := fun a => if a = ad1 0 then H1 (ad1 0) else H' a) (fun a o e => by
                      by_cases n : a = ad1 0
                      · subst n; exact (if_pos rfl).trans e
                      · exact (if_neg n).trans (same a o n e))
                    have R4 := R3.wrO (y := .slf x C' p.1 p.2) (o := .ins C' dx' fs') e1 rfl rfl (fun B' g T' => by
                      refine ⟨g1, g2, dx', fs', upd_same, k2, ?_⟩
                      rw [eH]
                      refine k3.gr ⟨fun a o e _ => e, fun a z => ?_⟩
                      rcases g.bb a z with z | z
                      · by_cases n : a = ad1 0
                        · exact .inl (.inr n)
                        · refine .inl (.inl ⟨?_, n⟩)
                          exact z.imp (fun q => q) fun z => z.imp (fun q => q) fun z => z.imp (fun q => q) fun ⟨q, hq, r⟩ => ⟨q, List.mem_append_right _ hq, r⟩
                      · by_cases n : a = ad1 0
                        · exact .inl (.inr n)
                        · rw [if_neg n] at z
                          exact .inr z)
                    rw [eH] at R4
                    exact h σ H' ⟨ad1, bv1, bm1, R4⟩
              · simp only [if_neg hc] at h
            | _ => simp only [e1] at h
      · simp only [if_neg hc0] at h
    | _ => simp only [e0] at h
section
variable {X : Cx} {body : List Stmt} {st : Stmt} {sts : List Stmt} {m n : MS Unit}
theorem c_cons (h1 : PS X st (tS X.K boxNil W0 m)) (h2 : PSsA X body sts (tS X.K boxNil W0 n)) : PSsA X body (st :: sts) (tS X.K boxNil W0 (mSeq m n)) := by
  refine (PSsA.cons h1 h2).imp fun Dn σ H ⟨G, env, s, ts, R, cl, h⟩ => ?_
  refine ⟨G, env, s, ts, R, cl, ?_⟩
  unfold mSeq at h
  cases e : m env s with
  | nx env1 s1 =>
    simp only [e] at h
    exact fun σ' H' R' => ⟨G, env1, s1, ts, R', cl, h⟩
  | rt d env1 s1 => simp only [e] at h; exact h
  | rf d env1 s1 => simp only [e] at h; exact h
  | bk env1 s1 => simp only [e] at h; exact h
  | ct env1 s1 => simp only [e] at h; exact h
  | ex x env1 s1 => simp only [e] at h; exact h
  | bad => simp only [e] at h
theorem c_sup {C : Addr} {md : List Md} {f : List Str → List D → List D → FO Unit (List Str × List D)} {ms : MX Unit (List W)} (hmd : md.any Md.isB = false) (h : PSA X body st (tSup C (spS X.K C md f) (tDs X.K boxNil W0 ms))) : PSsA X body [st] (tS X.K boxNil W0 (mSup C md f ms)) :=
  (PSsA.one h).imp fun _ _ _ q => sup_fin hmd q
end
section
variable {P : Program} {w : World} {K : Frag} {mg : Str → Option Value} {base : Heap}
theorem fn_okIC {x qual : Str} {st : Stmt} {f C Dc cc cda : Addr} {fd : FuncData} {N ps : List Str} {k : Nat} {md : List Md} {m : MS Unit} {g : List D → FO Unit (List Str × List D)} (F : FunC P K x qual st f fd Dc cc cda) (Sc : NdefX.NScope N ps ["__class__"] (defScope st)) (hl : md.length + 1 = ps.length)
    (hg : ∀ y ds, (m (envI y C md (N.length - ps.length) ds) ()).foI y C = g ds)
    (hbody : ∀ (A : Around) (outer : List Env) (s : Shared) (H : Hp) (E : XK), Room k (A.deeper (NdefX.envF (nfC x qual st cc cda) f s.heap.objs.size)) →
      PSsA (NdefX.ncx CX0 P w K mg base N (nfC x qual st cc cda) f A outer s H E) (defBody st) (defBody st) (tS K boxNil W0 m)) : FnOk P w K mg base CX0 (k + 1) f fd ps (spI K C md g) := by
  have hN : ps.length ≤ N.length := by have := congrArg List.length Sc.pre; rw [List.length_take, List.length_append] at this; omega
  refine F.ok Sc (fun vs H Q E ⟨_, _, _, _, _, _, e, _, _, _, _, _, ar, _⟩ => by rw [e, List.length_cons, ar.len, hl]) fun A outer s H vs Q E hr ⟨y, dx, H1, B, rest, ds, ev, n1, n2, n3, eH, hB, ar, z⟩ => ?_
  subst ev eH
  have hv : rest.length = md.length := ar.len
  rw [← hg y ds] at z
  have sm : ∀ a o, H1 a = some o → upd (upd H1 dx (.own y)) y (.ins C dx []) a = some o := fun a o e => by
    rw [upd_ne (ne_of_none e n1), upd_ne (ne_of_none e n2)]; exact e
  refine ⟨_, hbody A outer s _ E hr, ⟨B, fun _ => False, H1, .non⟩, envI y C md (N.length - ps.length) ds, (), [], ?_, Cl.nil, ?_⟩
  · have hgo := envA_noB (T := fun _ => False) ar (N.length - ps.length)
    have own0 : ∀ (i : Nat) (u : Sl), (envI y C md (N.length - ps.length) ds)[i]? = some u → u.isOwn = true → i = 0 := fun i u e o => by
      cases i with
      | zero => rfl
      | succ i => rw [(hgo i u e).1] at o; cases o
    have est : L2.start N (.ref y :: rest) = some (.ref y) :: (rest.map some ++ List.replicate (N.length - ps.length) none) := by
      unfold L2.start
      rw [List.map_cons, List.cons_append, List.length_cons, hv, hl]
    have nO : ∀ a, Ow (fun _ => y) (envI y C md (N.length - ps.length) ds) [] a → a = y := fun a z => by
      rcases z with ⟨i, u, e, o, q⟩ | ⟨p, hp, _⟩
      · exact q.symm
      · cases hp
    have subB : ∀ a, Bv ⟨B, fun _ => False, H1, .non⟩ (fun _ => False) (fun _ => y) (envI y C md (N.length - ps.length) ds) [] a → B a ∨ H1 a = none := fun a z => z.imp (fun q => q) fun z => z.elim (fun z => z.elim) fun z => (nO a z) ▸ n1
    have subT : ∀ a, Tv (fun _ => False) (fun _ => y) (envI y C md (N.length - ps.length) ds) [] a → False ∨ H1 a = none := fun a z => z.imp (fun q => q) fun z => (nO a z) ▸ n1
    refine ⟨fun _ => y, .non, fun _ => False, ?_, fun a o e _ => sm a o e, fun a e => ?_, fun _ h => h, ⟨fun a z => z.elim, fun _ => ⟨rfl, rfl⟩⟩, hB, fun i u e o => ⟨n1, fun z => z⟩, fun p hp => (nomatch hp), fun i j u v ei ej oi oj _ => by rw [own0 i u ei oi, own0 j v ej oj], fun i u p e o hp => (nomatch hp), .nil, fun i u e => ?_, fun p hp => (nomatch hp)⟩
    · rw [est]
      unfold envI env0
      rw [List.length_cons, List.length_cons, List.length_append, List.length_append, List.length_map, List.length_replicate, List.length_replicate, envA_len ar]
    · show H1 a = none
      cases q : H1 a with
      | none => rfl
      | some o => rw [sm a o q] at e; cases e
    · rw [est]
      cases i with
      | zero =>
        have e : some (Sl.slf y C [] []) = some u := e
        cases e
        exact ⟨rfl, rfl, dx, [], upd_same, rfl, .nil⟩
      | succ i =>
        have q := (hgo i u e).2 (fun _ => False) B y (fun _ z => z) fun _ z => z
        exact q.gr ⟨fun a o e _ => sm a o e, subT⟩ ⟨fun a o e _ => sm a o e, subB⟩ fun ho _ _ => by rw [(hgo i u e).1] at ho; cases ho
  · cases e : m (envI y C md (N.length - ps.length) ds) () with
    | nx env1 s1 =>
      cases env1 with
      | nil => simp only [e, SO.foI] at z
      | cons sl env1 =>
        cases sl with
        | slf y' C' ns es =>
          simp only [e, SO.foI] at z
          by_cases hc : y' = y ∧ C' = C
          · rw [if_pos hc] at z
            obtain ⟨rfl, rfl⟩ := hc
            intro σ' H' ⟨ad, bv, bm, R⟩
            obtain ⟨fa, fσ, dx', fs, q1, q2, q3⟩ := R.sl 0 _ rfl
            rw [fa] at q1
            refine z H' (fun a o e => R.ext a o e fun z => z) ⟨dx', fs, q1, q2, q3.gr (.sub fun a h => ?_)⟩
            rcases h with h | h
            · exact .inl h
            · exact .inr (.inr (.inl ⟨0, _, rfl, rfl, fa.trans h.symm⟩))
          · rw [if_neg hc] at z; exact z.elim
        | _ => simp only [e, SO.foI] at z
    | _ => simp only [e, SO.foI] at z
end
end LM

/-! several classes at once -/
namespace LM
open PySem PySem.Spec PyProof.Rows L2
section
variable {X : Cx} {k : Nat} {f : Addr} {fd : FuncData} {ps : List Str} {sp : Sp}
theorem call_strP {P : Addr → Bool} (hS : ∀ C, P C = true → Spc X.K C "__str__" f) (hf : PySem.W.isFn X.K (.ref f) = true) (F : FnOk X.prog X.w X.K X.mg X.base CX0 k f fd ps sp) (hr : Room (k + 2) X.A) (hb : Binds X.K fd ps []) :
    CallR X (.type "str") (fun xs H Q => ∃ C, P C = true ∧ ∃ a dx fs, xs = [.ref a] ∧ H a = some (.ins C dx fs) ∧ sp [.ref a] H (fun v H' => ∃ y : Str, v = .str y ∧ Q (.str y) H') E0) := by
  intro pins s σ H xs us Q I r ⟨C, hP, h⟩
  exact call_strO (hS C hP) hf F hr hb pins s σ H xs us Q I r h
end
/-- str(o) -/
def mStrP {S : Type} (P : Addr → Bool) (f : List D → Unit → FO Unit D) (ma : MX S W) : MX S W := ma.bind fun w => fun env s => match w with
  | .v (.ins C' ns es) => if P C' = true then (match f [.ins C' ns es] () with
    | .ok (.str y) _ => .ok (.v (.str y)) env s
    | _ => .bad) else .bad
  | _ => .bad
section
variable {S : Type} {X : Cx} {I : BoxI S} {Wx : WX} {CX : CXT} {a b : Expr} {pos p : Pos} {ma mb : MX S W} {k : Nat} {fa C : Addr} {fd : FuncData} {ps : List Str}
theorem d_strP {f : List D → Unit → FO Unit D} {P : Addr → Bool} (hS : ∀ C, P C = true → Spc X.K C "__str__" fa) (hfn : PySem.W.isFn X.K (.ref fa) = true) (F : FnOk X.prog X.w X.K X.mg X.base CX0 k fa fd ps (spD boxNil X.K [.v] f)) (hr : Room (k + 2) X.A) (hb : Binds X.K fd ps []) (hg : Gl X "str") (hm : X.mg "str" = none) (hv : bootBuiltins "str" = some (.type "str")) (ha : PE X a (tD X.K I Wx ma))
    (he : starEach [a] X.env = (false, eval a X.env) :: starEach [] X.env := by rfl) (hpl : (backTo pos (starEach [] X.env)).any (·.1) = false := by rfl) : PE X (.Call (.Name "str" p) [a] [] pos) (tD X.K I Wx (mStrP P f ma)) := by
  refine PEimp (pe_callTy (call_strP hS hfn F hr hb) hg hm hv (a_cons (ms := mNil) ha a_nil he) (by decide) (by decide) he hpl) fun σ H Q ⟨G, env, s, ts, R, h⟩ => ?_
  refine ⟨G, env, s, ts, R, ?_⟩
  cases e : ma env s with
  | bad => simp only [mStrP, MX.bind, e, Out.bind] at h
  | ex x env1 s1 => simp only [mStrP, MX.bind, e, Out.bind] at h; simp only [mCons, MX.bind, e, Out.bind]; exact h
  | ok w env1 s1 =>
    simp only [mStrP, MX.bind, e, Out.bind] at h
    simp only [mCons, MX.bind, e, Out.bind, mNil]
    intro vs H' hl R1
    match vs, hl with
    | [x], _ =>
      cases w with
      | v d =>
        cases d with
        | ins C' ns es =>
          simp only at h
          by_cases hc : P C' = true
          · simp only [if_pos hc] at h
            obtain ⟨ad, bv, bm, R2⟩ := id R1
            have q : Rep X.K _ H' x (.ins C' ns es) := R2.tm _ List.mem_cons_self
            cases q with
            | ins n r e' q =>
              rename_i o dx fs _
              refine ⟨C', hc, o, dx, fs, rfl, r, ?_⟩
              refine call_finP (Wx := W0) (G := G) (σ := σ) (I := I) (s := s1) (ws := [.v (.ins C' ns es)]) (l := [(.ref o, .v (.ins C' ns es))]) (ts := ts) (env := env1) R2 rfl (fun p hp => List.mem_append_left _ hp) (fun _ _ _ z => z.elim) rfl ?_
              simp only [bindA, W.kp]
              cases e2 : f [.ins C' ns es] () with
              | bad => simp only [e2] at h
              | ex y s2 => simp only [e2] at h
              | ok d2 s2 =>
                cases d2 with
                | str m =>
                  simp only [e2] at h
                  intro v H3 R3
                  obtain ⟨ad3, bv3, bm3, R4⟩ := id R3
                  have q3 : Rep X.K _ H3 v (.str m) := R4.tm _ List.mem_cons_self
                  cases q3
                  exact ⟨m, rfl, h _ H3 R3⟩
                | _ => simp only [e2] at h
          · simp only [if_neg hc] at h
        | _ => simp only at h
      | _ => simp only at h
end
def pC (l : List Addr) (C : Addr) : Bool := l.contains C
def isL (l : List (Addr × Bool)) (C : Addr) : Option Bool := l.lookup C
section
variable {S : Type}
def mFldP {S : Type} (P : Addr → Bool) (f : Str) (ma : MX S W) : MX S W := ma.bind fun a => fun env s => match a with
  | .v (.ins C' ns ds) => if P C' = true then (match (ns.zip ds).lookup f with
    | some d => .ok (.v d) env s
    | none => .bad) else .bad
  | _ => .bad
end
section
variable {S : Type} {X : Cx} {I : BoxI S} {Wx : WX} {a : Expr} {pos : Pos} {ma : MX S W}
theorem d_fldP {P : Addr → Bool} {o : Expr} {f : Str} (ho : PE X o (tD X.K I Wx ma)) (hc : ∀ C, P C = true → Cls X.K C ∧ NoAttr X.K C f) (hb : attributeBase o f X.env (eval o X.env) = eval o X.env := by rfl) : PE X (.Attribute o f pos) (tD X.K I Wx (mFldP P f ma)) := by
  refine PEimp (pe_fld ho hb) fun σ H Q ⟨G, env, s, ts, R, h⟩ => ?_
  refine tD_bind (Z := ZD X.K I Wx G ts σ Q) R h (fun _ _ _ z => z) (fun z => z) fun w env1 s1 x H1 _ R1 z1 => ?_
  cases w with
  | v d =>
    cases d with
    | ins C' ns ds0 =>
      have z0 : ZD X.K I Wx G ts σ Q (if P C' = true then (match (ns.zip ds0).lookup f with
        | some d => .ok (.v d) env1 s1
        | none => .bad) else .bad) := z1
      clear z1
      split at z0
      · rename_i hp
        obtain ⟨ad, bv, bm, R2⟩ := id R1
        have q : Rep X.K _ H1 x (.ins C' ns ds0) := R2.tm _ List.mem_cons_self
        cases q with
        | ins n' r e q =>
          rename_i o dx fs
          cases e3 : (ns.zip ds0).lookup f with
          | none => rw [e3] at z0; exact z0.elim
          | some d =>
            rw [e3] at z0
            rw [e] at e3
            obtain ⟨v, e4, r4⟩ := fld_get q e3
            exact ⟨o, C', dx, fs, v, rfl, r, (hc C' hp).1, (hc C' hp).2, e4, z0 v H1 ⟨ad, bv, bm, (R2.pushV r4).less (.cons_cons _ sl1)⟩⟩
      · exact z0.elim
    | _ => exact z1.elim
  | _ => exact z1.elim
end
section
variable {X : Cx} {k : Nat} {f : Addr} {fd : FuncData} {ps : List Str} {sp : Sp}
theorem op_eqP2 {P : Addr → Bool} (hs : ∀ C, P C = true → PySem.W.findIn X.K (.ref C) "__eq__" = some (some (.ref f))) (hN : ∀ C C2, P C = true → P C2 = true → PySem.W.notFirst X.K C (.ref C2) = true) (hf : PySem.W.isFn X.K (.ref f) = true) (F : FnOk X.prog X.w X.K X.mg X.base CX0 k f fd ps sp) (hr : Room k X.A) (hb : Binds X.K fd ps []) :
    OpR X (compareOp .Eq) (fun x y H Q => ∃ C C2, P C = true ∧ P C2 = true ∧ ∃ a b dx dy fs gs, x = .ref a ∧ y = .ref b ∧ H a = some (.ins C dx fs) ∧ H b = some (.ins C2 dy gs) ∧ sp [.ref a, .ref b] H (fun v H' => ∃ r : Bool, v = .bl r ∧ Q (.bl r) H') E0) := by
  intro pins s σ H x y v u Q I rx ry hq
  obtain ⟨C, C2, hP, hP2, a, b, dx, dy, fs, gs, ex, ey, ha, hb', q⟩ := hq
  subst ex; subst ey
  obtain rfl : v = Value.ref a := rx
  obtain rfl : u = Value.ref b := ry
  obtain ⟨mA, J, _⟩ := ins_get I.hok ha
  obtain ⟨mB, J', _⟩ := ins_get I.hok hb'
  obtain ⟨od, J, _⟩ := J.look
  obtain ⟨od', J', _⟩ := J'.look
  obtain ⟨m, hF⟩ := I.fr
  show wpAny (model X.prog X.w) X.A (richCompare .Eq (.ref a) (.ref b)) (EP X pins σ Q) X.xe s
  refine PySem.W.cmp_K (op := .Eq) (tb := .ref C2) hr.units0 hF I.ok.mod.kin J J'.type (hN C C2 hP hP2) (hs C hP) hf ?_
  refine wpAny_mono (run_in0 (Er := X.xe) (vs := [.ref a, .ref b]) (us := [.ref a, .ref b]) F hr hb I (.cons rfl (.cons rfl .nil)) q) (fun z s' hz => ?_) fun _ _ e => e
  obtain ⟨y, H', I', ry, n, ey, q2⟩ := hz
  subst ey
  obtain rfl : z = Value.bool n := ry
  exact ⟨.bl n, H', I', rfl, q2⟩
end
/-- o == p -/
def mEqP {S : Type} (P : Addr → Bool) (f : List D → Unit → FO Unit D) (ma mb : MX S W) : MX S W := ma.bind fun w => mb.bind fun u => fun env s => match w with
  | .v (.ins C' ns es) => match u with
    | .v (.ins C2 ns2 es2) => if P C' = true ∧ P C2 = true then (match f [.ins C' ns es, .ins C2 ns2 es2] () with
      | .ok (.bl b) _ => .ok (.v (.bl b)) env s
      | _ => .bad) else .bad
    | _ => .bad
  | _ => .bad
section
variable {S : Type} {X : Cx} {I : BoxI S} {Wx : WX} {a b : Expr} {pos p : Pos} {ma mb : MX S W} {k : Nat} {fa : Addr} {fd : FuncData} {ps : List Str}
theorem eqP2_fin {P : Addr → Bool} {f : List D → Unit → FO Unit D} {σ : L2.St} {H : Hp} {Q : VK} (h : tD X.K I Wx (mEqP P f ma mb) σ H Q) : tOp (fun x y H Q => ∃ C C2, P C = true ∧ P C2 = true ∧ ∃ a b dx dy fs gs, x = .ref a ∧ y = .ref b ∧ H a = some (.ins C dx fs) ∧ H b = some (.ins C2 dy gs) ∧ spD boxNil X.K [.v, .v] f [.ref a, .ref b] H (fun v H' => ∃ r : Bool, v = .bl r ∧ Q (.bl r) H') E0) (tD X.K I Wx ma) (tD X.K I Wx mb) σ H Q := by
  obtain ⟨G, env, s, ts, R, h⟩ := h
  refine two_of (r := fun x y H Q => ∃ C C2, P C = true ∧ P C2 = true ∧ ∃ a b dx dy fs gs, x = .ref a ∧ y = .ref b ∧ H a = some (.ins C dx fs) ∧ H b = some (.ins C2 dy gs) ∧ spD boxNil X.K [.v, .v] f [.ref a, .ref b] H (fun v H' => ∃ r : Bool, v = .bl r ∧ Q (.bl r) H') E0) R h fun x y w u env1 s1 H1 R1 z1 => ?_
  cases w with
  | v d =>
    cases d with
    | ins C1 ns es =>
      cases u with
      | v d2 =>
        cases d2 with
        | ins C2 ns2 es2 =>
          by_cases hc : P C1 = true ∧ P C2 = true
          · simp only [if_pos hc] at z1
            obtain ⟨ad, bv, bm, R2⟩ := id R1
            have q : Rep X.K _ H1 x (.ins C1 ns es) := R2.tm (x, .v (.ins C1 ns es)) (.tail _ List.mem_cons_self)
            have q' : Rep X.K _ H1 y (.ins C2 ns2 es2) := R2.tm (y, .v (.ins C2 ns2 es2)) List.mem_cons_self
            cases q with
            | ins n r e' q =>
              rename_i o dx fs
              cases q' with
              | ins n2 r2 e2' q2 =>
                rename_i o2 dx2 fs2
                refine ⟨C1, C2, hc.1, hc.2, o, o2, dx, dx2, fs, fs2, rfl, rfl, r, r2, ?_⟩
                refine call_finP (Wx := W0) (G := G) (σ := σ) (I := I) (s := s1) (ws := [.v (.ins C1 ns es), .v (.ins C2 ns2 es2)]) (l := [(.ref o2, .v (.ins C2 ns2 es2)), (.ref o, .v (.ins C1 ns es))]) (ts := ts) (env := env1) R2 rfl (fun p hp => ?_) (fun _ _ _ z => z.elim) rfl ?_
                · simp only [List.zip_cons_cons, List.zip_nil_right, List.mem_cons, List.not_mem_nil, or_false] at hp
                  rcases hp with rfl | rfl
                  · simp
                  · simp
                · simp only [bindA, W.kp]
                  cases e2 : f [.ins C1 ns es, .ins C2 ns2 es2] () with
                  | bad => simp only [e2] at z1; exact z1.elim
                  | ex y s2 => simp only [e2] at z1; exact z1.elim
                  | ok d2 s2 =>
                    cases d2 with
                    | bl m =>
                      simp only [e2] at z1
                      intro v H3 R3
                      obtain ⟨ad3, bv3, bm3, R4⟩ := id R3
                      have q3 : Rep X.K _ H3 v (.bl m) := R4.tm _ List.mem_cons_self
                      cases q3
                      exact ⟨m, rfl, z1 _ H3 R3⟩
                    | _ => simp only [e2] at z1; exact z1.elim
          · simp only [if_neg hc] at z1; exact z1.elim
        | _ => exact z1.elim
      | _ => exact z1.elim
    | _ => exact z1.elim
  | _ => exact z1.elim
theorem d_eqP2 {P : Addr → Bool} {f : List D → Unit → FO Unit D} (hS : ∀ C, P C = true → Spc X.K C "__eq__" fa) (hN : ∀ C C2, P C = true → P C2 = true → PySem.W.notFirst X.K C (.ref C2) = true) (hfn : PySem.W.isFn X.K (.ref fa) = true) (F : FnOk X.prog X.w X.K X.mg X.base CX0 k fa fd ps (spD boxNil X.K [.v, .v] f)) (hr : Room k X.A) (hb : Binds X.K fd ps [])
    (ha : PE X a (tD X.K I Wx ma)) (hi : PE X b (tD X.K I Wx mb)) (hm : behindInMarks .Eq b = false := by first | exact nomark _ | with_unfolding_all rfl) : PE X (.Compare a [.Eq] [b] pos) (tD X.K I Wx (mEqP P f ma mb)) := by
  exact PEimp (pe_cmpR (op_eqP2 (fun C h => (hS C h).at_) hN hfn F hr hb) ha hi hm) fun σ H Q h => eqP2_fin h
theorem t_eqP2 {P : Addr → Bool} {f : List D → Unit → FO Unit D} (hS : ∀ C, P C = true → Spc X.K C "__eq__" fa) (hN : ∀ C C2, P C = true → P C2 = true → PySem.W.notFirst X.K C (.ref C2) = true) (hfn : PySem.W.isFn X.K (.ref fa) = true) (F : FnOk X.prog X.w X.K X.mg X.base CX0 k fa fd ps (spD boxNil X.K [.v, .v] f)) (hr : Room k X.A) (hb : Binds X.K fd ps [])
    (ha : PE X a (tD X.K I Wx ma)) (hi : PE X b (tD X.K I Wx mb)) (hm : behindInMarks .Eq b = false := by first | exact nomark _ | with_unfolding_all rfl) : PT X (.Compare a [.Eq] [b] pos) (LM.tB X.K I Wx (mTest (mEqP P f ma mb))) := by
  exact PTimp (pt_cmpR (op_eqP2 (fun C h => (hS C h).at_) hN hfn F hr hb) ha hi hm) fun σ H Q ⟨G, env, s, ts, R, h⟩ => eqP2_fin (test_of (X := X) R h)
end
end LM

namespace LM
open PySem PySem.Spec PyProof.Rows L2 PySem.W
theorem isL_nil {Q : Addr → Bool → Prop} : ∀ C b, isL [] C = some b → Q C b := fun C b e => by cases e
theorem isL_cons {Q : Addr → Bool → Prop} {c : Addr} {b0 : Bool} {l : List (Addr × Bool)} (h : Q c b0) (hs : ∀ C b, isL l C = some b → Q C b) : ∀ C b, isL ((c, b0) :: l) C = some b → Q C b := fun C b e => by
  unfold isL at e
  rw [List.lookup] at e
  split at e
  · rename_i q
    cases e
    rw [beq_iff_eq.mp q]; exact h
  · exact hs C b e
theorem pC_nil {Q : Addr → Prop} : ∀ C, pC [] C = true → Q C := fun C e => by cases e
theorem pC_cons {Q : Addr → Prop} {c : Addr} {l : List Addr} (h : Q c) (hs : ∀ C, pC l C = true → Q C) : ∀ C, pC (c :: l) C = true → Q C := fun C e => by
  unfold pC at e
  rw [List.contains_cons, Bool.or_eq_true] at e
  rcases e with e | e
  · rw [beq_iff_eq.mp e]; exact h
  · exact hs C e
theorem pC_two {Q : Addr → Addr → Prop} {l l2 : List Addr} (h : ∀ C, pC l C = true → ∀ C2, pC l2 C2 = true → Q C C2) : ∀ C C2, pC l C = true → pC l2 C2 = true → Q C C2 := fun C C2 a b => h C a C2 b
def isM (l : List (Addr × Bool)) (d : D) : Option Bool := match d with
  | .ins C' _ _ => isL l C'
  | d => d.ty.map fun _ => false
theorem isM_ok {K : Frag} {C : Addr} {l : List (Addr × Bool)} (hb : ∀ t ∈ ["NoneType", "bool", "int", "str", "tuple", "list"], kitAny K (.type t) [.ref C] = some false) (hl : ∀ C' b, isL l C' = some b → InsT K C' ∧ kitAny K (.ref C') [.ref C] = some b) : IsF K [.ref C] (isM l) := by
  intro B H v d b hv e
  cases d with
  | ins C' ns ds =>
    obtain ⟨T, k⟩ := hl C' b e
    obtain ⟨a, dx, fs, e1, r, _⟩ := Top.ins hv
    subst e1
    exact ⟨.ref C', .base (.ins r T.cl T.ha T.hn T.ht T.hm), k⟩
  | _ =>
    simp only [isM, D.ty, Option.map_some, Option.some.injEq] at e
    subst e
    exact ⟨_, tyx_of hv rfl, hb _ (by simp)⟩
section
variable {prog : Program} {w : World} {A : Around} {E : Value → Shared → Prop} {s : Shared} {K : Frag} {x y C f : Addr} {ox : Obj} {od : Option Obj}
theorem ne_own2 {C2 : Addr} (hN : notFirst K C (.ref C2) = true) {oy : Obj} {dy : Option Obj} {Q : Value → Shared → Prop} (hu : A.units < cLine) (hu1 : A.in1.units < cLine) (Y : K.In s.heap) (J : InstAt s.heap x ox C od) (J' : InstAt s.heap y oy C2 dy) (hm : mroIn K C (.type "object") = some true) (hn : findIn K (.ref C) "__ne__" = some (some (.builtin "object.__ne__")))
    (hs : findIn K (.ref C) "__eq__" = some (some (.ref f))) (hf : isFn K (.ref f) = true) (h : wpAny (model prog w) A.in1 (call (.ref f) [.ref x, .ref y]) (fun v s' => ∃ b, v = .bool b ∧ Q (.bool (!b)) s') E s) :
    wpAny (model prog w) A (richCompare .NotEq (.ref x) (.ref y)) Q E s := by
  have one : wpAny (model prog w) A (tryCompare (.ref x) "__ne__" (.ref y)) (fun r s' => ∃ v, r = some v ∧ Q v s') E s := by
    unfold tryCompare
    refine wpAny_bind (ifBound_ne Y J hn (wpAny_call (codeAny_call_builtin F.cmp_object.ne.plain F.cmpEntry_ne (check_slot F.cmpKind_ne F.cmpSplit_ne (J.type.andThen (looks_mroIn Y hm)) (F.cmpArgs_ne _ _)
      (objNe_in (A := A.in1) hu1 Y J hs hf (wpAny_mono h (fun v s' hv => ?_) fun _ _ e => e))))))
    obtain ⟨b, rfl, hq⟩ := hv
    first | exact ⟨b, rfl, wpAny_pure ⟨_, rfl, hq⟩⟩ | exact ⟨b, rfl, wpAny_pure (wpAny_pure ⟨_, rfl, hq⟩)⟩
  unfold richCompare
  simp only [oneThing_ref]
  refine wpAny_holding (wpAny_bind (wpAny_cRoomFor hu ?_))
  refine wpAny_bind (J.type.here (wpAny_bind (J'.type.here ?_)))
  have fin : wpAny (model prog w) A (tryCompare (.ref x) "__ne__" (.ref y)) (fun r s' => ∃ v, r = some v ∧ Q v s') E s := one
  split
  · rename_i q
    have e : subIn K (.ref C2) (.ref C) = some false := by
      rcases Bool.or_eq_true_iff.mp hN with e | e
      · rw [beq_iff_eq.mp e] at q; simp at q
      · exact beq_iff_eq.mp e
    refine wpAny_bind ((looks_subIn Y e).here ?_)
    simp only [Bool.false_eq_true, if_false]
    refine wpAny_bind (m := tryCompare (.ref x) _ (.ref y)) (wpAny_mono fin (fun r s' z => ?_) fun _ _ e => e)
    obtain ⟨v, rfl, hq⟩ := z
    exact wpAny_pure hq
  · refine wpAny_bind (wpAny_pure ?_)
    simp only [Bool.false_eq_true, if_false]
    refine wpAny_bind (m := tryCompare (.ref x) _ (.ref y)) (wpAny_mono fin (fun r s' z => ?_) fun _ _ e => e)
    obtain ⟨v, rfl, hq⟩ := z
    exact wpAny_pure hq
end
section
variable {X : Cx} {k : Nat} {f : Addr} {fd : FuncData} {ps : List Str} {sp : Sp}
theorem op_neP2 {P : Addr → Bool} (T : ∀ C, P C = true → InsT X.K C) (hn : ∀ C, P C = true → PySem.W.findIn X.K (.ref C) "__ne__" = some (some (.builtin "object.__ne__"))) (hs : ∀ C, P C = true → PySem.W.findIn X.K (.ref C) "__eq__" = some (some (.ref f))) (hN : ∀ C C2, P C = true → P C2 = true → PySem.W.notFirst X.K C (.ref C2) = true) (hf : PySem.W.isFn X.K (.ref f) = true) (F : FnOk X.prog X.w X.K X.mg X.base CX0 k f fd ps sp) (hr : Room (k + 1) X.A) (hb : Binds X.K fd ps []) :
    OpR X (compareOp .NotEq) (fun x y H Q => ∃ C C2, P C = true ∧ P C2 = true ∧ ∃ a b dx dy fs gs, x = .ref a ∧ y = .ref b ∧ H a = some (.ins C dx fs) ∧ H b = some (.ins C2 dy gs) ∧ sp [.ref a, .ref b] H (fun v H' => ∃ r : Bool, v = .bl r ∧ Q (.bl (!r)) H') E0) := by
  intro pins s σ H x y v u Q I rx ry hq
  obtain ⟨C, C2, hP, hP2, a, b, dx, dy, fs, gs, ex, ey, ha, hb', q⟩ := hq
  subst ex; subst ey
  obtain rfl : v = Value.ref a := rx
  obtain rfl : u = Value.ref b := ry
  obtain ⟨mA, J, _⟩ := ins_get I.hok ha
  obtain ⟨mB, J', _⟩ := ins_get I.hok hb'
  obtain ⟨od, J, _⟩ := J.look
  obtain ⟨od', J', _⟩ := J'.look
  show wpAny (model X.prog X.w) X.A (richCompare .NotEq (.ref a) (.ref b)) (EP X pins σ Q) X.xe s
  refine ne_own2 (hN C C2 hP hP2) hr.units0 hr.in1.units0 I.kIn J J' (T C hP).hm (hn C hP) (hs C hP) hf ?_
  refine wpAny_mono (run_in1 (Er := X.xe) (vs := [.ref a, .ref b]) (us := [.ref a, .ref b]) F hr hb I (.cons rfl (.cons rfl .nil)) q) (fun z s' hz => ?_) fun _ _ e => e
  obtain ⟨y, H', I', ry, n, ey, q2⟩ := hz
  subst ey
  obtain rfl : z = Value.bool n := ry
  exact ⟨n, rfl, .bl (!n), H', I', rfl, q2⟩
end
/-- o != p -/
def mNeP {S : Type} (P : Addr → Bool) (f : List D → Unit → FO Unit D) (ma mb : MX S W) : MX S W := ma.bind fun w => mb.bind fun u => fun env s => match w with
  | .v (.ins C' ns es) => match u with
    | .v (.ins C2 ns2 es2) => if P C' = true ∧ P C2 = true then (match f [.ins C' ns es, .ins C2 ns2 es2] () with
      | .ok (.bl b) _ => .ok (.v (.bl (!b))) env s
      | _ => .bad) else .bad
    | _ => .bad
  | _ => .bad
section
variable {S : Type} {X : Cx} {I : BoxI S} {Wx : WX} {a b : Expr} {pos p : Pos} {ma mb : MX S W} {k : Nat} {fa : Addr} {fd : FuncData} {ps : List Str}
theorem neP2_fin {P : Addr → Bool} {f : List D → Unit → FO Unit D} {σ : L2.St} {H : Hp} {Q : VK} (h : tD X.K I Wx (mNeP P f ma mb) σ H Q) : tOp (fun x y H Q => ∃ C C2, P C = true ∧ P C2 = true ∧ ∃ a b dx dy fs gs, x = .ref a ∧ y = .ref b ∧ H a = some (.ins C dx fs) ∧ H b = some (.ins C2 dy gs) ∧ spD boxNil X.K [.v, .v] f [.ref a, .ref b] H (fun v H' => ∃ r : Bool, v = .bl r ∧ Q (.bl (!r)) H') E0) (tD X.K I Wx ma) (tD X.K I Wx mb) σ H Q := by
  obtain ⟨G, env, s, ts, R, h⟩ := h
  refine two_of (r := fun x y H Q => ∃ C C2, P C = true ∧ P C2 = true ∧ ∃ a b dx dy fs gs, x = .ref a ∧ y = .ref b ∧ H a = some (.ins C dx fs) ∧ H b = some (.ins C2 dy gs) ∧ spD boxNil X.K [.v, .v] f [.ref a, .ref b] H (fun v H' => ∃ r : Bool, v = .bl r ∧ Q (.bl (!r)) H') E0) R h fun x y w u env1 s1 H1 R1 z1 => ?_
  cases w with
  | v d =>
    cases d with
    | ins C1 ns es =>
      cases u with
      | v d2 =>
        cases d2 with
        | ins C2 ns2 es2 =>
          by_cases hc : P C1 = true ∧ P C2 = true
          · simp only [if_pos hc] at z1
            obtain ⟨ad, bv, bm, R2⟩ := id R1
            have q : Rep X.K _ H1 x (.ins C1 ns es) := R2.tm (x, .v (.ins C1 ns es)) (.tail _ List.mem_cons_self)
            have q' : Rep X.K _ H1 y (.ins C2 ns2 es2) := R2.tm (y, .v (.ins C2 ns2 es2)) List.mem_cons_self
            cases q with
            | ins n r e' q =>
              rename_i o dx fs
              cases q' with
              | ins n2 r2 e2' q2 =>
                rename_i o2 dx2 fs2
                refine ⟨C1, C2, hc.1, hc.2, o, o2, dx, dx2, fs, fs2, rfl, rfl, r, r2, ?_⟩
                refine call_finP (Wx := W0) (G := G) (σ := σ) (I := I) (s := s1) (ws := [.v (.ins C1 ns es), .v (.ins C2 ns2 es2)]) (l := [(.ref o2, .v (.ins C2 ns2 es2)), (.ref o, .v (.ins C1 ns es))]) (ts := ts) (env := env1) R2 rfl (fun p hp => ?_) (fun _ _ _ z => z.elim) rfl ?_
                · simp only [List.zip_cons_cons, List.zip_nil_right, List.mem_cons, List.not_mem_nil, or_false] at hp
                  rcases hp with rfl | rfl
                  · simp
                  · simp
                · simp only [bindA, W.kp]
                  cases e2 : f [.ins C1 ns es, .ins C2 ns2 es2] () with
                  | bad => simp only [e2] at z1; exact z1.elim
                  | ex y s2 => simp only [e2] at z1; exact z1.elim
                  | ok d2 s2 =>
                    cases d2 with
                    | bl m =>
                      simp only [e2] at z1
                      intro v H3 R3
                      obtain ⟨ad3, bv3, bm3, R4⟩ := id R3
                      have q3 : Rep X.K _ H3 v (.bl m) := R4.tm _ List.mem_cons_self
                      cases q3
                      exact ⟨m, rfl, z1 _ H3 ⟨ad3, bv3, bm3, R4.pop.pushV (.bl _)⟩⟩
                    | _ => simp only [e2] at z1; exact z1.elim
          · simp only [if_neg hc] at z1; exact z1.elim
        | _ => exact z1.elim
      | _ => exact z1.elim
    | _ => exact z1.elim
  | _ => exact z1.elim
theorem d_neP2 {P : Addr → Bool} {f : List D → Unit → FO Unit D} (T : ∀ C, P C = true → InsT X.K C) (hn : ∀ C, P C = true → PySem.W.findIn X.K (.ref C) "__ne__" = some (some (.builtin "object.__ne__"))) (hS : ∀ C, P C = true → Spc X.K C "__eq__" fa) (hN : ∀ C C2, P C = true → P C2 = true → PySem.W.notFirst X.K C (.ref C2) = true) (hfn : PySem.W.isFn X.K (.ref fa) = true) (F : FnOk X.prog X.w X.K X.mg X.base CX0 k fa fd ps (spD boxNil X.K [.v, .v] f)) (hr : Room (k + 1) X.A) (hb : Binds X.K fd ps [])
    (ha : PE X a (tD X.K I Wx ma)) (hi : PE X b (tD X.K I Wx mb)) (hm : behindInMarks .NotEq b = false := by first | exact nomark _ | with_unfolding_all rfl) : PE X (.Compare a [.NotEq] [b] pos) (tD X.K I Wx (mNeP P f ma mb)) := by
  exact PEimp (pe_cmpR (op_neP2 T hn (fun C h => (hS C h).at_) hN hfn F hr hb) ha hi hm) fun σ H Q h => neP2_fin h
theorem t_neP2 {P : Addr → Bool} {f : List D → Unit → FO Unit D} (T : ∀ C, P C = true → InsT X.K C) (hn : ∀ C, P C = true → PySem.W.findIn X.K (.ref C) "__ne__" = some (some (.builtin "object.__ne__"))) (hS : ∀ C, P C = true → Spc X.K C "__eq__" fa) (hN : ∀ C C2, P C = true → P C2 = true → PySem.W.notFirst X.K C (.ref C2) = true) (hfn : PySem.W.isFn X.K (.ref fa) = true) (F : FnOk X.prog X.w X.K X.mg X.base CX0 k fa fd ps (spD boxNil X.K [.v, .v] f)) (hr : Room (k + 1) X.A) (hb : Binds X.K fd ps [])
    (ha : PE X a (tD X.K I Wx ma)) (hi : PE X b (tD X.K I Wx mb)) (hm : behindInMarks .NotEq b = false := by first | exact nomark _ | with_unfolding_all rfl) : PT X (.Compare a [.NotEq] [b] pos) (LM.tB X.K I Wx (mTest (mNeP P f ma mb))) := by
  exact PTimp (pt_cmpR (op_neP2 T hn (fun C h => (hS C h).at_) hN hfn F hr hb) ha hi hm) fun σ H Q ⟨G, env, s, ts, R, h⟩ => neP2_fin (test_of (X := X) R h)
end
end LM

/-! len(set(xs)) of strings -/
namespace LM
open PySem PySem.Spec PyProof.Rows L2
/-- each one once -/
def dd (l : List Str) : List Str := l.foldl (fun acc x => if x ∈ acc then acc else acc ++ [x]) []
theorem dd_snoc (l : List Str) (x : Str) : dd (l ++ [x]) = if x ∈ dd l then dd l else dd l ++ [x] := by
  unfold dd; rw [List.foldl_append]; rfl
theorem mem_ddA (x : Str) : ∀ (l acc : List Str), (x ∈ l.foldl (fun acc y => if y ∈ acc then acc else acc ++ [y]) acc) ↔ (x ∈ acc ∨ x ∈ l)
  | [], acc => by simp
  | y :: l, acc => by
    rw [List.foldl_cons, mem_ddA x l]
    by_cases h : y ∈ acc
    · rw [if_pos h, List.mem_cons]
      constructor
      · rintro (z | z)
        · exact .inl z
        · exact .inr (.inr z)
      · rintro (z | rfl | z)
        · exact .inl z
        · exact .inl h
        · exact .inr z
    · rw [if_neg h, List.mem_append, List.mem_singleton, List.mem_cons, or_assoc]
theorem mem_dd {x : Str} {l : List Str} : x ∈ dd l ↔ x ∈ l := by
  unfold dd; rw [mem_ddA]; simp
theorem dd_le (l : List Str) : (dd l).length ≤ l.length := by
  have h : ∀ (l acc : List Str), (l.foldl (fun acc y => if y ∈ acc then acc else acc ++ [y]) acc).length ≤ acc.length + l.length := by
    intro l
    induction l with
    | nil => intro acc; simp
    | cons y l ih =>
      intro acc
      rw [List.foldl_cons, List.length_cons]
      refine Nat.le_trans (ih _) ?_
      split
      · omega
      · rw [List.length_append, List.length_singleton]; omega
  have := h l []
  simpa [dd] using this
def inB (l : List Str) (k : Str) : Bool := decide (k ∈ l)
section
variable {prog : Program} {w : World} {A : Around} {R : Result → Shared → Prop} {I : Addr} {fp wr : List Addr} {G : Array GenState → Array GenState → Prop} {n : Nat} {P : Nat → Value → Prop} {St : Nat → Shared → Prop}
theorem set_fill (W : WalksS prog w A.in1 I fp wr G n P St) (sa : Addr) (nf : sa ∉ fp) (xs : List Str) (hn : xs.length = n) (few : n ≤ 1000) (vals : ∀ i v, P i v → ∃ t, v = .str (xs.getD i Str.empty) t) :
    ∀ (d i : Nat) (s : Shared), i + d = n → St i s → s.heap.SetOf (strKind prog w) sa (inB (xs.take i)) (dd (xs.take i)).length →
      (∀ s', Moved (sa :: wr) G s s' → s'.heap.SetOf (strKind prog w) sa (inB xs) (dd xs).length → R (.ok (.ret .none)) s') → codeAny (model prog w) A (.builtin "set.update.loop" ⟨[.ref sa, .ref I], []⟩) R s := by
  have nw : sa ∉ wr := fun z => nf (W.sub _ z)
  have up : ∀ a ∈ wr, a ∈ sa :: wr := fun a z => .tail _ z
  have keep : ∀ {h h' : Heap} {S : Str → Bool} {m : Nat}, h.SetOf (strKind prog w) sa S m → (∀ o, h.get? sa = some o → h'.get? sa = some o) → h'.SetOf (strKind prog w) sa S m := fun ⟨o, es, ep, tb, ho, r⟩ k => ⟨o, es, ep, tb, k o ho, r⟩
  intro d
  induction d with
  | zero =>
    intro i s hi st hS fin
    obtain rfl : i = n := by omega
    refine codeAny_builtin F.entry_set_update_loop (by
      rw [Around.under_plainId F.plain_set_update_loop _]
      show wpAny _ A.in1 (pyNext (.ref I) >>= _) _ _ s
      refine wpAny_bind (W.done s _ _ st fun s' hm => ?_)
      show wpAny _ A.in1 (ret Value.none) _ _ s'
      have e : xs.take i = xs := List.take_of_length_le (by omega)
      rw [e] at hS
      exact wpAny_pure (fin s' (hm.mono up) (keep hS fun o ho => hm.heap sa o nw ho)))
  | succ d ih =>
    intro i s hi st hS fin
    refine codeAny_builtin F.entry_set_update_loop (by
      rw [Around.under_plainId F.plain_set_update_loop _]
      show wpAny _ A.in1 (pyNext (.ref I) >>= _) _ _ s
      refine wpAny_bind (W.item i s _ _ (by omega) st fun v s' hP st' hm => ?_)
      obtain ⟨t, rfl⟩ := vals i v hP
      have hS' := keep hS fun o ho => hm.heap sa o nw ho
      have hlt : i < xs.length := by omega
      have ex : xs.getD i Str.empty = xs[i] := by rw [List.getD_eq_getElem?_getD, List.getElem?_eq_getElem hlt]; rfl
      rw [ex]
      show wpAny _ A.in1 (holding [Value.str xs[i] t] (setAdd sa (.str xs[i] t)) >>= _) _ _ s'
      refine wpAny_bind (wpAny_holding (by
        unfold setAdd
        refine wpAny_holding (wpAny_bind ((strKind prog w).pyHash (k := xs[i]) (strKind_is _ _ _ _) ?_))
        have room : (dd (xs.take i)).length + 1 < scanBound := by have := dd_le (xs.take i); rw [List.length_take] at this; unfold scanBound; omega
        refine wpAny_setAddHashed_of (knd := strKind prog w) (s := { s' with toks := s'.toks + 1 }) (strKind_is _ _ _ _) rfl hS' room fun h' hsb hS2 => ?_
        have e2 : xs.take (i + 1) = xs.take i ++ [xs[i]] := by rw [List.take_add_one, List.getElem?_eq_getElem hlt]; rfl
        have hS3 : h'.SetOf (strKind prog w) sa (inB (xs.take (i + 1))) (dd (xs.take (i + 1))).length := by
          refine SetOf_congr hS2 (fun k' => ?_) ?_
          · rw [e2]
            show (decide (k' ∈ xs.take i) || decide (k' = xs[i])) = decide (k' ∈ xs.take i ++ [xs[i]])
            rw [Bool.eq_iff_iff]
            simp only [Bool.or_eq_true, decide_eq_true_eq, List.mem_append, List.mem_singleton]
          · rw [e2, dd_snoc]
            by_cases hm2 : xs[i] ∈ xs.take i
            · rw [if_pos (mem_dd.mpr hm2), if_pos (show inB (xs.take i) xs[i] = true from decide_eq_true hm2)]
            · rw [if_neg (fun z => hm2 (mem_dd.mp z)), if_neg (show ¬ inB (xs.take i) xs[i] = true from fun z => hm2 (of_decide_eq_true z)), List.length_append, List.length_singleton]
        refine wpAny_pure ⟨plainId_quiet F.plain_set_update_loop _, ih (i + 1) _ (by omega) (W.frame _ s' _ _ st' (Nat.le_succ _) fun b hb o e => (hsb.2 b fun z => nf (z ▸ hb)).trans e) hS3 fun s'' hm'' hS'' => ?_⟩
        exact fin s'' (Moved.trans W.gtrans ((hm.mono up).then_heap (Nat.le_succ _) fun b o hb e => (hsb.2 b fun z => hb (z ▸ List.mem_cons_self)).trans e) hm'') hS'')))
end
section
variable {prog : Program} {w : World} {A : Around} {E : Value → Shared → Prop} {s : Shared}
abbrev eSet (led : Bool) : Obj := { cls := .type "set", dict := none, data := .set #[] 0 (.fresh 0 0 led) }
theorem strs_get : ∀ {us : List Value} {xs : List Str}, StrsAre us xs → us.length = xs.length ∧ ∀ (i : Nat) (v : Value), us[i]? = some v → ∃ t, v = .str (xs.getD i Str.empty) t
  | _, _, .nil => ⟨rfl, fun i v h => by simp at h⟩
  | _, _, .cons n t r => by
    obtain ⟨e, ih⟩ := strs_get r
    refine ⟨by rw [List.length_cons, List.length_cons, e], fun i v h => ?_⟩
    cases i with
    | zero => simp at h; exact ⟨t, by rw [← h]; rfl⟩
    | succ i => exact ih i v (by simpa using h)
/-- what set.__init__ leaves -/
def Filled (prog : Program) (w : World) (s : Shared) (xs : List Str) (s2 : Shared) : Prop := ∃ h' tk, s2 = { s with heap := h', toks := tk } ∧ h'.SetOf (strKind prog w) s.heap.objs.size (inB xs) (dd xs).length ∧ ∀ b o, b < s.heap.objs.size → s.heap.get? b = some o → h'.get? b = some o
theorem init_fill {l : Addr} {items : Array Value} {xs : List Str} (led : Bool) (hh : A.handled = none) (hl : s.heap.IsList l items) (hi : StrsAre items.toList xs) (few : xs.length ≤ 1000) (T : Fin → Shared → Prop) (hT : ∀ s2, Filled prog w s xs s2 → T (.done (.ret .none)) s2) :
    wpAny (model prog w) A.in1.in1 (Builtin.«set.__init__» ⟨[.ref s.heap.objs.size, .ref l], []⟩) T E { s with heap := s.heap.push (eSet led) } := by
  obtain ⟨⟨c1, d1, dt, sl⟩, hol, e1, n1, e2⟩ := hl
  simp only at e1 e2
  subst e1; subst e2
  have q1 : (s.heap.push (eSet led)).get? l = some { cls := .type "list", dict := d1, data := .seq items n1, slots := sl } := Heap.get?_push_of_some _ hol
  have q2 : (s.heap.push (eSet led)).IsList l items := ⟨_, q1, rfl, n1, rfl⟩
  have q3 : (s.heap.push (eSet led)).get? s.heap.objs.size = some (eSet led) := Heap.get?_push_size _ rfl
  have z1 := PySem.F.sub_list_set; have z2 := PySem.F.sub_list_frozenset; have z3 : (Value.type "list" == Value.type "dict") = false := by decide
  unfold Builtin.«set.__init__» noKeywords Builtin.Frozenset.updateFrom
  generalize hp : pyIter = walkIt
  wp_walk
  subst hp
  refine wpAny_pyIter_list q2 (wpAny_bind (wpAny_runValue ?_))
  have lt : l < s.heap.objs.size := Heap.lt_size hol
  have hh' : A.in1.in1.in1.handled = none := by simp [hh]
  have ne1 : l ≠ (s.heap.push (eSet led)).objs.size := by rw [Heap.size_push]; exact Nat.ne_of_lt (Nat.lt_succ_of_lt lt)
  have ne2 : s.heap.objs.size ∉ [(s.heap.push (eSet led)).objs.size, l] := fun z => by
    rw [Heap.size_push] at z
    rcases List.mem_cons.mp z with z | z
    · exact Nat.ne_of_lt (Nat.lt_succ_self _) z
    · rcases List.mem_cons.mp z with z | z
      · exact Nat.ne_of_gt lt z
      · cases z
  obtain ⟨len, vals⟩ := strs_get hi
  have len' : xs.length = items.size := by rw [← len, Array.length_toList]
  refine set_fill ((Walks.list hh' _ l ne1 items).toS) s.heap.objs.size ne2 xs len' (by omega) (fun i v hv => vals i v (by rw [Array.getElem?_toList]; exact hv)) items.size 0 _ (by omega) ⟨⟨_, Heap.get?_push_size _ rfl, rfl, rfl⟩, (q2.push _)⟩ ?hA0 ?hB0
  case hA0 =>
    have g : ((s.heap.push (eSet led)).push { cls := .type "list_iterator", data := .fields #[.ref l, .int 0 0] }).get? s.heap.objs.size = some (eSet led) := Heap.get?_push_of_some _ q3
    exact PyProof.Rows.SetOf_congr ((setObjOf_fresh (knd := strKind prog w) led).setOf g (by unfold scanBound; omega)) (fun _ => rfl) rfl
  case hB0 =>
    rintro ⟨h', g', dr, tk, os'⟩ hm hS
    have a1 : g' = s.gens := hm.gens; have a2 : dr = s.drawn := hm.drawn; have a3 : os' = s.os := hm.os
    subst a1; subst a2; subst a3
    show wpAny _ _ _ _ _ _
    refine wpAny_pure ?_
    show wpAny _ _ (ret Value.none) _ _ _
    refine wpAny_pure (hT _ ⟨h', tk, rfl, hS, fun b o hb e => hm.heap b o (fun z => ?_) (Heap.get?_push_of_some _ (Heap.get?_push_of_some _ e))⟩)
    rw [Heap.size_push] at z
    rcases List.mem_cons.mp z with z | z
    · exact Nat.ne_of_lt hb z
    · rcases List.mem_cons.mp z with z | z
      · exact Nat.ne_of_lt (Nat.lt_succ_of_lt hb) z
      · cases z
theorem call_set_strs {l : Addr} {items : Array Value} {xs : List Str} {Q : Value → Shared → Prop} (hh : A.handled = none) (hl : s.heap.IsList l items) (hi : StrsAre items.toList xs) (few : xs.length ≤ 1000) (h : ∀ s2, Filled prog w s xs s2 → Q (.ref s.heap.objs.size) s2) :
    wpAny (model prog w) A (call (.type "set") [.ref l]) Q E s := by
  obtain ⟨c, tl, m1⟩ := PySem.F.called_set.mro
  have m2 := PySem.F.called_set.made; have m3 := PySem.F.called_set.sub; have m4 := PySem.F.called_set.notType; have m5 := PySem.F.called_set.canCreate; have m6 := PySem.F.typeCall_set_1 (.ref l)
  refine wpAny_call (codeAny_of_tree (by
    show wpAny _ _ (callAny (.type "set") _) _ _ _
    refine wpAny_pure ⟨Code.quiet_builtin _ (by decide +kernel), codeAny_builtin PySem.F.entry_type_call (by
      rw [Around.under_plain (weight_type_call_type "set" [.ref l] []) rfl]
      repeat (any_goals first | assumption | wp_step)
      refine codeAny_mono (code_set_new_1 (.ref l) (E := E) (Q₁ := fun obj s₁ => ∃ led : Bool, obj = .ref s.heap.objs.size ∧ s₁ = { s with heap := s.heap.push (eSet led) }) fun led => ⟨led, rfl, rfl⟩) fun r s₁ hr => ?_
      rcases r with er | fl
      · exact hr
      · cases fl with
        | ret obj =>
          obtain ⟨led, rfl, rfl⟩ := hr
          have ty : Shared.TypeIs { s with heap := s.heap.push (eSet led) } (.ref s.heap.objs.size) "set" := ⟨_, Heap.get?_push_size _ rfl, rfl⟩
          have m7 := PySem.F.called_set.init.lookup; have m8 := PySem.F.called_set.init.bind (.ref s.heap.objs.size)
          repeat (any_goals first | assumption | wp_step)
          refine codeAny_mono (codeAny_call_builtin (R := wants (fun r s₂ => r = .none ∧ Filled prog w s xs s₂) E) PySem.F.called_set.init.plain PySem.F.entry_set_init (check_set_init_1 ty (init_fill led hh hl hi few _ fun s2 hf => ⟨rfl, hf⟩))) fun r₂ s₂ hr₂ => ?_
          rcases r₂ with er | fl₂
          · exact hr₂
          · cases fl₂ with
            | ret r =>
              obtain ⟨rfl, hf⟩ := hr₂
              repeat (any_goals first | assumption | wp_step)
              exact h _ hf
            | _ => exact hr₂.elim
        | _ => exact hr.elim)⟩))
end
end LM

namespace LM
open PySem PySem.Spec PyProof.Rows L2
def tLenS (K : PySem.W.Frag) (ta : TE) : TE := fun σ H Q => ta σ H fun x H1 => ∃ (l : Addr) (xs : List Str), x = .ref l ∧ SqL K H1 l (xs.map V.str) ∧ xs.length ≤ 1000 ∧ Q (.int ((dd xs).length : Nat)) H1
theorem strs_of : ∀ {ys : List Str} {us : List Value}, Vals (ys.map V.str) us → StrsAre us ys
  | [], _, .nil => .nil
  | y :: ys, _, .cons ⟨k, e⟩ t => by subst e; exact .cons y k (strs_of t)
theorem pe_lenS {X : Cx} {a : Expr} {ta : TE} {p p2 q pos : Pos} (hg : Gl X "len") (hm : X.mg "len" = none) (hb : bootBuiltins "len" = some (.builtin "len")) (hg2 : Gl X "set") (hm2 : X.mg "set" = none) (hb2 : bootBuiltins "set" = some (.type "set")) (ha : PE X a ta) (hc : X.calm = true := by rfl)
    (na : starEach [a] X.env = (false, eval a X.env) :: starEach [] X.env := by rfl) : PE X (.Call (.Name "len" p) [.Call (.Name "set" p2) [a] [] q] [] pos) (tLenS X.K ta) := by
  refine ⟨fun pins s σ H Q I h => Call_ (ld_blt I hg hm hb (PyProof.Rows.callWith_builtin1 (PyProof.Rows.args_cons (Call_ (ld_blt I hg2 hm2 hb2 (PyProof.Rows.callWith_type1 (PyProof.Rows.args_cons (thn (ha.run pins s σ H _ I h) fun v s1 ⟨x, H1, I1, r1, l, xs, ex, hq, few, q1⟩ => PyProof.Rows.args_nil ?_) na) na rfl))) rfl) rfl rfl))⟩
  subst ex
  obtain rfl : v = Value.ref l := r1
  obtain ⟨its, r, pl, _⟩ := I1.list hq
  refine call_set_strs (I1.ok.hd hc) pl.isList (by simpa using strs_of r) few fun s2 ⟨h', tk, e2, hS, hk⟩ => PyProof.Rows.args_nil ?_
  subst e2
  obtain ⟨o, es, ep, t, ho, hex, hd, _, _, _, hf, hn⟩ := hS
  have I2 : Inv X pins σ H1 { s1 with heap := h', toks := tk } := I1.kept fun b o e => hk b o (Heap.lt_size e) e
  have bound := dd_le xs
  exact call_len_set ho hex hd hf (by rw [hn]; omega) ⟨.int (dd xs).length, H1, I2.tok _, ⟨_, by rw [hn]⟩, q1⟩
def mLenS {S : Type} (ma : MX S W) : MX S W := ma.bind fun w => fun env s => match w with
  | .v (.lst ds) => match strsD ds with
    | some ys => if ys.length ≤ 1000 then .ok (.v (.int ((dd ys).length : Nat))) env s else .bad
    | none => .bad
  | _ => .bad
theorem strsD_V {K : PySem.W.Frag} {B : Addr → Prop} {H : Hp} : ∀ {ds : List D} {xs : List V} {ys : List Str}, strsD ds = some ys → Reps K B H xs ds → xs = ys.map .str
  | [], _, ys, h, r => by cases r; simp [strsD] at h; subst h; rfl
  | d :: ds, _, ys, h, r => by
    cases r with
    | cons r1 r2 =>
      cases d with
      | str y =>
        simp only [strsD] at h
        cases e : strsD ds with
        | none => rw [e] at h; cases h
        | some zs =>
          rw [e] at h
          cases h
          cases r1
          rw [strsD_V e r2]
          rfl
      | _ => simp [strsD] at h
section
variable {S : Type} {X : Cx} {I : BoxI S} {Wx : WX} {a : Expr} {ma : MX S W} {p p2 q pos : Pos}
theorem d_lenS (hg : Gl X "len") (hm : X.mg "len" = none) (hb : bootBuiltins "len" = some (.builtin "len")) (hg2 : Gl X "set") (hm2 : X.mg "set" = none) (hb2 : bootBuiltins "set" = some (.type "set")) (ha : PE X a (tD X.K I Wx ma)) (hc : X.calm = true := by rfl)
    (na : starEach [a] X.env = (false, eval a X.env) :: starEach [] X.env := by rfl) : PE X (.Call (.Name "len" p) [.Call (.Name "set" p2) [a] [] q] [] pos) (tD X.K I Wx (mLenS ma)) := by
  refine PEimp (pe_lenS hg hm hb hg2 hm2 hb2 ha hc na) fun σ H Q ⟨G, env, s, ts, R, h⟩ => ?_
  refine tD_bind (Z := ZD X.K I Wx G ts σ Q) R h (fun _ _ _ z => z) (fun z => z) fun w env1 s1 x H1 _ R1 z1 => ?_
  cases w with
  | v d =>
    cases d with
    | lst ds =>
      have z0 : ZD X.K I Wx G ts σ Q (match strsD ds with
        | some ys => if ys.length ≤ 1000 then .ok (.v (.int ((dd ys).length : Nat))) env1 s1 else .bad
        | none => .bad) := z1
      cases e : strsD ds with
      | none => rw [e] at z0; exact z0.elim
      | some ys =>
        rw [e] at z0
        by_cases hl : ys.length ≤ 1000
        · simp only [if_pos hl] at z0
          obtain ⟨ad, bv, bm, R2⟩ := id R1
          have q : Rep X.K _ H1 x (.lst ds) := R2.tm _ List.mem_cons_self
          have fin := z0 (.int ((dd ys).length : Nat)) H1 ⟨ad, bv, bm, R2.pop.pushV (.int _)⟩
          cases q with
          | lst n r q => exact ⟨_, ys, rfl, by rw [← strsD_V e q]; exact .inl r, hl, fin⟩
          | wlst r q => exact ⟨_, ys, rfl, by rw [← strsD_V e q]; exact r.sq, hl, fin⟩
        · simp only [if_neg hl] at z0; exact z0.elim
    | _ => exact z1.elim
  | _ => exact z1.elim
end
end LM

/-! xs[::-1] of a list; a try whose body lets nothing out -/
namespace LM
open PySem PySem.Spec PySem.Calls PyProof.Rows L2
theorem rv_pick (its : List Value) : slicePick its.toArray none none (some (-1)) = its.reverse.toArray := by
  have hb : sliceBounds none none (some (-1)) its.toArray.size = ((its.length : Int) - 1, -1, -1) := by
    rw [List.size_toArray]; first | rfl | simp [sliceBounds]
  have hr : sliceRange ((its.length : Int) - 1) (-1) (-1) = (List.range its.length).reverse := by
    unfold sliceRange
    rw [if_neg (by decide)]
    by_cases h : (its.length : Int) - 1 > -1
    · rw [if_pos h]
      have e : (((its.length : Int) - 1 - -1 - -1 - 1) / (- -1)).toNat = its.length := by
        rw [show (- -1 : Int) = 1 by decide, Int.ediv_one]; omega
      show List.map (fun k : Nat => ((its.length : Int) - 1 + -1 * (k : Int)).toNat) (List.range (((its.length : Int) - 1 - -1 - -1 - 1) / (- -1)).toNat) = _
      rw [e]
      apply List.ext_getElem
      · simp
      · intro i h1 h2
        simp only [List.getElem_map, List.getElem_range, List.getElem_reverse, List.length_range]
        simp only [List.length_map, List.length_range] at h1
        omega
    · have e : its.length = 0 := by omega
      rw [if_neg h, e]; rfl
  unfold slicePick
  rw [hb]
  show ((sliceRange ((its.length : Int) - 1) (-1) (-1)).filterMap (its.toArray[·]?)).toArray = _
  rw [hr, List.filterMap_reverse]
  congr 2
  have : ∀ (l r : List Value), (List.range' l.length r.length).filterMap ((l ++ r)[·]?) = r := by
    intro l r
    induction r generalizing l with
    | nil => rfl
    | cons x r ih =>
      rw [List.length_cons, List.range'_succ, List.filterMap_cons]
      have e : (l ++ x :: r)[l.length]? = some x := by simp
      rw [e]
      have := ih (l ++ [x])
      rw [List.length_append, List.append_assoc] at this
      exact congrArg (x :: ·) this
  have h := this [] its
  rw [List.range_eq_range']
  simpa using h
section
variable {X : Cx} {e : Expr} {te : TE} {pos p2 p3 p4 : Pos}
def tRv (K : PySem.W.Frag) (te : TE) : TE := fun σ H Q => te σ H fun x H1 => ∃ a xs, x = .ref a ∧ SqL K H1 a xs ∧ ∀ p, H1 p = none → Q (.ref p) (upd H1 p (.lst xs.reverse))
theorem pe_rv {k} (he : PE X e te) : PE X (.Subscript e (.Slice none none (some (.UnaryOp .USub (.Constant (.int 1) k p4) p3)) p2) pos) (tRv X.K te) := by
  refine ⟨fun pins s σ H Q I h => ?_⟩
  refine Subscript_ (thn (he.run pins s σ H _ I h) fun v s1 ⟨x, H1, I1, r1, q1⟩ => ?_)
  obtain ⟨a, xs, rfl, hx, q⟩ := q1
  cases r1
  have hk : PE X (.UnaryOp .USub (.Constant (.int 1) k p4) p3) _ := pe_un un_neg pe_int
  refine wpAny_Slice ?_
  rw [evalPart_none]
  refine wpAny_pure ?_
  refine wpAny_pure ?_
  rw [evalPart_some]
  refine thn (hk.run pins s1 σ H1 (fun v H2 => v = .int (-1) ∧ H2 = H1) I1 ⟨1, rfl, rfl, rfl⟩) fun u s2 ⟨v2, H2, I2, r2, ev, eH⟩ => ?_
  subst ev; subst eH
  obtain ⟨t, rfl⟩ := r2
  have I4 : Inv X pins σ H2 { s2 with heap := s2.heap.push { cls := .type "slice", data := .fields #[.none, .none, .int (-1) t] } } := I2.kept (t' := s2.toks) fun b ob q => Heap.get?_push_of_some _ q
  obtain ⟨its, r, ht, hz⟩ := I4.list hx
  have hlen := r.length
  show wpAny (model X.prog X.w) X.A (subscriptTail e (.Slice none none (some (.UnaryOp .USub (.Constant (.int 1) k p4) p3)) p2) (.ref a) (.ref s2.heap.objs.size)) (EP X pins σ Q) X.xe { s2 with heap := s2.heap.push { cls := .type "slice", data := .fields #[.none, .none, .int (-1) t] } }
  refine tail_any (ops := _) ht.isList.typeIs slot_list_getitem.lookup ?_ (by with_unfolding_all rfl)
  refine wpAny_getItem_list_slice ht.isList (Heap.IsSliceOf.new ..) .none .none (.int (-1) t) (by decide) ?_ (by rw [List.size_toArray] <;> omega)
  rw [rv_pick]
  refine ⟨.ref _, _, I4.laid (t' := s2.toks) (o := .lst xs.reverse) (fun b ob q => Heap.get?_push_of_some _ q) (Nat.le_refl _) ?_, rfl, q _ (I4.hok.fresh (Nat.le_refl _))⟩
  exact ⟨by rw [List.length_reverse]; exact hz, _, 0, r.reverse, Heap.get?_push_size _ rfl⟩
end
def mRv {S : Type} (ma : MX S W) : MX S W := ma.bind fun w => fun env s => match w.rd env with
  | some (.lst ds) => resO env s (some (.f ds.reverse))
  | _ => .bad
section
variable {S : Type} {X : Cx} {I : BoxI S} {Wx : WX} {pos p2 p3 p4 : Pos} {ma : MX S W} {e : Expr}
theorem d_rv {k} (he : PE X e (tD X.K I Wx ma)) : PE X (.Subscript e (.Slice none none (some (.UnaryOp .USub (.Constant (.int 1) k p4) p3)) p2) pos) (tD X.K I Wx (mRv ma)) := by
  refine PEimp (pe_rv he) fun σ H Q ⟨G, env, s, ts, R, h⟩ => ?_
  refine tD_bind (Z := ZD X.K I Wx G ts σ Q) R h (fun _ _ _ z => z) (fun z => z) fun w env1 s1 x H1 _ R1 z1 => ?_
  obtain ⟨ad, bv, bm, R4⟩ := R1
  cases e1 : w.rd env1 with
  | none => simp only [e1] at z1; exact z1.elim
  | some d =>
    cases d with
    | lst ds =>
      simp only [e1] at z1
      have hx := R4.rd (p := (x, w)) List.mem_cons_self e1
      obtain ⟨a, xs, ex, r, qq⟩ := hx.lst
      refine ⟨a, xs, ex, r, fun p hp => ?_⟩
      exact fin_of (l := [(x, w)]) R4 (.f ds.reverse) z1 p xs.reverse hp qq.rev
    | _ => simp only [e1] at z1; exact z1.elim
end
section
variable {S : Type} {X : Cx} {I : BoxI S} {Wx : WX} {pos : Pos} {body : List Stmt} {h₀ : ExceptHandler} {hs : List ExceptHandler} {m : MS S}
theorem s_try_thru (hb : PSs X.nox body (tS X.K I Wx m)) : PS X (.Try body (h₀ :: hs) [] [] pos) (tS X.K I Wx m) := ps_try_thru0 hb
end
end LM

/-! __init__ by a function over data that is right where it says something -/
namespace LM
open PySem L2 PySem.W
section
variable {P : Program} {w : World} {K : Frag} {mg : Str → Option Value} {base : Heap}
theorem fn_okIC1 {x qual : Str} {st : Stmt} {f C Dc cc cda : Addr} {fd : FuncData} {N ps : List Str} {k : Nat} {md : List Md} {m : MS Unit} {g : List D → FO Unit (List Str × List D)} (F : FunC P K x qual st f fd Dc cc cda) (Sc : NdefX.NScope N ps ["__class__"] (defScope st)) (hl : md.length + 1 = ps.length)
    (hg : ∀ y ds p u, g ds = .ok p u → (m (envI y C md (N.length - ps.length) ds) ()).foI y C = .ok p u) (hx : ∀ ds e u, g ds ≠ .ex e u)
    (hbody : ∀ (A : Around) (outer : List Env) (s : Shared) (H : Hp) (E : XK), Room k (A.deeper (NdefX.envF (nfC x qual st cc cda) f s.heap.objs.size)) →
      PSsA (NdefX.ncx CX0 P w K mg base N (nfC x qual st cc cda) f A outer s H E) (defBody st) (defBody st) (tS K boxNil W0 m)) : FnOk P w K mg base CX0 (k + 1) f fd ps (spI K C md g) := by
  have hN : ps.length ≤ N.length := by have := congrArg List.length Sc.pre; rw [List.length_take, List.length_append] at this; omega
  refine F.ok Sc (fun vs H Q E ⟨_, _, _, _, _, _, e, _, _, _, _, _, ar, _⟩ => by rw [e, List.length_cons, ar.len, hl]) fun A outer s H vs Q E hr ⟨y, dx, H1, B, rest, ds, ev, n1, n2, n3, eH, hB, ar, z⟩ => ?_
  subst ev eH
  have hv : rest.length = md.length := ar.len
  obtain ⟨pp, uu, eg⟩ : ∃ p u, g ds = .ok p u := by
    cases e : g ds with
    | ok p u => exact ⟨p, u, rfl⟩
    | ex _ _ => exact absurd e (hx _ _ _)
    | bad => simp only [e] at z
  rw [eg, ← hg y ds pp uu eg] at z
  have sm : ∀ a o, H1 a = some o → upd (upd H1 dx (.own y)) y (.ins C dx []) a = some o := fun a o e => by
    rw [upd_ne (ne_of_none e n1), upd_ne (ne_of_none e n2)]; exact e
  refine ⟨_, hbody A outer s _ E hr, ⟨B, fun _ => False, H1, .non⟩, envI y C md (N.length - ps.length) ds, (), [], ?_, Cl.nil, ?_⟩
  · have hgo := envA_noB (T := fun _ => False) ar (N.length - ps.length)
    have own0 : ∀ (i : Nat) (u : Sl), (envI y C md (N.length - ps.length) ds)[i]? = some u → u.isOwn = true → i = 0 := fun i u e o => by
      cases i with
      | zero => rfl
      | succ i => rw [(hgo i u e).1] at o; cases o
    have est : L2.start N (.ref y :: rest) = some (.ref y) :: (rest.map some ++ List.replicate (N.length - ps.length) none) := by
      unfold L2.start
      rw [List.map_cons, List.cons_append, List.length_cons, hv, hl]
    have nO : ∀ a, Ow (fun _ => y) (envI y C md (N.length - ps.length) ds) [] a → a = y := fun a z => by
      rcases z with ⟨i, u, e, o, q⟩ | ⟨p, hp, _⟩
      · exact q.symm
      · cases hp
    have subB : ∀ a, Bv ⟨B, fun _ => False, H1, .non⟩ (fun _ => False) (fun _ => y) (envI y C md (N.length - ps.length) ds) [] a → B a ∨ H1 a = none := fun a z => z.imp (fun q => q) fun z => z.elim (fun z => z.elim) fun z => (nO a z) ▸ n1
    have subT : ∀ a, Tv (fun _ => False) (fun _ => y) (envI y C md (N.length - ps.length) ds) [] a → False ∨ H1 a = none := fun a z => z.imp (fun q => q) fun z => (nO a z) ▸ n1
    refine ⟨fun _ => y, .non, fun _ => False, ?_, fun a o e _ => sm a o e, fun a e => ?_, fun _ h => h, ⟨fun a z => z.elim, fun _ => ⟨rfl, rfl⟩⟩, hB, fun i u e o => ⟨n1, fun z => z⟩, fun p hp => (nomatch hp), fun i j u v ei ej oi oj _ => by rw [own0 i u ei oi, own0 j v ej oj], fun i u p e o hp => (nomatch hp), .nil, fun i u e => ?_, fun p hp => (nomatch hp)⟩
    · rw [est]
      unfold envI env0
      rw [List.length_cons, List.length_cons, List.length_append, List.length_append, List.length_map, List.length_replicate, List.length_replicate, envA_len ar]
    · show H1 a = none
      cases q : H1 a with
      | none => rfl
      | some o => rw [sm a o q] at e; cases e
    · rw [est]
      cases i with
      | zero =>
        have e : some (Sl.slf y C [] []) = some u := e
        cases e
        exact ⟨rfl, rfl, dx, [], upd_same, rfl, .nil⟩
      | succ i =>
        have q := (hgo i u e).2 (fun _ => False) B y (fun _ z => z) fun _ z => z
        exact q.gr ⟨fun a o e _ => sm a o e, subT⟩ ⟨fun a o e _ => sm a o e, subB⟩ fun ho _ _ => by rw [(hgo i u e).1] at ho; cases ho
  · cases e : m (envI y C md (N.length - ps.length) ds) () with
    | nx env1 s1 =>
      cases env1 with
      | nil => simp only [e, SO.foI] at z
      | cons sl env1 =>
        cases sl with
        | slf y' C' ns es =>
          simp only [e, SO.foI] at z
          by_cases hc : y' = y ∧ C' = C
          · rw [if_pos hc] at z
            obtain ⟨rfl, rfl⟩ := hc
            intro σ' H' ⟨ad, bv, bm, R⟩
            obtain ⟨fa, fσ, dx', fs, q1, q2, q3⟩ := R.sl 0 _ rfl
            rw [fa] at q1
            refine z H' (fun a o e => R.ext a o e fun z => z) ⟨dx', fs, q1, q2, q3.gr (.sub fun a h => ?_)⟩
            rcases h with h | h
            · exact .inl h
            · exact .inr (.inr (.inl ⟨0, _, rfl, rfl, fa.trans h.symm⟩))
          · rw [if_neg hc] at z; exact z.elim
        | _ => simp only [e, SO.foI] at z
    | _ => simp only [e, SO.foI] at z
theorem fn_okS1 {x qual : Str} {st : Stmt} {f C : Addr} {fd : FuncData} {N ps : List Str} {k : Nat} {md : List Md} {m : MS Unit} {g : List Str → List D → List D → FO Unit (List Str × List D)} (F : Fun K x qual st f fd) (Sc : FnScope N ps (defScope st)) (hl : md.length + 1 = ps.length)
    (hg : ∀ y ns es ds p u, g ns es ds = .ok p u → (m (envS y C ns es md (N.length - ps.length) ds) ()).foI y C = .ok p u)
    (hbody : ∀ (cdv : Value) (A : Around) (outer : List Env) (s : Shared) (H : Hp) (E : XK), Room k (A.deeper (PyProof.Rows.envOfC qual (defScope st) s.heap.objs.size f cdv)) →
      PSs (cxOf CX0 P w K mg base N qual (defScope st) f cdv A outer s H E).nox (defBody st) (tS K boxNil W0 m)) : FnOk P w K mg base CX0 (k + 1) f fd ps (spS K C md g) := by
  have hN : ps.length ≤ N.length := by have := congrArg List.length Sc.pre; rw [List.length_take] at this; omega
  refine F.ok Sc (fun vs H Q E ⟨_, _, _, _, _, _, _, e, _, _, _, ar, _⟩ => by rw [e, List.length_cons, ar.len, hl]) fun cdv A outer s H vs Q E hr ⟨y, dx, fs, B, rest, es, ds, ev, hy, hB, nB, ar, re, z⟩ => ?_
  subst ev
  have hv : rest.length = md.length := ar.len
  obtain ⟨pp, uu, eg⟩ : ∃ p u, g (fs.map (·.1)) es ds = .ok p u := by
    cases e : g (fs.map (·.1)) es ds with
    | ok p u => exact ⟨p, u, rfl⟩
    | ex _ _ => simp only [e] at z
    | bad => simp only [e] at z
  rw [eg, ← hg y _ es ds pp uu eg] at z
  have lo : ∀ a, a ≠ y → (fun a => if a = y then none else H a) a = H a := fun a n => if_neg n
  have ly : (fun a => if a = y then none else H a) y = (none : Option HO) := if_pos rfl
  have sm : ∀ a o, (fun a => if a = y then none else H a) a = some o → H a = some o := fun a o e => by
    by_cases n : a = y
    · rw [n] at e; rw [ly] at e; cases e
    · rw [lo a n] at e; exact e
  refine ⟨_, hbody cdv A outer s _ E hr, ⟨B, fun _ => False, fun a => if a = y then none else H a, .non⟩, envS y C (fs.map (·.1)) es md (N.length - ps.length) ds, (), [], ?_, Cl.nil, ?_⟩
  · have hgo : ∀ (i : Nat) (x : Sl), (env0 md (N.length - ps.length) ds)[i]? = some x → x.isOwn = false ∧ ∀ (T B' : Addr → Prop) (a : Addr), (∀ a, T a → False) → (∀ a, B' a → (B a ∨ a = y)) → SlR K T B' .non H a ((rest.map some ++ List.replicate (N.length - ps.length) none)[i]?) x := envA_noB (T := fun _ => False) ar (N.length - ps.length)
    have own0 : ∀ (i : Nat) (u : Sl), (envS y C (fs.map (·.1)) es md (N.length - ps.length) ds)[i]? = some u → u.isOwn = true → i = 0 := fun i u e o => by
      cases i with
      | zero => rfl
      | succ i => rw [(hgo i u e).1] at o; cases o
    have est : L2.start N (.ref y :: rest) = some (.ref y) :: (rest.map some ++ List.replicate (N.length - ps.length) none) := by
      unfold L2.start
      rw [List.map_cons, List.cons_append, List.length_cons, hv, hl]
    have nO : ∀ a, Ow (fun _ => y) (envS y C (fs.map (·.1)) es md (N.length - ps.length) ds) [] a → a = y := fun a z => by
      rcases z with ⟨i, u, e, o, q⟩ | ⟨p, hp, _⟩
      · exact q.symm
      · cases hp
    have subB : ∀ a, Bv ⟨B, fun _ => False, fun a => if a = y then none else H a, .non⟩ (fun _ => False) (fun _ => y) (envS y C (fs.map (·.1)) es md (N.length - ps.length) ds) [] a → B a ∨ a = y := fun a z => z.imp (fun q => q) fun z => z.elim (fun z => z.elim) fun z => nO a z
    refine ⟨fun _ => y, .non, fun _ => False, ?_, fun a o e _ => sm a o e, fun a e => ?_, fun _ h => h, ⟨fun a z => z.elim, fun _ => ⟨rfl, rfl⟩⟩, fun a h => ?_, fun i u e o => ⟨ly, fun z => z⟩, fun p hp => (nomatch hp), fun i j u v ei ej oi oj _ => by rw [own0 i u ei oi, own0 j v ej oj], fun i u p e o hp => (nomatch hp), .nil, fun i u e => ?_, fun p hp => (nomatch hp)⟩
    · rw [est]
      unfold envS env0
      rw [List.length_cons, List.length_cons, List.length_append, List.length_append, List.length_map, List.length_replicate, List.length_replicate, envA_len ar]
    · by_cases n : a = y
      · rw [n]; exact ly
      · exact (lo a n).trans e
    · have n : a ≠ y := fun e => nB (e ▸ h)
      show (fun a => if a = y then none else H a) a ≠ none
      rw [lo a n]; exact hB a h
    · rw [est]
      cases i with
      | zero =>
        have e : some (Sl.slf y C (fs.map (·.1)) es) = some u := e
        cases e
        exact ⟨rfl, rfl, dx, fs, hy, rfl, re.gr (.sub subB)⟩
      | succ i =>
        have q := (hgo i u e).2 (fun _ => False) _ y (fun _ z => z) subB
        cases u with
        | top d =>
          obtain ⟨v, e1, r⟩ := q
          refine ⟨v, e1, r.imp (fun r => r) fun ⟨a, xs, ds', f1, f2, _, rd, q⟩ => ⟨a, xs, ds', f1, f2, fun z => ?_, rd, q⟩⟩
          have ea : a = y := z.elim (fun z => z.elim) (nO a)
          subst ea
          rcases rd with rd | ⟨o, rd⟩ <;> · rw [hy] at rd; cases rd
        | _ => exact q
  · cases e : m (envS y C (fs.map (·.1)) es md (N.length - ps.length) ds) () with
    | nx env1 s1 =>
      cases env1 with
      | nil => simp only [e, SO.foI] at z
      | cons sl env1 =>
        cases sl with
        | slf y' C' ns es' =>
          simp only [e, SO.foI] at z
          by_cases hc : y' = y ∧ C' = C
          · rw [if_pos hc] at z
            obtain ⟨rfl, rfl⟩ := hc
            intro σ' H' ⟨ad, bv, bm, R⟩
            obtain ⟨fa, fσ, dx', fs', q1, q2, q3⟩ := R.sl 0 _ rfl
            rw [fa] at q1
            refine z H' (fun a o n e => R.ext a o ((lo a n).trans e) fun z => z) ⟨dx', fs', q1, q2, q3.gr (.sub fun a h => ?_)⟩
            rcases h with h | h
            · exact .inl h
            · exact .inr (.inr (.inl ⟨0, _, rfl, rfl, fa.trans h.symm⟩))
          · rw [if_neg hc] at z; exact z.elim
        | _ => simp only [e, SO.foI] at z
    | _ => simp only [e, SO.foI] at z
end
end LM

namespace LM
open PySem L2
/-- the marks that the draws of rows take -/
def marks4 : List Str := ["none", "run", "old", "a", "send", "told", "lead", "join", "mark", "zzzz", "b", "text", "part", "keep"]
def wants4 : List Str := marks4 ++ ([("any" : Str)] : List Str)
def words4 : List Str := marks4 ++ ([("any" : Str), "here", "came"] : List Str)
def thens4 : List Str := marks4 ++ ([("here" : Str), "came"] : List Str)
/-- the lists of tests that are drawn -/
def tests4 : List (List Str) :=
  let one := fun x : Str => [x, ("not " : Str) ++ x]
  let perms : List (List Str) := [["above", "own", "below"], ["above", "below", "own"], ["own", "above", "below"], ["own", "below", "above"], ["below", "above", "own"], ["below", "own", "above"]]
  let all := perms.flatMap fun p => match p with
    | [x, y, z] => (one x).flatMap fun a => (one y).flatMap fun b => (one z).map fun c => [a, b, c]
    | _ => []
  ((List.range 4).flatMap fun k => all.map fun l => l.take k).eraseDups
def inS (l : List Str) (x : Str) : Bool := decide (x ∈ l)
def okW : D → Bool
  | .str x => inS words4 x
  | _ => false
def kpW : D → Bool
  | .str x => inS marks4 x
  | _ => false
def askT (ys : List Str) : Str := if ys = [] then "always" else Txt.join " and " ys
def trF (o : FO Unit D) : Bool := match o with
  | .ok (.bl b) _ => b
  | _ => false
theorem trF_t {o : FO Unit D} (h : trF o = true) : o = .ok (.bl true) () := by
  cases o with
  | ok d u =>
    cases d with
    | bl b =>
      have h : b = true := h
      subst h
      rfl
    | _ => cases h
  | _ => cases h
theorem strsD_map : ∀ {ts : List D} {ys : List Str}, strsD ts = some ys → ts = ys.map .str
  | [], ys, h => by cases h; rfl
  | d :: ts, ys, h => by
    cases d with
    | str x =>
      simp only [strsD] at h
      cases e : strsD ts with
      | none => rw [e] at h; cases h
      | some zs =>
        rw [e] at h
        cases h
        rw [strsD_map e]
        rfl
    | _ => simp [strsD] at h
theorem strsD_of : ∀ ys : List Str, strsD (ys.map .str) = some ys
  | [] => rfl
  | y :: ys => by simp only [List.map_cons, strsD, strsD_of ys]; rfl
section
variable {S : Type} {env e1 : List Sl} {s s1 : S} {ma : MX S W}
theorem cb_v {cb : List D → Option Rs} {w : W} {d r : D} (h : ma env s = .ok w e1 s1) (hr : w.rd e1 = some d) (hc : cb [d] = some (.v r)) : mCB cb (mCons ma mNil) env s = .ok (.v r) e1 s1 := by
  simp [mCB, mCons, mNil, MX.bind, Out.bind, h, hr, hc, resO, Rs.w]
theorem fld_v {C y : Addr} {f : Str} {me : MX S W} {d : D} {ns : List Str} {es : List D} {rest : List Sl} {w : W} (h : me env s = .ok w (.slf y C ns es :: rest) s1) (hk : w.kp = some d) (c1 : ns.contains f = false) (c2 : ns.length < 900) : mFldSet C f (mVar 0) me env s = .nx (.slf y C (ns ++ [f]) (es ++ [d]) :: rest) s1 := by
  simp only [mFldSet, h, Out.bindS, mVar, List.getElem?_cons_zero, hk, c1, c2, and_self, if_true, List.set_cons_zero]
theorem cons_x {ms : MX S (List W)} {w : W} {ws : List W} {e2 : List Sl} {s2 : S} (h : ma env s = .ok w e1 s1) (hs : ms e1 s1 = .ok ws e2 s2) : mCons ma ms env s = .ok (w :: ws) e2 s2 := by
  simp only [mCons, MX.bind, Out.bind, h, hs]
theorem tup_x {ms : MX S (List W)} {ws : List W} {ds : List D} (h : ms env s = .ok ws e1 s1) (hk : ws.mapM W.kp = some ds) (hl : ds.length ≤ 16777216 := by simp) : mTup ms env s = .ok (.v (.tup ds)) e1 s1 := by
  simp only [mTup, MX.bind, Out.bind, h, hk, if_pos hl]
theorem sup_x {C : Addr} {md : List Md} {f : List Str → List D → List D → FO Unit (List Str × List D)} {ms : MX Unit (List W)} {ws : List W} {ds es : List D} {ns : List Str} {p : List Str × List D} {y : Addr} {env rest rest2 : List Sl}
    (he : env = .slf y C ns es :: rest) (hm : ms (.slf y C ns es :: rest) () = .ok ws (.slf y C ns es :: rest2) ()) (hb : bindA (.slf y C ns es :: rest2) md ws = some ds) (hf : f ns es ds = .ok p ()) : mSup C md f ms env () = .nx (.slf y C p.1 p.2 :: rest2) () := by
  subst he
  simp only [mSup, List.getElem?_cons_zero, if_true, hm, Out.bindS, hb, hf, List.set_cons_zero]
theorem ask_all : ∀ l ∈ tests4, (l.map (·.length)).sum + l.length * 5 ≤ 16777216 ∧ truD (.str (Txt.join " and " l)) = some (decide (l ≠ [])) := by decide +kernel
theorem ask_x {l : List Str} (hl : l ∈ tests4) (he : env[1]? = some (.val (.lst (l.map .str)))) : mOrX (mSm jJoin (mK (.str " and ")) (mCons (mVar 1) mNil)) (mK (.str "always")) env s = .ok (.v (.str (askT l))) env s := by
  obtain ⟨h1, h2⟩ := ask_all l hl
  have h3 : (" and " : Str).length = 5 := by decide
  have e : mSm jJoin (mK (.str " and ")) (mCons (mVar 1) mNil) env s = .ok (.v (.str (Txt.join " and " l))) env s := by
    simp [mSm, mK, mCons, mNil, mVar, MX.bind, Out.bind, he, jJoin, strsD_of, h3, h1, W.rd, resO, Rs.w]
  simp only [mOrX, MX.bind, e, Out.bind, W.rd, h2]
  by_cases hn : l = []
  · subst hn
    simp [askT, mK]
  · simp [askT, hn]
end
end LM

namespace LM
open PySem L2
/-- two lists, item by item -/
inductive Al (Q : D → D → Prop) : List D → List D → Prop where
  | nil : Al Q [] []
  | cons {x y : D} {xs ys : List D} : Q x y → Al Q xs ys → Al Q (x :: xs) (y :: ys)
section
variable {S : Type} {vs : List Nat} {g : D → List Sl → Option (List Sl)} {mt : MX S Bool} {me : MX S W}
theorem comp_al {P : S → Prop} {Q : D → D → Prop} {L : List D} (e0 : List Sl)
    (step : ∀ d ∈ L, ∀ s, P s → ∃ e1 e2 e3 s2 s3 w x, g d e0 = some e1 ∧ mt e1 s = .ok true e2 s2 ∧ me e2 s2 = .ok w e3 s3 ∧ w.kp = some x ∧ nonref vs e3 = true ∧ wipeE e3 vs = e0 ∧ P s3 ∧ Q d x) :
    ∀ acc s, P s → acc.length + L.length ≤ 16777216 → ∃ ys s1, mCompL vs g mt me L acc e0 s = .ok (.f (acc ++ ys)) e0 s1 ∧ Al Q L ys ∧ P s1 := by
  induction L with
  | nil => exact fun acc s h _ => ⟨[], s, by rw [List.append_nil]; rfl, .nil, h⟩
  | cons d L ih =>
    intro acc s h hl
    obtain ⟨e1, e2, e3, s2, s3, w, x, h1, h2, h3, h4, h5, h6, h7, h8⟩ := step d List.mem_cons_self s h
    rw [List.length_cons] at hl
    obtain ⟨ys, s4, h9, h10, h11⟩ := ih (fun d hd => step d (List.mem_cons_of_mem _ hd)) (acc ++ [x]) s3 h7 (by rw [List.length_append, List.length_singleton]; omega)
    refine ⟨x :: ys, s4, ?_, .cons h8 h10, h11⟩
    simp only [mCompL, h1, h2, Out.bindN, if_true, h3, h4, h5, h6]
    rw [if_pos ⟨by omega, trivial⟩, h9, List.append_assoc]
    rfl
end
def isRow4 (d : D) : Prop := (∃ a ∈ wants4, ∃ b ∈ marks4, d = .tup [.str "run", .str a, .str b]) ∨ (∃ l ∈ tests4, ∃ a ∈ wants4, ∃ b ∈ marks4, d = .tup [.str "lead", .lst (l.map .str), .str a, .str b]) ∨ (∃ a ∈ wants4, ∃ b ∈ wants4, ∃ c ∈ thens4, d = .tup [.str "join", .str a, .str b, .str c])
def parts4 : List Str := ["above", "own", "below"]
def nots4 : List Str := ["", "not "]
theorem tests4_all : ∀ x ∈ parts4, ∀ y ∈ parts4, ∀ z ∈ parts4, x ≠ y → y ≠ z → x ≠ z → ∀ p ∈ nots4, ∀ q ∈ nots4, ∀ r ∈ nots4, ∀ k ∈ List.range 4, [p ++ x, q ++ y, r ++ z].take k ∈ tests4 := by decide +kernel
end LM

namespace ledmarks_k04_texts_of_rows
open PySem L2 LM
def top (i : Nat) : Stmt := PySem.Challenge.pw_ledmarks_k04_texts_of_rows.main.body.getD i (.Pass ⟨0, 0, 0, 0⟩)
abbrev s_is_name : Stmt := top 9
abbrev s_Row_init : Stmt := inClass (top 13) 0
abbrev s__is_wanted : Stmt := top 18
abbrev s_Join_init : Stmt := inClass (top 16) 0
abbrev s_are_different : Stmt := top 10
abbrev s_part_of : Stmt := top 17
abbrev s_is_sequence : Stmt := top 8
abbrev s__are_tests : Stmt := top 19
abbrev s_Lead_init : Stmt := inClass (top 15) 0
abbrev s__tests : Stmt := top 21
abbrev s_Run_init : Stmt := inClass (top 14) 0
abbrev s__row : Stmt := top 20
abbrev s_Row_read : Stmt := inClass (top 13) 1
abbrev s_Row___str__ : Stmt := inClass (top 13) 3
abbrev s_Row___eq__ : Stmt := inClass (top 13) 2
abbrev s__law_made : Stmt := top 30
abbrev s__law_sort : Stmt := top 32
abbrev s__law_row_text : Stmt := top 31
abbrev s__law_draw : Stmt := top 24
abbrev s__law_pick : Stmt := top 25
abbrev s__law_mixed : Stmt := top 26
abbrev s__law_tests : Stmt := top 28
abbrev s__law_row : Stmt := top 29
abbrev s__law_marks : Stmt := top 27
abbrev s__law_deal : Stmt := top 23
abbrev s_law : Stmt := top 33
theorem boot_abs_ : bootBuiltins "abs" = some (.builtin "abs") := by decide +kernel
theorem boot_all_ : bootBuiltins "all" = some (.builtin "all") := by decide +kernel
theorem boot_int_ : bootBuiltins "int" = some (.type "int") := by decide +kernel
theorem boot_isinstance_ : bootBuiltins "isinstance" = some (.builtin "isinstance") := by decide +kernel
theorem boot_len_ : bootBuiltins "len" = some (.builtin "len") := by decide +kernel
theorem boot_list_ : bootBuiltins "list" = some (.type "list") := by decide +kernel
theorem boot_set_ : bootBuiltins "set" = some (.type "set") := by decide +kernel
theorem boot_str_ : bootBuiltins "str" = some (.type "str") := by decide +kernel
theorem boot_super_ : bootBuiltins "super" = some (.type "super") := by decide +kernel
theorem boot_tuple_ : bootBuiltins "tuple" = some (.type "tuple") := by decide +kernel
theorem sc_is_name : FnScope ["value", "letter"] ["value"] (defScope s_is_name) := ⟨rfl, rfl, rfl, by decide +kernel, rfl, by decide +kernel, by decide +kernel⟩
theorem sc_Row_init : FnScope ["self", "words", "marks", "mark"] ["self", "words", "marks"] (defScope s_Row_init) := ⟨rfl, rfl, rfl, by decide +kernel, rfl, by decide +kernel, by decide +kernel⟩
theorem sc__is_wanted : FnScope ["value"] ["value"] (defScope s__is_wanted) := ⟨rfl, rfl, rfl, by decide +kernel, rfl, by decide +kernel, by decide +kernel⟩
theorem sc_Join_init : NdefX.NScope ["self", "here", "came", "then", "__class__"] ["self", "here", "came", "then"] ["__class__"] (defScope s_Join_init) := NdefX.nscope_by (by decide +kernel)
theorem sc_are_different : FnScope ["words"] ["words"] (defScope s_are_different) := ⟨rfl, rfl, rfl, by decide +kernel, rfl, by decide +kernel, by decide +kernel⟩
theorem sc_part_of : FnScope ["test"] ["test"] (defScope s_part_of) := ⟨rfl, rfl, rfl, by decide +kernel, rfl, by decide +kernel, by decide +kernel⟩
theorem sc_is_sequence : FnScope ["value"] ["value"] (defScope s_is_sequence) := ⟨rfl, rfl, rfl, by decide +kernel, rfl, by decide +kernel, by decide +kernel⟩
theorem sc__are_tests : FnScope ["value", "test"] ["value"] (defScope s__are_tests) := ⟨rfl, rfl, rfl, by decide +kernel, rfl, by decide +kernel, by decide +kernel⟩
theorem sc_Lead_init : NdefX.NScope ["self", "tests", "old", "then", "__class__"] ["self", "tests", "old", "then"] ["__class__"] (defScope s_Lead_init) := NdefX.nscope_by (by decide +kernel)
theorem sc__tests : FnScope ["words"] ["words"] (defScope s__tests) := ⟨rfl, rfl, rfl, by decide +kernel, rfl, by decide +kernel, by decide +kernel⟩
theorem sc_Run_init : NdefX.NScope ["self", "old", "then", "__class__"] ["self", "old", "then"] ["__class__"] (defScope s_Run_init) := NdefX.nscope_by (by decide +kernel)
theorem sc__row : FnScope ["words", "many"] ["words"] (defScope s__row) := ⟨rfl, rfl, rfl, by decide +kernel, rfl, by decide +kernel, by decide +kernel⟩
theorem sc_Row_read : FnScope ["cls", "text", "row"] ["cls", "text"] (defScope s_Row_read) := ⟨rfl, rfl, rfl, by decide +kernel, rfl, by decide +kernel, by decide +kernel⟩
theorem sc_Row___str__ : FnScope ["self"] ["self"] (defScope s_Row___str__) := ⟨rfl, rfl, rfl, by decide +kernel, rfl, by decide +kernel, by decide +kernel⟩
theorem sc_Row___eq__ : FnScope ["self", "other"] ["self", "other"] (defScope s_Row___eq__) := ⟨rfl, rfl, rfl, by decide +kernel, rfl, by decide +kernel, by decide +kernel⟩
theorem sc__law_made : FnScope ["_law_row_here"] ["_law_row_here"] (defScope s__law_made) := ⟨rfl, rfl, rfl, by decide +kernel, rfl, by decide +kernel, by decide +kernel⟩
theorem sc__law_sort : FnScope ["_law_made_here"] ["_law_made_here"] (defScope s__law_sort) := ⟨rfl, rfl, rfl, by decide +kernel, rfl, by decide +kernel, by decide +kernel⟩
theorem sc__law_row_text : FnScope ["_law_row_here", "_law_asked"] ["_law_row_here"] (defScope s__law_row_text) := ⟨rfl, rfl, rfl, by decide +kernel, rfl, by decide +kernel, by decide +kernel⟩
theorem sc__law_draw : FnScope ["_law_deal_here", "_law_many", "_law_digit", "_law_first", "_law_second"] ["_law_deal_here", "_law_many"] (defScope s__law_draw) := ⟨rfl, rfl, rfl, by decide +kernel, rfl, by decide +kernel, by decide +kernel⟩
theorem sc__law_pick : FnScope ["_law_deal_here", "_law_some"] ["_law_deal_here", "_law_some"] (defScope s__law_pick) := ⟨rfl, rfl, rfl, by decide +kernel, rfl, by decide +kernel, by decide +kernel⟩
theorem sc__law_mixed : FnScope ["_law_deal_here", "_law_some", "_law_left", "_law_found"] ["_law_deal_here", "_law_some"] (defScope s__law_mixed) := ⟨rfl, rfl, rfl, by decide +kernel, rfl, by decide +kernel, by decide +kernel⟩
theorem sc__law_tests : FnScope ["_law_deal_here", "_law_found", "_law_part"] ["_law_deal_here"] (defScope s__law_tests) := ⟨rfl, rfl, rfl, by decide +kernel, rfl, by decide +kernel, by decide +kernel⟩
theorem sc__law_row : FnScope ["_law_deal_here", "_law_marks_here", "_law_form", "_law_here", "_law_came"] ["_law_deal_here", "_law_marks_here"] (defScope s__law_row) := ⟨rfl, rfl, rfl, by decide +kernel, rfl, by decide +kernel, by decide +kernel⟩
theorem sc__law_marks : FnScope ["_law_deal_here", "_law_many", "_law_some"] ["_law_deal_here", "_law_many"] (defScope s__law_marks) := ⟨rfl, rfl, rfl, by decide +kernel, rfl, by decide +kernel, by decide +kernel⟩
theorem sc__law_deal : FnScope ["_law_script", "_law_base", "_law_cells", "_law_cell", "_law_mixed_here", "_law_great"] ["_law_script", "_law_base"] (defScope s__law_deal) := ⟨rfl, rfl, rfl, by decide +kernel, rfl, by decide +kernel, by decide +kernel⟩
theorem sc_law : FnScope ["_law_script", "_law_deal_here", "_law_turn", "_law_marks_here", "_law_row_here", "_law_other", "_law_made_here", "_law_text", "_law_near", "_law_again", "_law_due", "_law_word"] ["_law_script"] (defScope s_law) := ⟨rfl, rfl, rfl, by decide +kernel, rfl, by decide +kernel, by decide +kernel⟩
/-- what the top has left -/
structure Tx (P : Program) (K : PySem.W.Frag) (mg : Str → Option Value) where
  c_Join : Addr
  g_Join : mg "Join" = some (.ref c_Join)
  cl_Join : Cls K c_Join
  c_Lead : Addr
  g_Lead : mg "Lead" = some (.ref c_Lead)
  cl_Lead : Cls K c_Lead
  c_Row : Addr
  g_Row : mg "Row" = some (.ref c_Row)
  cl_Row : Cls K c_Row
  c_Run : Addr
  g_Run : mg "Run" = some (.ref c_Run)
  cl_Run : Cls K c_Run
  a_is_name : Addr
  fd_is_name : FuncData
  F_is_name : Fun K "is_name" "is_name" s_is_name a_is_name fd_is_name
  b_is_name : Binds K fd_is_name ["value"] []
  g_is_name : mg "is_name" = some (.ref a_is_name)
  a_Row_init : Addr
  fd_Row_init : FuncData
  F_Row_init : Fun K "__init__" "Row.__init__" s_Row_init a_Row_init fd_Row_init
  b_Row_init : Binds K fd_Row_init ["self", "words", "marks"] []
  a__is_wanted : Addr
  fd__is_wanted : FuncData
  F__is_wanted : Fun K "_is_wanted" "_is_wanted" s__is_wanted a__is_wanted fd__is_wanted
  b__is_wanted : Binds K fd__is_wanted ["value"] []
  g__is_wanted : mg "_is_wanted" = some (.ref a__is_wanted)
  a_Join_init : Addr
  fd_Join_init : FuncData
  cc_Join_init : Addr
  cda_Join_init : Addr
  F_Join_init : FunC P K "__init__" "Join.__init__" s_Join_init a_Join_init fd_Join_init c_Join cc_Join_init cda_Join_init
  b_Join_init : Binds K fd_Join_init ["self", "here", "came", "then"] []
  a_are_different : Addr
  fd_are_different : FuncData
  F_are_different : Fun K "are_different" "are_different" s_are_different a_are_different fd_are_different
  b_are_different : Binds K fd_are_different ["words"] []
  g_are_different : mg "are_different" = some (.ref a_are_different)
  a_part_of : Addr
  fd_part_of : FuncData
  F_part_of : Fun K "part_of" "part_of" s_part_of a_part_of fd_part_of
  b_part_of : Binds K fd_part_of ["test"] []
  g_part_of : mg "part_of" = some (.ref a_part_of)
  a_is_sequence : Addr
  fd_is_sequence : FuncData
  F_is_sequence : Fun K "is_sequence" "is_sequence" s_is_sequence a_is_sequence fd_is_sequence
  b_is_sequence : Binds K fd_is_sequence ["value"] []
  g_is_sequence : mg "is_sequence" = some (.ref a_is_sequence)
  a__are_tests : Addr
  fd__are_tests : FuncData
  F__are_tests : Fun K "_are_tests" "_are_tests" s__are_tests a__are_tests fd__are_tests
  b__are_tests : Binds K fd__are_tests ["value"] []
  g__are_tests : mg "_are_tests" = some (.ref a__are_tests)
  a_Lead_init : Addr
  fd_Lead_init : FuncData
  cc_Lead_init : Addr
  cda_Lead_init : Addr
  F_Lead_init : FunC P K "__init__" "Lead.__init__" s_Lead_init a_Lead_init fd_Lead_init c_Lead cc_Lead_init cda_Lead_init
  b_Lead_init : Binds K fd_Lead_init ["self", "tests", "old", "then"] []
  a__tests : Addr
  fd__tests : FuncData
  F__tests : Fun K "_tests" "_tests" s__tests a__tests fd__tests
  b__tests : Binds K fd__tests ["words"] []
  g__tests : mg "_tests" = some (.ref a__tests)
  a_Run_init : Addr
  fd_Run_init : FuncData
  cc_Run_init : Addr
  cda_Run_init : Addr
  F_Run_init : FunC P K "__init__" "Run.__init__" s_Run_init a_Run_init fd_Run_init c_Run cc_Run_init cda_Run_init
  b_Run_init : Binds K fd_Run_init ["self", "old", "then"] []
  a__row : Addr
  fd__row : FuncData
  F__row : Fun K "_row" "_row" s__row a__row fd__row
  b__row : Binds K fd__row ["words"] []
  g__row : mg "_row" = some (.ref a__row)
  a_Row_read : Addr
  fd_Row_read : FuncData
  F_Row_read : Fun K "read" "Row.read" s_Row_read a_Row_read fd_Row_read
  b_Row_read : Binds K fd_Row_read ["cls", "text"] []
  a_Row___str__ : Addr
  fd_Row___str__ : FuncData
  F_Row___str__ : Fun K "__str__" "Row.__str__" s_Row___str__ a_Row___str__ fd_Row___str__
  b_Row___str__ : Binds K fd_Row___str__ ["self"] []
  a_Row___eq__ : Addr
  fd_Row___eq__ : FuncData
  F_Row___eq__ : Fun K "__eq__" "Row.__eq__" s_Row___eq__ a_Row___eq__ fd_Row___eq__
  b_Row___eq__ : Binds K fd_Row___eq__ ["self", "other"] []
  a__law_made : Addr
  fd__law_made : FuncData
  F__law_made : Fun K "_law_made" "_law_made" s__law_made a__law_made fd__law_made
  b__law_made : Binds K fd__law_made ["_law_row_here"] []
  g__law_made : mg "_law_made" = some (.ref a__law_made)
  a__law_sort : Addr
  fd__law_sort : FuncData
  F__law_sort : Fun K "_law_sort" "_law_sort" s__law_sort a__law_sort fd__law_sort
  b__law_sort : Binds K fd__law_sort ["_law_made_here"] []
  g__law_sort : mg "_law_sort" = some (.ref a__law_sort)
  a__law_row_text : Addr
  fd__law_row_text : FuncData
  F__law_row_text : Fun K "_law_row_text" "_law_row_text" s__law_row_text a__law_row_text fd__law_row_text
  b__law_row_text : Binds K fd__law_row_text ["_law_row_here"] []
  g__law_row_text : mg "_law_row_text" = some (.ref a__law_row_text)
  a__law_draw : Addr
  fd__law_draw : FuncData
  F__law_draw : Fun K "_law_draw" "_law_draw" s__law_draw a__law_draw fd__law_draw
  b__law_draw : Binds K fd__law_draw ["_law_deal_here", "_law_many"] []
  g__law_draw : mg "_law_draw" = some (.ref a__law_draw)
  a__law_pick : Addr
  fd__law_pick : FuncData
  F__law_pick : Fun K "_law_pick" "_law_pick" s__law_pick a__law_pick fd__law_pick
  b__law_pick : Binds K fd__law_pick ["_law_deal_here", "_law_some"] []
  g__law_pick : mg "_law_pick" = some (.ref a__law_pick)
  a__law_mixed : Addr
  fd__law_mixed : FuncData
  F__law_mixed : Fun K "_law_mixed" "_law_mixed" s__law_mixed a__law_mixed fd__law_mixed
  b__law_mixed : Binds K fd__law_mixed ["_law_deal_here", "_law_some"] []
  g__law_mixed : mg "_law_mixed" = some (.ref a__law_mixed)
  a__law_tests : Addr
  fd__law_tests : FuncData
  F__law_tests : Fun K "_law_tests" "_law_tests" s__law_tests a__law_tests fd__law_tests
  b__law_tests : Binds K fd__law_tests ["_law_deal_here"] []
  g__law_tests : mg "_law_tests" = some (.ref a__law_tests)
  a__law_row : Addr
  fd__law_row : FuncData
  F__law_row : Fun K "_law_row" "_law_row" s__law_row a__law_row fd__law_row
  b__law_row : Binds K fd__law_row ["_law_deal_here", "_law_marks_here"] []
  g__law_row : mg "_law_row" = some (.ref a__law_row)
  a__law_marks : Addr
  fd__law_marks : FuncData
  F__law_marks : Fun K "_law_marks" "_law_marks" s__law_marks a__law_marks fd__law_marks
  b__law_marks : Binds K fd__law_marks ["_law_deal_here", "_law_many"] []
  g__law_marks : mg "_law_marks" = some (.ref a__law_marks)
  a__law_deal : Addr
  fd__law_deal : FuncData
  F__law_deal : Fun K "_law_deal" "_law_deal" s__law_deal a__law_deal fd__law_deal
  b__law_deal : Binds K fd__law_deal ["_law_script", "_law_base"] []
  g__law_deal : mg "_law_deal" = some (.ref a__law_deal)
  su_Join_init : SupI K c_Join c_Join a_Row_init
  su_Lead_init : SupI K c_Lead c_Lead a_Row_init
  su_Run_init : SupI K c_Run c_Run a_Row_init
  nf_Join_Join : PySem.W.notFirst K c_Join (.ref c_Join) = true
  nf_Join_Lead : PySem.W.notFirst K c_Join (.ref c_Lead) = true
  nf_Join_Run : PySem.W.notFirst K c_Join (.ref c_Run) = true
  nf_Lead_Join : PySem.W.notFirst K c_Lead (.ref c_Join) = true
  nf_Lead_Lead : PySem.W.notFirst K c_Lead (.ref c_Lead) = true
  nf_Lead_Run : PySem.W.notFirst K c_Lead (.ref c_Run) = true
  nf_Run_Join : PySem.W.notFirst K c_Run (.ref c_Join) = true
  nf_Run_Lead : PySem.W.notFirst K c_Run (.ref c_Lead) = true
  nf_Run_Run : PySem.W.notFirst K c_Run (.ref c_Run) = true
  km_Join_Join : PySem.W.kitAny K (.ref c_Join) [.ref c_Join] = some true
  km_Join_Lead : PySem.W.kitAny K (.ref c_Join) [.ref c_Lead] = some false
  km_Join_Row : PySem.W.kitAny K (.ref c_Join) [.ref c_Row] = some true
  km_Join_Run : PySem.W.kitAny K (.ref c_Join) [.ref c_Run] = some false
  km_Lead_Join : PySem.W.kitAny K (.ref c_Lead) [.ref c_Join] = some false
  km_Lead_Lead : PySem.W.kitAny K (.ref c_Lead) [.ref c_Lead] = some true
  km_Lead_Row : PySem.W.kitAny K (.ref c_Lead) [.ref c_Row] = some true
  km_Lead_Run : PySem.W.kitAny K (.ref c_Lead) [.ref c_Run] = some false
  km_Run_Join : PySem.W.kitAny K (.ref c_Run) [.ref c_Join] = some false
  km_Run_Lead : PySem.W.kitAny K (.ref c_Run) [.ref c_Lead] = some false
  km_Run_Row : PySem.W.kitAny K (.ref c_Run) [.ref c_Row] = some true
  km_Run_Run : PySem.W.kitAny K (.ref c_Run) [.ref c_Run] = some true
  mk_Join : Mk K c_Join a_Join_init
  mk_Lead : Mk K c_Lead a_Lead_init
  mk_Run : Mk K c_Run a_Run_init
  na_Join__words : NoAttr K c_Join "_words"
  na_Join_came : NoAttr K c_Join "came"
  na_Join_here : NoAttr K c_Join "here"
  na_Join_named : NoAttr K c_Join "named"
  na_Join_then : NoAttr K c_Join "then"
  na_Lead__words : NoAttr K c_Lead "_words"
  na_Lead_named : NoAttr K c_Lead "named"
  na_Lead_old : NoAttr K c_Lead "old"
  na_Lead_tests : NoAttr K c_Lead "tests"
  na_Lead_then : NoAttr K c_Lead "then"
  na_Run__words : NoAttr K c_Run "_words"
  na_Run_named : NoAttr K c_Run "named"
  na_Run_old : NoAttr K c_Run "old"
  na_Run_then : NoAttr K c_Run "then"
  sp_Join___eq__ : Spc K c_Join "__eq__" a_Row___eq__
  sp_Join___str__ : Spc K c_Join "__str__" a_Row___str__
  sp_Lead___eq__ : Spc K c_Lead "__eq__" a_Row___eq__
  sp_Lead___str__ : Spc K c_Lead "__str__" a_Row___str__
  sp_Run___eq__ : Spc K c_Run "__eq__" a_Row___eq__
  sp_Run___str__ : Spc K c_Run "__str__" a_Row___str__
  if_Row___eq__ : PySem.W.isFn K (.ref a_Row___eq__) = true
  if_Row___str__ : PySem.W.isFn K (.ref a_Row___str__) = true
  cr_Row : ClX.CRead K c_Row (.type "type")
  q_Row_read : Addr
  cm_Row_read : ClX.CMet K c_Row (.type "type") "read" q_Row_read a_Row_read
  it_Join : InsT K c_Join
  it_Lead : InsT K c_Lead
  it_Run : InsT K c_Run
  ne_Join : PySem.W.findIn K (.ref c_Join) "__ne__" = some (some (.builtin "object.__ne__"))
  ne_Lead : PySem.W.findIn K (.ref c_Lead) "__ne__" = some (some (.builtin "object.__ne__"))
  ne_Run : PySem.W.findIn K (.ref c_Run) "__ne__" = some (some (.builtin "object.__ne__"))
  kb_Join : ∀ t ∈ ["NoneType", "bool", "int", "str", "tuple", "list"], PySem.W.kitAny K (.type t) [.ref c_Join] = some false
  kb_Lead : ∀ t ∈ ["NoneType", "bool", "int", "str", "tuple", "list"], PySem.W.kitAny K (.type t) [.ref c_Lead] = some false
  kb_Row : ∀ t ∈ ["NoneType", "bool", "int", "str", "tuple", "list"], PySem.W.kitAny K (.type t) [.ref c_Row] = some false
  kb_Run : ∀ t ∈ ["NoneType", "bool", "int", "str", "tuple", "list"], PySem.W.kitAny K (.type t) [.ref c_Run] = some false
  n_abs : mg "abs" = none
  n_all : mg "all" = none
  n_int : mg "int" = none
  n_isinstance : mg "isinstance" = none
  n_len : mg "len" = none
  n_list : mg "list" = none
  n_range : mg "range" = none
  n_set : mg "set" = none
  n_str : mg "str" = none
  n_super : mg "super" = none
  n_tuple : mg "tuple" = none
  u_LETTERS : Value
  v_LETTERS : V
  gk_LETTERS : mg "LETTERS" = some u_LETTERS
  rk_LETTERS : RelV v_LETTERS u_LETTERS
  dk_LETTERS : ∀ B H, Rep K B H v_LETTERS (.str "abcdefghijklmnopqrstuvwxyz")
  u_TAKEN : Value
  v_TAKEN : V
  gk_TAKEN : mg "TAKEN" = some u_TAKEN
  rk_TAKEN : RelV v_TAKEN u_TAKEN
  dk_TAKEN : ∀ B H, Rep K B H v_TAKEN (.tup [.str "and", .str "any", .str "came", .str "here", .str "not", .str "own", .str "to"])
  u_TESTS : Value
  v_TESTS : V
  gk_TESTS : mg "TESTS" = some u_TESTS
  rk_TESTS : RelV v_TESTS u_TESTS
  dk_TESTS : ∀ B H, Rep K B H v_TESTS (.tup [.str "above", .str "below", .str "own", .str "not above", .str "not below", .str "not own"])
section
variable {P : Program} {w : World} {K : PySem.W.Frag} {mg : Str → Option Value} {base : Heap}
theorem Tx.k_LETTERS {S : Type} {X : Cx} {I : BoxI S} {Wx : WX} {pos : Pos} (T : Tx X.prog X.K X.mg) (hg : Gl X "LETTERS") : PE X (.Name "LETTERS" pos) (tD X.K I Wx (mK (.str "abcdefghijklmnopqrstuvwxyz"))) := d_k (pe_glob hg T.gk_LETTERS T.rk_LETTERS) T.dk_LETTERS
theorem Tx.k_TAKEN {S : Type} {X : Cx} {I : BoxI S} {Wx : WX} {pos : Pos} (T : Tx X.prog X.K X.mg) (hg : Gl X "TAKEN") : PE X (.Name "TAKEN" pos) (tD X.K I Wx (mK (.tup [.str "and", .str "any", .str "came", .str "here", .str "not", .str "own", .str "to"]))) := d_k (pe_glob hg T.gk_TAKEN T.rk_TAKEN) T.dk_TAKEN
theorem Tx.k_TESTS {S : Type} {X : Cx} {I : BoxI S} {Wx : WX} {pos : Pos} (T : Tx X.prog X.K X.mg) (hg : Gl X "TESTS") : PE X (.Name "TESTS" pos) (tD X.K I Wx (mK (.tup [.str "above", .str "below", .str "own", .str "not above", .str "not below", .str "not own"]))) := d_k (pe_glob hg T.gk_TESTS T.rk_TESTS) T.dk_TESTS
def m_is_name (T : Tx P K mg) : MS Unit :=
    (mSeq (mIf (mOrT (mNotT (mTest (mIsi (isF ["str"]) (mVar 0)))) (mNotT (mTest (mChain (fC fun i j => decide (i ≤ j)) (fC fun i j => decide (i ≤ j)) (mK (.int 1)) (mCB cLen (mCons (mVar 0) mNil)) (mK (.int 4)))))) (mRet (mK (.bl false))) mNext)
    (mRet (mAndV (mOp fNin (mVar 0) (mK (.tup [.str "and", .str "any", .str "came", .str "here", .str "not", .str "own", .str "to"]))) (mCB cAll (mCons (mComp (mIS (mVar 0)) [1] (gN 1) mYes (mOp fInS (mVar 1) (mK (.str "abcdefghijklmnopqrstuvwxyz")))) mNil)))))
def f_is_name (T : Tx P K mg) (ds : List D) (s : Unit) : FO Unit D := (m_is_name T (env0 [.v] 1 ds) s).fo0
theorem ok_is_name (T : Tx P K mg) : FnOk P w K mg base CX0 1 T.a_is_name T.fd_is_name ["value"] (spD boxNil K [.v] (f_is_name T)) := by
  have h := fun h1 => fn_ok0 (P := P) (w := w) (mg := mg) (base := base) (I := boxNil) (k := 0) (md := [.v]) (m := m_is_name T) T.F_is_name sc_is_name rfl rfl h1
  refine h fun cdv A outer s H E hr => ?_
  have hu := hr.units
  exact (b_cons (s_if (PW.pt (w_or (t_not (t_val (d_isi (by rfl) T.n_isinstance boot_isinstance_ (d_var 0) (k_blt (by rfl) T.n_str boot_str_) (isF_ok (cs := ["str"]) (by decide))))) (w_or1 (t_not (t_chain op_le (do_C (g := fun i j => decide (i ≤ j))) op_le (do_C (g := fun i j => decide (i ≤ j))) d_int (d_cb call_len dc_len (by rfl) T.n_len boot_len_ (a_cons (d_var 0) a_nil)) d_int))))) (b_one (s_ret d_bl)) b_nil)
      (b_one (s_ret (v_and (d_cmp (op_ninP hu) do_nin (d_var 0) (T.k_TAKEN (by rfl))) (v_one (d_cb (cr_all rfl) dc_all (by rfl) T.n_all boot_all_ (a_cons (d_comp (own := [("letter", 1)]) rfl sc_is_name.nd (i_str (d_var 0)) (blkOk_by (N := ["value", "letter"]) (sc := defScope s_is_name) (by decide +kernel)) (by decide) (fun _ _ _ _ _ => (g_name (i := 1) sc_is_name.nd rfl (by first | exact Or.inl rfl | exact Or.inr rfl))) (fun _ _ _ _ _ => y_nil) (fun _ _ _ _ _ => (d_cmp op_in_sign do_inS (d_var 1) (T.k_LETTERS (by rfl))))) a_nil)))))))
theorem name_b (T : Tx P K mg) : ∀ x ∈ words4, f_is_name T [.str x] () = .ok (.bl (inS marks4 x)) () := by
  intro x hx
  simp only [words4, marks4, List.cons_append, List.nil_append, List.mem_cons, List.not_mem_nil, or_false] at hx
  rcases hx with rfl | rfl | rfl | rfl | rfl | rfl | rfl | rfl | rfl | rfl | rfl | rfl | rfl | rfl | rfl | rfl | rfl <;> rfl
theorem name_d (T : Tx P K mg) {d : D} (h : okW d = true) : f_is_name T [d] () = .ok (.bl (kpW d)) () := by
  cases d with
  | str x => exact name_b T x (of_decide_eq_true h)
  | _ => cases h
def m_Row_init_Join (T : Tx P K mg) : MS Unit :=
    (mSeq (mFldSet T.c_Join "_words" (mVar 0) (mVar 1))
    (mFldSet T.c_Join "named" (mVar 0) (mCB cTup (mCons (mComp (mIT (mVar 2)) [3] (gN 3) (mTest (mCallP [.v] (f_is_name T) (mCons (mVar 3) mNil))) (mVar 3)) mNil))))
def f_Row_init_Join (T : Tx P K mg) (ns : List Str) (es ds : List D) : FO Unit (List Str × List D) := match ds with
  | [.tup ws, .tup ms] => if ns.length < 800 ∧ ns.contains "_words" = false ∧ (ns ++ [("_words" : Str)]).contains "named" = false ∧ ms.length ≤ 1000 ∧ ms.all okW = true then .ok (ns ++ [("_words" : Str)] ++ [("named" : Str)], es ++ [.tup ws] ++ [.tup (ms.filter kpW)]) () else .bad
  | _ => .bad
theorem init_Row_init_Join (T : Tx P K mg) (y : Addr) (ns : List Str) (es ds : List D) (p : List Str × List D) (u : Unit) (h : f_Row_init_Join T ns es ds = .ok p u) : (m_Row_init_Join T (envS y T.c_Join ns es [.v, .v] 1 ds) ()).foI y T.c_Join = .ok p u := by
  unfold f_Row_init_Join at h
  split at h
  · rename_i ws ms
    by_cases hc : ns.length < 800 ∧ ns.contains "_words" = false ∧ (ns ++ [("_words" : Str)]).contains "named" = false ∧ ms.length ≤ 1000 ∧ ms.all okW = true
    · rw [if_pos hc] at h
      cases h
      obtain ⟨c1, c2, c3, c4, c5⟩ := hc
      have e1 : (mFldSet T.c_Join "_words" (mVar 0) (mVar 1) : MS Unit) (envS y T.c_Join ns es [.v, .v] 1 [.tup ws, .tup ms]) () = .nx [.slf y T.c_Join (ns ++ [("_words" : Str)]) (es ++ [.tup ws]), .val (.tup ws), .val (.tup ms), .no] () := by
        have q : ns.contains "_words" = false ∧ ns.length < 900 := ⟨c2, by omega⟩
        exact fld_v rfl rfl q.1 q.2
      have e2 : (mComp (mIT (mVar 2)) [3] (gN 3) (mTest (mCallP [.v] (f_is_name T) (mCons (mVar 3) mNil))) (mVar 3) : MX Unit W) [.slf y T.c_Join (ns ++ [("_words" : Str)]) (es ++ [.tup ws]), .val (.tup ws), .val (.tup ms), .no] () = .ok (.f (ms.filter kpW)) [.slf y T.c_Join (ns ++ [("_words" : Str)]) (es ++ [.tup ws]), .val (.tup ws), .val (.tup ms), .no] () := by
        refine (comp_x (xs := ms) (e1 := [.slf y T.c_Join (ns ++ [("_words" : Str)]) (es ++ [.tup ws]), .val (.tup ws), .val (.tup ms), .no]) (s1 := ()) (by simp only [mSeq, mSet, mRet, mRetN, mIf, mExp, mBad, mNext, mPar, W.sl, mFor, Out.bindS, MX.bind, Out.bind, mK, mVar, mFz, mFf, mOp, mTest, mNotT, mNotV, mAndT, mOrT, mAndV, mOrV, mIfE, mChain, mNil, mCons, mTup, mLst, mCB, mFld, mFldSet, mCallP, mCallB, mMethP, mMakeP, mMut, mSl, mPart, mNoPart, mIsi, mIL, mIT, mIR, mIEn, mIS, mBGet, mBSet, mNewBox, mComp, mYes, Out.bindN, bindA, env0, envA, envI, FO.outP, FO.outL, FO.out, SO.fo0, SO.foF, SO.foI, lensW, lensL, resO_some, Rs.w_v, Rs.w_f, W.rd_v, W.rd_t, W.rd_f, W.rd_l, W.kp_v, List.mapM_cons, List.mapM_nil, Option.bind_eq_bind, Option.bind_some, Option.pure_def, Option.map_some, List.replicate_succ, List.replicate_zero, List.cons_append, List.nil_append, List.getElem?_cons_zero, List.getElem?_cons_succ, List.set_cons_zero, List.set_cons_succ, rb, ri, fI, fC, fAdd, fSub, fMod, fMul, fDiv, fIx, fIsN, fNotN, D.isN, isF, D.ty, isB, cLen, cInt, cTup, cList, gApp, gN, gT, gsC, gsN, Sl.isRef, if_true, if_false, if_pos, List.length_cons, List.length_nil, Bx.at, Bx.put, List.any_cons, List.any_nil, Bool.not_true, Bool.not_false, Nat.reduceAdd, Nat.reduceLeDiff, reduceIte, reduceCtorEq, and_self, and_true, true_and]) rfl).trans ?_
        have z := comp_fm (vs := [3]) (g := gN 3) (mt := mTest (mCallP [.v] (f_is_name T) (mCons (mVar 3) mNil))) (me := mVar 3) (f := fun d => d) (p := kpW) (L := ms) [.slf y T.c_Join (ns ++ [("_words" : Str)]) (es ++ [.tup ws]), .val (.tup ws), .val (.tup ms), .no] () (fun d hd => by
          have hn := name_d T (List.all_eq_true.mp c5 d hd)
          refine ⟨[.slf y T.c_Join (ns ++ [("_words" : Str)]) (es ++ [.tup ws]), .val (.tup ws), .val (.tup ms), .val d], [.slf y T.c_Join (ns ++ [("_words" : Str)]) (es ++ [.tup ws]), .val (.tup ws), .val (.tup ms), .val d], rfl, ?_, fun _ => ⟨rfl, rfl⟩, fun _ => ⟨[.slf y T.c_Join (ns ++ [("_words" : Str)]) (es ++ [.tup ws]), .val (.tup ws), .val (.tup ms), .val d], .v d, by simp only [mSeq, mSet, mRet, mRetN, mIf, mExp, mBad, mNext, mPar, W.sl, mFor, Out.bindS, MX.bind, Out.bind, mK, mVar, mFz, mFf, mOp, mTest, mNotT, mNotV, mAndT, mOrT, mAndV, mOrV, mIfE, mChain, mNil, mCons, mTup, mLst, mCB, mFld, mFldSet, mCallP, mCallB, mMethP, mMakeP, mMut, mSl, mPart, mNoPart, mIsi, mIL, mIT, mIR, mIEn, mIS, mBGet, mBSet, mNewBox, mComp, mYes, Out.bindN, bindA, env0, envA, envI, FO.outP, FO.outL, FO.out, SO.fo0, SO.foF, SO.foI, lensW, lensL, resO_some, Rs.w_v, Rs.w_f, W.rd_v, W.rd_t, W.rd_f, W.rd_l, W.kp_v, List.mapM_cons, List.mapM_nil, Option.bind_eq_bind, Option.bind_some, Option.pure_def, Option.map_some, List.replicate_succ, List.replicate_zero, List.cons_append, List.nil_append, List.getElem?_cons_zero, List.getElem?_cons_succ, List.set_cons_zero, List.set_cons_succ, rb, ri, fI, fC, fAdd, fSub, fMod, fMul, fDiv, fIx, fIsN, fNotN, D.isN, isF, D.ty, isB, cLen, cInt, cTup, cList, gApp, gN, gT, gsC, gsN, Sl.isRef, if_true, if_false, if_pos, List.length_cons, List.length_nil, Bx.at, Bx.put, List.any_cons, List.any_nil, Bool.not_true, Bool.not_false, Nat.reduceAdd, Nat.reduceLeDiff, reduceIte, reduceCtorEq, and_self, and_true, true_and], rfl, rfl, rfl⟩⟩
          simp only [mSeq, mSet, mRet, mRetN, mIf, mExp, mBad, mNext, mPar, W.sl, mFor, Out.bindS, MX.bind, Out.bind, mK, mVar, mFz, mFf, mOp, mTest, mNotT, mNotV, mAndT, mOrT, mAndV, mOrV, mIfE, mChain, mNil, mCons, mTup, mLst, mCB, mFld, mFldSet, mCallP, mCallB, mMethP, mMakeP, mMut, mSl, mPart, mNoPart, mIsi, mIL, mIT, mIR, mIEn, mIS, mBGet, mBSet, mNewBox, mComp, mYes, Out.bindN, bindA, env0, envA, envI, FO.outP, FO.outL, FO.out, SO.fo0, SO.foF, SO.foI, lensW, lensL, resO_some, Rs.w_v, Rs.w_f, W.rd_v, W.rd_t, W.rd_f, W.rd_l, W.kp_v, List.mapM_cons, List.mapM_nil, Option.bind_eq_bind, Option.bind_some, Option.pure_def, Option.map_some, List.replicate_succ, List.replicate_zero, List.cons_append, List.nil_append, List.getElem?_cons_zero, List.getElem?_cons_succ, List.set_cons_zero, List.set_cons_succ, rb, ri, fI, fC, fAdd, fSub, fMod, fMul, fDiv, fIx, fIsN, fNotN, D.isN, isF, D.ty, isB, cLen, cInt, cTup, cList, gApp, gN, gT, gsC, gsN, Sl.isRef, if_true, if_false, if_pos, List.length_cons, List.length_nil, Bx.at, Bx.put, List.any_cons, List.any_nil, Bool.not_true, Bool.not_false, Nat.reduceAdd, Nat.reduceLeDiff, reduceIte, reduceCtorEq, and_self, and_true, true_and, hn]) [] (by simp; omega)
        rw [List.map_id', List.nil_append] at z
        exact z
      unfold m_Row_init_Join
      rw [seq_nx e1]
      have q3 : (ns ++ [("_words" : Str)]).contains "named" = false ∧ (ns ++ [("_words" : Str)]).length < 900 := ⟨c3, by simp; omega⟩
      have e3 : (mCB cTup (mCons (mComp (mIT (mVar 2)) [3] (gN 3) (mTest (mCallP [.v] (f_is_name T) (mCons (mVar 3) mNil))) (mVar 3)) mNil) : MX Unit W) [.slf y T.c_Join (ns ++ [("_words" : Str)]) (es ++ [.tup ws]), .val (.tup ws), .val (.tup ms), .no] () = .ok (.v (.tup (ms.filter kpW))) [.slf y T.c_Join (ns ++ [("_words" : Str)]) (es ++ [.tup ws]), .val (.tup ws), .val (.tup ms), .no] () := by
        exact cb_v e2 rfl rfl
      have e4 : (mFldSet T.c_Join "named" (mVar 0) (mCB cTup (mCons (mComp (mIT (mVar 2)) [3] (gN 3) (mTest (mCallP [.v] (f_is_name T) (mCons (mVar 3) mNil))) (mVar 3)) mNil)) : MS Unit) [.slf y T.c_Join (ns ++ [("_words" : Str)]) (es ++ [.tup ws]), .val (.tup ws), .val (.tup ms), .no] () = .nx [.slf y T.c_Join (ns ++ [("_words" : Str)] ++ [("named" : Str)]) (es ++ [.tup ws] ++ [.tup (ms.filter kpW)]), .val (.tup ws), .val (.tup ms), .no] () := by
        exact fld_v e3 rfl q3.1 q3.2
      rw [e4]
      simp only [SO.foI, and_self, if_true]
    · rw [if_neg hc] at h; cases h
  · cases h
theorem row_init_Join (T : Tx P K mg) (ns : List Str) (es ws ms : List D) (h : ns.length < 800 ∧ ns.contains "_words" = false ∧ (ns ++ [("_words" : Str)]).contains "named" = false ∧ ms.length ≤ 1000 ∧ ms.all okW = true) : f_Row_init_Join T ns es [.tup ws, .tup ms] = .ok (ns ++ [("_words" : Str)] ++ [("named" : Str)], es ++ [.tup ws] ++ [.tup (ms.filter kpW)]) () := if_pos h
theorem ok_Row_init_Join (T : Tx P K mg) : FnOk P w K mg base CX0 2 T.a_Row_init T.fd_Row_init ["self", "words", "marks"] (spS K T.c_Join [.v, .v] (f_Row_init_Join T)) := by
  have h := fun h1 => fn_okS1 (P := P) (w := w) (mg := mg) (base := base) (C := T.c_Join) (k := 1) (md := [.v, .v]) (m := m_Row_init_Join T) (g := f_Row_init_Join T) T.F_Row_init sc_Row_init rfl (init_Row_init_Join T) h1
  refine h fun cdv A outer s H E hr => ?_
  have hu := hr.units
  exact (b_cons (s_fld (d_var 0) (d_var 1) T.cl_Join T.na_Join__words)
      (b_one (s_fld (d_var 0) (d_cty call_tuple_of dc_tup (by rfl) T.n_tuple boot_tuple_ (a_cons (d_comp (own := [("mark", 3)]) rfl sc_Row_init.nd (i_tup (d_var 2)) (blkOk_by (N := ["self", "words", "marks", "mark"]) (sc := defScope s_Row_init) (by decide +kernel)) (by decide) (fun _ _ _ _ _ => (g_name (i := 3) sc_Row_init.nd rfl (by first | exact Or.inl rfl | exact Or.inr rfl))) (fun _ _ _ _ _ => (y_one (t_val (d_callP (ok_is_name T) (hr.mono (by decide)) (by rfl) T.g_is_name T.F_is_name.kp T.b_is_name pass0W (a_cons (d_var 3) a_nil))))) (fun _ _ _ _ _ => (d_var 3))) a_nil)) T.cl_Join T.na_Join_named)))
def m_Row_init_Lead (T : Tx P K mg) : MS Unit :=
    (mSeq (mFldSet T.c_Lead "_words" (mVar 0) (mVar 1))
    (mFldSet T.c_Lead "named" (mVar 0) (mCB cTup (mCons (mComp (mIT (mVar 2)) [3] (gN 3) (mTest (mCallP [.v] (f_is_name T) (mCons (mVar 3) mNil))) (mVar 3)) mNil))))
def f_Row_init_Lead (T : Tx P K mg) (ns : List Str) (es ds : List D) : FO Unit (List Str × List D) := match ds with
  | [.tup ws, .tup ms] => if ns.length < 800 ∧ ns.contains "_words" = false ∧ (ns ++ [("_words" : Str)]).contains "named" = false ∧ ms.length ≤ 1000 ∧ ms.all okW = true then .ok (ns ++ [("_words" : Str)] ++ [("named" : Str)], es ++ [.tup ws] ++ [.tup (ms.filter kpW)]) () else .bad
  | _ => .bad
theorem init_Row_init_Lead (T : Tx P K mg) (y : Addr) (ns : List Str) (es ds : List D) (p : List Str × List D) (u : Unit) (h : f_Row_init_Lead T ns es ds = .ok p u) : (m_Row_init_Lead T (envS y T.c_Lead ns es [.v, .v] 1 ds) ()).foI y T.c_Lead = .ok p u := by
  unfold f_Row_init_Lead at h
  split at h
  · rename_i ws ms
    by_cases hc : ns.length < 800 ∧ ns.contains "_words" = false ∧ (ns ++ [("_words" : Str)]).contains "named" = false ∧ ms.length ≤ 1000 ∧ ms.all okW = true
    · rw [if_pos hc] at h
      cases h
      obtain ⟨c1, c2, c3, c4, c5⟩ := hc
      have e1 : (mFldSet T.c_Lead "_words" (mVar 0) (mVar 1) : MS Unit) (envS y T.c_Lead ns es [.v, .v] 1 [.tup ws, .tup ms]) () = .nx [.slf y T.c_Lead (ns ++ [("_words" : Str)]) (es ++ [.tup ws]), .val (.tup ws), .val (.tup ms), .no] () := by
        have q : ns.contains "_words" = false ∧ ns.length < 900 := ⟨c2, by omega⟩
        exact fld_v rfl rfl q.1 q.2
      have e2 : (mComp (mIT (mVar 2)) [3] (gN 3) (mTest (mCallP [.v] (f_is_name T) (mCons (mVar 3) mNil))) (mVar 3) : MX Unit W) [.slf y T.c_Lead (ns ++ [("_words" : Str)]) (es ++ [.tup ws]), .val (.tup ws), .val (.tup ms), .no] () = .ok (.f (ms.filter kpW)) [.slf y T.c_Lead (ns ++ [("_words" : Str)]) (es ++ [.tup ws]), .val (.tup ws), .val (.tup ms), .no] () := by
        refine (comp_x (xs := ms) (e1 := [.slf y T.c_Lead (ns ++ [("_words" : Str)]) (es ++ [.tup ws]), .val (.tup ws), .val (.tup ms), .no]) (s1 := ()) (by simp only [mSeq, mSet, mRet, mRetN, mIf, mExp, mBad, mNext, mPar, W.sl, mFor, Out.bindS, MX.bind, Out.bind, mK, mVar, mFz, mFf, mOp, mTest, mNotT, mNotV, mAndT, mOrT, mAndV, mOrV, mIfE, mChain, mNil, mCons, mTup, mLst, mCB, mFld, mFldSet, mCallP, mCallB, mMethP, mMakeP, mMut, mSl, mPart, mNoPart, mIsi, mIL, mIT, mIR, mIEn, mIS, mBGet, mBSet, mNewBox, mComp, mYes, Out.bindN, bindA, env0, envA, envI, FO.outP, FO.outL, FO.out, SO.fo0, SO.foF, SO.foI, lensW, lensL, resO_some, Rs.w_v, Rs.w_f, W.rd_v, W.rd_t, W.rd_f, W.rd_l, W.kp_v, List.mapM_cons, List.mapM_nil, Option.bind_eq_bind, Option.bind_some, Option.pure_def, Option.map_some, List.replicate_succ, List.replicate_zero, List.cons_append, List.nil_append, List.getElem?_cons_zero, List.getElem?_cons_succ, List.set_cons_zero, List.set_cons_succ, rb, ri, fI, fC, fAdd, fSub, fMod, fMul, fDiv, fIx, fIsN, fNotN, D.isN, isF, D.ty, isB, cLen, cInt, cTup, cList, gApp, gN, gT, gsC, gsN, Sl.isRef, if_true, if_false, if_pos, List.length_cons, List.length_nil, Bx.at, Bx.put, List.any_cons, List.any_nil, Bool.not_true, Bool.not_false, Nat.reduceAdd, Nat.reduceLeDiff, reduceIte, reduceCtorEq, and_self, and_true, true_and]) rfl).trans ?_
        have z := comp_fm (vs := [3]) (g := gN 3) (mt := mTest (mCallP [.v] (f_is_name T) (mCons (mVar 3) mNil))) (me := mVar 3) (f := fun d => d) (p := kpW) (L := ms) [.slf y T.c_Lead (ns ++ [("_words" : Str)]) (es ++ [.tup ws]), .val (.tup ws), .val (.tup ms), .no] () (fun d hd => by
          have hn := name_d T (List.all_eq_true.mp c5 d hd)
          refine ⟨[.slf y T.c_Lead (ns ++ [("_words" : Str)]) (es ++ [.tup ws]), .val (.tup ws), .val (.tup ms), .val d], [.slf y T.c_Lead (ns ++ [("_words" : Str)]) (es ++ [.tup ws]), .val (.tup ws), .val (.tup ms), .val d], rfl, ?_, fun _ => ⟨rfl, rfl⟩, fun _ => ⟨[.slf y T.c_Lead (ns ++ [("_words" : Str)]) (es ++ [.tup ws]), .val (.tup ws), .val (.tup ms), .val d], .v d, by simp only [mSeq, mSet, mRet, mRetN, mIf, mExp, mBad, mNext, mPar, W.sl, mFor, Out.bindS, MX.bind, Out.bind, mK, mVar, mFz, mFf, mOp, mTest, mNotT, mNotV, mAndT, mOrT, mAndV, mOrV, mIfE, mChain, mNil, mCons, mTup, mLst, mCB, mFld, mFldSet, mCallP, mCallB, mMethP, mMakeP, mMut, mSl, mPart, mNoPart, mIsi, mIL, mIT, mIR, mIEn, mIS, mBGet, mBSet, mNewBox, mComp, mYes, Out.bindN, bindA, env0, envA, envI, FO.outP, FO.outL, FO.out, SO.fo0, SO.foF, SO.foI, lensW, lensL, resO_some, Rs.w_v, Rs.w_f, W.rd_v, W.rd_t, W.rd_f, W.rd_l, W.kp_v, List.mapM_cons, List.mapM_nil, Option.bind_eq_bind, Option.bind_some, Option.pure_def, Option.map_some, List.replicate_succ, List.replicate_zero, List.cons_append, List.nil_append, List.getElem?_cons_zero, List.getElem?_cons_succ, List.set_cons_zero, List.set_cons_succ, rb, ri, fI, fC, fAdd, fSub, fMod, fMul, fDiv, fIx, fIsN, fNotN, D.isN, isF, D.ty, isB, cLen, cInt, cTup, cList, gApp, gN, gT, gsC, gsN, Sl.isRef, if_true, if_false, if_pos, List.length_cons, List.length_nil, Bx.at, Bx.put, List.any_cons, List.any_nil, Bool.not_true, Bool.not_false, Nat.reduceAdd, Nat.reduceLeDiff, reduceIte, reduceCtorEq, and_self, and_true, true_and], rfl, rfl, rfl⟩⟩
          simp only [mSeq, mSet, mRet, mRetN, mIf, mExp, mBad, mNext, mPar, W.sl, mFor, Out.bindS, MX.bind, Out.bind, mK, mVar, mFz, mFf, mOp, mTest, mNotT, mNotV, mAndT, mOrT, mAndV, mOrV, mIfE, mChain, mNil, mCons, mTup, mLst, mCB, mFld, mFldSet, mCallP, mCallB, mMethP, mMakeP, mMut, mSl, mPart, mNoPart, mIsi, mIL, mIT, mIR, mIEn, mIS, mBGet, mBSet, mNewBox, mComp, mYes, Out.bindN, bindA, env0, envA, envI, FO.outP, FO.outL, FO.out, SO.fo0, SO.foF, SO.foI, lensW, lensL, resO_some, Rs.w_v, Rs.w_f, W.rd_v, W.rd_t, W.rd_f, W.rd_l, W.kp_v, List.mapM_cons, List.mapM_nil, Option.bind_eq_bind, Option.bind_some, Option.pure_def, Option.map_some, List.replicate_succ, List.replicate_zero, List.cons_append, List.nil_append, List.getElem?_cons_zero, List.getElem?_cons_succ, List.set_cons_zero, List.set_cons_succ, rb, ri, fI, fC, fAdd, fSub, fMod, fMul, fDiv, fIx, fIsN, fNotN, D.isN, isF, D.ty, isB, cLen, cInt, cTup, cList, gApp, gN, gT, gsC, gsN, Sl.isRef, if_true, if_false, if_pos, List.length_cons, List.length_nil, Bx.at, Bx.put, List.any_cons, List.any_nil, Bool.not_true, Bool.not_false, Nat.reduceAdd, Nat.reduceLeDiff, reduceIte, reduceCtorEq, and_self, and_true, true_and, hn]) [] (by simp; omega)
        rw [List.map_id', List.nil_append] at z
        exact z
      unfold m_Row_init_Lead
      rw [seq_nx e1]
      have q3 : (ns ++ [("_words" : Str)]).contains "named" = false ∧ (ns ++ [("_words" : Str)]).length < 900 := ⟨c3, by simp; omega⟩
      have e3 : (mCB cTup (mCons (mComp (mIT (mVar 2)) [3] (gN 3) (mTest (mCallP [.v] (f_is_name T) (mCons (mVar 3) mNil))) (mVar 3)) mNil) : MX Unit W) [.slf y T.c_Lead (ns ++ [("_words" : Str)]) (es ++ [.tup ws]), .val (.tup ws), .val (.tup ms), .no] () = .ok (.v (.tup (ms.filter kpW))) [.slf y T.c_Lead (ns ++ [("_words" : Str)]) (es ++ [.tup ws]), .val (.tup ws), .val (.tup ms), .no] () := by
        exact cb_v e2 rfl rfl
      have e4 : (mFldSet T.c_Lead "named" (mVar 0) (mCB cTup (mCons (mComp (mIT (mVar 2)) [3] (gN 3) (mTest (mCallP [.v] (f_is_name T) (mCons (mVar 3) mNil))) (mVar 3)) mNil)) : MS Unit) [.slf y T.c_Lead (ns ++ [("_words" : Str)]) (es ++ [.tup ws]), .val (.tup ws), .val (.tup ms), .no] () = .nx [.slf y T.c_Lead (ns ++ [("_words" : Str)] ++ [("named" : Str)]) (es ++ [.tup ws] ++ [.tup (ms.filter kpW)]), .val (.tup ws), .val (.tup ms), .no] () := by
        exact fld_v e3 rfl q3.1 q3.2
      rw [e4]
      simp only [SO.foI, and_self, if_true]
    · rw [if_neg hc] at h; cases h
  · cases h
theorem row_init_Lead (T : Tx P K mg) (ns : List Str) (es ws ms : List D) (h : ns.length < 800 ∧ ns.contains "_words" = false ∧ (ns ++ [("_words" : Str)]).contains "named" = false ∧ ms.length ≤ 1000 ∧ ms.all okW = true) : f_Row_init_Lead T ns es [.tup ws, .tup ms] = .ok (ns ++ [("_words" : Str)] ++ [("named" : Str)], es ++ [.tup ws] ++ [.tup (ms.filter kpW)]) () := if_pos h
theorem ok_Row_init_Lead (T : Tx P K mg) : FnOk P w K mg base CX0 2 T.a_Row_init T.fd_Row_init ["self", "words", "marks"] (spS K T.c_Lead [.v, .v] (f_Row_init_Lead T)) := by
  have h := fun h1 => fn_okS1 (P := P) (w := w) (mg := mg) (base := base) (C := T.c_Lead) (k := 1) (md := [.v, .v]) (m := m_Row_init_Lead T) (g := f_Row_init_Lead T) T.F_Row_init sc_Row_init rfl (init_Row_init_Lead T) h1
  refine h fun cdv A outer s H E hr => ?_
  have hu := hr.units
  exact (b_cons (s_fld (d_var 0) (d_var 1) T.cl_Lead T.na_Lead__words)
      (b_one (s_fld (d_var 0) (d_cty call_tuple_of dc_tup (by rfl) T.n_tuple boot_tuple_ (a_cons (d_comp (own := [("mark", 3)]) rfl sc_Row_init.nd (i_tup (d_var 2)) (blkOk_by (N := ["self", "words", "marks", "mark"]) (sc := defScope s_Row_init) (by decide +kernel)) (by decide) (fun _ _ _ _ _ => (g_name (i := 3) sc_Row_init.nd rfl (by first | exact Or.inl rfl | exact Or.inr rfl))) (fun _ _ _ _ _ => (y_one (t_val (d_callP (ok_is_name T) (hr.mono (by decide)) (by rfl) T.g_is_name T.F_is_name.kp T.b_is_name pass0W (a_cons (d_var 3) a_nil))))) (fun _ _ _ _ _ => (d_var 3))) a_nil)) T.cl_Lead T.na_Lead_named)))
def m_Row_init_Run (T : Tx P K mg) : MS Unit :=
    (mSeq (mFldSet T.c_Run "_words" (mVar 0) (mVar 1))
    (mFldSet T.c_Run "named" (mVar 0) (mCB cTup (mCons (mComp (mIT (mVar 2)) [3] (gN 3) (mTest (mCallP [.v] (f_is_name T) (mCons (mVar 3) mNil))) (mVar 3)) mNil))))
def f_Row_init_Run (T : Tx P K mg) (ns : List Str) (es ds : List D) : FO Unit (List Str × List D) := match ds with
  | [.tup ws, .tup ms] => if ns.length < 800 ∧ ns.contains "_words" = false ∧ (ns ++ [("_words" : Str)]).contains "named" = false ∧ ms.length ≤ 1000 ∧ ms.all okW = true then .ok (ns ++ [("_words" : Str)] ++ [("named" : Str)], es ++ [.tup ws] ++ [.tup (ms.filter kpW)]) () else .bad
  | _ => .bad
theorem init_Row_init_Run (T : Tx P K mg) (y : Addr) (ns : List Str) (es ds : List D) (p : List Str × List D) (u : Unit) (h : f_Row_init_Run T ns es ds = .ok p u) : (m_Row_init_Run T (envS y T.c_Run ns es [.v, .v] 1 ds) ()).foI y T.c_Run = .ok p u := by
  unfold f_Row_init_Run at h
  split at h
  · rename_i ws ms
    by_cases hc : ns.length < 800 ∧ ns.contains "_words" = false ∧ (ns ++ [("_words" : Str)]).contains "named" = false ∧ ms.length ≤ 1000 ∧ ms.all okW = true
    · rw [if_pos hc] at h
      cases h
      obtain ⟨c1, c2, c3, c4, c5⟩ := hc
      have e1 : (mFldSet T.c_Run "_words" (mVar 0) (mVar 1) : MS Unit) (envS y T.c_Run ns es [.v, .v] 1 [.tup ws, .tup ms]) () = .nx [.slf y T.c_Run (ns ++ [("_words" : Str)]) (es ++ [.tup ws]), .val (.tup ws), .val (.tup ms), .no] () := by
        have q : ns.contains "_words" = false ∧ ns.length < 900 := ⟨c2, by omega⟩
        exact fld_v rfl rfl q.1 q.2
      have e2 : (mComp (mIT (mVar 2)) [3] (gN 3) (mTest (mCallP [.v] (f_is_name T) (mCons (mVar 3) mNil))) (mVar 3) : MX Unit W) [.slf y T.c_Run (ns ++ [("_words" : Str)]) (es ++ [.tup ws]), .val (.tup ws), .val (.tup ms), .no] () = .ok (.f (ms.filter kpW)) [.slf y T.c_Run (ns ++ [("_words" : Str)]) (es ++ [.tup ws]), .val (.tup ws), .val (.tup ms), .no] () := by
        refine (comp_x (xs := ms) (e1 := [.slf y T.c_Run (ns ++ [("_words" : Str)]) (es ++ [.tup ws]), .val (.tup ws), .val (.tup ms), .no]) (s1 := ()) (by simp only [mSeq, mSet, mRet, mRetN, mIf, mExp, mBad, mNext, mPar, W.sl, mFor, Out.bindS, MX.bind, Out.bind, mK, mVar, mFz, mFf, mOp, mTest, mNotT, mNotV, mAndT, mOrT, mAndV, mOrV, mIfE, mChain, mNil, mCons, mTup, mLst, mCB, mFld, mFldSet, mCallP, mCallB, mMethP, mMakeP, mMut, mSl, mPart, mNoPart, mIsi, mIL, mIT, mIR, mIEn, mIS, mBGet, mBSet, mNewBox, mComp, mYes, Out.bindN, bindA, env0, envA, envI, FO.outP, FO.outL, FO.out, SO.fo0, SO.foF, SO.foI, lensW, lensL, resO_some, Rs.w_v, Rs.w_f, W.rd_v, W.rd_t, W.rd_f, W.rd_l, W.kp_v, List.mapM_cons, List.mapM_nil, Option.bind_eq_bind, Option.bind_some, Option.pure_def, Option.map_some, List.replicate_succ, List.replicate_zero, List.cons_append, List.nil_append, List.getElem?_cons_zero, List.getElem?_cons_succ, List.set_cons_zero, List.set_cons_succ, rb, ri, fI, fC, fAdd, fSub, fMod, fMul, fDiv, fIx, fIsN, fNotN, D.isN, isF, D.ty, isB, cLen, cInt, cTup, cList, gApp, gN, gT, gsC, gsN, Sl.isRef, if_true, if_false, if_pos, List.length_cons, List.length_nil, Bx.at, Bx.put, List.any_cons, List.any_nil, Bool.not_true, Bool.not_false, Nat.reduceAdd, Nat.reduceLeDiff, reduceIte, reduceCtorEq, and_self, and_true, true_and]) rfl).trans ?_
        have z := comp_fm (vs := [3]) (g := gN 3) (mt := mTest (mCallP [.v] (f_is_name T) (mCons (mVar 3) mNil))) (me := mVar 3) (f := fun d => d) (p := kpW) (L := ms) [.slf y T.c_Run (ns ++ [("_words" : Str)]) (es ++ [.tup ws]), .val (.tup ws), .val (.tup ms), .no] () (fun d hd => by
          have hn := name_d T (List.all_eq_true.mp c5 d hd)
          refine ⟨[.slf y T.c_Run (ns ++ [("_words" : Str)]) (es ++ [.tup ws]), .val (.tup ws), .val (.tup ms), .val d], [.slf y T.c_Run (ns ++ [("_words" : Str)]) (es ++ [.tup ws]), .val (.tup ws), .val (.tup ms), .val d], rfl, ?_, fun _ => ⟨rfl, rfl⟩, fun _ => ⟨[.slf y T.c_Run (ns ++ [("_words" : Str)]) (es ++ [.tup ws]), .val (.tup ws), .val (.tup ms), .val d], .v d, by simp only [mSeq, mSet, mRet, mRetN, mIf, mExp, mBad, mNext, mPar, W.sl, mFor, Out.bindS, MX.bind, Out.bind, mK, mVar, mFz, mFf, mOp, mTest, mNotT, mNotV, mAndT, mOrT, mAndV, mOrV, mIfE, mChain, mNil, mCons, mTup, mLst, mCB, mFld, mFldSet, mCallP, mCallB, mMethP, mMakeP, mMut, mSl, mPart, mNoPart, mIsi, mIL, mIT, mIR, mIEn, mIS, mBGet, mBSet, mNewBox, mComp, mYes, Out.bindN, bindA, env0, envA, envI, FO.outP, FO.outL, FO.out, SO.fo0, SO.foF, SO.foI, lensW, lensL, resO_some, Rs.w_v, Rs.w_f, W.rd_v, W.rd_t, W.rd_f, W.rd_l, W.kp_v, List.mapM_cons, List.mapM_nil, Option.bind_eq_bind, Option.bind_some, Option.pure_def, Option.map_some, List.replicate_succ, List.replicate_zero, List.cons_append, List.nil_append, List.getElem?_cons_zero, List.getElem?_cons_succ, List.set_cons_zero, List.set_cons_succ, rb, ri, fI, fC, fAdd, fSub, fMod, fMul, fDiv, fIx, fIsN, fNotN, D.isN, isF, D.ty, isB, cLen, cInt, cTup, cList, gApp, gN, gT, gsC, gsN, Sl.isRef, if_true, if_false, if_pos, List.length_cons, List.length_nil, Bx.at, Bx.put, List.any_cons, List.any_nil, Bool.not_true, Bool.not_false, Nat.reduceAdd, Nat.reduceLeDiff, reduceIte, reduceCtorEq, and_self, and_true, true_and], rfl, rfl, rfl⟩⟩
          simp only [mSeq, mSet, mRet, mRetN, mIf, mExp, mBad, mNext, mPar, W.sl, mFor, Out.bindS, MX.bind, Out.bind, mK, mVar, mFz, mFf, mOp, mTest, mNotT, mNotV, mAndT, mOrT, mAndV, mOrV, mIfE, mChain, mNil, mCons, mTup, mLst, mCB, mFld, mFldSet, mCallP, mCallB, mMethP, mMakeP, mMut, mSl, mPart, mNoPart, mIsi, mIL, mIT, mIR, mIEn, mIS, mBGet, mBSet, mNewBox, mComp, mYes, Out.bindN, bindA, env0, envA, envI, FO.outP, FO.outL, FO.out, SO.fo0, SO.foF, SO.foI, lensW, lensL, resO_some, Rs.w_v, Rs.w_f, W.rd_v, W.rd_t, W.rd_f, W.rd_l, W.kp_v, List.mapM_cons, List.mapM_nil, Option.bind_eq_bind, Option.bind_some, Option.pure_def, Option.map_some, List.replicate_succ, List.replicate_zero, List.cons_append, List.nil_append, List.getElem?_cons_zero, List.getElem?_cons_succ, List.set_cons_zero, List.set_cons_succ, rb, ri, fI, fC, fAdd, fSub, fMod, fMul, fDiv, fIx, fIsN, fNotN, D.isN, isF, D.ty, isB, cLen, cInt, cTup, cList, gApp, gN, gT, gsC, gsN, Sl.isRef, if_true, if_false, if_pos, List.length_cons, List.length_nil, Bx.at, Bx.put, List.any_cons, List.any_nil, Bool.not_true, Bool.not_false, Nat.reduceAdd, Nat.reduceLeDiff, reduceIte, reduceCtorEq, and_self, and_true, true_and, hn]) [] (by simp; omega)
        rw [List.map_id', List.nil_append] at z
        exact z
      unfold m_Row_init_Run
      rw [seq_nx e1]
      have q3 : (ns ++ [("_words" : Str)]).contains "named" = false ∧ (ns ++ [("_words" : Str)]).length < 900 := ⟨c3, by simp; omega⟩
      have e3 : (mCB cTup (mCons (mComp (mIT (mVar 2)) [3] (gN 3) (mTest (mCallP [.v] (f_is_name T) (mCons (mVar 3) mNil))) (mVar 3)) mNil) : MX Unit W) [.slf y T.c_Run (ns ++ [("_words" : Str)]) (es ++ [.tup ws]), .val (.tup ws), .val (.tup ms), .no] () = .ok (.v (.tup (ms.filter kpW))) [.slf y T.c_Run (ns ++ [("_words" : Str)]) (es ++ [.tup ws]), .val (.tup ws), .val (.tup ms), .no] () := by
        exact cb_v e2 rfl rfl
      have e4 : (mFldSet T.c_Run "named" (mVar 0) (mCB cTup (mCons (mComp (mIT (mVar 2)) [3] (gN 3) (mTest (mCallP [.v] (f_is_name T) (mCons (mVar 3) mNil))) (mVar 3)) mNil)) : MS Unit) [.slf y T.c_Run (ns ++ [("_words" : Str)]) (es ++ [.tup ws]), .val (.tup ws), .val (.tup ms), .no] () = .nx [.slf y T.c_Run (ns ++ [("_words" : Str)] ++ [("named" : Str)]) (es ++ [.tup ws] ++ [.tup (ms.filter kpW)]), .val (.tup ws), .val (.tup ms), .no] () := by
        exact fld_v e3 rfl q3.1 q3.2
      rw [e4]
      simp only [SO.foI, and_self, if_true]
    · rw [if_neg hc] at h; cases h
  · cases h
theorem row_init_Run (T : Tx P K mg) (ns : List Str) (es ws ms : List D) (h : ns.length < 800 ∧ ns.contains "_words" = false ∧ (ns ++ [("_words" : Str)]).contains "named" = false ∧ ms.length ≤ 1000 ∧ ms.all okW = true) : f_Row_init_Run T ns es [.tup ws, .tup ms] = .ok (ns ++ [("_words" : Str)] ++ [("named" : Str)], es ++ [.tup ws] ++ [.tup (ms.filter kpW)]) () := if_pos h
theorem ok_Row_init_Run (T : Tx P K mg) : FnOk P w K mg base CX0 2 T.a_Row_init T.fd_Row_init ["self", "words", "marks"] (spS K T.c_Run [.v, .v] (f_Row_init_Run T)) := by
  have h := fun h1 => fn_okS1 (P := P) (w := w) (mg := mg) (base := base) (C := T.c_Run) (k := 1) (md := [.v, .v]) (m := m_Row_init_Run T) (g := f_Row_init_Run T) T.F_Row_init sc_Row_init rfl (init_Row_init_Run T) h1
  refine h fun cdv A outer s H E hr => ?_
  have hu := hr.units
  exact (b_cons (s_fld (d_var 0) (d_var 1) T.cl_Run T.na_Run__words)
      (b_one (s_fld (d_var 0) (d_cty call_tuple_of dc_tup (by rfl) T.n_tuple boot_tuple_ (a_cons (d_comp (own := [("mark", 3)]) rfl sc_Row_init.nd (i_tup (d_var 2)) (blkOk_by (N := ["self", "words", "marks", "mark"]) (sc := defScope s_Row_init) (by decide +kernel)) (by decide) (fun _ _ _ _ _ => (g_name (i := 3) sc_Row_init.nd rfl (by first | exact Or.inl rfl | exact Or.inr rfl))) (fun _ _ _ _ _ => (y_one (t_val (d_callP (ok_is_name T) (hr.mono (by decide)) (by rfl) T.g_is_name T.F_is_name.kp T.b_is_name pass0W (a_cons (d_var 3) a_nil))))) (fun _ _ _ _ _ => (d_var 3))) a_nil)) T.cl_Run T.na_Run_named)))
def m__is_wanted (T : Tx P K mg) : MS Unit :=
    (mRet (mOrV (mCallP [.v] (f_is_name T) (mCons (mVar 0) mNil)) (mOp fEq (mVar 0) (mK (.str "any")))))
def f__is_wanted (T : Tx P K mg) (ds : List D) (s : Unit) : FO Unit D := (m__is_wanted T (env0 [.v] 0 ds) s).fo0
theorem ok__is_wanted (T : Tx P K mg) : FnOk P w K mg base CX0 2 T.a__is_wanted T.fd__is_wanted ["value"] (spD boxNil K [.v] (f__is_wanted T)) := by
  have h := fun h1 => fn_ok0 (P := P) (w := w) (mg := mg) (base := base) (I := boxNil) (k := 1) (md := [.v]) (m := m__is_wanted T) T.F__is_wanted sc__is_wanted rfl rfl h1
  refine h fun cdv A outer s H E hr => ?_
  have hu := hr.units
  exact (b_one (s_ret (v_or (d_callP (ok_is_name T) (hr.mono (by decide)) (by rfl) T.g_is_name T.F_is_name.kp T.b_is_name pass0W (a_cons (d_var 0) a_nil)) (v_one (d_cmp (op_eqP hu) do_eq (d_var 0) d_str)))))
theorem wanted_b (T : Tx P K mg) : ∀ x ∈ wants4, f__is_wanted T [.str x] () = .ok (.bl true) () := by
  intro x hx
  simp only [wants4, marks4, List.cons_append, List.nil_append, List.mem_cons, List.not_mem_nil, or_false] at hx
  rcases hx with rfl | rfl | rfl | rfl | rfl | rfl | rfl | rfl | rfl | rfl | rfl | rfl | rfl | rfl | rfl <;> rfl
theorem w_words {x : Str} (h : x ∈ wants4) : x ∈ words4 := by
  unfold words4; unfold wants4 at h
  rcases List.mem_append.mp h with h | h
  · exact List.mem_append_left _ h
  · exact List.mem_append_right _ (by simp only [List.mem_cons, List.not_mem_nil, or_false] at h ⊢; exact .inl h)
theorem m_words {x : Str} (h : x ∈ marks4) : x ∈ words4 := List.mem_append_left _ h
theorem t_words {x : Str} (h : x ∈ thens4) : x ∈ words4 := by
  unfold words4; unfold thens4 at h
  rcases List.mem_append.mp h with h | h
  · exact List.mem_append_left _ h
  · exact List.mem_append_right _ (by simp only [List.mem_cons, List.not_mem_nil, or_false] at h ⊢; exact .inr h)
theorem okw {x : Str} (h : x ∈ words4) : okW (.str x) = true := decide_eq_true h
def m_Join_init (T : Tx P K mg) : MS Unit :=
    (mSeq (mIf (mNotT (mTest (mCallP [.v] (f__is_wanted T) (mCons (mVar 1) mNil)))) mBad mNext)
    (mSeq (mIf (mNotT (mTest (mCallP [.v] (f__is_wanted T) (mCons (mVar 2) mNil)))) mBad mNext)
    (mSeq (mIf (mAndT (mNotT (mTest (mCallP [.v] (f_is_name T) (mCons (mVar 3) mNil)))) (mTest (mOp fNin (mVar 3) (mTup (mCons (mK (.str "here")) (mCons (mK (.str "came")) mNil)))))) mBad mNext)
    (mSeq (mFldSet T.c_Join "here" (mVar 0) (mVar 1))
    (mSeq (mFldSet T.c_Join "came" (mVar 0) (mVar 2))
    (mSeq (mFldSet T.c_Join "then" (mVar 0) (mVar 3))
    (mSup T.c_Join [.v, .v] (f_Row_init_Join T) (mCons (mTup (mCons (mK (.str "join")) (mCons (mVar 1) (mCons (mVar 2) (mCons (mK (.str "to")) (mCons (mVar 3) mNil)))))) (mCons (mTup (mCons (mVar 1) (mCons (mVar 2) (mCons (mVar 3) mNil)))) mNil)))))))))
def f_Join_init (T : Tx P K mg) (ds : List D) : FO Unit (List Str × List D) := match ds with
  | [.str a, .str b, .str c] => if a ∈ wants4 ∧ b ∈ wants4 ∧ c ∈ thens4 then .ok (["here", "came", "then", "_words", "named"], [.str a, .str b, .str c, .tup [.str "join", .str a, .str b, .str "to", .str c], .tup ([D.str a, .str b, .str c].filter kpW)]) () else .bad
  | _ => .bad
theorem nx_Join_init (T : Tx P K mg) (ds : List D) (e : Ex) (u : Unit) : f_Join_init T ds ≠ .ex e u := by
  unfold f_Join_init
  split
  · split <;> exact fun z => by cases z
  · exact fun z => by cases z
theorem then_x (T : Tx P K mg) {c : Str} (h : c ∈ thens4) {y : Addr} {x1 x2 x4 : Sl} : (mAndT (mNotT (mTest (mCallP [.v] (f_is_name T) (mCons (mVar 3) mNil)))) (mTest (mOp fNin (mVar 3) (mTup (mCons (mK (.str "here")) (mCons (mK (.str "came")) mNil))))) : MX Unit Bool) [.slf y T.c_Join [] [], x1, x2, .val (.str c), x4] () = .ok false [.slf y T.c_Join [] [], x1, x2, .val (.str c), x4] () := by
  have hb := name_b T c (t_words h)
  by_cases hm : c ∈ marks4
  · rw [show inS marks4 c = true from decide_eq_true hm] at hb
    simp only [mSeq, mSet, mRet, mRetN, mIf, mExp, mBad, mNext, mPar, W.sl, mFor, Out.bindS, MX.bind, Out.bind, mK, mVar, mFz, mFf, mOp, mTest, mNotT, mNotV, mAndT, mOrT, mAndV, mOrV, mIfE, mChain, mNil, mCons, mTup, mLst, mCB, mFld, mFldSet, mCallP, mCallB, mMethP, mMakeP, mMut, mSl, mPart, mNoPart, mIsi, mIL, mIT, mIR, mIEn, mIS, mBGet, mBSet, mNewBox, mComp, mYes, Out.bindN, bindA, env0, envA, envI, FO.outP, FO.outL, FO.out, SO.fo0, SO.foF, SO.foI, lensW, lensL, resO_some, Rs.w_v, Rs.w_f, W.rd_v, W.rd_t, W.rd_f, W.rd_l, W.kp_v, List.mapM_cons, List.mapM_nil, Option.bind_eq_bind, Option.bind_some, Option.pure_def, Option.map_some, List.replicate_succ, List.replicate_zero, List.cons_append, List.nil_append, List.getElem?_cons_zero, List.getElem?_cons_succ, List.set_cons_zero, List.set_cons_succ, rb, ri, fI, fC, fAdd, fSub, fMod, fMul, fDiv, fIx, fIsN, fNotN, D.isN, isF, D.ty, isB, cLen, cInt, cTup, cList, gApp, gN, gT, gsC, gsN, Sl.isRef, if_true, if_false, if_pos, List.length_cons, List.length_nil, Bx.at, Bx.put, List.any_cons, List.any_nil, Bool.not_true, Bool.not_false, Nat.reduceAdd, Nat.reduceLeDiff, reduceIte, reduceCtorEq, and_self, and_true, true_and, hb]
  · rw [show inS marks4 c = false from decide_eq_false hm] at hb
    have h2 : c = "here" ∨ c = "came" := by
      unfold thens4 at h
      rcases List.mem_append.mp h with h | h
      · exact absurd h hm
      · simpa only [List.mem_cons, List.not_mem_nil, or_false] using h
    rcases h2 with rfl | rfl
    · simp only [mSeq, mSet, mRet, mRetN, mIf, mExp, mBad, mNext, mPar, W.sl, mFor, Out.bindS, MX.bind, Out.bind, mK, mVar, mFz, mFf, mOp, mTest, mNotT, mNotV, mAndT, mOrT, mAndV, mOrV, mIfE, mChain, mNil, mCons, mTup, mLst, mCB, mFld, mFldSet, mCallP, mCallB, mMethP, mMakeP, mMut, mSl, mPart, mNoPart, mIsi, mIL, mIT, mIR, mIEn, mIS, mBGet, mBSet, mNewBox, mComp, mYes, Out.bindN, bindA, env0, envA, envI, FO.outP, FO.outL, FO.out, SO.fo0, SO.foF, SO.foI, lensW, lensL, resO_some, Rs.w_v, Rs.w_f, W.rd_v, W.rd_t, W.rd_f, W.rd_l, W.kp_v, List.mapM_cons, List.mapM_nil, Option.bind_eq_bind, Option.bind_some, Option.pure_def, Option.map_some, List.replicate_succ, List.replicate_zero, List.cons_append, List.nil_append, List.getElem?_cons_zero, List.getElem?_cons_succ, List.set_cons_zero, List.set_cons_succ, rb, ri, fI, fC, fAdd, fSub, fMod, fMul, fDiv, fIx, fIsN, fNotN, D.isN, isF, D.ty, isB, cLen, cInt, cTup, cList, gApp, gN, gT, gsC, gsN, Sl.isRef, if_true, if_false, if_pos, List.length_cons, List.length_nil, Bx.at, Bx.put, List.any_cons, List.any_nil, Bool.not_true, Bool.not_false, Nat.reduceAdd, Nat.reduceLeDiff, reduceIte, reduceCtorEq, and_self, and_true, true_and, hb]
      rfl
    · simp only [mSeq, mSet, mRet, mRetN, mIf, mExp, mBad, mNext, mPar, W.sl, mFor, Out.bindS, MX.bind, Out.bind, mK, mVar, mFz, mFf, mOp, mTest, mNotT, mNotV, mAndT, mOrT, mAndV, mOrV, mIfE, mChain, mNil, mCons, mTup, mLst, mCB, mFld, mFldSet, mCallP, mCallB, mMethP, mMakeP, mMut, mSl, mPart, mNoPart, mIsi, mIL, mIT, mIR, mIEn, mIS, mBGet, mBSet, mNewBox, mComp, mYes, Out.bindN, bindA, env0, envA, envI, FO.outP, FO.outL, FO.out, SO.fo0, SO.foF, SO.foI, lensW, lensL, resO_some, Rs.w_v, Rs.w_f, W.rd_v, W.rd_t, W.rd_f, W.rd_l, W.kp_v, List.mapM_cons, List.mapM_nil, Option.bind_eq_bind, Option.bind_some, Option.pure_def, Option.map_some, List.replicate_succ, List.replicate_zero, List.cons_append, List.nil_append, List.getElem?_cons_zero, List.getElem?_cons_succ, List.set_cons_zero, List.set_cons_succ, rb, ri, fI, fC, fAdd, fSub, fMod, fMul, fDiv, fIx, fIsN, fNotN, D.isN, isF, D.ty, isB, cLen, cInt, cTup, cList, gApp, gN, gT, gsC, gsN, Sl.isRef, if_true, if_false, if_pos, List.length_cons, List.length_nil, Bx.at, Bx.put, List.any_cons, List.any_nil, Bool.not_true, Bool.not_false, Nat.reduceAdd, Nat.reduceLeDiff, reduceIte, reduceCtorEq, and_self, and_true, true_and, hb]
      rfl
theorem init_Join_init (T : Tx P K mg) (y : Addr) (ds : List D) (p : List Str × List D) (u : Unit) (h : f_Join_init T ds = .ok p u) : (m_Join_init T (envI y T.c_Join [.v, .v, .v] 1 ds) ()).foI y T.c_Join = .ok p u := by
  unfold f_Join_init at h
  split at h
  · rename_i a b c
    by_cases hc : a ∈ wants4 ∧ b ∈ wants4 ∧ c ∈ thens4
    · rw [if_pos hc] at h
      cases h
      have ha := wanted_b T a hc.1
      have hb := wanted_b T b hc.2.1
      have hr := row_init_Join T ["here", "came", "then"] [.str a, .str b, .str c] [.str "join", .str a, .str b, .str "to", .str c] [.str a, .str b, .str c] ⟨by decide, by decide, by decide, by simp, by simp [okw (w_words hc.1), okw (w_words hc.2.1), okw (t_words hc.2.2)]⟩
      have e1 : (mFldSet T.c_Join "here" (mVar 0) (mVar 1) : MS Unit) [.slf y T.c_Join [] [], .val (.str a), .val (.str b), .val (.str c), .no] () = .nx [.slf y T.c_Join ["here"] [.str a], .val (.str a), .val (.str b), .val (.str c), .no] () := fld_v rfl rfl (by decide) (by decide)
      have e2 : (mFldSet T.c_Join "came" (mVar 0) (mVar 2) : MS Unit) [.slf y T.c_Join ["here"] [.str a], .val (.str a), .val (.str b), .val (.str c), .no] () = .nx [.slf y T.c_Join ["here", "came"] [.str a, .str b], .val (.str a), .val (.str b), .val (.str c), .no] () := fld_v rfl rfl (by decide) (by decide)
      have e3 : (mFldSet T.c_Join "then" (mVar 0) (mVar 3) : MS Unit) [.slf y T.c_Join ["here", "came"] [.str a, .str b], .val (.str a), .val (.str b), .val (.str c), .no] () = .nx [.slf y T.c_Join ["here", "came", "then"] [.str a, .str b, .str c], .val (.str a), .val (.str b), .val (.str c), .no] () := fld_v rfl rfl (by decide) (by decide)
      have e0 : (mIf (mAndT (mNotT (mTest (mCallP [.v] (f_is_name T) (mCons (mVar 3) mNil)))) (mTest (mOp fNin (mVar 3) (mTup (mCons (mK (.str "here")) (mCons (mK (.str "came")) mNil)))))) mBad mNext : MS Unit) [.slf y T.c_Join [] [], .val (.str a), .val (.str b), .val (.str c), .no] () = .nx [.slf y T.c_Join [] [], .val (.str a), .val (.str b), .val (.str c), .no] () := (if_f (then_x T hc.2.2)).trans rfl
      unfold m_Join_init
      rw [seq_nx (e1 := [.slf y T.c_Join [] [], .val (.str a), .val (.str b), .val (.str c), .no]) (s1 := ()) (by simp only [mSeq, mSet, mRet, mRetN, mIf, mExp, mBad, mNext, mPar, W.sl, mFor, Out.bindS, MX.bind, Out.bind, mK, mVar, mFz, mFf, mOp, mTest, mNotT, mNotV, mAndT, mOrT, mAndV, mOrV, mIfE, mChain, mNil, mCons, mTup, mLst, mCB, mFld, mFldSet, mCallP, mCallB, mMethP, mMakeP, mMut, mSl, mPart, mNoPart, mIsi, mIL, mIT, mIR, mIEn, mIS, mBGet, mBSet, mNewBox, mComp, mYes, Out.bindN, bindA, env0, envA, envI, FO.outP, FO.outL, FO.out, SO.fo0, SO.foF, SO.foI, lensW, lensL, resO_some, Rs.w_v, Rs.w_f, W.rd_v, W.rd_t, W.rd_f, W.rd_l, W.kp_v, List.mapM_cons, List.mapM_nil, Option.bind_eq_bind, Option.bind_some, Option.pure_def, Option.map_some, List.replicate_succ, List.replicate_zero, List.cons_append, List.nil_append, List.getElem?_cons_zero, List.getElem?_cons_succ, List.set_cons_zero, List.set_cons_succ, rb, ri, fI, fC, fAdd, fSub, fMod, fMul, fDiv, fIx, fIsN, fNotN, D.isN, isF, D.ty, isB, cLen, cInt, cTup, cList, gApp, gN, gT, gsC, gsN, Sl.isRef, if_true, if_false, if_pos, List.length_cons, List.length_nil, Bx.at, Bx.put, List.any_cons, List.any_nil, Bool.not_true, Bool.not_false, Nat.reduceAdd, Nat.reduceLeDiff, reduceIte, reduceCtorEq, and_self, and_true, true_and, envI, ha]), seq_nx (e1 := [.slf y T.c_Join [] [], .val (.str a), .val (.str b), .val (.str c), .no]) (s1 := ()) (by simp only [mSeq, mSet, mRet, mRetN, mIf, mExp, mBad, mNext, mPar, W.sl, mFor, Out.bindS, MX.bind, Out.bind, mK, mVar, mFz, mFf, mOp, mTest, mNotT, mNotV, mAndT, mOrT, mAndV, mOrV, mIfE, mChain, mNil, mCons, mTup, mLst, mCB, mFld, mFldSet, mCallP, mCallB, mMethP, mMakeP, mMut, mSl, mPart, mNoPart, mIsi, mIL, mIT, mIR, mIEn, mIS, mBGet, mBSet, mNewBox, mComp, mYes, Out.bindN, bindA, env0, envA, envI, FO.outP, FO.outL, FO.out, SO.fo0, SO.foF, SO.foI, lensW, lensL, resO_some, Rs.w_v, Rs.w_f, W.rd_v, W.rd_t, W.rd_f, W.rd_l, W.kp_v, List.mapM_cons, List.mapM_nil, Option.bind_eq_bind, Option.bind_some, Option.pure_def, Option.map_some, List.replicate_succ, List.replicate_zero, List.cons_append, List.nil_append, List.getElem?_cons_zero, List.getElem?_cons_succ, List.set_cons_zero, List.set_cons_succ, rb, ri, fI, fC, fAdd, fSub, fMod, fMul, fDiv, fIx, fIsN, fNotN, D.isN, isF, D.ty, isB, cLen, cInt, cTup, cList, gApp, gN, gT, gsC, gsN, Sl.isRef, if_true, if_false, if_pos, List.length_cons, List.length_nil, Bx.at, Bx.put, List.any_cons, List.any_nil, Bool.not_true, Bool.not_false, Nat.reduceAdd, Nat.reduceLeDiff, reduceIte, reduceCtorEq, and_self, and_true, true_and, hb]),
        seq_nx e0, seq_nx e1, seq_nx e2, seq_nx e3]
      rw [sup_x (ns := ["here", "came", "then"]) (es := [.str a, .str b, .str c]) (ds := [.tup [.str "join", .str a, .str b, .str "to", .str c], .tup [.str a, .str b, .str c]]) (p := (_, _)) (rest2 := [.val (.str a), .val (.str b), .val (.str c), .no]) (ws := [.v (.tup [.str "join", .str a, .str b, .str "to", .str c]), .v (.tup [.str a, .str b, .str c])]) rfl (by simp only [mSeq, mSet, mRet, mRetN, mIf, mExp, mBad, mNext, mPar, W.sl, mFor, Out.bindS, MX.bind, Out.bind, mK, mVar, mFz, mFf, mOp, mTest, mNotT, mNotV, mAndT, mOrT, mAndV, mOrV, mIfE, mChain, mNil, mCons, mTup, mLst, mCB, mFld, mFldSet, mCallP, mCallB, mMethP, mMakeP, mMut, mSl, mPart, mNoPart, mIsi, mIL, mIT, mIR, mIEn, mIS, mBGet, mBSet, mNewBox, mComp, mYes, Out.bindN, bindA, env0, envA, envI, FO.outP, FO.outL, FO.out, SO.fo0, SO.foF, SO.foI, lensW, lensL, resO_some, Rs.w_v, Rs.w_f, W.rd_v, W.rd_t, W.rd_f, W.rd_l, W.kp_v, List.mapM_cons, List.mapM_nil, Option.bind_eq_bind, Option.bind_some, Option.pure_def, Option.map_some, List.replicate_succ, List.replicate_zero, List.cons_append, List.nil_append, List.getElem?_cons_zero, List.getElem?_cons_succ, List.set_cons_zero, List.set_cons_succ, rb, ri, fI, fC, fAdd, fSub, fMod, fMul, fDiv, fIx, fIsN, fNotN, D.isN, isF, D.ty, isB, cLen, cInt, cTup, cList, gApp, gN, gT, gsC, gsN, Sl.isRef, if_true, if_false, if_pos, List.length_cons, List.length_nil, Bx.at, Bx.put, List.any_cons, List.any_nil, Bool.not_true, Bool.not_false, Nat.reduceAdd, Nat.reduceLeDiff, reduceIte, reduceCtorEq, and_self, and_true, true_and]) rfl hr]
      simp only [SO.foI, and_self, if_true]
      rfl
    · rw [if_neg hc] at h; cases h
  · cases h
theorem ok_Join_init (T : Tx P K mg) : FnOk P w K mg base CX0 3 T.a_Join_init T.fd_Join_init ["self", "here", "came", "then"] (spI K T.c_Join [.v, .v, .v] (f_Join_init T)) := by
  have h := fun h1 => fn_okIC1 (P := P) (w := w) (mg := mg) (base := base) (C := T.c_Join) (k := 2) (md := [.v, .v, .v]) (m := m_Join_init T) (g := f_Join_init T) T.F_Join_init sc_Join_init rfl (init_Join_init T) (nx_Join_init T) h1
  refine h fun A outer s H E hr => ?_
  have hu := hr.units
  exact (c_cons (s_if (t_not (t_val (d_callP (ok__is_wanted T) (hr.mono (by decide)) (by rfl) T.g__is_wanted T.F__is_wanted.kp T.b__is_wanted pass0W (a_cons (d_var 1) a_nil)))) (b_one s_bad) b_nil)
      (c_cons (s_if (t_not (t_val (d_callP (ok__is_wanted T) (hr.mono (by decide)) (by rfl) T.g__is_wanted T.F__is_wanted.kp T.b__is_wanted pass0W (a_cons (d_var 2) a_nil)))) (b_one s_bad) b_nil)
      (c_cons (s_if (PW.pt (w_and (t_not (t_val (d_callP (ok_is_name T) (hr.mono (by decide)) (by rfl) T.g_is_name T.F_is_name.kp T.b_is_name pass0W (a_cons (d_var 3) a_nil)))) (w_and1 (t_cmp (op_ninP hu) do_nin (d_var 3) (d_tup (a_cons d_str (a_cons d_str a_nil))))))) (b_one s_bad) b_nil)
      (c_cons (s_fld (d_var 0) (d_var 1) T.cl_Join T.na_Join_here)
      (c_cons (s_fld (d_var 0) (d_var 2) T.cl_Join T.na_Join_came)
      (c_cons (s_fld (d_var 0) (d_var 3) T.cl_Join T.na_Join_then)
      (c_sup rfl (a_sup (sn := "") T.F_Join_init sc_Join_init T.su_Join_init (ok_Row_init_Join T) (hr.mono (by decide)) T.b_Row_init T.n_super (by rfl) (by rfl) (by rfl) (by rfl) (by rfl) (a_cons (d_tup (a_cons d_str (a_cons (d_var 1) (a_cons (d_var 2) (a_cons d_str (a_cons (d_var 3) a_nil)))))) (a_cons (d_tup (a_cons (d_var 1) (a_cons (d_var 2) (a_cons (d_var 3) a_nil)))) a_nil))))))))))
def m_are_different (T : Tx P K mg) : MS Unit :=
    (mRet (mOp fEq (mLenS (mVar 0)) (mCB cLen (mCons (mVar 0) mNil))))
def f_are_different (T : Tx P K mg) (ds : List D) (s : Unit) : FO Unit D := (m_are_different T (env0 [.v] 0 ds) s).fo0
theorem ok_are_different (T : Tx P K mg) : FnOk P w K mg base CX0 1 T.a_are_different T.fd_are_different ["words"] (spD boxNil K [.v] (f_are_different T)) := by
  have h := fun h1 => fn_ok0 (P := P) (w := w) (mg := mg) (base := base) (I := boxNil) (k := 0) (md := [.v]) (m := m_are_different T) T.F_are_different sc_are_different rfl rfl h1
  refine h fun cdv A outer s H E hr => ?_
  have hu := hr.units
  exact (b_one (s_ret (d_cmp (op_eqP hu) do_eq (d_lenS (by rfl) T.n_len boot_len_ (by rfl) T.n_set boot_set_ (d_var 0)) (d_cb call_len dc_len (by rfl) T.n_len boot_len_ (a_cons (d_var 0) a_nil)))))
def m_part_of (T : Tx P K mg) : MS Unit :=
    (mRet (mOp fIx (mSm jSplit (mVar 0) (mCons (mK (.str " ")) mNil)) (mNeg (mK (.int 1)))))
def f_part_of (T : Tx P K mg) (ds : List D) (s : Unit) : FO Unit D := (m_part_of T (env0 [.v] 0 ds) s).fo0
theorem ok_part_of (T : Tx P K mg) : FnOk P w K mg base CX0 1 T.a_part_of T.fd_part_of ["test"] (spD boxNil K [.v] (f_part_of T)) := by
  have h := fun h1 => fn_ok0 (P := P) (w := w) (mg := mg) (base := base) (I := boxNil) (k := 0) (md := [.v]) (m := m_part_of T) T.F_part_of sc_part_of rfl rfl h1
  refine h fun cdv A outer s H E hr => ?_
  have hu := hr.units
  exact (b_one (s_ret (d_ix ix_seq do_ix (d_sm PySem.F.slot_str_split PySem.F.type_str_split mt_split dj_split (d_var 0) (a_cons d_str a_nil)) (d_neg d_int))))
def m_is_sequence (T : Tx P K mg) : MS Unit :=
    (mRet (mIsi (isF ["list", "tuple"]) (mVar 0)))
def f_is_sequence (T : Tx P K mg) (ds : List D) (s : Unit) : FO Unit D := (m_is_sequence T (env0 [.v] 0 ds) s).fo0
theorem ok_is_sequence (T : Tx P K mg) : FnOk P w K mg base CX0 1 T.a_is_sequence T.fd_is_sequence ["value"] (spD boxNil K [.v] (f_is_sequence T)) := by
  have h := fun h1 => fn_ok0 (P := P) (w := w) (mg := mg) (base := base) (I := boxNil) (k := 0) (md := [.v]) (m := m_is_sequence T) T.F_is_sequence sc_is_sequence rfl rfl h1
  refine h fun cdv A outer s H E hr => ?_
  have hu := hr.units
  exact (b_one (s_ret (d_isi (by rfl) T.n_isinstance boot_isinstance_ (d_var 0) (k_tup (k_cons (by rfl) T.n_list boot_list_ (k_cons (by rfl) T.n_tuple boot_tuple_ k_nil))) (isF_ok (cs := ["list", "tuple"]) (by decide)))))
def m__are_tests (T : Tx P K mg) : MS Unit :=
    (mSeq (mIf (mOrT (mNotT (mTest (mCallP [.v] (f_is_sequence T) (mCons (mVar 0) mNil)))) (mNotT (mTest (mCB cAll (mCons (mComp (mIL (mVar 0)) [1] (gN 1) mYes (mOp fIn (mVar 1) (mK (.tup [.str "above", .str "below", .str "own", .str "not above", .str "not below", .str "not own"])))) mNil))))) (mRet (mK (.bl false))) mNext)
    (mRet (mCallP [.v] (f_are_different T) (mCons (mFf (mComp (mIL (mVar 0)) [1] (gN 1) mYes (mCallP [.v] (f_part_of T) (mCons (mVar 1) mNil)))) mNil))))
def f__are_tests (T : Tx P K mg) (ds : List D) (s : Unit) : FO Unit D := (m__are_tests T (env0 [.v] 1 ds) s).fo0
theorem ok__are_tests (T : Tx P K mg) : FnOk P w K mg base CX0 2 T.a__are_tests T.fd__are_tests ["value"] (spD boxNil K [.v] (f__are_tests T)) := by
  have h := fun h1 => fn_ok0 (P := P) (w := w) (mg := mg) (base := base) (I := boxNil) (k := 1) (md := [.v]) (m := m__are_tests T) T.F__are_tests sc__are_tests rfl rfl h1
  refine h fun cdv A outer s H E hr => ?_
  have hu := hr.units
  exact (b_cons (s_if (PW.pt (w_or (t_not (t_val (d_callP (ok_is_sequence T) (hr.mono (by decide)) (by rfl) T.g_is_sequence T.F_is_sequence.kp T.b_is_sequence pass0W (a_cons (d_var 0) a_nil)))) (w_or1 (t_not (t_val (d_cb (cr_all rfl) dc_all (by rfl) T.n_all boot_all_ (a_cons (d_comp (own := [("test", 1)]) rfl sc__are_tests.nd (i_list (d_var 0)) (blkOk_by (N := ["value", "test"]) (sc := defScope s__are_tests) (by decide +kernel)) (by decide) (fun _ _ _ _ _ => (g_name (i := 1) sc__are_tests.nd rfl (by first | exact Or.inl rfl | exact Or.inr rfl))) (fun _ _ _ _ _ => y_nil) (fun _ _ _ _ _ => (d_cmp (op_inP hu) do_in (d_var 1) (T.k_TESTS (by rfl))))) a_nil))))))) (b_one (s_ret d_bl)) b_nil)
      (b_one (s_ret (d_callP (ok_are_different T) (hr.mono (by decide)) (by rfl) T.g_are_different T.F_are_different.kp T.b_are_different pass0W (a_cons (d_ff (d_comp (own := [("test", 1)]) rfl sc__are_tests.nd (i_list (d_var 0)) (blkOk_by (N := ["value", "test"]) (sc := defScope s__are_tests) (by decide +kernel)) (by decide) (fun _ _ _ _ _ => (g_name (i := 1) sc__are_tests.nd rfl (by first | exact Or.inl rfl | exact Or.inr rfl))) (fun _ _ _ _ _ => y_nil) (fun _ _ _ _ _ => (d_callP (ok_part_of T) (hr.mono (by decide)) (by rfl) T.g_part_of T.F_part_of.kp T.b_part_of pass0W (a_cons (d_var 1) a_nil))))) a_nil)))))
theorem tests_all (T : Tx P K mg) : (tests4.all fun l => trF (f__are_tests T [.lst (l.map .str)] ())) = true := by kernel_rfl
theorem tests_b (T : Tx P K mg) {l : List Str} (h : l ∈ tests4) : f__are_tests T [.lst (l.map .str)] () = .ok (.bl true) () := trF_t (List.all_eq_true.mp (tests_all T) l h)
def m_Lead_init (T : Tx P K mg) : MS Unit :=
    (mSeq (mIf (mNotT (mTest (mCallP [.v] (f__are_tests T) (mCons (mVar 1) mNil)))) mBad mNext)
    (mSeq (mIf (mNotT (mTest (mCallP [.v] (f__is_wanted T) (mCons (mVar 2) mNil)))) mBad mNext)
    (mSeq (mIf (mNotT (mTest (mCallP [.v] (f_is_name T) (mCons (mVar 3) mNil)))) mBad mNext)
    (mSeq (mFldSet T.c_Lead "tests" (mVar 0) (mCB cTup (mCons (mVar 1) mNil)))
    (mSeq (mFldSet T.c_Lead "old" (mVar 0) (mVar 2))
    (mSeq (mFldSet T.c_Lead "then" (mVar 0) (mVar 3))
    (mSup T.c_Lead [.v, .v] (f_Row_init_Lead T) (mCons (mTup (mCons (mK (.str "lead")) (mCons (mOrX (mSm jJoin (mK (.str " and ")) (mCons (mVar 1) mNil)) (mK (.str "always"))) (mCons (mVar 2) (mCons (mK (.str "to")) (mCons (mVar 3) mNil)))))) (mCons (mTup (mCons (mVar 2) (mCons (mVar 3) mNil))) mNil)))))))))
def f_Lead_init (T : Tx P K mg) (ds : List D) : FO Unit (List Str × List D) := match ds with
  | [.lst ts, .str a, .str b] => match strsD ts with
    | some l => if l ∈ tests4 ∧ a ∈ wants4 ∧ b ∈ marks4 then .ok (["tests", "old", "then", "_words", "named"], [.tup ts, .str a, .str b, .tup [.str "lead", .str (askT l), .str a, .str "to", .str b], .tup ([D.str a, .str b].filter kpW)]) () else .bad
    | none => .bad
  | _ => .bad
theorem nx_Lead_init (T : Tx P K mg) (ds : List D) (e : Ex) (u : Unit) : f_Lead_init T ds ≠ .ex e u := by
  unfold f_Lead_init
  split
  · split
    · split <;> exact fun z => by cases z
    · exact fun z => by cases z
  · exact fun z => by cases z
theorem init_Lead_init (T : Tx P K mg) (y : Addr) (ds : List D) (p : List Str × List D) (u : Unit) (h : f_Lead_init T ds = .ok p u) : (m_Lead_init T (envI y T.c_Lead [.v, .v, .v] 1 ds) ()).foI y T.c_Lead = .ok p u := by
  unfold f_Lead_init at h
  split at h
  · rename_i ts a b
    split at h
    · rename_i l hl
      by_cases hc : l ∈ tests4 ∧ a ∈ wants4 ∧ b ∈ marks4
      · rw [if_pos hc] at h
        cases h
        have et := strsD_map hl
        have ha := wanted_b T a hc.2.1
        have hb := name_b T b (m_words hc.2.2)
        rw [show inS marks4 b = true from decide_eq_true hc.2.2] at hb
        have ht := tests_b T hc.1
        rw [← et] at ht
        have hr := row_init_Lead T ["tests", "old", "then"] [.tup ts, .str a, .str b] [.str "lead", .str (askT l), .str a, .str "to", .str b] [.str a, .str b] ⟨by decide, by decide, by decide, by simp, by simp [okw (w_words hc.2.1), okw (m_words hc.2.2)]⟩
        have e1 : (mFldSet T.c_Lead "tests" (mVar 0) (mCB cTup (mCons (mVar 1) mNil)) : MS Unit) [.slf y T.c_Lead [] [], .val (.lst ts), .val (.str a), .val (.str b), .no] () = .nx [.slf y T.c_Lead ["tests"] [.tup ts], .val (.lst ts), .val (.str a), .val (.str b), .no] () := fld_v rfl rfl (by decide) (by decide)
        have e2 : (mFldSet T.c_Lead "old" (mVar 0) (mVar 2) : MS Unit) [.slf y T.c_Lead ["tests"] [.tup ts], .val (.lst ts), .val (.str a), .val (.str b), .no] () = .nx [.slf y T.c_Lead ["tests", "old"] [.tup ts, .str a], .val (.lst ts), .val (.str a), .val (.str b), .no] () := fld_v rfl rfl (by decide) (by decide)
        have e3 : (mFldSet T.c_Lead "then" (mVar 0) (mVar 3) : MS Unit) [.slf y T.c_Lead ["tests", "old"] [.tup ts, .str a], .val (.lst ts), .val (.str a), .val (.str b), .no] () = .nx [.slf y T.c_Lead ["tests", "old", "then"] [.tup ts, .str a, .str b], .val (.lst ts), .val (.str a), .val (.str b), .no] () := fld_v rfl rfl (by decide) (by decide)
        have ja : (mOrX (mSm jJoin (mK (.str " and ")) (mCons (mVar 1) mNil)) (mK (.str "always")) : MX Unit W) [.slf y T.c_Lead ["tests", "old", "then"] [.tup ts, .str a, .str b], .val (.lst ts), .val (.str a), .val (.str b), .no] () = .ok (.v (.str (askT l))) [.slf y T.c_Lead ["tests", "old", "then"] [.tup ts, .str a, .str b], .val (.lst ts), .val (.str a), .val (.str b), .no] () := ask_x hc.1 (by rw [et]; rfl)
        unfold m_Lead_init
        rw [seq_nx (e1 := [.slf y T.c_Lead [] [], .val (.lst ts), .val (.str a), .val (.str b), .no]) (s1 := ()) (by simp only [mSeq, mSet, mRet, mRetN, mIf, mExp, mBad, mNext, mPar, W.sl, mFor, Out.bindS, MX.bind, Out.bind, mK, mVar, mFz, mFf, mOp, mTest, mNotT, mNotV, mAndT, mOrT, mAndV, mOrV, mIfE, mChain, mNil, mCons, mTup, mLst, mCB, mFld, mFldSet, mCallP, mCallB, mMethP, mMakeP, mMut, mSl, mPart, mNoPart, mIsi, mIL, mIT, mIR, mIEn, mIS, mBGet, mBSet, mNewBox, mComp, mYes, Out.bindN, bindA, env0, envA, envI, FO.outP, FO.outL, FO.out, SO.fo0, SO.foF, SO.foI, lensW, lensL, resO_some, Rs.w_v, Rs.w_f, W.rd_v, W.rd_t, W.rd_f, W.rd_l, W.kp_v, List.mapM_cons, List.mapM_nil, Option.bind_eq_bind, Option.bind_some, Option.pure_def, Option.map_some, List.replicate_succ, List.replicate_zero, List.cons_append, List.nil_append, List.getElem?_cons_zero, List.getElem?_cons_succ, List.set_cons_zero, List.set_cons_succ, rb, ri, fI, fC, fAdd, fSub, fMod, fMul, fDiv, fIx, fIsN, fNotN, D.isN, isF, D.ty, isB, cLen, cInt, cTup, cList, gApp, gN, gT, gsC, gsN, Sl.isRef, if_true, if_false, if_pos, List.length_cons, List.length_nil, Bx.at, Bx.put, List.any_cons, List.any_nil, Bool.not_true, Bool.not_false, Nat.reduceAdd, Nat.reduceLeDiff, reduceIte, reduceCtorEq, and_self, and_true, true_and, envI, ht]), seq_nx (e1 := [.slf y T.c_Lead [] [], .val (.lst ts), .val (.str a), .val (.str b), .no]) (s1 := ()) (by simp only [mSeq, mSet, mRet, mRetN, mIf, mExp, mBad, mNext, mPar, W.sl, mFor, Out.bindS, MX.bind, Out.bind, mK, mVar, mFz, mFf, mOp, mTest, mNotT, mNotV, mAndT, mOrT, mAndV, mOrV, mIfE, mChain, mNil, mCons, mTup, mLst, mCB, mFld, mFldSet, mCallP, mCallB, mMethP, mMakeP, mMut, mSl, mPart, mNoPart, mIsi, mIL, mIT, mIR, mIEn, mIS, mBGet, mBSet, mNewBox, mComp, mYes, Out.bindN, bindA, env0, envA, envI, FO.outP, FO.outL, FO.out, SO.fo0, SO.foF, SO.foI, lensW, lensL, resO_some, Rs.w_v, Rs.w_f, W.rd_v, W.rd_t, W.rd_f, W.rd_l, W.kp_v, List.mapM_cons, List.mapM_nil, Option.bind_eq_bind, Option.bind_some, Option.pure_def, Option.map_some, List.replicate_succ, List.replicate_zero, List.cons_append, List.nil_append, List.getElem?_cons_zero, List.getElem?_cons_succ, List.set_cons_zero, List.set_cons_succ, rb, ri, fI, fC, fAdd, fSub, fMod, fMul, fDiv, fIx, fIsN, fNotN, D.isN, isF, D.ty, isB, cLen, cInt, cTup, cList, gApp, gN, gT, gsC, gsN, Sl.isRef, if_true, if_false, if_pos, List.length_cons, List.length_nil, Bx.at, Bx.put, List.any_cons, List.any_nil, Bool.not_true, Bool.not_false, Nat.reduceAdd, Nat.reduceLeDiff, reduceIte, reduceCtorEq, and_self, and_true, true_and, ha]),
          seq_nx (e1 := [.slf y T.c_Lead [] [], .val (.lst ts), .val (.str a), .val (.str b), .no]) (s1 := ()) (by simp only [mSeq, mSet, mRet, mRetN, mIf, mExp, mBad, mNext, mPar, W.sl, mFor, Out.bindS, MX.bind, Out.bind, mK, mVar, mFz, mFf, mOp, mTest, mNotT, mNotV, mAndT, mOrT, mAndV, mOrV, mIfE, mChain, mNil, mCons, mTup, mLst, mCB, mFld, mFldSet, mCallP, mCallB, mMethP, mMakeP, mMut, mSl, mPart, mNoPart, mIsi, mIL, mIT, mIR, mIEn, mIS, mBGet, mBSet, mNewBox, mComp, mYes, Out.bindN, bindA, env0, envA, envI, FO.outP, FO.outL, FO.out, SO.fo0, SO.foF, SO.foI, lensW, lensL, resO_some, Rs.w_v, Rs.w_f, W.rd_v, W.rd_t, W.rd_f, W.rd_l, W.kp_v, List.mapM_cons, List.mapM_nil, Option.bind_eq_bind, Option.bind_some, Option.pure_def, Option.map_some, List.replicate_succ, List.replicate_zero, List.cons_append, List.nil_append, List.getElem?_cons_zero, List.getElem?_cons_succ, List.set_cons_zero, List.set_cons_succ, rb, ri, fI, fC, fAdd, fSub, fMod, fMul, fDiv, fIx, fIsN, fNotN, D.isN, isF, D.ty, isB, cLen, cInt, cTup, cList, gApp, gN, gT, gsC, gsN, Sl.isRef, if_true, if_false, if_pos, List.length_cons, List.length_nil, Bx.at, Bx.put, List.any_cons, List.any_nil, Bool.not_true, Bool.not_false, Nat.reduceAdd, Nat.reduceLeDiff, reduceIte, reduceCtorEq, and_self, and_true, true_and, hb]), seq_nx e1, seq_nx e2, seq_nx e3]
        have k2 : (mCons (mVar 2) (mCons (mK (.str "to")) (mCons (mVar 3) mNil)) : MX Unit (List W)) [.slf y T.c_Lead ["tests", "old", "then"] [.tup ts, .str a, .str b], .val (.lst ts), .val (.str a), .val (.str b), .no] () = .ok [.v (.str a), .v (.str "to"), .v (.str b)] [.slf y T.c_Lead ["tests", "old", "then"] [.tup ts, .str a, .str b], .val (.lst ts), .val (.str a), .val (.str b), .no] () := by simp only [mSeq, mSet, mRet, mRetN, mIf, mExp, mBad, mNext, mPar, W.sl, mFor, Out.bindS, MX.bind, Out.bind, mK, mVar, mFz, mFf, mOp, mTest, mNotT, mNotV, mAndT, mOrT, mAndV, mOrV, mIfE, mChain, mNil, mCons, mTup, mLst, mCB, mFld, mFldSet, mCallP, mCallB, mMethP, mMakeP, mMut, mSl, mPart, mNoPart, mIsi, mIL, mIT, mIR, mIEn, mIS, mBGet, mBSet, mNewBox, mComp, mYes, Out.bindN, bindA, env0, envA, envI, FO.outP, FO.outL, FO.out, SO.fo0, SO.foF, SO.foI, lensW, lensL, resO_some, Rs.w_v, Rs.w_f, W.rd_v, W.rd_t, W.rd_f, W.rd_l, W.kp_v, List.mapM_cons, List.mapM_nil, Option.bind_eq_bind, Option.bind_some, Option.pure_def, Option.map_some, List.replicate_succ, List.replicate_zero, List.cons_append, List.nil_append, List.getElem?_cons_zero, List.getElem?_cons_succ, List.set_cons_zero, List.set_cons_succ, rb, ri, fI, fC, fAdd, fSub, fMod, fMul, fDiv, fIx, fIsN, fNotN, D.isN, isF, D.ty, isB, cLen, cInt, cTup, cList, gApp, gN, gT, gsC, gsN, Sl.isRef, if_true, if_false, if_pos, List.length_cons, List.length_nil, Bx.at, Bx.put, List.any_cons, List.any_nil, Bool.not_true, Bool.not_false, Nat.reduceAdd, Nat.reduceLeDiff, reduceIte, reduceCtorEq, and_self, and_true, true_and]
        have k3 : (mCons (mTup (mCons (mVar 2) (mCons (mVar 3) mNil))) mNil : MX Unit (List W)) [.slf y T.c_Lead ["tests", "old", "then"] [.tup ts, .str a, .str b], .val (.lst ts), .val (.str a), .val (.str b), .no] () = .ok [.v (.tup [.str a, .str b])] [.slf y T.c_Lead ["tests", "old", "then"] [.tup ts, .str a, .str b], .val (.lst ts), .val (.str a), .val (.str b), .no] () := by simp only [mSeq, mSet, mRet, mRetN, mIf, mExp, mBad, mNext, mPar, W.sl, mFor, Out.bindS, MX.bind, Out.bind, mK, mVar, mFz, mFf, mOp, mTest, mNotT, mNotV, mAndT, mOrT, mAndV, mOrV, mIfE, mChain, mNil, mCons, mTup, mLst, mCB, mFld, mFldSet, mCallP, mCallB, mMethP, mMakeP, mMut, mSl, mPart, mNoPart, mIsi, mIL, mIT, mIR, mIEn, mIS, mBGet, mBSet, mNewBox, mComp, mYes, Out.bindN, bindA, env0, envA, envI, FO.outP, FO.outL, FO.out, SO.fo0, SO.foF, SO.foI, lensW, lensL, resO_some, Rs.w_v, Rs.w_f, W.rd_v, W.rd_t, W.rd_f, W.rd_l, W.kp_v, List.mapM_cons, List.mapM_nil, Option.bind_eq_bind, Option.bind_some, Option.pure_def, Option.map_some, List.replicate_succ, List.replicate_zero, List.cons_append, List.nil_append, List.getElem?_cons_zero, List.getElem?_cons_succ, List.set_cons_zero, List.set_cons_succ, rb, ri, fI, fC, fAdd, fSub, fMod, fMul, fDiv, fIx, fIsN, fNotN, D.isN, isF, D.ty, isB, cLen, cInt, cTup, cList, gApp, gN, gT, gsC, gsN, Sl.isRef, if_true, if_false, if_pos, List.length_cons, List.length_nil, Bx.at, Bx.put, List.any_cons, List.any_nil, Bool.not_true, Bool.not_false, Nat.reduceAdd, Nat.reduceLeDiff, reduceIte, reduceCtorEq, and_self, and_true, true_and]
        have k1 : (mK (.str "lead") : MX Unit W) [.slf y T.c_Lead ["tests", "old", "then"] [.tup ts, .str a, .str b], .val (.lst ts), .val (.str a), .val (.str b), .no] () = .ok (.v (.str "lead")) [.slf y T.c_Lead ["tests", "old", "then"] [.tup ts, .str a, .str b], .val (.lst ts), .val (.str a), .val (.str b), .no] () := rfl
        have k4 := tup_x (ds := [.str "lead", .str (askT l), .str a, .str "to", .str b]) (cons_x k1 (cons_x ja k2)) rfl
        rw [sup_x (ns := ["tests", "old", "then"]) (es := [.tup ts, .str a, .str b]) (rest2 := [.val (.lst ts), .val (.str a), .val (.str b), .no]) (ds := [.tup [.str "lead", .str (askT l), .str a, .str "to", .str b], .tup [.str a, .str b]]) (p := (_, _)) rfl (cons_x k4 k3) rfl hr]
        simp only [SO.foI, and_self, if_true]
        rfl
      · rw [if_neg hc] at h; cases h
    · cases h
  · cases h
theorem ok_Lead_init (T : Tx P K mg) : FnOk P w K mg base CX0 3 T.a_Lead_init T.fd_Lead_init ["self", "tests", "old", "then"] (spI K T.c_Lead [.v, .v, .v] (f_Lead_init T)) := by
  have h := fun h1 => fn_okIC1 (P := P) (w := w) (mg := mg) (base := base) (C := T.c_Lead) (k := 2) (md := [.v, .v, .v]) (m := m_Lead_init T) (g := f_Lead_init T) T.F_Lead_init sc_Lead_init rfl (init_Lead_init T) (nx_Lead_init T) h1
  refine h fun A outer s H E hr => ?_
  have hu := hr.units
  exact (c_cons (s_if (t_not (t_val (d_callP (ok__are_tests T) (hr.mono (by decide)) (by rfl) T.g__are_tests T.F__are_tests.kp T.b__are_tests pass0W (a_cons (d_var 1) a_nil)))) (b_one s_bad) b_nil)
      (c_cons (s_if (t_not (t_val (d_callP (ok__is_wanted T) (hr.mono (by decide)) (by rfl) T.g__is_wanted T.F__is_wanted.kp T.b__is_wanted pass0W (a_cons (d_var 2) a_nil)))) (b_one s_bad) b_nil)
      (c_cons (s_if (t_not (t_val (d_callP (ok_is_name T) (hr.mono (by decide)) (by rfl) T.g_is_name T.F_is_name.kp T.b_is_name pass0W (a_cons (d_var 3) a_nil)))) (b_one s_bad) b_nil)
      (c_cons (s_fld (d_var 0) (d_cty call_tuple_of dc_tup (by rfl) T.n_tuple boot_tuple_ (a_cons (d_var 1) a_nil)) T.cl_Lead T.na_Lead_tests)
      (c_cons (s_fld (d_var 0) (d_var 2) T.cl_Lead T.na_Lead_old)
      (c_cons (s_fld (d_var 0) (d_var 3) T.cl_Lead T.na_Lead_then)
      (c_sup rfl (a_sup (sn := "") T.F_Lead_init sc_Lead_init T.su_Lead_init (ok_Row_init_Lead T) (hr.mono (by decide)) T.b_Row_init T.n_super (by rfl) (by rfl) (by rfl) (by rfl) (by rfl) (a_cons (d_tup (a_cons d_str (a_cons (x_or (d_sm PySem.F.slot_str_join PySem.F.type_str_join mt_join dj_join d_str (a_cons (d_var 1) a_nil)) (v_one d_str)) (a_cons (d_var 2) (a_cons d_str (a_cons (d_var 3) a_nil)))))) (a_cons (d_tup (a_cons (d_var 2) (a_cons (d_var 3) a_nil))) a_nil))))))))))
def m__tests (T : Tx P K mg) : MS Unit :=
    (mRet (mIfE (mTest (mOp fEq (mVar 0) (mLst (mCons (mK (.str "always")) mNil)))) (mFf (mLst mNil)) (mFf (mSm jSplit (mSm jJoin (mK (.str " ")) (mCons (mVar 0) mNil)) (mCons (mK (.str " and ")) mNil)))))
def f__tests (T : Tx P K mg) (ds : List D) (s : Unit) : FO Unit D := (m__tests T (env0 [.v] 0 ds) s).fo0
theorem ok__tests (T : Tx P K mg) : FnOk P w K mg base CX0 1 T.a__tests T.fd__tests ["words"] (spD boxNil K [.v] (f__tests T)) := by
  have h := fun h1 => fn_ok0 (P := P) (w := w) (mg := mg) (base := base) (I := boxNil) (k := 0) (md := [.v]) (m := m__tests T) T.F__tests sc__tests rfl rfl h1
  refine h fun cdv A outer s H E hr => ?_
  have hu := hr.units
  exact (b_one (s_ret (d_ife (t_cmp (op_eqP hu) do_eq (d_var 0) (d_lst (a_cons d_str a_nil))) (d_ff (d_lst a_nil)) (d_ff (d_sm PySem.F.slot_str_split PySem.F.type_str_split mt_split dj_split (d_sm PySem.F.slot_str_join PySem.F.type_str_join mt_join dj_join d_str (a_cons (d_var 0) a_nil)) (a_cons d_str a_nil))))))
def m_Run_init (T : Tx P K mg) : MS Unit :=
    (mSeq (mIf (mNotT (mTest (mCallP [.v] (f__is_wanted T) (mCons (mVar 1) mNil)))) mBad mNext)
    (mSeq (mIf (mNotT (mTest (mCallP [.v] (f_is_name T) (mCons (mVar 2) mNil)))) mBad mNext)
    (mSeq (mFldSet T.c_Run "old" (mVar 0) (mVar 1))
    (mSeq (mFldSet T.c_Run "then" (mVar 0) (mVar 2))
    (mSup T.c_Run [.v, .v] (f_Row_init_Run T) (mCons (mTup (mCons (mK (.str "run")) (mCons (mVar 1) (mCons (mK (.str "to")) (mCons (mVar 2) mNil))))) (mCons (mTup (mCons (mVar 1) (mCons (mVar 2) mNil))) mNil)))))))
def f_Run_init (T : Tx P K mg) (ds : List D) : FO Unit (List Str × List D) := match ds with
  | [.str a, .str b] => if a ∈ wants4 ∧ b ∈ marks4 then .ok (["old", "then", "_words", "named"], [.str a, .str b, .tup [.str "run", .str a, .str "to", .str b], .tup ([D.str a, .str b].filter kpW)]) () else .bad
  | _ => .bad
theorem nx_Run_init (T : Tx P K mg) (ds : List D) (e : Ex) (u : Unit) : f_Run_init T ds ≠ .ex e u := by
  unfold f_Run_init
  split
  · split <;> exact fun z => by cases z
  · exact fun z => by cases z
theorem init_Run_init (T : Tx P K mg) (y : Addr) (ds : List D) (p : List Str × List D) (u : Unit) (h : f_Run_init T ds = .ok p u) : (m_Run_init T (envI y T.c_Run [.v, .v] 1 ds) ()).foI y T.c_Run = .ok p u := by
  unfold f_Run_init at h
  split at h
  · rename_i a b
    by_cases hc : a ∈ wants4 ∧ b ∈ marks4
    · rw [if_pos hc] at h
      cases h
      have ha := wanted_b T a hc.1
      have hb := name_b T b (m_words hc.2)
      rw [show inS marks4 b = true from decide_eq_true hc.2] at hb
      have hr := row_init_Run T ["old", "then"] [.str a, .str b] [.str "run", .str a, .str "to", .str b] [.str a, .str b] ⟨by decide, by decide, by decide, by simp, by simp [okw (w_words hc.1), okw (m_words hc.2)]⟩
      have e1 : (mFldSet T.c_Run "old" (mVar 0) (mVar 1) : MS Unit) [.slf y T.c_Run [] [], .val (.str a), .val (.str b), .no] () = .nx [.slf y T.c_Run ["old"] [.str a], .val (.str a), .val (.str b), .no] () := fld_v rfl rfl (by decide) (by decide)
      have e2 : (mFldSet T.c_Run "then" (mVar 0) (mVar 2) : MS Unit) [.slf y T.c_Run ["old"] [.str a], .val (.str a), .val (.str b), .no] () = .nx [.slf y T.c_Run ["old", "then"] [.str a, .str b], .val (.str a), .val (.str b), .no] () := fld_v rfl rfl (by decide) (by decide)
      unfold m_Run_init
      rw [seq_nx (e1 := [.slf y T.c_Run [] [], .val (.str a), .val (.str b), .no]) (s1 := ()) (by simp only [mSeq, mSet, mRet, mRetN, mIf, mExp, mBad, mNext, mPar, W.sl, mFor, Out.bindS, MX.bind, Out.bind, mK, mVar, mFz, mFf, mOp, mTest, mNotT, mNotV, mAndT, mOrT, mAndV, mOrV, mIfE, mChain, mNil, mCons, mTup, mLst, mCB, mFld, mFldSet, mCallP, mCallB, mMethP, mMakeP, mMut, mSl, mPart, mNoPart, mIsi, mIL, mIT, mIR, mIEn, mIS, mBGet, mBSet, mNewBox, mComp, mYes, Out.bindN, bindA, env0, envA, envI, FO.outP, FO.outL, FO.out, SO.fo0, SO.foF, SO.foI, lensW, lensL, resO_some, Rs.w_v, Rs.w_f, W.rd_v, W.rd_t, W.rd_f, W.rd_l, W.kp_v, List.mapM_cons, List.mapM_nil, Option.bind_eq_bind, Option.bind_some, Option.pure_def, Option.map_some, List.replicate_succ, List.replicate_zero, List.cons_append, List.nil_append, List.getElem?_cons_zero, List.getElem?_cons_succ, List.set_cons_zero, List.set_cons_succ, rb, ri, fI, fC, fAdd, fSub, fMod, fMul, fDiv, fIx, fIsN, fNotN, D.isN, isF, D.ty, isB, cLen, cInt, cTup, cList, gApp, gN, gT, gsC, gsN, Sl.isRef, if_true, if_false, if_pos, List.length_cons, List.length_nil, Bx.at, Bx.put, List.any_cons, List.any_nil, Bool.not_true, Bool.not_false, Nat.reduceAdd, Nat.reduceLeDiff, reduceIte, reduceCtorEq, and_self, and_true, true_and, envI, ha]), seq_nx (e1 := [.slf y T.c_Run [] [], .val (.str a), .val (.str b), .no]) (s1 := ()) (by simp only [mSeq, mSet, mRet, mRetN, mIf, mExp, mBad, mNext, mPar, W.sl, mFor, Out.bindS, MX.bind, Out.bind, mK, mVar, mFz, mFf, mOp, mTest, mNotT, mNotV, mAndT, mOrT, mAndV, mOrV, mIfE, mChain, mNil, mCons, mTup, mLst, mCB, mFld, mFldSet, mCallP, mCallB, mMethP, mMakeP, mMut, mSl, mPart, mNoPart, mIsi, mIL, mIT, mIR, mIEn, mIS, mBGet, mBSet, mNewBox, mComp, mYes, Out.bindN, bindA, env0, envA, envI, FO.outP, FO.outL, FO.out, SO.fo0, SO.foF, SO.foI, lensW, lensL, resO_some, Rs.w_v, Rs.w_f, W.rd_v, W.rd_t, W.rd_f, W.rd_l, W.kp_v, List.mapM_cons, List.mapM_nil, Option.bind_eq_bind, Option.bind_some, Option.pure_def, Option.map_some, List.replicate_succ, List.replicate_zero, List.cons_append, List.nil_append, List.getElem?_cons_zero, List.getElem?_cons_succ, List.set_cons_zero, List.set_cons_succ, rb, ri, fI, fC, fAdd, fSub, fMod, fMul, fDiv, fIx, fIsN, fNotN, D.isN, isF, D.ty, isB, cLen, cInt, cTup, cList, gApp, gN, gT, gsC, gsN, Sl.isRef, if_true, if_false, if_pos, List.length_cons, List.length_nil, Bx.at, Bx.put, List.any_cons, List.any_nil, Bool.not_true, Bool.not_false, Nat.reduceAdd, Nat.reduceLeDiff, reduceIte, reduceCtorEq, and_self, and_true, true_and, hb]), seq_nx e1, seq_nx e2]
      rw [sup_x (ns := ["old", "then"]) (es := [.str a, .str b]) (ds := [.tup [.str "run", .str a, .str "to", .str b], .tup [.str a, .str b]]) (p := (_, _)) (rest2 := [.val (.str a), .val (.str b), .no]) (ws := [.v (.tup [.str "run", .str a, .str "to", .str b]), .v (.tup [.str a, .str b])]) rfl (by simp only [mSeq, mSet, mRet, mRetN, mIf, mExp, mBad, mNext, mPar, W.sl, mFor, Out.bindS, MX.bind, Out.bind, mK, mVar, mFz, mFf, mOp, mTest, mNotT, mNotV, mAndT, mOrT, mAndV, mOrV, mIfE, mChain, mNil, mCons, mTup, mLst, mCB, mFld, mFldSet, mCallP, mCallB, mMethP, mMakeP, mMut, mSl, mPart, mNoPart, mIsi, mIL, mIT, mIR, mIEn, mIS, mBGet, mBSet, mNewBox, mComp, mYes, Out.bindN, bindA, env0, envA, envI, FO.outP, FO.outL, FO.out, SO.fo0, SO.foF, SO.foI, lensW, lensL, resO_some, Rs.w_v, Rs.w_f, W.rd_v, W.rd_t, W.rd_f, W.rd_l, W.kp_v, List.mapM_cons, List.mapM_nil, Option.bind_eq_bind, Option.bind_some, Option.pure_def, Option.map_some, List.replicate_succ, List.replicate_zero, List.cons_append, List.nil_append, List.getElem?_cons_zero, List.getElem?_cons_succ, List.set_cons_zero, List.set_cons_succ, rb, ri, fI, fC, fAdd, fSub, fMod, fMul, fDiv, fIx, fIsN, fNotN, D.isN, isF, D.ty, isB, cLen, cInt, cTup, cList, gApp, gN, gT, gsC, gsN, Sl.isRef, if_true, if_false, if_pos, List.length_cons, List.length_nil, Bx.at, Bx.put, List.any_cons, List.any_nil, Bool.not_true, Bool.not_false, Nat.reduceAdd, Nat.reduceLeDiff, reduceIte, reduceCtorEq, and_self, and_true, true_and]) rfl hr]
      simp only [SO.foI, and_self, if_true]
      rfl
    · rw [if_neg hc] at h; cases h
  · cases h
theorem ok_Run_init (T : Tx P K mg) : FnOk P w K mg base CX0 3 T.a_Run_init T.fd_Run_init ["self", "old", "then"] (spI K T.c_Run [.v, .v] (f_Run_init T)) := by
  have h := fun h1 => fn_okIC1 (P := P) (w := w) (mg := mg) (base := base) (C := T.c_Run) (k := 2) (md := [.v, .v]) (m := m_Run_init T) (g := f_Run_init T) T.F_Run_init sc_Run_init rfl (init_Run_init T) (nx_Run_init T) h1
  refine h fun A outer s H E hr => ?_
  have hu := hr.units
  exact (c_cons (s_if (t_not (t_val (d_callP (ok__is_wanted T) (hr.mono (by decide)) (by rfl) T.g__is_wanted T.F__is_wanted.kp T.b__is_wanted pass0W (a_cons (d_var 1) a_nil)))) (b_one s_bad) b_nil)
      (c_cons (s_if (t_not (t_val (d_callP (ok_is_name T) (hr.mono (by decide)) (by rfl) T.g_is_name T.F_is_name.kp T.b_is_name pass0W (a_cons (d_var 2) a_nil)))) (b_one s_bad) b_nil)
      (c_cons (s_fld (d_var 0) (d_var 1) T.cl_Run T.na_Run_old)
      (c_cons (s_fld (d_var 0) (d_var 2) T.cl_Run T.na_Run_then)
      (c_sup rfl (a_sup (sn := "") T.F_Run_init sc_Run_init T.su_Run_init (ok_Row_init_Run T) (hr.mono (by decide)) T.b_Row_init T.n_super (by rfl) (by rfl) (by rfl) (by rfl) (by rfl) (a_cons (d_tup (a_cons d_str (a_cons (d_var 1) (a_cons d_str (a_cons (d_var 2) a_nil))))) (a_cons (d_tup (a_cons (d_var 1) (a_cons (d_var 2) a_nil))) a_nil))))))))
def m__row (T : Tx P K mg) : MS Unit :=
    (mSeq (mSet 1 (mCB cLen (mCons (mVar 0) mNil)))
    (mSeq (mIf (mAndT (mTest (mOp fEq (mOp fIx (mVar 0) (mK (.int 0))) (mK (.str "run")))) (mAndT (mTest (mOp fEq (mVar 1) (mK (.int 4)))) (mTest (mOp fEq (mOp fIx (mVar 0) (mK (.int 2))) (mK (.str "to")))))) (mRet (mMakeP T.c_Run [.v, .v] (f_Run_init T) (mCons (mOp fIx (mVar 0) (mK (.int 1))) (mCons (mOp fIx (mVar 0) (mK (.int 3))) mNil)))) mNext)
    (mSeq (mIf (mAndT (mTest (mOp fEq (mOp fIx (mVar 0) (mK (.int 0))) (mK (.str "lead")))) (mAndT (mTest (mOp (fC fun i j => decide (j < i)) (mVar 1) (mK (.int 4)))) (mTest (mOp fEq (mOp fIx (mVar 0) (mNeg (mK (.int 2)))) (mK (.str "to")))))) (mRet (mMakeP T.c_Lead [.v, .v, .v] (f_Lead_init T) (mCons (mCallP [.v] (f__tests T) (mCons (mFf (mSl fSlL (mVar 0) (mPart (mK (.int 1))) (mPart (mNeg (mK (.int 3)))))) mNil)) (mCons (mOp fIx (mVar 0) (mNeg (mK (.int 3)))) (mCons (mOp fIx (mVar 0) (mNeg (mK (.int 1)))) mNil))))) mNext)
    (mSeq (mIf (mAndT (mTest (mOp fEq (mOp fIx (mVar 0) (mK (.int 0))) (mK (.str "join")))) (mAndT (mTest (mOp fEq (mVar 1) (mK (.int 5)))) (mTest (mOp fEq (mOp fIx (mVar 0) (mK (.int 3))) (mK (.str "to")))))) (mRet (mMakeP T.c_Join [.v, .v, .v] (f_Join_init T) (mCons (mOp fIx (mVar 0) (mK (.int 1))) (mCons (mOp fIx (mVar 0) (mK (.int 2))) (mCons (mOp fIx (mVar 0) (mK (.int 4))) mNil))))) mNext)
    (mRet (mK .non))))))
def f__row (T : Tx P K mg) (ds : List D) (s : Unit) : FO Unit D := (m__row T (env0 [.v] 1 ds) s).fo0
theorem ok__row (T : Tx P K mg) : FnOk P w K mg base CX0 5 T.a__row T.fd__row ["words"] (spD boxNil K [.v] (f__row T)) := by
  have h := fun h1 => fn_ok0 (P := P) (w := w) (mg := mg) (base := base) (I := boxNil) (k := 4) (md := [.v]) (m := m__row T) T.F__row sc__row rfl rfl h1
  refine h fun cdv A outer s H E hr => ?_
  have hu := hr.units
  exact (b_cons (s_set (i := 1) sc__row.nd rfl (by first | exact Or.inl rfl | exact Or.inr rfl) (d_cb call_len dc_len (by rfl) T.n_len boot_len_ (a_cons (d_var 0) a_nil)))
      (b_cons (s_if (PW.pt (w_and (t_cmp (op_eqP hu) do_eq (d_ix ix_seq do_ix (d_var 0) d_int) d_str) (w_and (t_cmp (op_eqP hu) do_eq (d_var 1) d_int) (w_and1 (t_cmp (op_eqP hu) do_eq (d_ix ix_seq do_ix (d_var 0) d_int) d_str))))) (b_one (s_ret (d_make T.mk_Run (ok_Run_init T) (hr.mono (by decide)) (by rfl) T.g_Run T.b_Run_init pass0 (fun _ _ _ _ h => h) (a_cons (d_ix ix_seq do_ix (d_var 0) d_int) (a_cons (d_ix ix_seq do_ix (d_var 0) d_int) a_nil))))) b_nil)
      (b_cons (s_if (PW.pt (w_and (t_cmp (op_eqP hu) do_eq (d_ix ix_seq do_ix (d_var 0) d_int) d_str) (w_and (t_cmp op_gt (do_C (g := fun i j => decide (j < i))) (d_var 1) d_int) (w_and1 (t_cmp (op_eqP hu) do_eq (d_ix ix_seq do_ix (d_var 0) (d_neg d_int)) d_str))))) (b_one (s_ret (d_make T.mk_Lead (ok_Lead_init T) (hr.mono (by decide)) (by rfl) T.g_Lead T.b_Lead_init pass0 (fun _ _ _ _ h => h) (a_cons (d_callP (ok__tests T) (hr.mono (by decide)) (by rfl) T.g__tests T.F__tests.kp T.b__tests pass0W (a_cons (d_ff (d_sl sl_list ds_list (d_var 0) (o_some d_int) (o_some (d_neg d_int)))) a_nil)) (a_cons (d_ix ix_seq do_ix (d_var 0) (d_neg d_int)) (a_cons (d_ix ix_seq do_ix (d_var 0) (d_neg d_int)) a_nil)))))) b_nil)
      (b_cons (s_if (PW.pt (w_and (t_cmp (op_eqP hu) do_eq (d_ix ix_seq do_ix (d_var 0) d_int) d_str) (w_and (t_cmp (op_eqP hu) do_eq (d_var 1) d_int) (w_and1 (t_cmp (op_eqP hu) do_eq (d_ix ix_seq do_ix (d_var 0) d_int) d_str))))) (b_one (s_ret (d_make T.mk_Join (ok_Join_init T) (hr.mono (by decide)) (by rfl) T.g_Join T.b_Join_init pass0 (fun _ _ _ _ h => h) (a_cons (d_ix ix_seq do_ix (d_var 0) d_int) (a_cons (d_ix ix_seq do_ix (d_var 0) d_int) (a_cons (d_ix ix_seq do_ix (d_var 0) d_int) a_nil)))))) b_nil)
      (b_one (s_ret d_non))))))
def m_Row_read (T : Tx P K mg) : MS Unit :=
    (mSeq (mSet 2 (mCallP [.v] (f__row T) (mCons (mFf (mSm jSplit (mVar 1) (mCons (mK (.str " ")) mNil))) mNil)))
    (mSeq (mIf (mTest (mOp fIsN (mVar 2) (mK .non))) mBad mNext)
    (mRet (mVar 2))))
def f_Row_read (T : Tx P K mg) (ds : List D) (s : Unit) : FO Unit D := (m_Row_read T (env0 [.b, .v] 1 ds) s).fo0
theorem ok_Row_read (T : Tx P K mg) : FnOk P w K mg base CX0 6 T.a_Row_read T.fd_Row_read ["cls", "text"] (spD (boxCls T.c_Row) K [.b, .v] (f_Row_read T)) := by
  have h := fun h1 => fn_ok0 (P := P) (w := w) (mg := mg) (base := base) (I := (boxCls T.c_Row)) (k := 5) (md := [.b, .v]) (m := m_Row_read T) T.F_Row_read sc_Row_read rfl rfl h1
  refine h fun cdv A outer s H E hr => ?_
  have hu := hr.units
  exact (b_cons (s_try_thru (b_one (s_set (i := 2) sc_Row_read.nd rfl (by first | exact Or.inl rfl | exact Or.inr rfl) (d_callP (ok__row T) (hr.mono (by decide)) (by rfl) T.g__row T.F__row.kp T.b__row pass0W (a_cons (d_ff (d_sm PySem.F.slot_str_split PySem.F.type_str_split mt_split dj_split (d_var 1) (a_cons d_str a_nil))) a_nil)))))
      (b_cons (s_if (t_cmp op_isN do_isN (d_var 2) d_non) (b_one s_bad) b_nil)
      (b_one (s_ret (d_var 2)))))
def m_Row___str__ (T : Tx P K mg) : MS Unit :=
    (mRet (mSm jJoin (mK (.str " ")) (mCons (mFldP (pC [T.c_Join, T.c_Lead, T.c_Run]) "_words" (mVar 0)) mNil)))
def f_Row___str__ (T : Tx P K mg) (ds : List D) (s : Unit) : FO Unit D := (m_Row___str__ T (env0 [.v] 0 ds) s).fo0
theorem ok_Row___str__ (T : Tx P K mg) : FnOk P w K mg base CX0 1 T.a_Row___str__ T.fd_Row___str__ ["self"] (spD boxNil K [.v] (f_Row___str__ T)) := by
  have h := fun h1 => fn_ok0 (P := P) (w := w) (mg := mg) (base := base) (I := boxNil) (k := 0) (md := [.v]) (m := m_Row___str__ T) T.F_Row___str__ sc_Row___str__ rfl rfl h1
  refine h fun cdv A outer s H E hr => ?_
  have hu := hr.units
  exact (b_one (s_ret (d_sm PySem.F.slot_str_join PySem.F.type_str_join mt_join dj_join d_str (a_cons (d_fldP (P := (pC [T.c_Join, T.c_Lead, T.c_Run])) (d_var 0) (pC_cons ⟨T.cl_Join, T.na_Join__words⟩ (pC_cons ⟨T.cl_Lead, T.na_Lead__words⟩ (pC_cons ⟨T.cl_Run, T.na_Run__words⟩ pC_nil)))) a_nil))))
def m_Row___eq__ (T : Tx P K mg) : MS Unit :=
    (mRet (mAndV (mIsi (isM [(T.c_Join, true), (T.c_Lead, true), (T.c_Run, true)]) (mVar 1)) (mOp fEq (mStrP (pC [T.c_Join, T.c_Lead, T.c_Run]) (f_Row___str__ T) (mVar 0)) (mStrP (pC [T.c_Join, T.c_Lead, T.c_Run]) (f_Row___str__ T) (mVar 1)))))
def f_Row___eq__ (T : Tx P K mg) (ds : List D) (s : Unit) : FO Unit D := (m_Row___eq__ T (env0 [.v, .v] 0 ds) s).fo0
theorem ok_Row___eq__ (T : Tx P K mg) : FnOk P w K mg base CX0 4 T.a_Row___eq__ T.fd_Row___eq__ ["self", "other"] (spD boxNil K [.v, .v] (f_Row___eq__ T)) := by
  have h := fun h1 => fn_ok0 (P := P) (w := w) (mg := mg) (base := base) (I := boxNil) (k := 3) (md := [.v, .v]) (m := m_Row___eq__ T) T.F_Row___eq__ sc_Row___eq__ rfl rfl h1
  refine h fun cdv A outer s H E hr => ?_
  have hu := hr.units
  exact (b_one (s_ret (v_and (d_isi (by rfl) T.n_isinstance boot_isinstance_ (d_var 1) (k_own (by rfl) T.g_Row) (isM_ok (l := [(T.c_Join, true), (T.c_Lead, true), (T.c_Run, true)]) T.kb_Row (isL_cons ⟨T.it_Join, T.km_Join_Row⟩ (isL_cons ⟨T.it_Lead, T.km_Lead_Row⟩ (isL_cons ⟨T.it_Run, T.km_Run_Row⟩ isL_nil))))) (v_one (d_cmp (op_eqP hu) do_eq (d_strP (P := (pC [T.c_Join, T.c_Lead, T.c_Run])) (pC_cons T.sp_Join___str__ (pC_cons T.sp_Lead___str__ (pC_cons T.sp_Run___str__ pC_nil))) T.if_Row___str__ (ok_Row___str__ T) (hr.mono (by decide)) T.b_Row___str__ (by rfl) T.n_str boot_str_ (d_var 0)) (d_strP (P := (pC [T.c_Join, T.c_Lead, T.c_Run])) (pC_cons T.sp_Join___str__ (pC_cons T.sp_Lead___str__ (pC_cons T.sp_Run___str__ pC_nil))) T.if_Row___str__ (ok_Row___str__ T) (hr.mono (by decide)) T.b_Row___str__ (by rfl) T.n_str boot_str_ (d_var 1)))))))
def m__law_made (T : Tx P K mg) : MS Unit :=
    (mSeq (mIf (mTest (mOp fEq (mOp fIx (mVar 0) (mK (.int 0))) (mK (.str "run")))) (mRet (mMakeP T.c_Run [.v, .v] (f_Run_init T) (mCons (mOp fIx (mVar 0) (mK (.int 1))) (mCons (mOp fIx (mVar 0) (mK (.int 2))) mNil)))) mNext)
    (mRet (mIfE (mTest (mOp fEq (mOp fIx (mVar 0) (mK (.int 0))) (mK (.str "lead")))) (mMakeP T.c_Lead [.v, .v, .v] (f_Lead_init T) (mCons (mOp fIx (mVar 0) (mK (.int 1))) (mCons (mOp fIx (mVar 0) (mK (.int 2))) (mCons (mOp fIx (mVar 0) (mK (.int 3))) mNil)))) (mMakeP T.c_Join [.v, .v, .v] (f_Join_init T) (mCons (mOp fIx (mVar 0) (mK (.int 1))) (mCons (mOp fIx (mVar 0) (mK (.int 2))) (mCons (mOp fIx (mVar 0) (mK (.int 3))) mNil)))))))
def f__law_made (T : Tx P K mg) (ds : List D) (s : Unit) : FO Unit D := (m__law_made T (env0 [.v] 0 ds) s).fo0
theorem ok__law_made (T : Tx P K mg) : FnOk P w K mg base CX0 5 T.a__law_made T.fd__law_made ["_law_row_here"] (spD boxNil K [.v] (f__law_made T)) := by
  have h := fun h1 => fn_ok0 (P := P) (w := w) (mg := mg) (base := base) (I := boxNil) (k := 4) (md := [.v]) (m := m__law_made T) T.F__law_made sc__law_made rfl rfl h1
  refine h fun cdv A outer s H E hr => ?_
  have hu := hr.units
  exact (b_cons (s_if (t_cmp (op_eqP hu) do_eq (d_ix ix_seq do_ix (d_var 0) d_int) d_str) (b_one (s_ret (d_make T.mk_Run (ok_Run_init T) (hr.mono (by decide)) (by rfl) T.g_Run T.b_Run_init pass0 (fun _ _ _ _ h => h) (a_cons (d_ix ix_seq do_ix (d_var 0) d_int) (a_cons (d_ix ix_seq do_ix (d_var 0) d_int) a_nil))))) b_nil)
      (b_one (s_ret (d_ife (t_cmp (op_eqP hu) do_eq (d_ix ix_seq do_ix (d_var 0) d_int) d_str) (d_make T.mk_Lead (ok_Lead_init T) (hr.mono (by decide)) (by rfl) T.g_Lead T.b_Lead_init pass0 (fun _ _ _ _ h => h) (a_cons (d_ix ix_seq do_ix (d_var 0) d_int) (a_cons (d_ix ix_seq do_ix (d_var 0) d_int) (a_cons (d_ix ix_seq do_ix (d_var 0) d_int) a_nil)))) (d_make T.mk_Join (ok_Join_init T) (hr.mono (by decide)) (by rfl) T.g_Join T.b_Join_init pass0 (fun _ _ _ _ h => h) (a_cons (d_ix ix_seq do_ix (d_var 0) d_int) (a_cons (d_ix ix_seq do_ix (d_var 0) d_int) (a_cons (d_ix ix_seq do_ix (d_var 0) d_int) a_nil))))))))
def m__law_sort (T : Tx P K mg) : MS Unit :=
    (mRet (mLst (mCons (mIsi (isM [(T.c_Join, false), (T.c_Lead, false), (T.c_Run, true)]) (mVar 0)) (mCons (mIsi (isM [(T.c_Join, false), (T.c_Lead, true), (T.c_Run, false)]) (mVar 0)) (mCons (mIsi (isM [(T.c_Join, true), (T.c_Lead, false), (T.c_Run, false)]) (mVar 0)) mNil)))))
def f__law_sort (T : Tx P K mg) (ds : List D) (s : Unit) : FO Unit D := (m__law_sort T (env0 [.v] 0 ds) s).fo0
theorem ok__law_sort (T : Tx P K mg) : FnOk P w K mg base CX0 1 T.a__law_sort T.fd__law_sort ["_law_made_here"] (spD boxNil K [.v] (f__law_sort T)) := by
  have h := fun h1 => fn_ok0 (P := P) (w := w) (mg := mg) (base := base) (I := boxNil) (k := 0) (md := [.v]) (m := m__law_sort T) T.F__law_sort sc__law_sort rfl rfl h1
  refine h fun cdv A outer s H E hr => ?_
  have hu := hr.units
  exact (b_one (s_ret (d_lst (a_cons (d_isi (by rfl) T.n_isinstance boot_isinstance_ (d_var 0) (k_own (by rfl) T.g_Run) (isM_ok (l := [(T.c_Join, false), (T.c_Lead, false), (T.c_Run, true)]) T.kb_Run (isL_cons ⟨T.it_Join, T.km_Join_Run⟩ (isL_cons ⟨T.it_Lead, T.km_Lead_Run⟩ (isL_cons ⟨T.it_Run, T.km_Run_Run⟩ isL_nil))))) (a_cons (d_isi (by rfl) T.n_isinstance boot_isinstance_ (d_var 0) (k_own (by rfl) T.g_Lead) (isM_ok (l := [(T.c_Join, false), (T.c_Lead, true), (T.c_Run, false)]) T.kb_Lead (isL_cons ⟨T.it_Join, T.km_Join_Lead⟩ (isL_cons ⟨T.it_Lead, T.km_Lead_Lead⟩ (isL_cons ⟨T.it_Run, T.km_Run_Lead⟩ isL_nil))))) (a_cons (d_isi (by rfl) T.n_isinstance boot_isinstance_ (d_var 0) (k_own (by rfl) T.g_Join) (isM_ok (l := [(T.c_Join, true), (T.c_Lead, false), (T.c_Run, false)]) T.kb_Join (isL_cons ⟨T.it_Join, T.km_Join_Join⟩ (isL_cons ⟨T.it_Lead, T.km_Lead_Join⟩ (isL_cons ⟨T.it_Run, T.km_Run_Join⟩ isL_nil))))) a_nil))))))
def m__law_row_text (T : Tx P K mg) : MS Unit :=
    (mSeq (mIf (mTest (mOp fEq (mOp fIx (mVar 0) (mK (.int 0))) (mK (.str "run")))) (mRet (mOp fAddS (mOp fAddS (mOp fAddS (mK (.str "run ")) (mOp fIx (mVar 0) (mK (.int 1)))) (mK (.str " to "))) (mOp fIx (mVar 0) (mK (.int 2))))) mNext)
    (mSeq (mIf (mTest (mOp fEq (mOp fIx (mVar 0) (mK (.int 0))) (mK (.str "lead")))) (mSeq (mSet 1 (mIfE (mTest (mOp fNe (mCB cList (mCons (mOp fIx (mVar 0) (mK (.int 1))) mNil)) (mLst mNil))) (mSm jJoin (mK (.str " and ")) (mCons (mOp fIx (mVar 0) (mK (.int 1))) mNil)) (mK (.str "always"))))
    (mRet (mOp fAddS (mOp fAddS (mOp fAddS (mOp fAddS (mOp fAddS (mK (.str "lead ")) (mVar 1)) (mK (.str " "))) (mOp fIx (mVar 0) (mK (.int 2)))) (mK (.str " to "))) (mOp fIx (mVar 0) (mK (.int 3)))))) mNext)
    (mRet (mOp fAddS (mOp fAddS (mOp fAddS (mOp fAddS (mOp fAddS (mK (.str "join ")) (mOp fIx (mVar 0) (mK (.int 1)))) (mK (.str " "))) (mOp fIx (mVar 0) (mK (.int 2)))) (mK (.str " to "))) (mOp fIx (mVar 0) (mK (.int 3)))))))
def f__law_row_text (T : Tx P K mg) (ds : List D) (s : Unit) : FO Unit D := (m__law_row_text T (env0 [.v] 1 ds) s).fo0
theorem ok__law_row_text (T : Tx P K mg) : FnOk P w K mg base CX0 1 T.a__law_row_text T.fd__law_row_text ["_law_row_here"] (spD boxNil K [.v] (f__law_row_text T)) := by
  have h := fun h1 => fn_ok0 (P := P) (w := w) (mg := mg) (base := base) (I := boxNil) (k := 0) (md := [.v]) (m := m__law_row_text T) T.F__law_row_text sc__law_row_text rfl rfl h1
  refine h fun cdv A outer s H E hr => ?_
  have hu := hr.units
  exact (b_cons (s_if (t_cmp (op_eqP hu) do_eq (d_ix ix_seq do_ix (d_var 0) d_int) d_str) (b_one (s_ret (d_op op_add_str do_addS (d_op op_add_str do_addS (d_op op_add_str do_addS d_str (d_ix ix_seq do_ix (d_var 0) d_int)) d_str) (d_ix ix_seq do_ix (d_var 0) d_int)))) b_nil)
      (b_cons (s_if (t_cmp (op_eqP hu) do_eq (d_ix ix_seq do_ix (d_var 0) d_int) d_str) (b_cons (s_set (i := 1) sc__law_row_text.nd rfl (by first | exact Or.inl rfl | exact Or.inr rfl) (d_ife (t_cmp (op_neP hu) do_ne (d_cty call_list_of dc_list (by rfl) T.n_list boot_list_ (a_cons (d_ix ix_seq do_ix (d_var 0) d_int) a_nil)) (d_lst a_nil)) (d_sm PySem.F.slot_str_join PySem.F.type_str_join mt_join dj_join d_str (a_cons (d_ix ix_seq do_ix (d_var 0) d_int) a_nil)) d_str))
      (b_one (s_ret (d_op op_add_str do_addS (d_op op_add_str do_addS (d_op op_add_str do_addS (d_op op_add_str do_addS (d_op op_add_str do_addS d_str (d_var 1)) d_str) (d_ix ix_seq do_ix (d_var 0) d_int)) d_str) (d_ix ix_seq do_ix (d_var 0) d_int))))) b_nil)
      (b_one (s_ret (d_op op_add_str do_addS (d_op op_add_str do_addS (d_op op_add_str do_addS (d_op op_add_str do_addS (d_op op_add_str do_addS d_str (d_ix ix_seq do_ix (d_var 0) d_int)) d_str) (d_ix ix_seq do_ix (d_var 0) d_int)) d_str) (d_ix ix_seq do_ix (d_var 0) d_int))))))
def m__law_draw (T : Tx P K mg) : MS Bd :=
    (mSeq (mWh 1000 (mAndT (mTest (mOp fEq (mDGet 0 .now) (mK (.int 0)))) (mTest (mOp (fC fun i j => decide (j < i)) (mDLen 0) (mK (.int 0))))) (mDPop 0))
    (mSeq (mIf (mTest (mOp (fC fun i j => decide (j < i)) (mDGet 0 .now) (mK (.int 0)))) (mSeq (mSet 2 (mOp fMod (mCB cInt (mCons (mDGet 0 .now) mNil)) (mVar 1)))
    (mSeq (mDSet 0 .now (mOp fDiv (mDGet 0 .now) (mVar 1)))
    (mRet (mVar 2)))) mNext)
    (mSeq (mDSet 0 .turn (mOp fAdd (mDGet 0 .turn) (mK (.int 1))))
    (mSeq (mSet 3 (mOp fMod (mCB cInt (mCons (mOp fAdd (mOp fMul (mDGet 0 .mix) (mK (.int 48271))) (mOp fMul (mDGet 0 .turn) (mK (.int 69621)))) mNil)) (mK (.int 2147483629))))
    (mSeq (mSet 4 (mOp fMod (mCB cInt (mCons (mOp fAdd (mOp fMul (mVar 3) (mVar 3)) (mOp fMul (mDGet 0 .turn) (mK (.int 7919)))) mNil)) (mK (.int 2147483563))))
    (mSeq (mDSet 0 .mix (mOp fAdd (mOp fMod (mCB cInt (mCons (mOp fAdd (mOp fMul (mVar 4) (mK (.int 40692))) (mVar 3)) mNil)) (mK (.int 2147483647))) (mK (.int 1))))
    (mRet (mOp fMod (mCB cInt (mCons (mOp fAdd (mOp fDiv (mVar 4) (mK (.int 4096))) (mVar 3)) mNil)) (mVar 1)))))))))
def f__law_draw (T : Tx P K mg) (ds : List D) (s : Bd) : FO Bd D := (m__law_draw T (env0 [.b, .v] 3 ds) s).fo0
theorem ok__law_draw (T : Tx P K mg) : FnOk P w K mg base CX0 1 T.a__law_draw T.fd__law_draw ["_law_deal_here", "_law_many"] (spD boxD K [.b, .v] (f__law_draw T)) := by
  have h := fun h1 => fn_ok0 (P := P) (w := w) (mg := mg) (base := base) (I := boxD) (k := 0) (md := [.b, .v]) (m := m__law_draw T) T.F__law_draw sc__law_draw rfl rfl h1
  refine h fun cdv A outer s H E hr => ?_
  have hu := hr.units
  exact (b_cons (s_while (k := 1000) PassesOwn.never (PW.pt (w_and (t_cmp (op_eqP hu) do_eq (d_dget (i := 0) (fd := .now) hu) d_int) (w_and1 (t_cmp op_gt (do_C (g := fun i j => decide (j < i))) (d_dlen (i := 0) hu (by rfl) T.n_len boot_len_) d_int)))) (b_one (s_dpop (i := 0) hu)))
      (b_cons (s_if (t_cmp op_gt (do_C (g := fun i j => decide (j < i))) (d_dget (i := 0) (fd := .now) hu) d_int) (b_cons (s_set (i := 2) sc__law_draw.nd rfl (by first | exact Or.inl rfl | exact Or.inr rfl) (d_op op_mod do_mod (d_cty call_int1 dc_int (by rfl) T.n_int boot_int_ (a_cons (d_dget (i := 0) (fd := .now) hu) a_nil)) (d_var 1)))
      (b_cons (s_dset (i := 0) (fd := .now) hu (d_op op_fdiv do_div (d_dget (i := 0) (fd := .now) hu) (d_var 1)))
      (b_one (s_ret (d_var 2))))) b_nil)
      (b_cons (s_dset (i := 0) (fd := .turn) hu (d_op op_add (do_I (g := fun i j => i + j)) (d_dget (i := 0) (fd := .turn) hu) d_int))
      (b_cons (s_set (i := 3) sc__law_draw.nd rfl (by first | exact Or.inl rfl | exact Or.inr rfl) (d_op op_mod do_mod (d_cty call_int1 dc_int (by rfl) T.n_int boot_int_ (a_cons (d_op op_add (do_I (g := fun i j => i + j)) (d_op op_mul do_mul (d_dget (i := 0) (fd := .mix) hu) d_int) (d_op op_mul do_mul (d_dget (i := 0) (fd := .turn) hu) d_int)) a_nil)) d_int))
      (b_cons (s_set (i := 4) sc__law_draw.nd rfl (by first | exact Or.inl rfl | exact Or.inr rfl) (d_op op_mod do_mod (d_cty call_int1 dc_int (by rfl) T.n_int boot_int_ (a_cons (d_op op_add (do_I (g := fun i j => i + j)) (d_op op_mul do_mul (d_var 3) (d_var 3)) (d_op op_mul do_mul (d_dget (i := 0) (fd := .turn) hu) d_int)) a_nil)) d_int))
      (b_cons (s_dset (i := 0) (fd := .mix) hu (d_op op_add (do_I (g := fun i j => i + j)) (d_op op_mod do_mod (d_cty call_int1 dc_int (by rfl) T.n_int boot_int_ (a_cons (d_op op_add (do_I (g := fun i j => i + j)) (d_op op_mul do_mul (d_var 4) d_int) (d_var 3)) a_nil)) d_int) d_int))
      (b_one (s_ret (d_op op_mod do_mod (d_cty call_int1 dc_int (by rfl) T.n_int boot_int_ (a_cons (d_op op_add (do_I (g := fun i j => i + j)) (d_op op_fdiv do_div (d_var 4) d_int) (d_var 3)) a_nil)) (d_var 1))))))))))
def m__law_pick (T : Tx P K mg) : MS Bd :=
    (mRet (mOp fIx (mVar 1) (mCallB lensD [.b, .v] (f__law_draw T) (mCons (mVar 0) (mCons (mCB cLen (mCons (mVar 1) mNil)) mNil)))))
def f__law_pick (T : Tx P K mg) (ds : List D) (s : Bd) : FO Bd D := (m__law_pick T (env0 [.b, .v] 0 ds) s).fo0
theorem ok__law_pick (T : Tx P K mg) : FnOk P w K mg base CX0 2 T.a__law_pick T.fd__law_pick ["_law_deal_here", "_law_some"] (spD boxD K [.b, .v] (f__law_pick T)) := by
  have h := fun h1 => fn_ok0 (P := P) (w := w) (mg := mg) (base := base) (I := boxD) (k := 1) (md := [.b, .v]) (m := m__law_pick T) T.F__law_pick sc__law_pick rfl rfl h1
  refine h fun cdv A outer s H E hr => ?_
  have hu := hr.units
  exact (b_one (s_ret (d_ix ix_seq do_ix (d_var 1) (d_callB (L := lensD) lensD_ok (ok__law_draw T) (hr.mono (by decide)) (by rfl) T.g__law_draw T.F__law_draw.kp T.b__law_draw pass0W (a_cons (d_var 0) (a_cons (d_cb call_len dc_len (by rfl) T.n_len boot_len_ (a_cons (d_var 1) a_nil)) a_nil))))))
def m__law_mixed (T : Tx P K mg) : MS Bd :=
    (mSeq (mPar 2 3 (mCB cList (mCons (mVar 1) mNil)) (mLst mNil))
    (mSeq (mWh 1000 (mTest (mOp fNe (mVar 2) (mLst mNil))) (mExp (mMut gApp (mVar 3) (mCons (mMut gPopAt (mVar 2) (mCons (mCallB lensD [.b, .v] (f__law_draw T) (mCons (mVar 0) (mCons (mCB cLen (mCons (mVar 2) mNil)) mNil))) mNil)) mNil))))
    (mRet (mFz 3))))
def f__law_mixed (T : Tx P K mg) (ds : List D) (s : Bd) : FO Bd D := (m__law_mixed T (env0 [.b, .v] 2 ds) s).fo0
theorem ok__law_mixed (T : Tx P K mg) : FnOk P w K mg base CX0 2 T.a__law_mixed T.fd__law_mixed ["_law_deal_here", "_law_some"] (spD boxD K [.b, .v] (f__law_mixed T)) := by
  have h := fun h1 => fn_ok0 (P := P) (w := w) (mg := mg) (base := base) (I := boxD) (k := 1) (md := [.b, .v]) (m := m__law_mixed T) T.F__law_mixed sc__law_mixed rfl rfl h1
  refine h fun cdv A outer s H E hr => ?_
  have hu := hr.units
  exact (b_cons (s_par (i := 2) (j := 3) rfl sc__law_mixed.nd rfl rfl (by decide) rfl rfl (d_cty call_list_of dc_list (by rfl) T.n_list boot_list_ (a_cons (d_var 1) a_nil)) (d_lst a_nil))
      (b_cons (s_while (k := 1000) PassesOwn.never (t_cmp (op_neP hu) do_ne (d_var 2) (d_lst a_nil)) (b_one (s_expr (d_mut PySem.F.slot_list_append PySem.F.type_list_append mt_append dm_app (d_var 3) (a_cons (d_mut PySem.F.slot_list_pop PySem.F.type_list_pop mt_popAt dm_popAt (d_var 2) (a_cons (d_callB (L := lensD) lensD_ok (ok__law_draw T) (hr.mono (by decide)) (by rfl) T.g__law_draw T.F__law_draw.kp T.b__law_draw pass0W (a_cons (d_var 0) (a_cons (d_cb call_len dc_len (by rfl) T.n_len boot_len_ (a_cons (d_var 2) a_nil)) a_nil))) a_nil)) a_nil)))))
      (b_one (s_ret (d_fz 3)))))
def m__law_tests (T : Tx P K mg) : MS Bd :=
    (mSeq (mSet 1 (mComp (mIL (mCallB lensD [.b, .v] (f__law_mixed T) (mCons (mVar 0) (mCons (mFf (mLst (mCons (mK (.str "above")) (mCons (mK (.str "own")) (mCons (mK (.str "below")) mNil))))) mNil)))) [2] (gN 2) mYes (mOp fAddS (mCallB lensD [.b, .v] (f__law_pick T) (mCons (mVar 0) (mCons (mFf (mLst (mCons (mK (.str "")) (mCons (mK (.str "")) (mCons (mK (.str "not ")) mNil))))) mNil))) (mVar 2))))
    (mRet (mSl fSlL (mVar 1) mNoPart (mPart (mCallB lensD [.b, .v] (f__law_draw T) (mCons (mVar 0) (mCons (mK (.int 4)) mNil)))))))
def f__law_tests (T : Tx P K mg) (ds : List D) (s : Bd) : FO Bd D := (m__law_tests T (env0 [.b] 2 ds) s).fo0
theorem ok__law_tests (T : Tx P K mg) : FnOk P w K mg base CX0 3 T.a__law_tests T.fd__law_tests ["_law_deal_here"] (spD boxD K [.b] (f__law_tests T)) := by
  have h := fun h1 => fn_ok0 (P := P) (w := w) (mg := mg) (base := base) (I := boxD) (k := 2) (md := [.b]) (m := m__law_tests T) T.F__law_tests sc__law_tests rfl rfl h1
  refine h fun cdv A outer s H E hr => ?_
  have hu := hr.units
  exact (b_cons (s_setcomp (i := 1) (own := [("_law_part", 2)]) rfl sc__law_tests.nd rfl rfl rfl (by rfl) (by decide +kernel) (i_list (d_callB (L := lensD) lensD_ok (ok__law_mixed T) (hr.mono (by decide)) (by rfl) T.g__law_mixed T.F__law_mixed.kp T.b__law_mixed pass0W (a_cons (d_var 0) (a_cons (d_ff (d_lst (a_cons d_str (a_cons d_str (a_cons d_str a_nil))))) a_nil)))) (blkOk_by (N := ["_law_deal_here", "_law_found", "_law_part"]) (sc := defScope s__law_tests) (by decide +kernel)) (by decide) (fun _ _ _ _ _ => (g_name (i := 2) sc__law_tests.nd rfl (by first | exact Or.inl rfl | exact Or.inr rfl))) (fun _ _ _ _ _ => y_nil) (fun _ _ _ _ _ => (d_op op_add_str do_addS (d_callB (L := lensD) lensD_ok (ok__law_pick T) (hr.mono (by decide)) (by rfl) T.g__law_pick T.F__law_pick.kp T.b__law_pick pass0W (a_cons (d_var 0) (a_cons (d_ff (d_lst (a_cons d_str (a_cons d_str (a_cons d_str a_nil))))) a_nil))) (d_var 2))))
      (b_one (s_ret (d_sl sl_list ds_list (d_var 1) o_none (o_some (d_callB (L := lensD) lensD_ok (ok__law_draw T) (hr.mono (by decide)) (by rfl) T.g__law_draw T.F__law_draw.kp T.b__law_draw pass0W (a_cons (d_var 0) (a_cons d_int a_nil))))))))
def m__law_row (T : Tx P K mg) : MS Bd :=
    (mSeq (mSet 2 (mCallB lensD [.b, .v] (f__law_draw T) (mCons (mVar 0) (mCons (mK (.int 3)) mNil))))
    (mSeq (mIf (mTest (mOp fEq (mVar 2) (mK (.int 0)))) (mRet (mTup (mCons (mK (.str "run")) (mCons (mCallB lensD [.b, .v] (f__law_pick T) (mCons (mVar 0) (mCons (mFf (mOp fCat (mVar 1) (mLst (mCons (mK (.str "any")) mNil)))) mNil))) (mCons (mCallB lensD [.b, .v] (f__law_pick T) (mCons (mVar 0) (mCons (mVar 1) mNil))) mNil))))) mNext)
    (mSeq (mIf (mTest (mOp fEq (mVar 2) (mK (.int 1)))) (mRet (mTup (mCons (mK (.str "lead")) (mCons (mCallB lensD [.b] (f__law_tests T) (mCons (mVar 0) mNil)) (mCons (mCallB lensD [.b, .v] (f__law_pick T) (mCons (mVar 0) (mCons (mFf (mOp fCat (mSl fSlL (mVar 1) (mPart (mK (.int 1))) mNoPart) (mLst (mCons (mK (.str "any")) mNil)))) mNil))) (mCons (mCallB lensD [.b, .v] (f__law_pick T) (mCons (mVar 0) (mCons (mVar 1) mNil))) mNil)))))) mNext)
    (mSeq (mPar 3 4 (mCallB lensD [.b, .v] (f__law_pick T) (mCons (mVar 0) (mCons (mFf (mOp fCat (mVar 1) (mLst (mCons (mK (.str "any")) mNil)))) mNil))) (mCallB lensD [.b, .v] (f__law_pick T) (mCons (mVar 0) (mCons (mFf (mOp fCat (mVar 1) (mLst (mCons (mK (.str "any")) mNil)))) mNil))))
    (mRet (mTup (mCons (mK (.str "join")) (mCons (mVar 3) (mCons (mVar 4) (mCons (mCallB lensD [.b, .v] (f__law_pick T) (mCons (mVar 0) (mCons (mFf (mOp fCat (mVar 1) (mLst (mCons (mK (.str "here")) (mCons (mK (.str "came")) mNil))))) mNil))) mNil))))))))))
def f__law_row (T : Tx P K mg) (ds : List D) (s : Bd) : FO Bd D := (m__law_row T (env0 [.b, .v] 3 ds) s).fo0
theorem ok__law_row (T : Tx P K mg) : FnOk P w K mg base CX0 4 T.a__law_row T.fd__law_row ["_law_deal_here", "_law_marks_here"] (spD boxD K [.b, .v] (f__law_row T)) := by
  have h := fun h1 => fn_ok0 (P := P) (w := w) (mg := mg) (base := base) (I := boxD) (k := 3) (md := [.b, .v]) (m := m__law_row T) T.F__law_row sc__law_row rfl rfl h1
  refine h fun cdv A outer s H E hr => ?_
  have hu := hr.units
  exact (b_cons (s_set (i := 2) sc__law_row.nd rfl (by first | exact Or.inl rfl | exact Or.inr rfl) (d_callB (L := lensD) lensD_ok (ok__law_draw T) (hr.mono (by decide)) (by rfl) T.g__law_draw T.F__law_draw.kp T.b__law_draw pass0W (a_cons (d_var 0) (a_cons d_int a_nil))))
      (b_cons (s_if (t_cmp (op_eqP hu) do_eq (d_var 2) d_int) (b_one (s_ret (d_tup (a_cons d_str (a_cons (d_callB (L := lensD) lensD_ok (ok__law_pick T) (hr.mono (by decide)) (by rfl) T.g__law_pick T.F__law_pick.kp T.b__law_pick pass0W (a_cons (d_var 0) (a_cons (d_ff (d_op op_catG do_cat (d_var 1) (d_lst (a_cons d_str a_nil)))) a_nil))) (a_cons (d_callB (L := lensD) lensD_ok (ok__law_pick T) (hr.mono (by decide)) (by rfl) T.g__law_pick T.F__law_pick.kp T.b__law_pick pass0W (a_cons (d_var 0) (a_cons (d_var 1) a_nil))) a_nil)))))) b_nil)
      (b_cons (s_if (t_cmp (op_eqP hu) do_eq (d_var 2) d_int) (b_one (s_ret (d_tup (a_cons d_str (a_cons (d_callB (L := lensD) lensD_ok (ok__law_tests T) (hr.mono (by decide)) (by rfl) T.g__law_tests T.F__law_tests.kp T.b__law_tests pass0W (a_cons (d_var 0) a_nil)) (a_cons (d_callB (L := lensD) lensD_ok (ok__law_pick T) (hr.mono (by decide)) (by rfl) T.g__law_pick T.F__law_pick.kp T.b__law_pick pass0W (a_cons (d_var 0) (a_cons (d_ff (d_op op_catG do_cat (d_sl sl_list ds_list (d_var 1) (o_some d_int) o_none) (d_lst (a_cons d_str a_nil)))) a_nil))) (a_cons (d_callB (L := lensD) lensD_ok (ok__law_pick T) (hr.mono (by decide)) (by rfl) T.g__law_pick T.F__law_pick.kp T.b__law_pick pass0W (a_cons (d_var 0) (a_cons (d_var 1) a_nil))) a_nil))))))) b_nil)
      (b_cons (s_par (i := 3) (j := 4) rfl sc__law_row.nd rfl rfl (by decide) rfl rfl (d_callB (L := lensD) lensD_ok (ok__law_pick T) (hr.mono (by decide)) (by rfl) T.g__law_pick T.F__law_pick.kp T.b__law_pick pass0W (a_cons (d_var 0) (a_cons (d_ff (d_op op_catG do_cat (d_var 1) (d_lst (a_cons d_str a_nil)))) a_nil))) (d_callB (L := lensD) lensD_ok (ok__law_pick T) (hr.mono (by decide)) (by rfl) T.g__law_pick T.F__law_pick.kp T.b__law_pick pass0W (a_cons (d_var 0) (a_cons (d_ff (d_op op_catG do_cat (d_var 1) (d_lst (a_cons d_str a_nil)))) a_nil))))
      (b_one (s_ret (d_tup (a_cons d_str (a_cons (d_var 3) (a_cons (d_var 4) (a_cons (d_callB (L := lensD) lensD_ok (ok__law_pick T) (hr.mono (by decide)) (by rfl) T.g__law_pick T.F__law_pick.kp T.b__law_pick pass0W (a_cons (d_var 0) (a_cons (d_ff (d_op op_catG do_cat (d_var 1) (d_lst (a_cons d_str (a_cons d_str a_nil))))) a_nil))) a_nil)))))))))))
def m__law_marks (T : Tx P K mg) : MS Bd :=
    (mSeq (mSet 2 (mFf (mLst (mCons (mK (.str "none")) (mCons (mK (.str "run")) (mCons (mK (.str "old")) (mCons (mK (.str "a")) (mCons (mK (.str "send")) (mCons (mK (.str "told")) (mCons (mK (.str "lead")) (mCons (mK (.str "join")) (mCons (mK (.str "mark")) (mCons (mK (.str "zzzz")) (mCons (mK (.str "b")) (mCons (mK (.str "text")) (mCons (mK (.str "part")) (mCons (mK (.str "keep")) mNil)))))))))))))))))
    (mRet (mSl fSlL (mCallB lensD [.b, .v] (f__law_mixed T) (mCons (mVar 0) (mCons (mVar 2) mNil))) mNoPart (mPart (mVar 1)))))
def f__law_marks (T : Tx P K mg) (ds : List D) (s : Bd) : FO Bd D := (m__law_marks T (env0 [.b, .v] 1 ds) s).fo0
theorem ok__law_marks (T : Tx P K mg) : FnOk P w K mg base CX0 3 T.a__law_marks T.fd__law_marks ["_law_deal_here", "_law_many"] (spD boxD K [.b, .v] (f__law_marks T)) := by
  have h := fun h1 => fn_ok0 (P := P) (w := w) (mg := mg) (base := base) (I := boxD) (k := 2) (md := [.b, .v]) (m := m__law_marks T) T.F__law_marks sc__law_marks rfl rfl h1
  refine h fun cdv A outer s H E hr => ?_
  have hu := hr.units
  exact (b_cons (s_set (i := 2) sc__law_marks.nd rfl (by first | exact Or.inl rfl | exact Or.inr rfl) (d_ff (d_lst (a_cons d_str (a_cons d_str (a_cons d_str (a_cons d_str (a_cons d_str (a_cons d_str (a_cons d_str (a_cons d_str (a_cons d_str (a_cons d_str (a_cons d_str (a_cons d_str (a_cons d_str (a_cons d_str a_nil)))))))))))))))))
      (b_one (s_ret (d_sl sl_list ds_list (d_callB (L := lensD) lensD_ok (ok__law_mixed T) (hr.mono (by decide)) (by rfl) T.g__law_mixed T.F__law_mixed.kp T.b__law_mixed pass0W (a_cons (d_var 0) (a_cons (d_var 2) a_nil))) o_none (o_some (d_var 1))))))
def m__law_deal (T : Tx P K mg) : MS Unit :=
    (mSeq (mSet 2 (mComp (mIL (mFf (mSl fSlL (mVar 0) (mPart (mVar 1)) (mPart (mK (.int 63)))))) [3] (gN 3) mYes (mCB cAbs (mCons (mVar 3) mNil))))
    (mSeq (mSet 4 (mOp fAdd (mK (.int 15485863)) (mVar 1)))
    (mSeq (mFor (mIL (mFz 2)) (gN 3) (mSet 4 (mOp fMod (mCB cInt (mCons (mOp fAdd (mOp fMul (mVar 4) (mK (.int 16807))) (mVar 3)) mNil)) (mK (.int 2147483647)))))
    (mSeq (mSet 5 (mComp (mIL (mFz 2)) [3] (gN 3) (mTest (mOp (fC fun i j => decide (j ≤ i)) (mVar 3) (mOp fPow (mK (.int 10)) (mK (.int 18))))) (mVar 3)))
    mNext))))
def m1__law_deal (T : Tx P K mg) : MX Unit W := (mRv (mVar 5))
def m2__law_deal (T : Tx P K mg) : MX Unit W := (mOp fAdd (mVar 4) (mK (.int 1)))
def f__law_deal (T : Tx P K mg) (ds : List D) : FO Unit Bd := outG (m__law_deal T) (m1__law_deal T) (m2__law_deal T) (env0 [.v, .v] 4 ds) ()
theorem ok__law_deal (T : Tx P K mg) : FnOk P w K mg base CX0 1 T.a__law_deal T.fd__law_deal ["_law_script", "_law_base"] (spG K [.v, .v] (f__law_deal T)) := by
  have h := fun h1 => fn_okG (P := P) (w := w) (mg := mg) (base := base) (k := 0) (md := [.v, .v]) (m := m__law_deal T) (e1 := m1__law_deal T) (e2 := m2__law_deal T) T.F__law_deal sc__law_deal rfl h1
  refine h fun cdv A outer s H E hr => ?_
  have hu := hr.units
  exact (g_cons (s_setcomp (i := 2) (own := [("_law_cell", 3)]) rfl sc__law_deal.nd rfl rfl rfl (by rfl) (by decide +kernel) (i_list (d_ff (d_sl sl_list ds_list (d_var 0) (o_some (d_var 1)) (o_some d_int)))) (blkOk_by (N := ["_law_script", "_law_base", "_law_cells", "_law_cell", "_law_mixed_here", "_law_great"]) (sc := defScope s__law_deal) (by decide +kernel)) (by decide) (fun _ _ _ _ _ => (g_name (i := 3) sc__law_deal.nd rfl (by first | exact Or.inl rfl | exact Or.inr rfl))) (fun _ _ _ _ _ => y_nil) (fun _ _ _ _ _ => (d_cb call_abs dc_abs (by rfl) T.n_abs boot_abs_ (a_cons (d_var 3) a_nil))))
      (g_cons (s_set (i := 4) sc__law_deal.nd rfl (by first | exact Or.inl rfl | exact Or.inr rfl) (d_op op_add (do_I (g := fun i j => i + j)) d_int (d_var 1)))
      (g_cons (s_for PassesOwn.never rfl (i_list (d_fz 2)) (g_name (i := 3) sc__law_deal.nd rfl (by first | exact Or.inl rfl | exact Or.inr rfl)) (b_one (s_set (i := 4) sc__law_deal.nd rfl (by first | exact Or.inl rfl | exact Or.inr rfl) (d_op op_mod do_mod (d_cty call_int1 dc_int (by rfl) T.n_int boot_int_ (a_cons (d_op op_add (do_I (g := fun i j => i + j)) (d_op op_mul do_mul (d_var 4) d_int) (d_var 3)) a_nil)) d_int))))
      (g_cons (s_setcomp (i := 5) (own := [("_law_cell", 3)]) rfl sc__law_deal.nd rfl rfl rfl (by rfl) (by decide +kernel) (i_list (d_fz 2)) (blkOk_by (N := ["_law_script", "_law_base", "_law_cells", "_law_cell", "_law_mixed_here", "_law_great"]) (sc := defScope s__law_deal) (by decide +kernel)) (by decide) (fun _ _ _ _ _ => (g_name (i := 3) sc__law_deal.nd rfl (by first | exact Or.inl rfl | exact Or.inr rfl))) (fun _ _ _ _ _ => (y_one (t_cmp op_ge (do_C (g := fun i j => decide (j ≤ i))) (d_var 3) (d_op op_pow do_pow d_int d_int)))) (fun _ _ _ _ _ => (d_var 3)))
      (g_one (g_ret (d_rv (d_var 5)) (d_op op_add (do_I (g := fun i j => i + j)) (d_var 4) d_int)))))))
def m_law (T : Tx P K mg) : MS (Option Bd) :=
    (mSeq (mNewBoxD 1 [.v, .v] (f__law_deal T) (mCons (mVar 0) (mCons (mK (.int 0)) mNil)))
    (mSeq (mFor (mIR (mK (.int 16))) (gN 2) (mSeq (mSet 3 (mCallB lensDW [.b, .v] (f__law_marks T) (mCons (mVar 1) (mCons (mK (.int 5)) mNil))))
    (mSeq (mSetG (gT 2 (gsC (gN 4) (gsC (gN 5) gsN))) (mTup (mCons (mCallB lensDW [.b, .v] (f__law_row T) (mCons (mVar 1) (mCons (mVar 3) mNil))) (mCons (mCallB lensDW [.b, .v] (f__law_row T) (mCons (mVar 1) (mCons (mVar 3) mNil))) mNil))))
    (mSeq (mPar 6 7 (mCallP [.v] (f__law_made T) (mCons (mVar 4) mNil)) (mCallP [.v] (f__law_row_text T) (mCons (mVar 4) mNil)))
    (mSeq (mSet 8 (mCallP [.v] (f__law_row_text T) (mCons (mVar 5) mNil)))
    (mSeq (mSet 9 (mCallP [.v] (f_Row_read T) (mCons (mVar 7) mNil)))
    (mSeq (mIf (mOrT (mTest (mOp fNe (mStrP (pC [T.c_Join, T.c_Lead, T.c_Run]) (f_Row___str__ T) (mVar 6)) (mVar 7))) (mOrT (mTest (mOp fNe (mStrP (pC [T.c_Join, T.c_Lead, T.c_Run]) (f_Row___str__ T) (mVar 9)) (mVar 7))) (mOrT (mTest (mNeP (pC [T.c_Join, T.c_Lead, T.c_Run]) (f_Row___eq__ T) (mVar 9) (mVar 6))) (mTest (mOp fNe (mStrP (pC [T.c_Join, T.c_Lead, T.c_Run]) (f_Row___str__ T) (mCallP [.v] (f_Row_read T) (mCons (mVar 8) mNil))) (mVar 8)))))) (mRet (mK (.bl false))) mNext)
    (mSeq (mSet 10 (mComp (mIT (mTup (mCons (mK (.str "run")) (mCons (mK (.str "lead")) (mCons (mK (.str "join")) mNil))))) [11] (gN 11) mYes (mOp fEq (mVar 11) (mOp fIx (mVar 4) (mK (.int 0))))))
    (mSeq (mIf (mOrT (mTest (mOp fNe (mCallP [.v] (f__law_sort T) (mCons (mVar 6) mNil)) (mVar 10))) (mTest (mOp fNe (mCallP [.v] (f__law_sort T) (mCons (mVar 9) mNil)) (mVar 10)))) (mRet (mK (.bl false))) mNext)
    (mIf (mOrT (mTest (mOp fNe (mOp fEq (mVar 4) (mVar 5)) (mOp fEq (mVar 7) (mVar 8)))) (mTest (mOp fNe (mEqP (pC [T.c_Join, T.c_Lead, T.c_Run]) (f_Row___eq__ T) (mVar 6) (mCallP [.v] (f__law_made T) (mCons (mVar 5) mNil))) (mOp fEq (mVar 4) (mVar 5))))) (mRet (mK (.bl false))) mNext))))))))))
    (mSeq (mIf (mTest (mOp fNe (mStrO T.c_Lead (f_Row___str__ T) (mMakeP T.c_Lead [.v, .v, .v] (f_Lead_init T) (mCons (mFf (mLst mNil)) (mCons (mK (.str "any")) (mCons (mK (.str "a")) mNil))))) (mK (.str "lead always any to a")))) (mRet (mK (.bl false))) mNext)
    (mRet (mOp fEq (mFld T.c_Lead "tests" (mCallP [.v] (f_Row_read T) (mCons (mK (.str "lead not own a to b")) mNil))) (mTup (mCons (mK (.str "not own")) mNil)))))))
theorem pf_law (T : Tx P K mg) {cdv : Value} {fa : Addr} {s : Shared} {H : Hp} {E : XK} (hr : Room 6 (callerA.deeper (PyProof.Rows.envOfC "law" (defScope s_law) s.heap.objs.size fa cdv))) :
    PSs (cxOf CX0 P w K mg base ["_law_script", "_law_deal_here", "_law_turn", "_law_marks_here", "_law_row_here", "_law_other", "_law_made_here", "_law_text", "_law_near", "_law_again", "_law_due", "_law_word"] "law" (defScope s_law) fa cdv callerA [] s H E).nox (defBody s_law) (tS K boxDW W0 (m_law T)) := by
  have hu := hr.units
  exact (b_cons (s_newboxD (i := 1) (ok__law_deal T) (hr.mono (by decide)) (by rfl) T.g__law_deal T.F__law_deal.kp T.b__law_deal pass0W (a_cons (d_var 0) (a_cons d_int a_nil)) sc_law.nd rfl (by first | exact Or.inl rfl | exact Or.inr rfl))
      (b_cons (s_for PassesOwn.never rfl (i_range (by rfl) T.n_range d_int) (g_name (i := 2) sc_law.nd rfl (by first | exact Or.inl rfl | exact Or.inr rfl)) (b_cons (s_set (i := 3) sc_law.nd rfl (by first | exact Or.inl rfl | exact Or.inr rfl) (d_callB (L := lensDW) lensDW_ok (ok__law_marks T) (hr.mono (by decide)) (by rfl) T.g__law_marks T.F__law_marks.kp T.b__law_marks pass0W (a_cons (d_var 1) (a_cons d_int a_nil))))
      (b_cons (s_setG (d_tup (a_cons (d_callB (L := lensDW) lensDW_ok (ok__law_row T) (hr.mono (by decide)) (by rfl) T.g__law_row T.F__law_row.kp T.b__law_row pass0W (a_cons (d_var 1) (a_cons (d_var 3) a_nil))) (a_cons (d_callB (L := lensDW) lensDW_ok (ok__law_row T) (hr.mono (by decide)) (by rfl) T.g__law_row T.F__law_row.kp T.b__law_row pass0W (a_cons (d_var 1) (a_cons (d_var 3) a_nil))) a_nil))) (g_tup (n := 2) rfl (gs_cons (g_name (i := 4) sc_law.nd rfl (by first | exact Or.inl rfl | exact Or.inr rfl)) (gs_cons (g_name (i := 5) sc_law.nd rfl (by first | exact Or.inl rfl | exact Or.inr rfl)) gs_nil))))
      (b_cons (s_par (i := 6) (j := 7) rfl sc_law.nd rfl rfl (by decide) rfl rfl (d_callP (ok__law_made T) (hr.mono (by decide)) (by rfl) T.g__law_made T.F__law_made.kp T.b__law_made pass0W (a_cons (d_var 4) a_nil)) (d_callP (ok__law_row_text T) (hr.mono (by decide)) (by rfl) T.g__law_row_text T.F__law_row_text.kp T.b__law_row_text pass0W (a_cons (d_var 4) a_nil)))
      (b_cons (s_set (i := 8) sc_law.nd rfl (by first | exact Or.inl rfl | exact Or.inr rfl) (d_callP (ok__law_row_text T) (hr.mono (by decide)) (by rfl) T.g__law_row_text T.F__law_row_text.kp T.b__law_row_text pass0W (a_cons (d_var 5) a_nil)))
      (b_cons (s_set (i := 9) sc_law.nd rfl (by first | exact Or.inl rfl | exact Or.inr rfl) (d_cmeth T.cr_Row T.cm_Row_read (ok_Row_read T) (hr.mono (by decide)) (by rfl) T.g_Row T.b_Row_read pass0W (a_cons (d_var 7) a_nil)))
      (b_cons (s_if (PW.pt (w_or (t_cmp (op_neP hu) do_ne (d_strP (P := (pC [T.c_Join, T.c_Lead, T.c_Run])) (pC_cons T.sp_Join___str__ (pC_cons T.sp_Lead___str__ (pC_cons T.sp_Run___str__ pC_nil))) T.if_Row___str__ (ok_Row___str__ T) (hr.mono (by decide)) T.b_Row___str__ (by rfl) T.n_str boot_str_ (d_var 6)) (d_var 7)) (w_or (t_cmp (op_neP hu) do_ne (d_strP (P := (pC [T.c_Join, T.c_Lead, T.c_Run])) (pC_cons T.sp_Join___str__ (pC_cons T.sp_Lead___str__ (pC_cons T.sp_Run___str__ pC_nil))) T.if_Row___str__ (ok_Row___str__ T) (hr.mono (by decide)) T.b_Row___str__ (by rfl) T.n_str boot_str_ (d_var 9)) (d_var 7)) (w_or (t_neP2 (P := (pC [T.c_Join, T.c_Lead, T.c_Run])) (pC_cons T.it_Join (pC_cons T.it_Lead (pC_cons T.it_Run pC_nil))) (pC_cons T.ne_Join (pC_cons T.ne_Lead (pC_cons T.ne_Run pC_nil))) (pC_cons T.sp_Join___eq__ (pC_cons T.sp_Lead___eq__ (pC_cons T.sp_Run___eq__ pC_nil))) (pC_two (pC_cons (pC_cons T.nf_Join_Join (pC_cons T.nf_Join_Lead (pC_cons T.nf_Join_Run pC_nil))) (pC_cons (pC_cons T.nf_Lead_Join (pC_cons T.nf_Lead_Lead (pC_cons T.nf_Lead_Run pC_nil))) (pC_cons (pC_cons T.nf_Run_Join (pC_cons T.nf_Run_Lead (pC_cons T.nf_Run_Run pC_nil))) pC_nil)))) T.if_Row___eq__ (ok_Row___eq__ T) (hr.mono (by decide)) T.b_Row___eq__ (d_var 9) (d_var 6)) (w_or1 (t_cmp (op_neP hu) do_ne (d_strP (P := (pC [T.c_Join, T.c_Lead, T.c_Run])) (pC_cons T.sp_Join___str__ (pC_cons T.sp_Lead___str__ (pC_cons T.sp_Run___str__ pC_nil))) T.if_Row___str__ (ok_Row___str__ T) (hr.mono (by decide)) T.b_Row___str__ (by rfl) T.n_str boot_str_ (d_cmeth T.cr_Row T.cm_Row_read (ok_Row_read T) (hr.mono (by decide)) (by rfl) T.g_Row T.b_Row_read pass0W (a_cons (d_var 8) a_nil))) (d_var 8))))))) (b_one (s_ret d_bl)) b_nil)
      (b_cons (s_setcomp (i := 10) (own := [("_law_word", 11)]) rfl sc_law.nd rfl rfl rfl (by rfl) (by decide +kernel) (i_tup (d_tup (a_cons d_str (a_cons d_str (a_cons d_str a_nil))))) (blkOk_by (N := ["_law_script", "_law_deal_here", "_law_turn", "_law_marks_here", "_law_row_here", "_law_other", "_law_made_here", "_law_text", "_law_near", "_law_again", "_law_due", "_law_word"]) (sc := defScope s_law) (by decide +kernel)) (by decide) (fun _ _ _ _ _ => (g_name (i := 11) sc_law.nd rfl (by first | exact Or.inl rfl | exact Or.inr rfl))) (fun _ _ _ _ _ => y_nil) (fun _ _ _ _ _ => (d_cmp (op_eqP hu) do_eq (d_var 11) (d_ix ix_seq do_ix (d_var 4) d_int))))
      (b_cons (s_if (PW.pt (w_or (t_cmp (op_neP hu) do_ne (d_callP (ok__law_sort T) (hr.mono (by decide)) (by rfl) T.g__law_sort T.F__law_sort.kp T.b__law_sort pass0W (a_cons (d_var 6) a_nil)) (d_var 10)) (w_or1 (t_cmp (op_neP hu) do_ne (d_callP (ok__law_sort T) (hr.mono (by decide)) (by rfl) T.g__law_sort T.F__law_sort.kp T.b__law_sort pass0W (a_cons (d_var 9) a_nil)) (d_var 10))))) (b_one (s_ret d_bl)) b_nil)
      (b_one (s_if (PW.pt (w_or (t_cmp (op_neP hu) do_ne (d_cmp (op_eqP hu) do_eq (d_var 4) (d_var 5)) (d_cmp (op_eqP hu) do_eq (d_var 7) (d_var 8))) (w_or1 (t_cmp (op_neP hu) do_ne (d_eqP2 (P := (pC [T.c_Join, T.c_Lead, T.c_Run])) (pC_cons T.sp_Join___eq__ (pC_cons T.sp_Lead___eq__ (pC_cons T.sp_Run___eq__ pC_nil))) (pC_two (pC_cons (pC_cons T.nf_Join_Join (pC_cons T.nf_Join_Lead (pC_cons T.nf_Join_Run pC_nil))) (pC_cons (pC_cons T.nf_Lead_Join (pC_cons T.nf_Lead_Lead (pC_cons T.nf_Lead_Run pC_nil))) (pC_cons (pC_cons T.nf_Run_Join (pC_cons T.nf_Run_Lead (pC_cons T.nf_Run_Run pC_nil))) pC_nil)))) T.if_Row___eq__ (ok_Row___eq__ T) (hr.mono (by decide)) T.b_Row___eq__ (d_var 6) (d_callP (ok__law_made T) (hr.mono (by decide)) (by rfl) T.g__law_made T.F__law_made.kp T.b__law_made pass0W (a_cons (d_var 5) a_nil))) (d_cmp (op_eqP hu) do_eq (d_var 4) (d_var 5)))))) (b_one (s_ret d_bl)) b_nil)))))))))))
      (b_cons (s_if (t_cmp (op_neP hu) do_ne (d_strO T.sp_Lead___str__ T.if_Row___str__ (ok_Row___str__ T) (hr.mono (by decide)) T.b_Row___str__ (by rfl) T.n_str boot_str_ (d_make T.mk_Lead (ok_Lead_init T) (hr.mono (by decide)) (by rfl) T.g_Lead T.b_Lead_init pass0 (fun _ _ _ _ h => h) (a_cons (d_ff (d_lst a_nil)) (a_cons d_str (a_cons d_str a_nil))))) d_str) (b_one (s_ret d_bl)) b_nil)
      (b_one (s_ret (d_cmp (op_eqP hu) do_eq (d_fld (d_cmeth T.cr_Row T.cm_Row_read (ok_Row_read T) (hr.mono (by decide)) (by rfl) T.g_Row T.b_Row_read pass0W (a_cons d_str a_nil)) T.cl_Lead T.na_Lead_tests) (d_tup (a_cons d_str a_nil))))))))
end
end ledmarks_k04_texts_of_rows

namespace ledmarks_k04_texts_of_rows
open PySem L2 LM
section
variable {P : Program} {K : PySem.W.Frag} {mg : Str → Option Value}
theorem ok_str {ds : List D} {l : List Str} (h : ∀ d ∈ ds, ∃ x ∈ l, d = .str x) : oks 59 ds = true := oks_of fun d hd => by
  obtain ⟨x, _, rfl⟩ := h d hd
  rfl
theorem er_perm : ∀ (l : List D) (j : Nat) (h : j < l.length), (l[j] :: l.eraseIdx j).Perm l
  | x :: l, 0, _ => .refl _
  | x :: l, j + 1, h => (List.Perm.swap x (l[j]'(Nat.lt_of_succ_lt_succ h)) (l.eraseIdx j)).trans ((er_perm l j (Nat.lt_of_succ_lt_succ h)).cons x)
theorem wh_draw (m : Int) : ∀ (k : Nat) (s : Bd), s.gr.length < k → ∃ s', mWhL (mAndT (mTest (mOp fEq (mDGet 0 .now) (mK (.int 0)))) (mTest (mOp (fC fun i j => decide (j < i)) (mDLen 0) (mK (.int 0))))) (mDPop 0) k [.box, .val (.int m), .no, .no, .no] s = .nx [.box, .val (.int m), .no, .no, .no] s' ∧ s'.gr.length ≤ s.gr.length := by
  intro k
  induction k with
  | zero => exact fun s h => absurd h (Nat.not_lt_zero _)
  | succ k ih =>
    intro s hk
    have hc : (mAndT (mTest (mOp fEq (mDGet 0 .now) (mK (.int 0)))) (mTest (mOp (fC fun i j => decide (j < i)) (mDLen 0) (mK (.int 0)))) : MX Bd Bool) [.box, .val (.int m), .no, .no, .no] s = .ok (decide (s.now = 0) && decide ((0 : Int) < (s.gr.length : Nat))) [.box, .val (.int m), .no, .no, .no] s := by
      by_cases h0 : s.now = 0
      · simp only [mSeq, mSet, mRet, mRetN, mIf, mExp, mBad, mNext, mPar, W.sl, mFor, Out.bindS, MX.bind, Out.bind, mK, mVar, mFz, mFf, mOp, mTest, mNotT, mNotV, mAndT, mOrT, mAndV, mOrV, mIfE, mChain, mNil, mCons, mTup, mLst, mCB, mFld, mFldSet, mCallP, mCallB, mMethP, mMakeP, mMut, mSl, mPart, mNoPart, mIsi, mIL, mIT, mIR, mIEn, mIS, mBGet, mBSet, mNewBox, mComp, mYes, Out.bindN, bindA, env0, envA, envI, FO.outP, FO.outL, FO.out, SO.fo0, SO.foF, SO.foI, lensW, lensL, resO_some, Rs.w_v, Rs.w_f, W.rd_v, W.rd_t, W.rd_f, W.rd_l, W.kp_v, List.mapM_cons, List.mapM_nil, Option.bind_eq_bind, Option.bind_some, Option.pure_def, Option.map_some, List.replicate_succ, List.replicate_zero, List.cons_append, List.nil_append, List.getElem?_cons_zero, List.getElem?_cons_succ, List.set_cons_zero, List.set_cons_succ, rb, ri, fI, fC, fAdd, fSub, fMod, fMul, fDiv, fIx, fIsN, fNotN, D.isN, cl_lst, cl_tup, cInt, cTup, cList, gApp, gN, gT, gsC, gsN, Sl.isRef, if_true, if_false, if_pos, List.length_cons, List.length_nil, Bx.at, Bx.put, List.any_cons, List.any_nil, Bool.not_true, Bool.not_false, Nat.reduceAdd, Nat.reduceLeDiff, reduceIte, reduceCtorEq, and_self, and_true, true_and, if_s_non, if_s_bl, if_s_int, if_s_str, if_s_tup, if_s_lst, if_i_non, if_i_bl, if_i_int, if_i_str, if_i_tup, if_i_lst, if_b_non, if_b_bl, if_b_int, if_b_str, if_b_tup, if_b_lst, if_t_non, if_t_bl, if_t_int, if_t_str, if_t_tup, if_t_lst, if_l_non, if_l_bl, if_l_int, if_l_str, if_l_tup, if_l_lst, if_lt2_non, if_lt2_bl, if_lt2_int, if_lt2_str, if_lt2_tup, if_lt2_lst, mRaise, mTryAs, tryOut, mXf, mIsE, mLenO, mGetO, mIxSet, mSwapIx, ixSt, mNeg, isFO, gIns, SO.foX, SO.foJ, one_self, is1_self, at1_self, noRefAt, List.all_cons, List.all_nil, Sl.noBox, D.flat, Bool.and_self, Bool.and_true, Bool.true_and, List.zip_cons_cons, List.zip_nil_right, mTru, List.contains_nil, mIE, mIZ, mBrk, mCnt, decide_true, decide_false, Bool.false_eq_true, Bool.not_eq_true, mDGet, mDLen, Bd.at, eq_int, h0]
      · simp only [mSeq, mSet, mRet, mRetN, mIf, mExp, mBad, mNext, mPar, W.sl, mFor, Out.bindS, MX.bind, Out.bind, mK, mVar, mFz, mFf, mOp, mTest, mNotT, mNotV, mAndT, mOrT, mAndV, mOrV, mIfE, mChain, mNil, mCons, mTup, mLst, mCB, mFld, mFldSet, mCallP, mCallB, mMethP, mMakeP, mMut, mSl, mPart, mNoPart, mIsi, mIL, mIT, mIR, mIEn, mIS, mBGet, mBSet, mNewBox, mComp, mYes, Out.bindN, bindA, env0, envA, envI, FO.outP, FO.outL, FO.out, SO.fo0, SO.foF, SO.foI, lensW, lensL, resO_some, Rs.w_v, Rs.w_f, W.rd_v, W.rd_t, W.rd_f, W.rd_l, W.kp_v, List.mapM_cons, List.mapM_nil, Option.bind_eq_bind, Option.bind_some, Option.pure_def, Option.map_some, List.replicate_succ, List.replicate_zero, List.cons_append, List.nil_append, List.getElem?_cons_zero, List.getElem?_cons_succ, List.set_cons_zero, List.set_cons_succ, rb, ri, fI, fC, fAdd, fSub, fMod, fMul, fDiv, fIx, fIsN, fNotN, D.isN, cl_lst, cl_tup, cInt, cTup, cList, gApp, gN, gT, gsC, gsN, Sl.isRef, if_true, if_false, if_pos, List.length_cons, List.length_nil, Bx.at, Bx.put, List.any_cons, List.any_nil, Bool.not_true, Bool.not_false, Nat.reduceAdd, Nat.reduceLeDiff, reduceIte, reduceCtorEq, and_self, and_true, true_and, if_s_non, if_s_bl, if_s_int, if_s_str, if_s_tup, if_s_lst, if_i_non, if_i_bl, if_i_int, if_i_str, if_i_tup, if_i_lst, if_b_non, if_b_bl, if_b_int, if_b_str, if_b_tup, if_b_lst, if_t_non, if_t_bl, if_t_int, if_t_str, if_t_tup, if_t_lst, if_l_non, if_l_bl, if_l_int, if_l_str, if_l_tup, if_l_lst, if_lt2_non, if_lt2_bl, if_lt2_int, if_lt2_str, if_lt2_tup, if_lt2_lst, mRaise, mTryAs, tryOut, mXf, mIsE, mLenO, mGetO, mIxSet, mSwapIx, ixSt, mNeg, isFO, gIns, SO.foX, SO.foJ, one_self, is1_self, at1_self, noRefAt, List.all_cons, List.all_nil, Sl.noBox, D.flat, Bool.and_self, Bool.and_true, Bool.true_and, List.zip_cons_cons, List.zip_nil_right, mTru, List.contains_nil, mIE, mIZ, mBrk, mCnt, decide_true, decide_false, Bool.false_eq_true, Bool.not_eq_true, mDGet, mDLen, Bd.at, eq_int, h0, Bool.false_and]
    by_cases hb : (decide (s.now = 0) && decide ((0 : Int) < (s.gr.length : Nat))) = true
    · rw [hb] at hc
      have hl : 0 < s.gr.length := by
        have := (Bool.and_eq_true_iff.mp hb).2
        have := of_decide_eq_true this
        omega
      cases hz : s.gr.getLast? with
      | none => rw [List.getLast?_eq_none_iff] at hz; rw [hz] at hl; exact absurd hl (Nat.lt_irrefl _)
      | some z =>
        have hd : (mDPop 0 : MS Bd) [.box, .val (.int m), .no, .no, .no] s = .nx [.box, .val (.int m), .no, .no, .no] { s with gr := s.gr.dropLast, now := z } := by
          simp only [mDPop, List.getElem?_cons_zero, hz]
        have hl2 : (s.gr.dropLast).length = s.gr.length - 1 := List.length_dropLast
        obtain ⟨s', e, q⟩ := ih { s with gr := s.gr.dropLast, now := z } (by show s.gr.dropLast.length < k; omega)
        refine ⟨s', (wh_t hc hd).trans e, Nat.le_trans q ?_⟩
        show s.gr.dropLast.length ≤ _
        omega
    · rw [Bool.not_eq_true] at hb
      rw [hb] at hc
      exact ⟨s, wh_f hc, Nat.le_refl _⟩
theorem draw_ok (T : Tx P K mg) (m : Int) (s : Bd) (hs : s.gr.length ≤ 63) (h0 : 0 < m) (h1 : m < 1073741824) : ∃ r s', f__law_draw T [.int m] s = .ok (.int r) s' ∧ 0 ≤ r ∧ r < m ∧ s'.gr.length ≤ 63 := by
  obtain ⟨s1, e1, q1⟩ := wh_draw m 1000 s (by omega)
  unfold f__law_draw m__law_draw
  rw [show env0 [.b, .v] 3 [.int m] = [.box, .val (.int m), .no, .no, .no] from rfl, seq_nx (m := mWh 1000 _ _) e1]
  have h63 : s1.gr.length ≤ 63 := by omega
  obtain ⟨g, now, mix, turn⟩ := s1
  by_cases hg : 0 < now
  · simp only [mSeq, mSet, mRet, mRetN, mIf, mExp, mBad, mNext, mPar, W.sl, mFor, Out.bindS, MX.bind, Out.bind, mK, mVar, mFz, mFf, mOp, mTest, mNotT, mNotV, mAndT, mOrT, mAndV, mOrV, mIfE, mChain, mNil, mCons, mTup, mLst, mCB, mFld, mFldSet, mCallP, mCallB, mMethP, mMakeP, mMut, mSl, mPart, mNoPart, mIsi, mIL, mIT, mIR, mIEn, mIS, mBGet, mBSet, mNewBox, mComp, mYes, Out.bindN, bindA, env0, envA, envI, FO.outP, FO.outL, FO.out, SO.fo0, SO.foF, SO.foI, lensW, lensL, resO_some, Rs.w_v, Rs.w_f, W.rd_v, W.rd_t, W.rd_f, W.rd_l, W.kp_v, List.mapM_cons, List.mapM_nil, Option.bind_eq_bind, Option.bind_some, Option.pure_def, Option.map_some, List.replicate_succ, List.replicate_zero, List.cons_append, List.nil_append, List.getElem?_cons_zero, List.getElem?_cons_succ, List.set_cons_zero, List.set_cons_succ, rb, ri, fI, fC, fAdd, fSub, fMod, fMul, fDiv, fIx, fIsN, fNotN, D.isN, cl_lst, cl_tup, cInt, cTup, cList, gApp, gN, gT, gsC, gsN, Sl.isRef, if_true, if_false, if_pos, List.length_cons, List.length_nil, Bx.at, Bx.put, List.any_cons, List.any_nil, Bool.not_true, Bool.not_false, Nat.reduceAdd, Nat.reduceLeDiff, reduceIte, reduceCtorEq, and_self, and_true, true_and, if_s_non, if_s_bl, if_s_int, if_s_str, if_s_tup, if_s_lst, if_i_non, if_i_bl, if_i_int, if_i_str, if_i_tup, if_i_lst, if_b_non, if_b_bl, if_b_int, if_b_str, if_b_tup, if_b_lst, if_t_non, if_t_bl, if_t_int, if_t_str, if_t_tup, if_t_lst, if_l_non, if_l_bl, if_l_int, if_l_str, if_l_tup, if_l_lst, if_lt2_non, if_lt2_bl, if_lt2_int, if_lt2_str, if_lt2_tup, if_lt2_lst, mRaise, mTryAs, tryOut, mXf, mIsE, mLenO, mGetO, mIxSet, mSwapIx, ixSt, mNeg, isFO, gIns, SO.foX, SO.foJ, one_self, is1_self, at1_self, noRefAt, List.all_cons, List.all_nil, Sl.noBox, D.flat, Bool.and_self, Bool.and_true, Bool.true_and, List.zip_cons_cons, List.zip_nil_right, mTru, List.contains_nil, mIE, mIZ, mBrk, mCnt, decide_true, decide_false, Bool.false_eq_true, Bool.not_eq_true, mDGet, mDSet, Bd.at, Bd.put, hg, h0, h1]
    exact ⟨_, _, rfl, Int.emod_nonneg _ (by omega), Int.emod_lt_of_pos _ h0, h63⟩
  · have c1 : (0 : Int) < 2147483647 := by decide
    have c2 : (0 : Int) < 2147483629 := by decide
    have c3 : (0 : Int) < 2147483563 := by decide
    have c4 : -18446744073709551616 < (48271 : Int) ∧ (48271 : Int) < 18446744073709551616 := by decide
    have c5 : -18446744073709551616 < (69621 : Int) ∧ (69621 : Int) < 18446744073709551616 := by decide
    have c6 : -18446744073709551616 < (7919 : Int) ∧ (7919 : Int) < 18446744073709551616 := by decide
    have c7 : -18446744073709551616 < (40692 : Int) ∧ (40692 : Int) < 18446744073709551616 := by decide
    have c9 : (0 : Int) < 4096 ∧ (4096 : Int) < 1073741824 := by decide
    obtain ⟨f1, hf1⟩ : ∃ f1 : Int, (mix * 48271 + (turn + 1) * 69621) % 2147483629 = f1 := ⟨_, rfl⟩
    have c8 : -18446744073709551616 < f1 ∧ f1 < 18446744073709551616 := by
      have := Int.emod_nonneg (mix * 48271 + (turn + 1) * 69621) (show (2147483629 : Int) ≠ 0 by decide)
      have := Int.emod_lt_of_pos (mix * 48271 + (turn + 1) * 69621) c2
      omega
    simp only [mSeq, mSet, mRet, mRetN, mIf, mExp, mBad, mNext, mPar, W.sl, mFor, Out.bindS, MX.bind, Out.bind, mK, mVar, mFz, mFf, mOp, mTest, mNotT, mNotV, mAndT, mOrT, mAndV, mOrV, mIfE, mChain, mNil, mCons, mTup, mLst, mCB, mFld, mFldSet, mCallP, mCallB, mMethP, mMakeP, mMut, mSl, mPart, mNoPart, mIsi, mIL, mIT, mIR, mIEn, mIS, mBGet, mBSet, mNewBox, mComp, mYes, Out.bindN, bindA, env0, envA, envI, FO.outP, FO.outL, FO.out, SO.fo0, SO.foF, SO.foI, lensW, lensL, resO_some, Rs.w_v, Rs.w_f, W.rd_v, W.rd_t, W.rd_f, W.rd_l, W.kp_v, List.mapM_cons, List.mapM_nil, Option.bind_eq_bind, Option.bind_some, Option.pure_def, Option.map_some, List.replicate_succ, List.replicate_zero, List.cons_append, List.nil_append, List.getElem?_cons_zero, List.getElem?_cons_succ, List.set_cons_zero, List.set_cons_succ, rb, ri, fI, fC, fAdd, fSub, fMod, fMul, fDiv, fIx, fIsN, fNotN, D.isN, cl_lst, cl_tup, cInt, cTup, cList, gApp, gN, gT, gsC, gsN, Sl.isRef, if_true, if_false, if_pos, List.length_cons, List.length_nil, Bx.at, Bx.put, List.any_cons, List.any_nil, Bool.not_true, Bool.not_false, Nat.reduceAdd, Nat.reduceLeDiff, reduceIte, reduceCtorEq, and_self, and_true, true_and, if_s_non, if_s_bl, if_s_int, if_s_str, if_s_tup, if_s_lst, if_i_non, if_i_bl, if_i_int, if_i_str, if_i_tup, if_i_lst, if_b_non, if_b_bl, if_b_int, if_b_str, if_b_tup, if_b_lst, if_t_non, if_t_bl, if_t_int, if_t_str, if_t_tup, if_t_lst, if_l_non, if_l_bl, if_l_int, if_l_str, if_l_tup, if_l_lst, if_lt2_non, if_lt2_bl, if_lt2_int, if_lt2_str, if_lt2_tup, if_lt2_lst, mRaise, mTryAs, tryOut, mXf, mIsE, mLenO, mGetO, mIxSet, mSwapIx, ixSt, mNeg, isFO, gIns, SO.foX, SO.foJ, one_self, is1_self, at1_self, noRefAt, List.all_cons, List.all_nil, Sl.noBox, D.flat, Bool.and_self, Bool.and_true, Bool.true_and, List.zip_cons_cons, List.zip_nil_right, mTru, List.contains_nil, mIE, mIZ, mBrk, mCnt, decide_true, decide_false, Bool.false_eq_true, Bool.not_eq_true, mDGet, mDSet, Bd.at, Bd.put, hg, h0, h1, c1, c2, c3, c4, c5, c6, c7, c9, true_or, or_true, hf1, c8]
    exact ⟨_, _, rfl, Int.emod_nonneg _ (by omega), Int.emod_lt_of_pos _ h0, h63⟩
theorem pick_ok (T : Tx P K mg) (ws : List D) (s : Bd) (hs : s.gr.length ≤ 63) (h0 : 0 < ws.length) (h1 : ws.length < 1000) : ∃ d s', f__law_pick T [.lst ws] s = .ok d s' ∧ d ∈ ws ∧ s'.gr.length ≤ 63 := by
  obtain ⟨r, s1, e, p, q, hs1⟩ := draw_ok T (ws.length : Int) s hs (by omega) (by omega)
  obtain ⟨k, rfl⟩ : ∃ k : Nat, r = (k : Int) := ⟨r.toNat, by omega⟩
  have hk : k < ws.length := by omega
  unfold f__law_pick m__law_pick
  simp only [mSeq, mSet, mRet, mRetN, mIf, mExp, mBad, mNext, mPar, W.sl, mFor, Out.bindS, MX.bind, Out.bind, mK, mVar, mFz, mFf, mOp, mTest, mNotT, mNotV, mAndT, mOrT, mAndV, mOrV, mIfE, mChain, mNil, mCons, mTup, mLst, mCB, mFld, mFldSet, mCallP, mCallB, mMethP, mMakeP, mMut, mSl, mPart, mNoPart, mIsi, mIL, mIT, mIR, mIEn, mIS, mBGet, mBSet, mNewBox, mComp, mYes, Out.bindN, bindA, env0, envA, envI, FO.outP, FO.outL, FO.out, SO.fo0, SO.foF, SO.foI, lensW, lensL, resO_some, Rs.w_v, Rs.w_f, W.rd_v, W.rd_t, W.rd_f, W.rd_l, W.kp_v, List.mapM_cons, List.mapM_nil, Option.bind_eq_bind, Option.bind_some, Option.pure_def, Option.map_some, List.replicate_succ, List.replicate_zero, List.cons_append, List.nil_append, List.getElem?_cons_zero, List.getElem?_cons_succ, List.set_cons_zero, List.set_cons_succ, rb, ri, fI, fC, fAdd, fSub, fMod, fMul, fDiv, fIx, fIsN, fNotN, D.isN, cl_lst, cl_tup, cInt, cTup, cList, gApp, gN, gT, gsC, gsN, Sl.isRef, if_true, if_false, if_pos, List.length_cons, List.length_nil, Bx.at, Bx.put, List.any_cons, List.any_nil, Bool.not_true, Bool.not_false, Nat.reduceAdd, Nat.reduceLeDiff, reduceIte, reduceCtorEq, and_self, and_true, true_and, if_s_non, if_s_bl, if_s_int, if_s_str, if_s_tup, if_s_lst, if_i_non, if_i_bl, if_i_int, if_i_str, if_i_tup, if_i_lst, if_b_non, if_b_bl, if_b_int, if_b_str, if_b_tup, if_b_lst, if_t_non, if_t_bl, if_t_int, if_t_str, if_t_tup, if_t_lst, if_l_non, if_l_bl, if_l_int, if_l_str, if_l_tup, if_l_lst, if_lt2_non, if_lt2_bl, if_lt2_int, if_lt2_str, if_lt2_tup, if_lt2_lst, mRaise, mTryAs, tryOut, mXf, mIsE, mLenO, mGetO, mIxSet, mSwapIx, ixSt, mNeg, isFO, gIns, SO.foX, SO.foJ, one_self, is1_self, at1_self, noRefAt, List.all_cons, List.all_nil, Sl.noBox, D.flat, Bool.and_self, Bool.and_true, Bool.true_and, List.zip_cons_cons, List.zip_nil_right, mTru, List.contains_nil, mIE, mIZ, mBrk, mCnt, decide_true, decide_false, Bool.false_eq_true, Bool.not_eq_true, e, at_nat, List.getElem?_eq_getElem hk, lensD]
  exact ⟨_, _, rfl, List.getElem_mem hk, hs1⟩
theorem mixed_ok (T : Tx P K mg) (ds : List D) (l : List Str) (s : Bd) (hs : s.gr.length ≤ 63) (hd : ∀ d ∈ ds, ∃ x ∈ l, d = .str x) (h1 : ds.length < 900) : ∃ es s', f__law_mixed T [.lst ds] s = .ok (.lst es) s' ∧ es.Perm ds ∧ s'.gr.length ≤ 63 := by
  unfold f__law_mixed m__law_mixed
  have e1 : (mPar 2 3 (mCB cList (mCons (mVar 1) mNil)) (mLst mNil) : MS Bd) (env0 [.b, .v] 2 [.lst ds]) s = .nx [.box, .val (.lst ds), .own ds, .own []] s := by simp only [mSeq, mSet, mRet, mRetN, mIf, mExp, mBad, mNext, mPar, W.sl, mFor, Out.bindS, MX.bind, Out.bind, mK, mVar, mFz, mFf, mOp, mTest, mNotT, mNotV, mAndT, mOrT, mAndV, mOrV, mIfE, mChain, mNil, mCons, mTup, mLst, mCB, mFld, mFldSet, mCallP, mCallB, mMethP, mMakeP, mMut, mSl, mPart, mNoPart, mIsi, mIL, mIT, mIR, mIEn, mIS, mBGet, mBSet, mNewBox, mComp, mYes, Out.bindN, bindA, env0, envA, envI, FO.outP, FO.outL, FO.out, SO.fo0, SO.foF, SO.foI, lensW, lensL, resO_some, Rs.w_v, Rs.w_f, W.rd_v, W.rd_t, W.rd_f, W.rd_l, W.kp_v, List.mapM_cons, List.mapM_nil, Option.bind_eq_bind, Option.bind_some, Option.pure_def, Option.map_some, List.replicate_succ, List.replicate_zero, List.cons_append, List.nil_append, List.getElem?_cons_zero, List.getElem?_cons_succ, List.set_cons_zero, List.set_cons_succ, rb, ri, fI, fC, fAdd, fSub, fMod, fMul, fDiv, fIx, fIsN, fNotN, D.isN, isF, D.ty, isB, cLen, cInt, cTup, cList, gApp, gN, gT, gsC, gsN, Sl.isRef, if_true, if_false, if_pos, List.length_cons, List.length_nil, Bx.at, Bx.put, List.any_cons, List.any_nil, Bool.not_true, Bool.not_false, Nat.reduceAdd, Nat.reduceLeDiff, reduceIte, reduceCtorEq, and_self, and_true, true_and]
  rw [seq_nx e1]
  have go : ∀ (k : Nat) (rest found : List D) (s : Bd), s.gr.length ≤ 63 → rest.length < k → (found ++ rest).Perm ds → ∃ es s', mWhL (mTest (mOp fNe (mVar 2) (mLst mNil))) (mExp (mMut gApp (mVar 3) (mCons (mMut gPopAt (mVar 2) (mCons (mCallB lensD [.b, .v] (f__law_draw T) (mCons (mVar 0) (mCons (mCB cLen (mCons (mVar 2) mNil)) mNil))) mNil)) mNil))) k [.box, .val (.lst ds), .own rest, .own found] s = .nx [.box, .val (.lst ds), .own [], .own es] s' ∧ es.Perm ds ∧ s'.gr.length ≤ 63 := by
    intro k
    induction k with
    | zero => exact fun _ _ _ _ h => absurd h (Nat.not_lt_zero _)
    | succ k ih =>
      intro rest found s hs hk hp
      have hpl := hp.length_eq
      rw [List.length_append] at hpl
      have hok : oks 59 rest = true := ok_str (l := l) fun d h => hd d (hp.mem_iff.mp (List.mem_append_right _ h))
      have hc : (mTest (mOp fNe (mVar 2) (mLst mNil)) : MX Bd Bool) [.box, .val (.lst ds), .own rest, .own found] s = .ok (!rest.isEmpty) [.box, .val (.lst ds), .own rest, .own found] s := by
        simp only [mSeq, mSet, mRet, mRetN, mIf, mExp, mBad, mNext, mPar, W.sl, mFor, Out.bindS, MX.bind, Out.bind, mK, mVar, mFz, mFf, mOp, mTest, mNotT, mNotV, mAndT, mOrT, mAndV, mOrV, mIfE, mChain, mNil, mCons, mTup, mLst, mCB, mFld, mFldSet, mCallP, mCallB, mMethP, mMakeP, mMut, mSl, mPart, mNoPart, mIsi, mIL, mIT, mIR, mIEn, mIS, mBGet, mBSet, mNewBox, mComp, mYes, Out.bindN, bindA, env0, envA, envI, FO.outP, FO.outL, FO.out, SO.fo0, SO.foF, SO.foI, lensW, lensL, resO_some, Rs.w_v, Rs.w_f, W.rd_v, W.rd_t, W.rd_f, W.rd_l, W.kp_v, List.mapM_cons, List.mapM_nil, Option.bind_eq_bind, Option.bind_some, Option.pure_def, Option.map_some, List.replicate_succ, List.replicate_zero, List.cons_append, List.nil_append, List.getElem?_cons_zero, List.getElem?_cons_succ, List.set_cons_zero, List.set_cons_succ, rb, ri, fI, fC, fAdd, fSub, fMod, fMul, fDiv, fIx, fIsN, fNotN, D.isN, cl_lst, cl_tup, cInt, cTup, cList, gApp, gN, gT, gsC, gsN, Sl.isRef, if_true, if_false, if_pos, List.length_cons, List.length_nil, Bx.at, Bx.put, List.any_cons, List.any_nil, Bool.not_true, Bool.not_false, Nat.reduceAdd, Nat.reduceLeDiff, reduceIte, reduceCtorEq, and_self, and_true, true_and, if_s_non, if_s_bl, if_s_int, if_s_str, if_s_tup, if_s_lst, if_i_non, if_i_bl, if_i_int, if_i_str, if_i_tup, if_i_lst, if_b_non, if_b_bl, if_b_int, if_b_str, if_b_tup, if_b_lst, if_t_non, if_t_bl, if_t_int, if_t_str, if_t_tup, if_t_lst, if_l_non, if_l_bl, if_l_int, if_l_str, if_l_tup, if_l_lst, if_lt2_non, if_lt2_bl, if_lt2_int, if_lt2_str, if_lt2_tup, if_lt2_lst, mRaise, mTryAs, tryOut, mXf, mIsE, mLenO, mGetO, mIxSet, mSwapIx, ixSt, mNeg, isFO, gIns, SO.foX, SO.foJ, one_self, is1_self, at1_self, noRefAt, List.all_cons, List.all_nil, Sl.noBox, D.flat, Bool.and_self, Bool.and_true, Bool.true_and, List.zip_cons_cons, List.zip_nil_right, mTru, List.contains_nil, mIE, mIZ, mBrk, mCnt, decide_true, decide_false, Bool.false_eq_true, Bool.not_eq_true, ne_nil hok]
      cases rest with
      | nil =>
        refine ⟨found, s, wh_f hc, ?_, hs⟩
        rw [List.append_nil] at hp
        exact hp
      | cons x0 rest0 =>
        obtain ⟨rest, hrest⟩ : ∃ rest, x0 :: rest0 = rest := ⟨_, rfl⟩
        have hne : 0 < rest.length := by rw [← hrest]; simp
        have hb : (!(x0 :: rest0).isEmpty) = true := rfl
        rw [hb] at hc
        rw [hrest] at hc hp hk hpl ⊢
        obtain ⟨r, s', e, p, q, hs'⟩ := draw_ok T (rest.length : Int) s hs (by omega) (by omega)
        obtain ⟨j, rfl⟩ : ∃ j : Nat, r = (j : Int) := ⟨r.toNat, by omega⟩
        have hj : j < rest.length := by omega
        have c2 : gPopAt rest [.int (j : Int)] = some (rest[j], rest.eraseIdx j) := pop_nat hj (by omega)
        have c3 : (rest.eraseIdx j).length ≤ 16777216 := by rw [List.length_eraseIdx_of_lt hj]; omega
        have c4 : (found ++ [rest[j]]).length ≤ 16777216 := by rw [List.length_append, List.length_singleton]; omega
        have hm : (mExp (mMut gApp (mVar 3) (mCons (mMut gPopAt (mVar 2) (mCons (mCallB lensD [.b, .v] (f__law_draw T) (mCons (mVar 0) (mCons (mCB cLen (mCons (mVar 2) mNil)) mNil))) mNil)) mNil)) : MS Bd) [.box, .val (.lst ds), .own rest, .own found] s = .nx [.box, .val (.lst ds), .own (rest.eraseIdx j), .own (found ++ [rest[j]])] s' := by
          refine exp_w (w := .v .non) ?_
          refine mut_l (i := 3) (ds0 := found) (ds := found) (e1 := [.box, .val (.lst ds), .own rest, .own found]) (s1 := s) (e2 := [.box, .val (.lst ds), .own (rest.eraseIdx j), .own found]) (ws := [.v rest[j]]) (es := [rest[j]]) rfl rfl ?_ rfl rfl rfl c4
          refine cons_w (e1 := [.box, .val (.lst ds), .own (rest.eraseIdx j), .own found]) (s1 := s') ?_ rfl
          refine mut_l (i := 2) (ds0 := rest) (ds := rest) (e1 := [.box, .val (.lst ds), .own rest, .own found]) (s1 := s) (e2 := [.box, .val (.lst ds), .own rest, .own found]) (ws := [.v (.int (j : Int))]) (es := [.int (j : Int)]) rfl rfl ?_ rfl rfl c2 c3
          refine cons_w (e1 := [.box, .val (.lst ds), .own rest, .own found]) (s1 := s') ?_ rfl
          exact callB_w (L := lensD) (e1 := [.box, .val (.lst ds), .own rest, .own found]) (s1 := s) (ws := [.b, .v (.int (rest.length : Int))]) (ds := [.int (rest.length : Int)]) (t := s) rfl rfl rfl e
        have hp2 : (found ++ [rest[j]] ++ rest.eraseIdx j).Perm ds := by
          refine List.Perm.trans ?_ hp
          rw [List.append_assoc]
          exact List.Perm.append_left _ (er_perm rest j hj)
        obtain ⟨es, s2, h3, h4, h5⟩ := ih (rest.eraseIdx j) (found ++ [rest[j]]) s' hs' (by rw [List.length_eraseIdx_of_lt hj]; omega) hp2
        exact ⟨es, s2, (wh_t hc hm).trans h3, h4, h5⟩
  obtain ⟨es, s', h3, h4, h5⟩ := go 1000 ds [] s hs (by omega) (by rw [List.nil_append])
  rw [seq_nx (m := mWh 1000 _ _) h3]
  exact ⟨es, s', by simp only [mSeq, mSet, mRet, mRetN, mIf, mExp, mBad, mNext, mPar, W.sl, mFor, Out.bindS, MX.bind, Out.bind, mK, mVar, mFz, mFf, mOp, mTest, mNotT, mNotV, mAndT, mOrT, mAndV, mOrV, mIfE, mChain, mNil, mCons, mTup, mLst, mCB, mFld, mFldSet, mCallP, mCallB, mMethP, mMakeP, mMut, mSl, mPart, mNoPart, mIsi, mIL, mIT, mIR, mIEn, mIS, mBGet, mBSet, mNewBox, mComp, mYes, Out.bindN, bindA, env0, envA, envI, FO.outP, FO.outL, FO.out, SO.fo0, SO.foF, SO.foI, lensW, lensL, resO_some, Rs.w_v, Rs.w_f, W.rd_v, W.rd_t, W.rd_f, W.rd_l, W.kp_v, List.mapM_cons, List.mapM_nil, Option.bind_eq_bind, Option.bind_some, Option.pure_def, Option.map_some, List.replicate_succ, List.replicate_zero, List.cons_append, List.nil_append, List.getElem?_cons_zero, List.getElem?_cons_succ, List.set_cons_zero, List.set_cons_succ, rb, ri, fI, fC, fAdd, fSub, fMod, fMul, fDiv, fIx, fIsN, fNotN, D.isN, isF, D.ty, isB, cLen, cInt, cTup, cList, gApp, gN, gT, gsC, gsN, Sl.isRef, if_true, if_false, if_pos, List.length_cons, List.length_nil, Bx.at, Bx.put, List.any_cons, List.any_nil, Bool.not_true, Bool.not_false, Nat.reduceAdd, Nat.reduceLeDiff, reduceIte, reduceCtorEq, and_self, and_true, true_and], h4, h5⟩
end
end ledmarks_k04_texts_of_rows

namespace ledmarks_k04_texts_of_rows
open PySem L2 LM
section
variable {P : Program} {K : PySem.W.Frag} {mg : Str → Option Value}
theorem marks_ok (T : Tx P K mg) (s : Bd) (hs : s.gr.length ≤ 63) : ∃ ms s', f__law_marks T [.int 5] s = .ok (.lst ms) s' ∧ ms.length = 5 ∧ (∀ d ∈ ms, ∃ x ∈ marks4, d = .str x) ∧ s'.gr.length ≤ 63 := by
  unfold f__law_marks m__law_marks
  obtain ⟨es, s', e, hp, hs'⟩ := mixed_ok T (marks4.map .str) marks4 s hs (fun d hd => by
    obtain ⟨x, hx, rfl⟩ := List.mem_map.mp hd
    exact ⟨x, hx, rfl⟩) (by decide)
  have hl : es.length = 14 := hp.length_eq
  rw [seq_nx (e1 := [.box, .val (.int 5), .val (.lst (marks4.map .str))]) (s1 := s) (by rfl)]
  have h2 : ∀ d ∈ es.take 5, ∃ x ∈ marks4, d = .str x := fun d hd => by
    obtain ⟨x, hx, rfl⟩ := List.mem_map.mp (hp.mem_iff.mp (List.mem_of_mem_take hd))
    exact ⟨x, hx, rfl⟩
  refine ⟨es.take 5, s', ?_, by rw [List.length_take]; omega, h2, hs'⟩
  rw [ret_f (ds := es.take 5) (e1 := [.box, .val (.int 5), .val (.lst (marks4.map .str))]) (s1 := s')]
  · rfl
  · refine sl_w (r := .f (es.take 5)) (a := .v (.lst es)) (e1 := [.box, .val (.int 5), .val (.lst (marks4.map .str))]) (s1 := s') (l := none) (h := some ((5 : Nat) : Int)) (d := .lst es) ?_ rfl rfl rfl ?_
    · exact callB_w (L := lensD) (e1 := [.box, .val (.int 5), .val (.lst (marks4.map .str))]) (s1 := s) (ws := [.b, .v (.lst (marks4.map .str))]) (ds := [.lst (marks4.map .str)]) (t := s) rfl rfl rfl e
    · show some (Rs.f (cutD es none (some ((5 : Nat) : Int)))) = _
      rw [cut_nat (by omega)]
theorem three {es : List D} (hp : es.Perm (parts4.map D.str)) : ∃ x ∈ parts4, ∃ y ∈ parts4, ∃ z ∈ parts4, x ≠ y ∧ y ≠ z ∧ x ≠ z ∧ es = [.str x, .str y, .str z] := by
  have hl : es.length = 3 := hp.length_eq
  have hm : ∀ d ∈ es, ∃ x ∈ parts4, d = .str x := fun d hd => by
    obtain ⟨x, hx, rfl⟩ := List.mem_map.mp (hp.mem_iff.mp hd)
    exact ⟨x, hx, rfl⟩
  have hn : es.Nodup := hp.nodup_iff.mpr (by
    unfold parts4
    simp only [List.map_cons, List.map_nil, List.nodup_cons, List.mem_cons, List.not_mem_nil, or_false, D.str.injEq, not_or, List.nodup_nil, not_false_eq_true, and_true]
    decide)
  match es, hl with
  | [a, b, c], _ =>
    obtain ⟨x, hx, rfl⟩ := hm a (by simp)
    obtain ⟨y, hy, rfl⟩ := hm b (by simp)
    obtain ⟨z, hz, rfl⟩ := hm c (by simp)
    simp only [List.nodup_cons, List.mem_cons, List.not_mem_nil, or_false, D.str.injEq, not_or, List.nodup_nil, not_false_eq_true, and_true] at hn
    exact ⟨x, hx, y, hy, z, hz, hn.1.1, hn.2, hn.1.2, rfl⟩
theorem add_s {x y : Str} (h : x.length + y.length ≤ 16777216) : fAddS (.str x) (.str y) = some (.v (.str (x ++ y))) := by simp only [fAddS, if_pos h]
theorem np_len : ∀ p ∈ nots4, ∀ x ∈ parts4, p.length + x.length ≤ 16777216 := by decide
theorem tests_ok (T : Tx P K mg) (s : Bd) (hs : s.gr.length ≤ 63) : ∃ l s', f__law_tests T [] s = .ok (.lst (l.map .str)) s' ∧ l ∈ tests4 ∧ s'.gr.length ≤ 63 := by
  unfold f__law_tests m__law_tests
  obtain ⟨es, s1, e1, hp, hs1⟩ := mixed_ok T (parts4.map .str) parts4 s hs (fun d hd => by
    obtain ⟨x, hx, rfl⟩ := List.mem_map.mp hd
    exact ⟨x, hx, rfl⟩) (by decide)
  obtain ⟨x, hx, y, hy, z, hz, n1, n2, n3, he⟩ := three hp
  have hmem : ∀ d ∈ es, ∃ v ∈ parts4, d = .str v := fun d hd => by
    obtain ⟨v, hv, rfl⟩ := List.mem_map.mp (hp.mem_iff.mp hd)
    exact ⟨v, hv, rfl⟩
  obtain ⟨ys, s2, h2, h3, h4⟩ := comp_al (S := Bd) (vs := [2]) (g := gN 2) (mt := mYes) (me := mOp fAddS (mCallB lensD [.b, .v] (f__law_pick T) (mCons (mVar 0) (mCons (mFf (mLst (mCons (mK (.str "")) (mCons (mK (.str "")) (mCons (mK (.str "not ")) mNil))))) mNil))) (mVar 2)) (P := fun s => s.gr.length ≤ 63) (Q := fun d r => ∃ p ∈ nots4, ∃ v : Str, d = .str v ∧ r = .str (p ++ v))
    (L := es) [.box, .no, .no] (fun d hd s hs => by
      obtain ⟨v, hv, rfl⟩ := hmem d hd
      obtain ⟨d', s', e', m', hs'⟩ := pick_ok T [.str "", .str "", .str "not "] s hs (by simp) (by simp)
      have : ∃ p ∈ nots4, d' = .str p := by
        simp only [List.mem_cons, List.not_mem_nil, or_false] at m'
        rcases m' with rfl | rfl | rfl
        · exact ⟨"", by decide, rfl⟩
        · exact ⟨"", by decide, rfl⟩
        · exact ⟨"not ", by decide, rfl⟩
      obtain ⟨p, hp, rfl⟩ := this
      refine ⟨[.box, .no, .val (.str v)], [.box, .no, .val (.str v)], [.box, .no, .val (.str v)], s, s', .v (.str (p ++ v)), .str (p ++ v), rfl, rfl, ?_, rfl, rfl, rfl, hs', p, hp, v, rfl, rfl⟩
      simp only [mSeq, mSet, mRet, mRetN, mIf, mExp, mBad, mNext, mPar, W.sl, mFor, Out.bindS, MX.bind, Out.bind, mK, mVar, mFz, mFf, mOp, mTest, mNotT, mNotV, mAndT, mOrT, mAndV, mOrV, mIfE, mChain, mNil, mCons, mTup, mLst, mCB, mFld, mFldSet, mCallP, mCallB, mMethP, mMakeP, mMut, mSl, mPart, mNoPart, mIsi, mIL, mIT, mIR, mIEn, mIS, mBGet, mBSet, mNewBox, mComp, mYes, Out.bindN, bindA, env0, envA, envI, FO.outP, FO.outL, FO.out, SO.fo0, SO.foF, SO.foI, lensW, lensL, resO_some, Rs.w_v, Rs.w_f, W.rd_v, W.rd_t, W.rd_f, W.rd_l, W.kp_v, List.mapM_cons, List.mapM_nil, Option.bind_eq_bind, Option.bind_some, Option.pure_def, Option.map_some, List.replicate_succ, List.replicate_zero, List.cons_append, List.nil_append, List.getElem?_cons_zero, List.getElem?_cons_succ, List.set_cons_zero, List.set_cons_succ, rb, ri, fI, fC, fAdd, fSub, fMod, fMul, fDiv, fIx, fIsN, fNotN, D.isN, cl_lst, cl_tup, cInt, cTup, cList, gApp, gN, gT, gsC, gsN, Sl.isRef, if_true, if_false, if_pos, List.length_cons, List.length_nil, Bx.at, Bx.put, List.any_cons, List.any_nil, Bool.not_true, Bool.not_false, Nat.reduceAdd, Nat.reduceLeDiff, reduceIte, reduceCtorEq, and_self, and_true, true_and, if_s_non, if_s_bl, if_s_int, if_s_str, if_s_tup, if_s_lst, if_i_non, if_i_bl, if_i_int, if_i_str, if_i_tup, if_i_lst, if_b_non, if_b_bl, if_b_int, if_b_str, if_b_tup, if_b_lst, if_t_non, if_t_bl, if_t_int, if_t_str, if_t_tup, if_t_lst, if_l_non, if_l_bl, if_l_int, if_l_str, if_l_tup, if_l_lst, if_lt2_non, if_lt2_bl, if_lt2_int, if_lt2_str, if_lt2_tup, if_lt2_lst, mRaise, mTryAs, tryOut, mXf, mIsE, mLenO, mGetO, mIxSet, mSwapIx, ixSt, mNeg, isFO, gIns, SO.foX, SO.foJ, one_self, is1_self, at1_self, noRefAt, List.all_cons, List.all_nil, Sl.noBox, D.flat, Bool.and_self, Bool.and_true, Bool.true_and, List.zip_cons_cons, List.zip_nil_right, mTru, List.contains_nil, mIE, mIZ, mBrk, mCnt, decide_true, decide_false, Bool.false_eq_true, Bool.not_eq_true, e', lensD, add_s (np_len p hp v hv)]) [] s1 hs1 (by rw [he]; simp)
  rw [List.nil_append] at h2
  have h5 : (mComp (mIL (mCallB lensD [.b, .v] (f__law_mixed T) (mCons (mVar 0) (mCons (mFf (mLst (mCons (mK (.str "above")) (mCons (mK (.str "own")) (mCons (mK (.str "below")) mNil))))) mNil)))) [2] (gN 2) mYes (mOp fAddS (mCallB lensD [.b, .v] (f__law_pick T) (mCons (mVar 0) (mCons (mFf (mLst (mCons (mK (.str "")) (mCons (mK (.str "")) (mCons (mK (.str "not ")) mNil))))) mNil))) (mVar 2)) : MX Bd W) (env0 [.b] 2 []) s = .ok (.f ys) [.box, .no, .no] s2 := by
    refine (comp_x (xs := es) (e1 := [.box, .no, .no]) (s1 := s1) ?_ rfl).trans h2
    have e1 : f__law_mixed T [.lst [.str "above", .str "own", .str "below"]] s = .ok (.lst es) s1 := e1
    simp only [mSeq, mSet, mRet, mRetN, mIf, mExp, mBad, mNext, mPar, W.sl, mFor, Out.bindS, MX.bind, Out.bind, mK, mVar, mFz, mFf, mOp, mTest, mNotT, mNotV, mAndT, mOrT, mAndV, mOrV, mIfE, mChain, mNil, mCons, mTup, mLst, mCB, mFld, mFldSet, mCallP, mCallB, mMethP, mMakeP, mMut, mSl, mPart, mNoPart, mIsi, mIL, mIT, mIR, mIEn, mIS, mBGet, mBSet, mNewBox, mComp, mYes, Out.bindN, bindA, env0, envA, envI, FO.outP, FO.outL, FO.out, SO.fo0, SO.foF, SO.foI, lensW, lensL, resO_some, Rs.w_v, Rs.w_f, W.rd_v, W.rd_t, W.rd_f, W.rd_l, W.kp_v, List.mapM_cons, List.mapM_nil, Option.bind_eq_bind, Option.bind_some, Option.pure_def, Option.map_some, List.replicate_succ, List.replicate_zero, List.cons_append, List.nil_append, List.getElem?_cons_zero, List.getElem?_cons_succ, List.set_cons_zero, List.set_cons_succ, rb, ri, fI, fC, fAdd, fSub, fMod, fMul, fDiv, fIx, fIsN, fNotN, D.isN, cl_lst, cl_tup, cInt, cTup, cList, gApp, gN, gT, gsC, gsN, Sl.isRef, if_true, if_false, if_pos, List.length_cons, List.length_nil, Bx.at, Bx.put, List.any_cons, List.any_nil, Bool.not_true, Bool.not_false, Nat.reduceAdd, Nat.reduceLeDiff, reduceIte, reduceCtorEq, and_self, and_true, true_and, if_s_non, if_s_bl, if_s_int, if_s_str, if_s_tup, if_s_lst, if_i_non, if_i_bl, if_i_int, if_i_str, if_i_tup, if_i_lst, if_b_non, if_b_bl, if_b_int, if_b_str, if_b_tup, if_b_lst, if_t_non, if_t_bl, if_t_int, if_t_str, if_t_tup, if_t_lst, if_l_non, if_l_bl, if_l_int, if_l_str, if_l_tup, if_l_lst, if_lt2_non, if_lt2_bl, if_lt2_int, if_lt2_str, if_lt2_tup, if_lt2_lst, mRaise, mTryAs, tryOut, mXf, mIsE, mLenO, mGetO, mIxSet, mSwapIx, ixSt, mNeg, isFO, gIns, SO.foX, SO.foJ, one_self, is1_self, at1_self, noRefAt, List.all_cons, List.all_nil, Sl.noBox, D.flat, Bool.and_self, Bool.and_true, Bool.true_and, List.zip_cons_cons, List.zip_nil_right, mTru, List.contains_nil, mIE, mIZ, mBrk, mCnt, decide_true, decide_false, Bool.false_eq_true, Bool.not_eq_true, e1, lensD]
  rw [seq_nx (set_f h5)]
  subst he
  cases h3 with
  | cons q1 h3 =>
    cases h3 with
    | cons q2 h3 =>
      cases h3 with
      | cons q3 h3 =>
        cases h3
        obtain ⟨p, hp1, x', e', rfl⟩ := q1
        cases e'
        obtain ⟨q, hq1, y', e', rfl⟩ := q2
        cases e'
        obtain ⟨r, hr1, z', e', rfl⟩ := q3
        cases e'
        obtain ⟨i, s3, e6, i0, i1, hs3⟩ := draw_ok T 4 s2 h4 (by decide) (by decide)
        obtain ⟨k, rfl⟩ : ∃ k : Nat, i = (k : Int) := ⟨i.toNat, by omega⟩
        have hk : k < 4 := by omega
        have ht := tests4_all x hx y hy z hz n1 n2 n3 p hp1 q hq1 r hr1 k (List.mem_range.mpr hk)
        refine ⟨_, s3, ?_, ht, hs3⟩
        rw [ret_f (ds := [D.str (p ++ x), .str (q ++ y), .str (r ++ z)].take k) (e1 := [.box, .own [.str (p ++ x), .str (q ++ y), .str (r ++ z)], .no]) (s1 := s3)]
        · show FO.ok (D.lst _) s3 = _
          rw [List.map_take]
          rfl
        · refine sl_w (r := .f ([D.str (p ++ x), .str (q ++ y), .str (r ++ z)].take k)) (a := .l 1) (e1 := [.box, .own [.str (p ++ x), .str (q ++ y), .str (r ++ z)], .no]) (s1 := s2) (e2 := [.box, .own [.str (p ++ x), .str (q ++ y), .str (r ++ z)], .no]) (s2 := s2) (l := none) (h := some (k : Int)) (d := .lst [.str (p ++ x), .str (q ++ y), .str (r ++ z)]) rfl rfl ?_ rfl ?_
          · simp only [mSeq, mSet, mRet, mRetN, mIf, mExp, mBad, mNext, mPar, W.sl, mFor, Out.bindS, MX.bind, Out.bind, mK, mVar, mFz, mFf, mOp, mTest, mNotT, mNotV, mAndT, mOrT, mAndV, mOrV, mIfE, mChain, mNil, mCons, mTup, mLst, mCB, mFld, mFldSet, mCallP, mCallB, mMethP, mMakeP, mMut, mSl, mPart, mNoPart, mIsi, mIL, mIT, mIR, mIEn, mIS, mBGet, mBSet, mNewBox, mComp, mYes, Out.bindN, bindA, env0, envA, envI, FO.outP, FO.outL, FO.out, SO.fo0, SO.foF, SO.foI, lensW, lensL, resO_some, Rs.w_v, Rs.w_f, W.rd_v, W.rd_t, W.rd_f, W.rd_l, W.kp_v, List.mapM_cons, List.mapM_nil, Option.bind_eq_bind, Option.bind_some, Option.pure_def, Option.map_some, List.replicate_succ, List.replicate_zero, List.cons_append, List.nil_append, List.getElem?_cons_zero, List.getElem?_cons_succ, List.set_cons_zero, List.set_cons_succ, rb, ri, fI, fC, fAdd, fSub, fMod, fMul, fDiv, fIx, fIsN, fNotN, D.isN, cl_lst, cl_tup, cInt, cTup, cList, gApp, gN, gT, gsC, gsN, Sl.isRef, if_true, if_false, if_pos, List.length_cons, List.length_nil, Bx.at, Bx.put, List.any_cons, List.any_nil, Bool.not_true, Bool.not_false, Nat.reduceAdd, Nat.reduceLeDiff, reduceIte, reduceCtorEq, and_self, and_true, true_and, if_s_non, if_s_bl, if_s_int, if_s_str, if_s_tup, if_s_lst, if_i_non, if_i_bl, if_i_int, if_i_str, if_i_tup, if_i_lst, if_b_non, if_b_bl, if_b_int, if_b_str, if_b_tup, if_b_lst, if_t_non, if_t_bl, if_t_int, if_t_str, if_t_tup, if_t_lst, if_l_non, if_l_bl, if_l_int, if_l_str, if_l_tup, if_l_lst, if_lt2_non, if_lt2_bl, if_lt2_int, if_lt2_str, if_lt2_tup, if_lt2_lst, mRaise, mTryAs, tryOut, mXf, mIsE, mLenO, mGetO, mIxSet, mSwapIx, ixSt, mNeg, isFO, gIns, SO.foX, SO.foJ, one_self, is1_self, at1_self, noRefAt, List.all_cons, List.all_nil, Sl.noBox, D.flat, Bool.and_self, Bool.and_true, Bool.true_and, List.zip_cons_cons, List.zip_nil_right, mTru, List.contains_nil, mIE, mIZ, mBrk, mCnt, decide_true, decide_false, Bool.false_eq_true, Bool.not_eq_true, e6, lensD]
          · by_cases h3 : k ≤ 3
            · show some (Rs.f (cutD _ none (some (k : Int)))) = _
              rw [cut_nat (by simpa using h3)]
            · omega
theorem row_ok (T : Tx P K mg) (ms : List D) (s : Bd) (hs : s.gr.length ≤ 63) (hl : ms.length = 5) (hm : ∀ d ∈ ms, ∃ x ∈ marks4, d = .str x) : ∃ d s', f__law_row T [.lst ms] s = .ok d s' ∧ isRow4 d ∧ s'.gr.length ≤ 63 := by
  match ms, hl with
  | [m0, m1, m2, m3, m4], _ =>
  have wa : ∀ d, d ∈ [m0, m1, m2, m3, m4, .str "any"] → ∃ a ∈ wants4, d = .str a := fun d hd => by
    rcases List.mem_append.mp (show d ∈ [m0, m1, m2, m3, m4] ++ [.str "any"] from hd) with h | h
    · obtain ⟨x, hx, rfl⟩ := hm d h
      exact ⟨x, List.mem_append_left _ hx, rfl⟩
    · rw [List.mem_singleton.mp h]
      exact ⟨"any", by decide, rfl⟩
  obtain ⟨i, s1, e1, i0, i1, hs1⟩ := draw_ok T 3 s hs (by decide) (by decide)
  unfold f__law_row m__law_row
  have h3 : i = 0 ∨ i = 1 ∨ i = 2 := by omega
  rcases h3 with rfl | rfl | rfl
  · obtain ⟨d1, s2, e2, q2, hs2⟩ := pick_ok T [m0, m1, m2, m3, m4, .str "any"] s1 hs1 (by simp) (by simp)
    obtain ⟨d2, s3, e3, q3, hs3⟩ := pick_ok T [m0, m1, m2, m3, m4] s2 hs2 (by simp) (by simp)
    obtain ⟨a, ha, rfl⟩ := wa d1 q2
    obtain ⟨b, hb, rfl⟩ := hm d2 q3
    refine ⟨_, s3, ?_, .inl ⟨a, ha, b, hb, rfl⟩, hs3⟩
    simp only [mSeq, mSet, mRet, mRetN, mIf, mExp, mBad, mNext, mPar, W.sl, mFor, Out.bindS, MX.bind, Out.bind, mK, mVar, mFz, mFf, mOp, mTest, mNotT, mNotV, mAndT, mOrT, mAndV, mOrV, mIfE, mChain, mNil, mCons, mTup, mLst, mCB, mFld, mFldSet, mCallP, mCallB, mMethP, mMakeP, mMut, mSl, mPart, mNoPart, mIsi, mIL, mIT, mIR, mIEn, mIS, mBGet, mBSet, mNewBox, mComp, mYes, Out.bindN, bindA, env0, envA, envI, FO.outP, FO.outL, FO.out, SO.fo0, SO.foF, SO.foI, lensW, lensL, resO_some, Rs.w_v, Rs.w_f, W.rd_v, W.rd_t, W.rd_f, W.rd_l, W.kp_v, List.mapM_cons, List.mapM_nil, Option.bind_eq_bind, Option.bind_some, Option.pure_def, Option.map_some, List.replicate_succ, List.replicate_zero, List.cons_append, List.nil_append, List.getElem?_cons_zero, List.getElem?_cons_succ, List.set_cons_zero, List.set_cons_succ, rb, ri, fI, fC, fAdd, fSub, fMod, fMul, fDiv, fIx, fIsN, fNotN, D.isN, cl_lst, cl_tup, cInt, cTup, cList, gApp, gN, gT, gsC, gsN, Sl.isRef, if_true, if_false, if_pos, List.length_cons, List.length_nil, Bx.at, Bx.put, List.any_cons, List.any_nil, Bool.not_true, Bool.not_false, Nat.reduceAdd, Nat.reduceLeDiff, reduceIte, reduceCtorEq, and_self, and_true, true_and, if_s_non, if_s_bl, if_s_int, if_s_str, if_s_tup, if_s_lst, if_i_non, if_i_bl, if_i_int, if_i_str, if_i_tup, if_i_lst, if_b_non, if_b_bl, if_b_int, if_b_str, if_b_tup, if_b_lst, if_t_non, if_t_bl, if_t_int, if_t_str, if_t_tup, if_t_lst, if_l_non, if_l_bl, if_l_int, if_l_str, if_l_tup, if_l_lst, if_lt2_non, if_lt2_bl, if_lt2_int, if_lt2_str, if_lt2_tup, if_lt2_lst, mRaise, mTryAs, tryOut, mXf, mIsE, mLenO, mGetO, mIxSet, mSwapIx, ixSt, mNeg, isFO, gIns, SO.foX, SO.foJ, one_self, is1_self, at1_self, noRefAt, List.all_cons, List.all_nil, Sl.noBox, D.flat, Bool.and_self, Bool.and_true, Bool.true_and, List.zip_cons_cons, List.zip_nil_right, mTru, List.contains_nil, mIE, mIZ, mBrk, mCnt, decide_true, decide_false, Bool.false_eq_true, Bool.not_eq_true, e1, e2, e3, lensD, eq_int, fCat, Int.reduceEq]
  · obtain ⟨l, s2, e2, hl2, hs2⟩ := tests_ok T s1 hs1
    obtain ⟨d1, s3, e3, q3, hs3⟩ := pick_ok T [m1, m2, m3, m4, .str "any"] s2 hs2 (by simp) (by simp)
    obtain ⟨d2, s4, e4, q4, hs4⟩ := pick_ok T [m0, m1, m2, m3, m4] s3 hs3 (by simp) (by simp)
    obtain ⟨a, ha, rfl⟩ := wa d1 (List.mem_cons_of_mem _ q3)
    obtain ⟨b, hb, rfl⟩ := hm d2 q4
    refine ⟨_, s4, ?_, .inr (.inl ⟨l, hl2, a, ha, b, hb, rfl⟩), hs4⟩
    have cut : fSlL (.lst [m0, m1, m2, m3, m4]) (some 1) none = some (.f [m1, m2, m3, m4]) := rfl
    simp only [mSeq, mSet, mRet, mRetN, mIf, mExp, mBad, mNext, mPar, W.sl, mFor, Out.bindS, MX.bind, Out.bind, mK, mVar, mFz, mFf, mOp, mTest, mNotT, mNotV, mAndT, mOrT, mAndV, mOrV, mIfE, mChain, mNil, mCons, mTup, mLst, mCB, mFld, mFldSet, mCallP, mCallB, mMethP, mMakeP, mMut, mSl, mPart, mNoPart, mIsi, mIL, mIT, mIR, mIEn, mIS, mBGet, mBSet, mNewBox, mComp, mYes, Out.bindN, bindA, env0, envA, envI, FO.outP, FO.outL, FO.out, SO.fo0, SO.foF, SO.foI, lensW, lensL, resO_some, Rs.w_v, Rs.w_f, W.rd_v, W.rd_t, W.rd_f, W.rd_l, W.kp_v, List.mapM_cons, List.mapM_nil, Option.bind_eq_bind, Option.bind_some, Option.pure_def, Option.map_some, List.replicate_succ, List.replicate_zero, List.cons_append, List.nil_append, List.getElem?_cons_zero, List.getElem?_cons_succ, List.set_cons_zero, List.set_cons_succ, rb, ri, fI, fC, fAdd, fSub, fMod, fMul, fDiv, fIx, fIsN, fNotN, D.isN, cl_lst, cl_tup, cInt, cTup, cList, gApp, gN, gT, gsC, gsN, Sl.isRef, if_true, if_false, if_pos, List.length_cons, List.length_nil, Bx.at, Bx.put, List.any_cons, List.any_nil, Bool.not_true, Bool.not_false, Nat.reduceAdd, Nat.reduceLeDiff, reduceIte, reduceCtorEq, and_self, and_true, true_and, if_s_non, if_s_bl, if_s_int, if_s_str, if_s_tup, if_s_lst, if_i_non, if_i_bl, if_i_int, if_i_str, if_i_tup, if_i_lst, if_b_non, if_b_bl, if_b_int, if_b_str, if_b_tup, if_b_lst, if_t_non, if_t_bl, if_t_int, if_t_str, if_t_tup, if_t_lst, if_l_non, if_l_bl, if_l_int, if_l_str, if_l_tup, if_l_lst, if_lt2_non, if_lt2_bl, if_lt2_int, if_lt2_str, if_lt2_tup, if_lt2_lst, mRaise, mTryAs, tryOut, mXf, mIsE, mLenO, mGetO, mIxSet, mSwapIx, ixSt, mNeg, isFO, gIns, SO.foX, SO.foJ, one_self, is1_self, at1_self, noRefAt, List.all_cons, List.all_nil, Sl.noBox, D.flat, Bool.and_self, Bool.and_true, Bool.true_and, List.zip_cons_cons, List.zip_nil_right, mTru, List.contains_nil, mIE, mIZ, mBrk, mCnt, decide_true, decide_false, Bool.false_eq_true, Bool.not_eq_true, e1, e2, e3, e4, lensD, eq_int, fCat, Int.reduceEq, cut]
  · obtain ⟨d1, s2, e2, q2, hs2⟩ := pick_ok T [m0, m1, m2, m3, m4, .str "any"] s1 hs1 (by simp) (by simp)
    obtain ⟨d2, s3, e3, q3, hs3⟩ := pick_ok T [m0, m1, m2, m3, m4, .str "any"] s2 hs2 (by simp) (by simp)
    obtain ⟨d3, s4, e4, q4, hs4⟩ := pick_ok T [m0, m1, m2, m3, m4, .str "here", .str "came"] s3 hs3 (by simp) (by simp)
    obtain ⟨a, ha, rfl⟩ := wa d1 q2
    obtain ⟨b, hb, rfl⟩ := wa d2 q3
    have q5 : ∃ c ∈ thens4, d3 = .str c := by
      rcases List.mem_append.mp (show d3 ∈ [m0, m1, m2, m3, m4] ++ [.str "here", .str "came"] from q4) with h | h
      · obtain ⟨x, hx, rfl⟩ := hm d3 h
        exact ⟨x, List.mem_append_left _ hx, rfl⟩
      · simp only [List.mem_cons, List.not_mem_nil, or_false] at h
        rcases h with rfl | rfl
        · exact ⟨"here", by decide, rfl⟩
        · exact ⟨"came", by decide, rfl⟩
    obtain ⟨c, hc, rfl⟩ := q5
    refine ⟨_, s4, ?_, .inr (.inr ⟨a, ha, b, hb, c, hc, rfl⟩), hs4⟩
    simp only [mSeq, mSet, mRet, mRetN, mIf, mExp, mBad, mNext, mPar, W.sl, mFor, Out.bindS, MX.bind, Out.bind, mK, mVar, mFz, mFf, mOp, mTest, mNotT, mNotV, mAndT, mOrT, mAndV, mOrV, mIfE, mChain, mNil, mCons, mTup, mLst, mCB, mFld, mFldSet, mCallP, mCallB, mMethP, mMakeP, mMut, mSl, mPart, mNoPart, mIsi, mIL, mIT, mIR, mIEn, mIS, mBGet, mBSet, mNewBox, mComp, mYes, Out.bindN, bindA, env0, envA, envI, FO.outP, FO.outL, FO.out, SO.fo0, SO.foF, SO.foI, lensW, lensL, resO_some, Rs.w_v, Rs.w_f, W.rd_v, W.rd_t, W.rd_f, W.rd_l, W.kp_v, List.mapM_cons, List.mapM_nil, Option.bind_eq_bind, Option.bind_some, Option.pure_def, Option.map_some, List.replicate_succ, List.replicate_zero, List.cons_append, List.nil_append, List.getElem?_cons_zero, List.getElem?_cons_succ, List.set_cons_zero, List.set_cons_succ, rb, ri, fI, fC, fAdd, fSub, fMod, fMul, fDiv, fIx, fIsN, fNotN, D.isN, cl_lst, cl_tup, cInt, cTup, cList, gApp, gN, gT, gsC, gsN, Sl.isRef, if_true, if_false, if_pos, List.length_cons, List.length_nil, Bx.at, Bx.put, List.any_cons, List.any_nil, Bool.not_true, Bool.not_false, Nat.reduceAdd, Nat.reduceLeDiff, reduceIte, reduceCtorEq, and_self, and_true, true_and, if_s_non, if_s_bl, if_s_int, if_s_str, if_s_tup, if_s_lst, if_i_non, if_i_bl, if_i_int, if_i_str, if_i_tup, if_i_lst, if_b_non, if_b_bl, if_b_int, if_b_str, if_b_tup, if_b_lst, if_t_non, if_t_bl, if_t_int, if_t_str, if_t_tup, if_t_lst, if_l_non, if_l_bl, if_l_int, if_l_str, if_l_tup, if_l_lst, if_lt2_non, if_lt2_bl, if_lt2_int, if_lt2_str, if_lt2_tup, if_lt2_lst, mRaise, mTryAs, tryOut, mXf, mIsE, mLenO, mGetO, mIxSet, mSwapIx, ixSt, mNeg, isFO, gIns, SO.foX, SO.foJ, one_self, is1_self, at1_self, noRefAt, List.all_cons, List.all_nil, Sl.noBox, D.flat, Bool.and_self, Bool.and_true, Bool.true_and, List.zip_cons_cons, List.zip_nil_right, mTru, List.contains_nil, mIE, mIZ, mBrk, mCnt, decide_true, decide_false, Bool.false_eq_true, Bool.not_eq_true, e1, e2, e3, e4, lensD, eq_int, fCat, Int.reduceEq]
end
end ledmarks_k04_texts_of_rows

namespace ledmarks_k04_texts_of_rows
open PySem L2 LM
section
variable {P : Program} {K : PySem.W.Frag} {mg : Str → Option Value}
theorem ints_of : ∀ {ds : List D}, (∀ d ∈ ds, ∃ n : Int, d = .int n) → ∃ ns, intsD ds = some ns ∧ ns.length = ds.length
  | [], _ => ⟨[], rfl, rfl⟩
  | d :: ds, h => by
    obtain ⟨n, rfl⟩ := h d List.mem_cons_self
    obtain ⟨ns, e, hl⟩ := ints_of fun d hd => h d (List.mem_cons_of_mem _ hd)
    exact ⟨n :: ns, by simp only [intsD, e]; rfl, by simp [hl]⟩
def bigD : D → Bool
  | .int c => decide ((10 : Int) ^ (18 : Int).toNat ≤ c)
  | _ => false
theorem deal_ok (T : Tx P K mg) (ns : List Int) (h : ns.length ≤ 63) : ∃ t, f__law_deal T [.lst (ns.map .int), .int 0] = .ok t () ∧ t.gr.length ≤ 63 := by
  unfold f__law_deal
  obtain ⟨A, hA⟩ : ∃ A : List D, ns.map D.int = A := ⟨_, rfl⟩
  have hAl : A.length ≤ 63 := by rw [← hA, List.length_map]; exact h
  have hAm : ∀ d ∈ A, ∃ n : Int, d = .int n := fun d hd => by
    rw [← hA] at hd
    obtain ⟨n, _, rfl⟩ := List.mem_map.mp hd
    exact ⟨n, rfl⟩
  rw [hA]
  obtain ⟨C, hC⟩ : ∃ C : List D, cutD A (some 0) (some 63) = C := ⟨_, rfl⟩
  have hCl : C.length ≤ 63 := by
    rw [← hC]; unfold cutD; rw [List.length_take, List.length_drop]; omega
  have hCm : ∀ d ∈ C, ∃ n : Int, d = .int n := fun d hd => by
    rw [← hC] at hd
    exact hAm d (List.mem_of_mem_drop (List.mem_of_mem_take hd))
  obtain ⟨ys, s2, h2, h3, h4, _⟩ := comp_inv (S := Unit) (vs := [3]) (g := gN 3) (mt := mYes) (me := mCB cAbs (mCons (mVar 3) mNil)) (P := fun _ => True) (Q := fun d => ∃ n : Int, d = .int n)
    (L := C) [.val (.lst A), .val (.int 0), .no, .no, .no, .no] (fun d hd s _ => by
      obtain ⟨n, rfl⟩ := hCm d hd
      exact ⟨_, _, [.val (.lst A), .val (.int 0), .no, .val (.int n), .no, .no], _, s, .v (.int (if n < 0 then -n else n)), .int (if n < 0 then -n else n), rfl, rfl, by rfl, rfl, rfl, rfl, trivial, _, rfl⟩) [] () trivial (by simp; omega)
  rw [List.nil_append] at h2
  have e1 : (mComp (mIL (mFf (mSl fSlL (mVar 0) (mPart (mVar 1)) (mPart (mK (.int 63)))))) [3] (gN 3) mYes (mCB cAbs (mCons (mVar 3) mNil)) : MX Unit W) (env0 [.v, .v] 4 [.lst A, .int 0]) () = .ok (.f ys) [.val (.lst A), .val (.int 0), .no, .no, .no, .no] () := by
    refine (comp_x (xs := C) (e1 := [.val (.lst A), .val (.int 0), .no, .no, .no, .no]) (s1 := ()) ?_ rfl).trans h2
    have hc : fSlL (.lst A) (some 0) (some 63) = some (.f C) := by rw [← hC]; rfl
    simp only [mSeq, mSet, mRet, mRetN, mIf, mExp, mBad, mNext, mPar, W.sl, mFor, Out.bindS, MX.bind, Out.bind, mK, mVar, mFz, mFf, mOp, mTest, mNotT, mNotV, mAndT, mOrT, mAndV, mOrV, mIfE, mChain, mNil, mCons, mTup, mLst, mCB, mFld, mFldSet, mCallP, mCallB, mMethP, mMakeP, mMut, mSl, mPart, mNoPart, mIsi, mIL, mIT, mIR, mIEn, mIS, mBGet, mBSet, mNewBox, mComp, mYes, Out.bindN, bindA, env0, envA, envI, FO.outP, FO.outL, FO.out, SO.fo0, SO.foF, SO.foI, lensW, lensL, resO_some, Rs.w_v, Rs.w_f, W.rd_v, W.rd_t, W.rd_f, W.rd_l, W.kp_v, List.mapM_cons, List.mapM_nil, Option.bind_eq_bind, Option.bind_some, Option.pure_def, Option.map_some, List.replicate_succ, List.replicate_zero, List.cons_append, List.nil_append, List.getElem?_cons_zero, List.getElem?_cons_succ, List.set_cons_zero, List.set_cons_succ, rb, ri, fI, fC, fAdd, fSub, fMod, fMul, fDiv, fIx, fIsN, fNotN, D.isN, cl_lst, cl_tup, cInt, cTup, cList, gApp, gN, gT, gsC, gsN, Sl.isRef, if_true, if_false, if_pos, List.length_cons, List.length_nil, Bx.at, Bx.put, List.any_cons, List.any_nil, Bool.not_true, Bool.not_false, Nat.reduceAdd, Nat.reduceLeDiff, reduceIte, reduceCtorEq, and_self, and_true, true_and, if_s_non, if_s_bl, if_s_int, if_s_str, if_s_tup, if_s_lst, if_i_non, if_i_bl, if_i_int, if_i_str, if_i_tup, if_i_lst, if_b_non, if_b_bl, if_b_int, if_b_str, if_b_tup, if_b_lst, if_t_non, if_t_bl, if_t_int, if_t_str, if_t_tup, if_t_lst, if_l_non, if_l_bl, if_l_int, if_l_str, if_l_tup, if_l_lst, if_lt2_non, if_lt2_bl, if_lt2_int, if_lt2_str, if_lt2_tup, if_lt2_lst, mRaise, mTryAs, tryOut, mXf, mIsE, mLenO, mGetO, mIxSet, mSwapIx, ixSt, mNeg, isFO, gIns, SO.foX, SO.foJ, one_self, is1_self, at1_self, noRefAt, List.all_cons, List.all_nil, Sl.noBox, D.flat, Bool.and_self, Bool.and_true, Bool.true_and, List.zip_cons_cons, List.zip_nil_right, mTru, List.contains_nil, mIE, mIZ, mBrk, mCnt, decide_true, decide_false, Bool.false_eq_true, Bool.not_eq_true, hc]
  have e2 : (mSet 4 (mOp fAdd (mK (.int 15485863)) (mVar 1)) : MS Unit) [.val (.lst A), .val (.int 0), .own ys, .no, .no, .no] () = .nx [.val (.lst A), .val (.int 0), .own ys, .no, .val (.int (15485863 + 0)), .no] () := rfl
  obtain ⟨e3, s3, h5, x3, z, rfl, hx3⟩ := forL_inv (S := Unit) (g := gN 3) (body := mSet 4 (mOp fMod (mCB cInt (mCons (mOp fAdd (mOp fMul (mVar 4) (mK (.int 16807))) (mVar 3)) mNil)) (mK (.int 2147483647)))) (L := ys)
    (fun env _ => ∃ x3 z, env = [.val (.lst A), .val (.int 0), .fz ys, x3, .val (.int z), .no] ∧ x3.isRef = false) (by
      rintro d hd env s ⟨x3, z, rfl, hx⟩
      obtain ⟨n, rfl⟩ := h4 d hd
      have c1 : (0 : Int) < 2147483647 := by decide
      have c2 : -18446744073709551616 < (16807 : Int) ∧ (16807 : Int) < 18446744073709551616 := by decide
      refine ⟨[.val (.lst A), .val (.int 0), .fz ys, .val (.int n), .val (.int z), .no], [.val (.lst A), .val (.int 0), .fz ys, .val (.int n), .val (.int ((z * 16807 + n) % 2147483647)), .no], s, ?_, ?_, .val (.int n), _, rfl, rfl⟩
      · simp only [gN, List.getElem?_cons_zero, List.getElem?_cons_succ, hx]
        rfl
      · simp only [mSeq, mSet, mRet, mRetN, mIf, mExp, mBad, mNext, mPar, W.sl, mFor, Out.bindS, MX.bind, Out.bind, mK, mVar, mFz, mFf, mOp, mTest, mNotT, mNotV, mAndT, mOrT, mAndV, mOrV, mIfE, mChain, mNil, mCons, mTup, mLst, mCB, mFld, mFldSet, mCallP, mCallB, mMethP, mMakeP, mMut, mSl, mPart, mNoPart, mIsi, mIL, mIT, mIR, mIEn, mIS, mBGet, mBSet, mNewBox, mComp, mYes, Out.bindN, bindA, env0, envA, envI, FO.outP, FO.outL, FO.out, SO.fo0, SO.foF, SO.foI, lensW, lensL, resO_some, Rs.w_v, Rs.w_f, W.rd_v, W.rd_t, W.rd_f, W.rd_l, W.kp_v, List.mapM_cons, List.mapM_nil, Option.bind_eq_bind, Option.bind_some, Option.pure_def, Option.map_some, List.replicate_succ, List.replicate_zero, List.cons_append, List.nil_append, List.getElem?_cons_zero, List.getElem?_cons_succ, List.set_cons_zero, List.set_cons_succ, rb, ri, fI, fC, fAdd, fSub, fMod, fMul, fDiv, fIx, fIsN, fNotN, D.isN, cl_lst, cl_tup, cInt, cTup, cList, gApp, gN, gT, gsC, gsN, Sl.isRef, if_true, if_false, if_pos, List.length_cons, List.length_nil, Bx.at, Bx.put, List.any_cons, List.any_nil, Bool.not_true, Bool.not_false, Nat.reduceAdd, Nat.reduceLeDiff, reduceIte, reduceCtorEq, and_self, and_true, true_and, if_s_non, if_s_bl, if_s_int, if_s_str, if_s_tup, if_s_lst, if_i_non, if_i_bl, if_i_int, if_i_str, if_i_tup, if_i_lst, if_b_non, if_b_bl, if_b_int, if_b_str, if_b_tup, if_b_lst, if_t_non, if_t_bl, if_t_int, if_t_str, if_t_tup, if_t_lst, if_l_non, if_l_bl, if_l_int, if_l_str, if_l_tup, if_l_lst, if_lt2_non, if_lt2_bl, if_lt2_int, if_lt2_str, if_lt2_tup, if_lt2_lst, mRaise, mTryAs, tryOut, mXf, mIsE, mLenO, mGetO, mIxSet, mSwapIx, ixSt, mNeg, isFO, gIns, SO.foX, SO.foJ, one_self, is1_self, at1_self, noRefAt, List.all_cons, List.all_nil, Sl.noBox, D.flat, Bool.and_self, Bool.and_true, Bool.true_and, List.zip_cons_cons, List.zip_nil_right, mTru, List.contains_nil, mIE, mIZ, mBrk, mCnt, decide_true, decide_false, Bool.false_eq_true, Bool.not_eq_true, c1, c2, or_true]) [.val (.lst A), .val (.int 0), .fz ys, .no, .val (.int (15485863 + 0)), .no] () ⟨.no, _, rfl, rfl⟩
  have e4 : (mIL (mFz 2) : MX Unit (List D)) [.val (.lst A), .val (.int 0), .own ys, .no, .val (.int (15485863 + 0)), .no] () = .ok ys [.val (.lst A), .val (.int 0), .fz ys, .no, .val (.int (15485863 + 0)), .no] () := by simp only [mSeq, mSet, mRet, mRetN, mIf, mExp, mBad, mNext, mPar, W.sl, mFor, Out.bindS, MX.bind, Out.bind, mK, mVar, mFz, mFf, mOp, mTest, mNotT, mNotV, mAndT, mOrT, mAndV, mOrV, mIfE, mChain, mNil, mCons, mTup, mLst, mCB, mFld, mFldSet, mCallP, mCallB, mMethP, mMakeP, mMut, mSl, mPart, mNoPart, mIsi, mIL, mIT, mIR, mIEn, mIS, mBGet, mBSet, mNewBox, mComp, mYes, Out.bindN, bindA, env0, envA, envI, FO.outP, FO.outL, FO.out, SO.fo0, SO.foF, SO.foI, lensW, lensL, resO_some, Rs.w_v, Rs.w_f, W.rd_v, W.rd_t, W.rd_f, W.rd_l, W.kp_v, List.mapM_cons, List.mapM_nil, Option.bind_eq_bind, Option.bind_some, Option.pure_def, Option.map_some, List.replicate_succ, List.replicate_zero, List.cons_append, List.nil_append, List.getElem?_cons_zero, List.getElem?_cons_succ, List.set_cons_zero, List.set_cons_succ, rb, ri, fI, fC, fAdd, fSub, fMod, fMul, fDiv, fIx, fIsN, fNotN, D.isN, isF, D.ty, isB, cLen, cInt, cTup, cList, gApp, gN, gT, gsC, gsN, Sl.isRef, if_true, if_false, if_pos, List.length_cons, List.length_nil, Bx.at, Bx.put, List.any_cons, List.any_nil, Bool.not_true, Bool.not_false, Nat.reduceAdd, Nat.reduceLeDiff, reduceIte, reduceCtorEq, and_self, and_true, true_and]
  have h6 := comp_fm (S := Unit) (vs := [3]) (g := gN 3) (mt := mTest (mOp (fC fun i j => decide (j ≤ i)) (mVar 3) (mOp fPow (mK (.int 10)) (mK (.int 18))))) (me := mVar 3) (f := fun d => d) (p := bigD) (L := ys) [.val (.lst A), .val (.int 0), .fz ys, .no, .val (.int z), .no] () (fun d hd => by
      obtain ⟨n, rfl⟩ := h4 d hd
      have hp : fPow (.int 10) (.int 18) = some (.v (.int ((10 : Int) ^ (18 : Int).toNat))) := by rfl
      refine ⟨[.val (.lst A), .val (.int 0), .fz ys, .val (.int n), .val (.int z), .no], [.val (.lst A), .val (.int 0), .fz ys, .val (.int n), .val (.int z), .no], rfl, ?_, fun _ => ⟨rfl, rfl⟩, fun _ => ⟨[.val (.lst A), .val (.int 0), .fz ys, .val (.int n), .val (.int z), .no], .v (.int n), by simp only [mSeq, mSet, mRet, mRetN, mIf, mExp, mBad, mNext, mPar, W.sl, mFor, Out.bindS, MX.bind, Out.bind, mK, mVar, mFz, mFf, mOp, mTest, mNotT, mNotV, mAndT, mOrT, mAndV, mOrV, mIfE, mChain, mNil, mCons, mTup, mLst, mCB, mFld, mFldSet, mCallP, mCallB, mMethP, mMakeP, mMut, mSl, mPart, mNoPart, mIsi, mIL, mIT, mIR, mIEn, mIS, mBGet, mBSet, mNewBox, mComp, mYes, Out.bindN, bindA, env0, envA, envI, FO.outP, FO.outL, FO.out, SO.fo0, SO.foF, SO.foI, lensW, lensL, resO_some, Rs.w_v, Rs.w_f, W.rd_v, W.rd_t, W.rd_f, W.rd_l, W.kp_v, List.mapM_cons, List.mapM_nil, Option.bind_eq_bind, Option.bind_some, Option.pure_def, Option.map_some, List.replicate_succ, List.replicate_zero, List.cons_append, List.nil_append, List.getElem?_cons_zero, List.getElem?_cons_succ, List.set_cons_zero, List.set_cons_succ, rb, ri, fI, fC, fAdd, fSub, fMod, fMul, fDiv, fIx, fIsN, fNotN, D.isN, isF, D.ty, isB, cLen, cInt, cTup, cList, gApp, gN, gT, gsC, gsN, Sl.isRef, if_true, if_false, if_pos, List.length_cons, List.length_nil, Bx.at, Bx.put, List.any_cons, List.any_nil, Bool.not_true, Bool.not_false, Nat.reduceAdd, Nat.reduceLeDiff, reduceIte, reduceCtorEq, and_self, and_true, true_and], rfl, rfl, rfl⟩⟩
      obtain ⟨tt, htt⟩ : ∃ tt : Int, (10 : Int) ^ (18 : Int).toNat = tt := ⟨_, rfl⟩
      rw [htt] at hp
      unfold bigD
      rw [htt]
      simp only [mSeq, mSet, mRet, mRetN, mIf, mExp, mBad, mNext, mPar, W.sl, mFor, Out.bindS, MX.bind, Out.bind, mK, mVar, mFz, mFf, mOp, mTest, mNotT, mNotV, mAndT, mOrT, mAndV, mOrV, mIfE, mChain, mNil, mCons, mTup, mLst, mCB, mFld, mFldSet, mCallP, mCallB, mMethP, mMakeP, mMut, mSl, mPart, mNoPart, mIsi, mIL, mIT, mIR, mIEn, mIS, mBGet, mBSet, mNewBox, mComp, mYes, Out.bindN, bindA, env0, envA, envI, FO.outP, FO.outL, FO.out, SO.fo0, SO.foF, SO.foI, lensW, lensL, resO_some, Rs.w_v, Rs.w_f, W.rd_v, W.rd_t, W.rd_f, W.rd_l, W.kp_v, List.mapM_cons, List.mapM_nil, Option.bind_eq_bind, Option.bind_some, Option.pure_def, Option.map_some, List.replicate_succ, List.replicate_zero, List.cons_append, List.nil_append, List.getElem?_cons_zero, List.getElem?_cons_succ, List.set_cons_zero, List.set_cons_succ, rb, ri, fI, fC, fAdd, fSub, fMod, fMul, fDiv, fIx, fIsN, fNotN, D.isN, cl_lst, cl_tup, cInt, cTup, cList, gApp, gN, gT, gsC, gsN, Sl.isRef, if_true, if_false, if_pos, List.length_cons, List.length_nil, Bx.at, Bx.put, List.any_cons, List.any_nil, Bool.not_true, Bool.not_false, Nat.reduceAdd, Nat.reduceLeDiff, reduceIte, reduceCtorEq, and_self, and_true, true_and, if_s_non, if_s_bl, if_s_int, if_s_str, if_s_tup, if_s_lst, if_i_non, if_i_bl, if_i_int, if_i_str, if_i_tup, if_i_lst, if_b_non, if_b_bl, if_b_int, if_b_str, if_b_tup, if_b_lst, if_t_non, if_t_bl, if_t_int, if_t_str, if_t_tup, if_t_lst, if_l_non, if_l_bl, if_l_int, if_l_str, if_l_tup, if_l_lst, if_lt2_non, if_lt2_bl, if_lt2_int, if_lt2_str, if_lt2_tup, if_lt2_lst, mRaise, mTryAs, tryOut, mXf, mIsE, mLenO, mGetO, mIxSet, mSwapIx, ixSt, mNeg, isFO, gIns, SO.foX, SO.foJ, one_self, is1_self, at1_self, noRefAt, List.all_cons, List.all_nil, Sl.noBox, D.flat, Bool.and_self, Bool.and_true, Bool.true_and, List.zip_cons_cons, List.zip_nil_right, mTru, List.contains_nil, mIE, mIZ, mBrk, mCnt, decide_true, decide_false, Bool.false_eq_true, Bool.not_eq_true, hp]) [] (by simp; omega)
  rw [List.map_id', List.nil_append] at h6
  have e5 : (mComp (mIL (mFz 2)) [3] (gN 3) (mTest (mOp (fC fun i j => decide (j ≤ i)) (mVar 3) (mOp fPow (mK (.int 10)) (mK (.int 18))))) (mVar 3) : MX Unit W) [.val (.lst A), .val (.int 0), .fz ys, x3, .val (.int z), .no] () = .ok (.f (ys.filter bigD)) [.val (.lst A), .val (.int 0), .fz ys, .no, .val (.int z), .no] () := by
    refine (comp_x (xs := ys) (e1 := [.val (.lst A), .val (.int 0), .fz ys, x3, .val (.int z), .no]) (s1 := ()) (by simp only [mSeq, mSet, mRet, mRetN, mIf, mExp, mBad, mNext, mPar, W.sl, mFor, Out.bindS, MX.bind, Out.bind, mK, mVar, mFz, mFf, mOp, mTest, mNotT, mNotV, mAndT, mOrT, mAndV, mOrV, mIfE, mChain, mNil, mCons, mTup, mLst, mCB, mFld, mFldSet, mCallP, mCallB, mMethP, mMakeP, mMut, mSl, mPart, mNoPart, mIsi, mIL, mIT, mIR, mIEn, mIS, mBGet, mBSet, mNewBox, mComp, mYes, Out.bindN, bindA, env0, envA, envI, FO.outP, FO.outL, FO.out, SO.fo0, SO.foF, SO.foI, lensW, lensL, resO_some, Rs.w_v, Rs.w_f, W.rd_v, W.rd_t, W.rd_f, W.rd_l, W.kp_v, List.mapM_cons, List.mapM_nil, Option.bind_eq_bind, Option.bind_some, Option.pure_def, Option.map_some, List.replicate_succ, List.replicate_zero, List.cons_append, List.nil_append, List.getElem?_cons_zero, List.getElem?_cons_succ, List.set_cons_zero, List.set_cons_succ, rb, ri, fI, fC, fAdd, fSub, fMod, fMul, fDiv, fIx, fIsN, fNotN, D.isN, isF, D.ty, isB, cLen, cInt, cTup, cList, gApp, gN, gT, gsC, gsN, Sl.isRef, if_true, if_false, if_pos, List.length_cons, List.length_nil, Bx.at, Bx.put, List.any_cons, List.any_nil, Bool.not_true, Bool.not_false, Nat.reduceAdd, Nat.reduceLeDiff, reduceIte, reduceCtorEq, and_self, and_true, true_and]) ?_).trans h6
    simp only [nonref, List.all_cons, List.all_nil, List.getElem?_cons_zero, List.getElem?_cons_succ, hx3, Bool.and_true]
    rfl
  obtain ⟨ms, hms, hml⟩ := ints_of (ds := (ys.filter bigD).reverse) (fun d hd => h4 d ((List.mem_filter.mp (List.mem_reverse.mp hd)).1))
  have em : m__law_deal T (env0 [.v, .v] 4 [.lst A, .int 0]) () = .nx [.val (.lst A), .val (.int 0), .fz ys, .no, .val (.int z), .own (ys.filter bigD)] () := by
    unfold m__law_deal
    rw [seq_nx (set_f e1)]
    show mSeq _ _ [.val (.lst A), .val (.int 0), .own ys, .no, .no, .no] () = _
    rw [seq_nx e2, seq_nx ((for_x e4).trans h5), seq_nx (set_f e5)]
    rfl
  have e6 : m1__law_deal T [.val (.lst A), .val (.int 0), .fz ys, .no, .val (.int z), .own (ys.filter bigD)] () = .ok (.f (ys.filter bigD).reverse) [.val (.lst A), .val (.int 0), .fz ys, .no, .val (.int z), .own (ys.filter bigD)] () := by
    unfold m1__law_deal
    simp only [mSeq, mSet, mRet, mRetN, mIf, mExp, mBad, mNext, mPar, W.sl, mFor, Out.bindS, MX.bind, Out.bind, mK, mVar, mFz, mFf, mOp, mTest, mNotT, mNotV, mAndT, mOrT, mAndV, mOrV, mIfE, mChain, mNil, mCons, mTup, mLst, mCB, mFld, mFldSet, mCallP, mCallB, mMethP, mMakeP, mMut, mSl, mPart, mNoPart, mIsi, mIL, mIT, mIR, mIEn, mIS, mBGet, mBSet, mNewBox, mComp, mYes, Out.bindN, bindA, env0, envA, envI, FO.outP, FO.outL, FO.out, SO.fo0, SO.foF, SO.foI, lensW, lensL, resO_some, Rs.w_v, Rs.w_f, W.rd_v, W.rd_t, W.rd_f, W.rd_l, W.kp_v, List.mapM_cons, List.mapM_nil, Option.bind_eq_bind, Option.bind_some, Option.pure_def, Option.map_some, List.replicate_succ, List.replicate_zero, List.cons_append, List.nil_append, List.getElem?_cons_zero, List.getElem?_cons_succ, List.set_cons_zero, List.set_cons_succ, rb, ri, fI, fC, fAdd, fSub, fMod, fMul, fDiv, fIx, fIsN, fNotN, D.isN, cl_lst, cl_tup, cInt, cTup, cList, gApp, gN, gT, gsC, gsN, Sl.isRef, if_true, if_false, if_pos, List.length_cons, List.length_nil, Bx.at, Bx.put, List.any_cons, List.any_nil, Bool.not_true, Bool.not_false, Nat.reduceAdd, Nat.reduceLeDiff, reduceIte, reduceCtorEq, and_self, and_true, true_and, if_s_non, if_s_bl, if_s_int, if_s_str, if_s_tup, if_s_lst, if_i_non, if_i_bl, if_i_int, if_i_str, if_i_tup, if_i_lst, if_b_non, if_b_bl, if_b_int, if_b_str, if_b_tup, if_b_lst, if_t_non, if_t_bl, if_t_int, if_t_str, if_t_tup, if_t_lst, if_l_non, if_l_bl, if_l_int, if_l_str, if_l_tup, if_l_lst, if_lt2_non, if_lt2_bl, if_lt2_int, if_lt2_str, if_lt2_tup, if_lt2_lst, mRaise, mTryAs, tryOut, mXf, mIsE, mLenO, mGetO, mIxSet, mSwapIx, ixSt, mNeg, isFO, gIns, SO.foX, SO.foJ, one_self, is1_self, at1_self, noRefAt, List.all_cons, List.all_nil, Sl.noBox, D.flat, Bool.and_self, Bool.and_true, Bool.true_and, List.zip_cons_cons, List.zip_nil_right, mTru, List.contains_nil, mIE, mIZ, mBrk, mCnt, decide_true, decide_false, Bool.false_eq_true, Bool.not_eq_true, mRv]
  have e7 : m2__law_deal T [.val (.lst A), .val (.int 0), .fz ys, .no, .val (.int z), .own (ys.filter bigD)] () = .ok (.v (.int (z + 1))) [.val (.lst A), .val (.int 0), .fz ys, .no, .val (.int z), .own (ys.filter bigD)] () := by
    unfold m2__law_deal
    simp only [mSeq, mSet, mRet, mRetN, mIf, mExp, mBad, mNext, mPar, W.sl, mFor, Out.bindS, MX.bind, Out.bind, mK, mVar, mFz, mFf, mOp, mTest, mNotT, mNotV, mAndT, mOrT, mAndV, mOrV, mIfE, mChain, mNil, mCons, mTup, mLst, mCB, mFld, mFldSet, mCallP, mCallB, mMethP, mMakeP, mMut, mSl, mPart, mNoPart, mIsi, mIL, mIT, mIR, mIEn, mIS, mBGet, mBSet, mNewBox, mComp, mYes, Out.bindN, bindA, env0, envA, envI, FO.outP, FO.outL, FO.out, SO.fo0, SO.foF, SO.foI, lensW, lensL, resO_some, Rs.w_v, Rs.w_f, W.rd_v, W.rd_t, W.rd_f, W.rd_l, W.kp_v, List.mapM_cons, List.mapM_nil, Option.bind_eq_bind, Option.bind_some, Option.pure_def, Option.map_some, List.replicate_succ, List.replicate_zero, List.cons_append, List.nil_append, List.getElem?_cons_zero, List.getElem?_cons_succ, List.set_cons_zero, List.set_cons_succ, rb, ri, fI, fC, fAdd, fSub, fMod, fMul, fDiv, fIx, fIsN, fNotN, D.isN, cl_lst, cl_tup, cInt, cTup, cList, gApp, gN, gT, gsC, gsN, Sl.isRef, if_true, if_false, if_pos, List.length_cons, List.length_nil, Bx.at, Bx.put, List.any_cons, List.any_nil, Bool.not_true, Bool.not_false, Nat.reduceAdd, Nat.reduceLeDiff, reduceIte, reduceCtorEq, and_self, and_true, true_and, if_s_non, if_s_bl, if_s_int, if_s_str, if_s_tup, if_s_lst, if_i_non, if_i_bl, if_i_int, if_i_str, if_i_tup, if_i_lst, if_b_non, if_b_bl, if_b_int, if_b_str, if_b_tup, if_b_lst, if_t_non, if_t_bl, if_t_int, if_t_str, if_t_tup, if_t_lst, if_l_non, if_l_bl, if_l_int, if_l_str, if_l_tup, if_l_lst, if_lt2_non, if_lt2_bl, if_lt2_int, if_lt2_str, if_lt2_tup, if_lt2_lst, mRaise, mTryAs, tryOut, mXf, mIsE, mLenO, mGetO, mIxSet, mSwapIx, ixSt, mNeg, isFO, gIns, SO.foX, SO.foJ, one_self, is1_self, at1_self, noRefAt, List.all_cons, List.all_nil, Sl.noBox, D.flat, Bool.and_self, Bool.and_true, Bool.true_and, List.zip_cons_cons, List.zip_nil_right, mTru, List.contains_nil, mIE, mIZ, mBrk, mCnt, decide_true, decide_false, Bool.false_eq_true, Bool.not_eq_true]
  refine ⟨⟨ms, 0, z + 1, 0⟩, ?_, ?_⟩
  · unfold outG
    rw [em]
    simp only [e6, e7, hms]
  · show ms.length ≤ 63
    have := List.length_filter_le bigD ys
    rw [hml, List.length_reverse]
    omega
end
end ledmarks_k04_texts_of_rows

namespace ledmarks_k04_texts_of_rows
open PySem L2 LM
section
variable {P : Program} {K : PySem.W.Frag} {mg : Str → Option Value}
theorem wl4 : ∀ a ∈ words4, a.length ≤ 4 ∧ 32 ∉ TL.tl a := by decide +kernel
def askW (l : List Str) : List Str := Txt.split (askT l) " "
theorem askl : ∀ l ∈ tests4, (askT l).length ≤ 60 ∧ (∀ w ∈ askW l, 32 ∉ TL.tl w) ∧ askW l ≠ [] ∧ (askW l).length ≤ 20 ∧ Txt.join " " (askW l) = askT l := by decide +kernel
theorem tl_inj {x y : Str} (h : TL.tl x = TL.tl y) : x = y := by
  have := TL.map_tl_inj (l := [x]) (m := [y]) (by simp [h])
  exact (List.cons.inj this).1
theorem t32 : TL.tl (" " : Str) = [32] := by decide +kernel
/-- what a row is made into -/
def mkRow (T : Tx P K mg) : D → D
  | .tup [.str _, .str a, .str b] => .ins T.c_Run ["old", "then", "_words", "named"] [.str a, .str b, .tup [.str "run", .str a, .str "to", .str b], .tup ([D.str a, .str b].filter kpW)]
  | .tup [.str _, .lst ts, .str a, .str b] => .ins T.c_Lead ["tests", "old", "then", "_words", "named"] [.tup ts, .str a, .str b, .tup [.str "lead", .str (askT ((strsD ts).getD [])), .str a, .str "to", .str b], .tup ([D.str a, .str b].filter kpW)]
  | .tup [.str _, .str a, .str b, .str c] => .ins T.c_Join ["here", "came", "then", "_words", "named"] [.str a, .str b, .str c, .tup [.str "join", .str a, .str b, .str "to", .str c], .tup ([D.str a, .str b, .str c].filter kpW)]
  | _ => .non
/-- the row's text -/
def rowT : D → Str
  | .tup [.str _, .str a, .str b] => Txt.join " " ["run", a, "to", b]
  | .tup [.str _, .lst ts, .str a, .str b] => Txt.join " " ["lead", askT ((strsD ts).getD []), a, "to", b]
  | .tup [.str _, .str a, .str b, .str c] => Txt.join " " ["join", a, b, "to", c]
  | _ => ""
theorem k1 : ¬ (("lead" : Str) = "run") := by decide
theorem k2 : ¬ (("join" : Str) = "run") := by decide
theorem k3 : ¬ (("join" : Str) = "lead") := by decide
theorem i30 {x y z : D} : atI [x, y, z] 0 = some x := rfl
theorem i31 {x y z : D} : atI [x, y, z] 1 = some y := rfl
theorem i32 {x y z : D} : atI [x, y, z] 2 = some z := rfl
theorem i40 {x y z u : D} : atI [x, y, z, u] 0 = some x := rfl
theorem i41 {x y z u : D} : atI [x, y, z, u] 1 = some y := rfl
theorem i42 {x y z u : D} : atI [x, y, z, u] 2 = some z := rfl
theorem i43 {x y z u : D} : atI [x, y, z, u] 3 = some u := rfl
theorem i50 {x y z u v : D} : atI [x, y, z, u, v] 0 = some x := rfl
theorem i51 {x y z u v : D} : atI [x, y, z, u, v] 1 = some y := rfl
theorem i52 {x y z u v : D} : atI [x, y, z, u, v] 2 = some z := rfl
theorem i53 {x y z u v : D} : atI [x, y, z, u, v] 3 = some u := rfl
theorem i54 {x y z u v : D} : atI [x, y, z, u, v] 4 = some v := rfl
theorem f_run (T : Tx P K mg) {a b : Str} (ha : a ∈ wants4) (hb : b ∈ marks4) : f_Run_init T [.str a, .str b] = .ok (["old", "then", "_words", "named"], [.str a, .str b, .tup [.str "run", .str a, .str "to", .str b], .tup ([D.str a, .str b].filter kpW)]) () := if_pos ⟨ha, hb⟩
theorem f_lead (T : Tx P K mg) {l : List Str} {a b : Str} (hl : l ∈ tests4) (ha : a ∈ wants4) (hb : b ∈ marks4) : f_Lead_init T [.lst (l.map .str), .str a, .str b] = .ok (["tests", "old", "then", "_words", "named"], [.tup (l.map .str), .str a, .str b, .tup [.str "lead", .str (askT l), .str a, .str "to", .str b], .tup ([D.str a, .str b].filter kpW)]) () := by
  unfold f_Lead_init
  simp only [strsD_of]
  exact if_pos ⟨hl, ha, hb⟩
theorem f_join (T : Tx P K mg) {a b c : Str} (ha : a ∈ wants4) (hb : b ∈ wants4) (hc : c ∈ thens4) : f_Join_init T [.str a, .str b, .str c] = .ok (["here", "came", "then", "_words", "named"], [.str a, .str b, .str c, .tup [.str "join", .str a, .str b, .str "to", .str c], .tup ([D.str a, .str b, .str c].filter kpW)]) () := if_pos ⟨ha, hb, hc⟩
theorem made_ok (T : Tx P K mg) {d : D} (h : isRow4 d) : f__law_made T [d] () = .ok (mkRow T d) () := by
  unfold f__law_made m__law_made
  rcases h with ⟨a, ha, b, hb, rfl⟩ | ⟨l, hl, a, ha, b, hb, rfl⟩ | ⟨a, ha, b, hb, c, hc, rfl⟩
  · have e := f_run T ha hb
    simp only [mSeq, mSet, mRet, mRetN, mIf, mExp, mBad, mNext, mPar, W.sl, mFor, Out.bindS, MX.bind, Out.bind, mK, mVar, mFz, mFf, mOp, mTest, mNotT, mNotV, mAndT, mOrT, mAndV, mOrV, mIfE, mChain, mNil, mCons, mTup, mLst, mCB, mFld, mFldSet, mCallP, mCallB, mMethP, mMakeP, mMut, mSl, mPart, mNoPart, mIsi, mIL, mIT, mIR, mIEn, mIS, mBGet, mBSet, mNewBox, mComp, mYes, Out.bindN, bindA, env0, envA, envI, FO.outP, FO.outL, FO.out, SO.fo0, SO.foF, SO.foI, lensW, lensL, resO_some, Rs.w_v, Rs.w_f, W.rd_v, W.rd_t, W.rd_f, W.rd_l, W.kp_v, List.mapM_cons, List.mapM_nil, Option.bind_eq_bind, Option.bind_some, Option.pure_def, Option.map_some, List.replicate_succ, List.replicate_zero, List.cons_append, List.nil_append, List.getElem?_cons_zero, List.getElem?_cons_succ, List.set_cons_zero, List.set_cons_succ, rb, ri, fI, fC, fAdd, fSub, fMod, fMul, fDiv, fIx, fIsN, fNotN, D.isN, cl_lst, cl_tup, cInt, cTup, cList, gApp, gN, gT, gsC, gsN, Sl.isRef, if_true, if_false, if_pos, List.length_cons, List.length_nil, Bx.at, Bx.put, List.any_cons, List.any_nil, Bool.not_true, Bool.not_false, Nat.reduceAdd, Nat.reduceLeDiff, reduceIte, reduceCtorEq, and_self, and_true, true_and, if_s_non, if_s_bl, if_s_int, if_s_str, if_s_tup, if_s_lst, if_i_non, if_i_bl, if_i_int, if_i_str, if_i_tup, if_i_lst, if_b_non, if_b_bl, if_b_int, if_b_str, if_b_tup, if_b_lst, if_t_non, if_t_bl, if_t_int, if_t_str, if_t_tup, if_t_lst, if_l_non, if_l_bl, if_l_int, if_l_str, if_l_tup, if_l_lst, if_lt2_non, if_lt2_bl, if_lt2_int, if_lt2_str, if_lt2_tup, if_lt2_lst, mRaise, mTryAs, tryOut, mXf, mIsE, mLenO, mGetO, mIxSet, mSwapIx, ixSt, mNeg, isFO, gIns, SO.foX, SO.foJ, one_self, is1_self, at1_self, noRefAt, List.all_cons, List.all_nil, Sl.noBox, D.flat, Bool.and_self, Bool.and_true, Bool.true_and, List.zip_cons_cons, List.zip_nil_right, mTru, List.contains_nil, mIE, mIZ, mBrk, mCnt, decide_true, decide_false, Bool.false_eq_true, Bool.not_eq_true, i30, i31, i32, eq_str, e]
    rfl
  · have e := f_lead T hl ha hb
    simp only [mSeq, mSet, mRet, mRetN, mIf, mExp, mBad, mNext, mPar, W.sl, mFor, Out.bindS, MX.bind, Out.bind, mK, mVar, mFz, mFf, mOp, mTest, mNotT, mNotV, mAndT, mOrT, mAndV, mOrV, mIfE, mChain, mNil, mCons, mTup, mLst, mCB, mFld, mFldSet, mCallP, mCallB, mMethP, mMakeP, mMut, mSl, mPart, mNoPart, mIsi, mIL, mIT, mIR, mIEn, mIS, mBGet, mBSet, mNewBox, mComp, mYes, Out.bindN, bindA, env0, envA, envI, FO.outP, FO.outL, FO.out, SO.fo0, SO.foF, SO.foI, lensW, lensL, resO_some, Rs.w_v, Rs.w_f, W.rd_v, W.rd_t, W.rd_f, W.rd_l, W.kp_v, List.mapM_cons, List.mapM_nil, Option.bind_eq_bind, Option.bind_some, Option.pure_def, Option.map_some, List.replicate_succ, List.replicate_zero, List.cons_append, List.nil_append, List.getElem?_cons_zero, List.getElem?_cons_succ, List.set_cons_zero, List.set_cons_succ, rb, ri, fI, fC, fAdd, fSub, fMod, fMul, fDiv, fIx, fIsN, fNotN, D.isN, cl_lst, cl_tup, cInt, cTup, cList, gApp, gN, gT, gsC, gsN, Sl.isRef, if_true, if_false, if_pos, List.length_cons, List.length_nil, Bx.at, Bx.put, List.any_cons, List.any_nil, Bool.not_true, Bool.not_false, Nat.reduceAdd, Nat.reduceLeDiff, reduceIte, reduceCtorEq, and_self, and_true, true_and, if_s_non, if_s_bl, if_s_int, if_s_str, if_s_tup, if_s_lst, if_i_non, if_i_bl, if_i_int, if_i_str, if_i_tup, if_i_lst, if_b_non, if_b_bl, if_b_int, if_b_str, if_b_tup, if_b_lst, if_t_non, if_t_bl, if_t_int, if_t_str, if_t_tup, if_t_lst, if_l_non, if_l_bl, if_l_int, if_l_str, if_l_tup, if_l_lst, if_lt2_non, if_lt2_bl, if_lt2_int, if_lt2_str, if_lt2_tup, if_lt2_lst, mRaise, mTryAs, tryOut, mXf, mIsE, mLenO, mGetO, mIxSet, mSwapIx, ixSt, mNeg, isFO, gIns, SO.foX, SO.foJ, one_self, is1_self, at1_self, noRefAt, List.all_cons, List.all_nil, Sl.noBox, D.flat, Bool.and_self, Bool.and_true, Bool.true_and, List.zip_cons_cons, List.zip_nil_right, mTru, List.contains_nil, mIE, mIZ, mBrk, mCnt, decide_true, decide_false, Bool.false_eq_true, Bool.not_eq_true, i40, i41, i42, i43, eq_str, e, k1, mkRow, strsD_of, Option.getD_some]
  · have e := f_join T ha hb hc
    simp only [mSeq, mSet, mRet, mRetN, mIf, mExp, mBad, mNext, mPar, W.sl, mFor, Out.bindS, MX.bind, Out.bind, mK, mVar, mFz, mFf, mOp, mTest, mNotT, mNotV, mAndT, mOrT, mAndV, mOrV, mIfE, mChain, mNil, mCons, mTup, mLst, mCB, mFld, mFldSet, mCallP, mCallB, mMethP, mMakeP, mMut, mSl, mPart, mNoPart, mIsi, mIL, mIT, mIR, mIEn, mIS, mBGet, mBSet, mNewBox, mComp, mYes, Out.bindN, bindA, env0, envA, envI, FO.outP, FO.outL, FO.out, SO.fo0, SO.foF, SO.foI, lensW, lensL, resO_some, Rs.w_v, Rs.w_f, W.rd_v, W.rd_t, W.rd_f, W.rd_l, W.kp_v, List.mapM_cons, List.mapM_nil, Option.bind_eq_bind, Option.bind_some, Option.pure_def, Option.map_some, List.replicate_succ, List.replicate_zero, List.cons_append, List.nil_append, List.getElem?_cons_zero, List.getElem?_cons_succ, List.set_cons_zero, List.set_cons_succ, rb, ri, fI, fC, fAdd, fSub, fMod, fMul, fDiv, fIx, fIsN, fNotN, D.isN, cl_lst, cl_tup, cInt, cTup, cList, gApp, gN, gT, gsC, gsN, Sl.isRef, if_true, if_false, if_pos, List.length_cons, List.length_nil, Bx.at, Bx.put, List.any_cons, List.any_nil, Bool.not_true, Bool.not_false, Nat.reduceAdd, Nat.reduceLeDiff, reduceIte, reduceCtorEq, and_self, and_true, true_and, if_s_non, if_s_bl, if_s_int, if_s_str, if_s_tup, if_s_lst, if_i_non, if_i_bl, if_i_int, if_i_str, if_i_tup, if_i_lst, if_b_non, if_b_bl, if_b_int, if_b_str, if_b_tup, if_b_lst, if_t_non, if_t_bl, if_t_int, if_t_str, if_t_tup, if_t_lst, if_l_non, if_l_bl, if_l_int, if_l_str, if_l_tup, if_l_lst, if_lt2_non, if_lt2_bl, if_lt2_int, if_lt2_str, if_lt2_tup, if_lt2_lst, mRaise, mTryAs, tryOut, mXf, mIsE, mLenO, mGetO, mIxSet, mSwapIx, ixSt, mNeg, isFO, gIns, SO.foX, SO.foJ, one_self, is1_self, at1_self, noRefAt, List.all_cons, List.all_nil, Sl.noBox, D.flat, Bool.and_self, Bool.and_true, Bool.true_and, List.zip_cons_cons, List.zip_nil_right, mTru, List.contains_nil, mIE, mIZ, mBrk, mCnt, decide_true, decide_false, Bool.false_eq_true, Bool.not_eq_true, i40, i41, i42, i43, eq_str, e, k2, k3, mkRow]
theorem add_t {x y : Str} (hx : x.length ≤ 1000) (hy : y.length ≤ 1000) : fAddS (.str x) (.str y) = some (.v (.str (x ++ y))) ∧ (x ++ y).length = x.length + y.length := ⟨add_s (by omega), Str.length_append ..⟩
theorem n1 : ("run " : Str).length = 4 ∧ (" to " : Str).length = 4 ∧ ("lead " : Str).length = 5 ∧ ("join " : Str).length = 5 ∧ (" " : Str).length = 1 ∧ ("run" : Str).length = 3 ∧ ("lead" : Str).length = 4 ∧ ("join" : Str).length = 4 ∧ ("to" : Str).length = 2 := by decide
theorem tr1 : TL.tl ("run " : Str) = TL.tl "run" ++ [32] := by decide +kernel
theorem tr2 : TL.tl (" to " : Str) = [32] ++ (TL.tl "to" ++ [32]) := by decide +kernel
theorem tr3 : TL.tl ("lead " : Str) = TL.tl "lead" ++ [32] := by decide +kernel
theorem tr4 : TL.tl ("join " : Str) = TL.tl "join" ++ [32] := by decide +kernel
theorem text_ok (T : Tx P K mg) {d : D} (h : isRow4 d) : f__law_row_text T [d] () = .ok (.str (rowT d)) () := by
  unfold f__law_row_text m__law_row_text
  obtain ⟨z1, z2, z3, z4, z5, z6, z7, z8, z9⟩ := n1
  rcases h with ⟨a, ha, b, hb, rfl⟩ | ⟨l, hl, a, ha, b, hb, rfl⟩ | ⟨a, ha, b, hb, c, hc, rfl⟩
  · have la := (wl4 a (w_words ha)).1
    have lb := (wl4 b (m_words hb)).1
    obtain ⟨e1, g1⟩ := add_t (x := "run ") (y := a) (by omega) (by omega)
    obtain ⟨e2, g2⟩ := add_t (x := "run " ++ a) (y := " to ") (by omega) (by omega)
    obtain ⟨e3, g3⟩ := add_t (x := "run " ++ a ++ " to ") (y := b) (by omega) (by omega)
    have e : ("run " ++ a ++ " to " ++ b : Str) = rowT (.tup [.str "run", .str a, .str b]) := by
      refine tl_inj ?_
      simp only [rowT]
      rw [TL.join_eq, TL.tl_join, t32]
      simp only [TL.tl_append, tr1, tr2, List.map_cons, List.map_nil, TL.joinL, List.append_assoc, List.cons_append, List.nil_append]
    simp only [mSeq, mSet, mRet, mRetN, mIf, mExp, mBad, mNext, mPar, W.sl, mFor, Out.bindS, MX.bind, Out.bind, mK, mVar, mFz, mFf, mOp, mTest, mNotT, mNotV, mAndT, mOrT, mAndV, mOrV, mIfE, mChain, mNil, mCons, mTup, mLst, mCB, mFld, mFldSet, mCallP, mCallB, mMethP, mMakeP, mMut, mSl, mPart, mNoPart, mIsi, mIL, mIT, mIR, mIEn, mIS, mBGet, mBSet, mNewBox, mComp, mYes, Out.bindN, bindA, env0, envA, envI, FO.outP, FO.outL, FO.out, SO.fo0, SO.foF, SO.foI, lensW, lensL, resO_some, Rs.w_v, Rs.w_f, W.rd_v, W.rd_t, W.rd_f, W.rd_l, W.kp_v, List.mapM_cons, List.mapM_nil, Option.bind_eq_bind, Option.bind_some, Option.pure_def, Option.map_some, List.replicate_succ, List.replicate_zero, List.cons_append, List.nil_append, List.getElem?_cons_zero, List.getElem?_cons_succ, List.set_cons_zero, List.set_cons_succ, rb, ri, fI, fC, fAdd, fSub, fMod, fMul, fDiv, fIx, fIsN, fNotN, D.isN, cl_lst, cl_tup, cInt, cTup, cList, gApp, gN, gT, gsC, gsN, Sl.isRef, if_true, if_false, if_pos, List.length_cons, List.length_nil, Bx.at, Bx.put, List.any_cons, List.any_nil, Bool.not_true, Bool.not_false, Nat.reduceAdd, Nat.reduceLeDiff, reduceIte, reduceCtorEq, and_self, and_true, true_and, if_s_non, if_s_bl, if_s_int, if_s_str, if_s_tup, if_s_lst, if_i_non, if_i_bl, if_i_int, if_i_str, if_i_tup, if_i_lst, if_b_non, if_b_bl, if_b_int, if_b_str, if_b_tup, if_b_lst, if_t_non, if_t_bl, if_t_int, if_t_str, if_t_tup, if_t_lst, if_l_non, if_l_bl, if_l_int, if_l_str, if_l_tup, if_l_lst, if_lt2_non, if_lt2_bl, if_lt2_int, if_lt2_str, if_lt2_tup, if_lt2_lst, mRaise, mTryAs, tryOut, mXf, mIsE, mLenO, mGetO, mIxSet, mSwapIx, ixSt, mNeg, isFO, gIns, SO.foX, SO.foJ, one_self, is1_self, at1_self, noRefAt, List.all_cons, List.all_nil, Sl.noBox, D.flat, Bool.and_self, Bool.and_true, Bool.true_and, List.zip_cons_cons, List.zip_nil_right, mTru, List.contains_nil, mIE, mIZ, mBrk, mCnt, decide_true, decide_false, Bool.false_eq_true, Bool.not_eq_true, i30, i31, i32, eq_str, e1, e2, e3, e]
  · have la := (wl4 a (w_words ha)).1
    have lb := (wl4 b (m_words hb)).1
    have ll := (askl l hl).1
    obtain ⟨e1, g1⟩ := add_t (x := "lead ") (y := askT l) (by omega) (by omega)
    obtain ⟨e2, g2⟩ := add_t (x := "lead " ++ askT l) (y := " ") (by omega) (by omega)
    obtain ⟨e3, g3⟩ := add_t (x := "lead " ++ askT l ++ " ") (y := a) (by omega) (by omega)
    obtain ⟨e4, g4⟩ := add_t (x := "lead " ++ askT l ++ " " ++ a) (y := " to ") (by omega) (by omega)
    obtain ⟨e5, g5⟩ := add_t (x := "lead " ++ askT l ++ " " ++ a ++ " to ") (y := b) (by omega) (by omega)
    have e : ("lead " ++ askT l ++ " " ++ a ++ " to " ++ b : Str) = rowT (.tup [.str "lead", .lst (l.map .str), .str a, .str b]) := by
      refine tl_inj ?_
      unfold rowT
      simp only [strsD_of, Option.getD_some]
      rw [TL.join_eq, TL.tl_join, t32]
      simp only [TL.tl_append, tr3, tr2, t32, List.map_cons, List.map_nil, TL.joinL, List.append_assoc, List.cons_append, List.nil_append]
    have hok : oks 59 (l.map D.str) = true := ok_str (l := l) fun d hd => by
      obtain ⟨x, hx, rfl⟩ := List.mem_map.mp hd
      exact ⟨x, hx, rfl⟩
    have hask : (mIfE (mTest (mOp fNe (mCB cList (mCons (mOp fIx (mVar 0) (mK (.int 1))) mNil)) (mLst mNil))) (mSm jJoin (mK (.str " and ")) (mCons (mOp fIx (mVar 0) (mK (.int 1))) mNil)) (mK (.str "always")) : MX Unit W) [.val (.tup [.str "lead", .lst (l.map .str), .str a, .str b]), .no] () = .ok (.v (.str (askT l))) [.val (.tup [.str "lead", .lst (l.map .str), .str a, .str b]), .no] () := by
      have hj := (ask_all l hl).1
      have h5 : (" and " : Str).length = 5 := by decide
      by_cases hn : l = []
      · subst hn
        have hok : oks 59 [] = true := hok
        simp only [mSeq, mSet, mRet, mRetN, mIf, mExp, mBad, mNext, mPar, W.sl, mFor, Out.bindS, MX.bind, Out.bind, mK, mVar, mFz, mFf, mOp, mTest, mNotT, mNotV, mAndT, mOrT, mAndV, mOrV, mIfE, mChain, mNil, mCons, mTup, mLst, mCB, mFld, mFldSet, mCallP, mCallB, mMethP, mMakeP, mMut, mSl, mPart, mNoPart, mIsi, mIL, mIT, mIR, mIEn, mIS, mBGet, mBSet, mNewBox, mComp, mYes, Out.bindN, bindA, env0, envA, envI, FO.outP, FO.outL, FO.out, SO.fo0, SO.foF, SO.foI, lensW, lensL, resO_some, Rs.w_v, Rs.w_f, W.rd_v, W.rd_t, W.rd_f, W.rd_l, W.kp_v, List.mapM_cons, List.mapM_nil, Option.bind_eq_bind, Option.bind_some, Option.pure_def, Option.map_some, List.replicate_succ, List.replicate_zero, List.cons_append, List.nil_append, List.getElem?_cons_zero, List.getElem?_cons_succ, List.set_cons_zero, List.set_cons_succ, rb, ri, fI, fC, fAdd, fSub, fMod, fMul, fDiv, fIx, fIsN, fNotN, D.isN, cl_lst, cl_tup, cInt, cTup, cList, gApp, gN, gT, gsC, gsN, Sl.isRef, if_true, if_false, if_pos, List.length_cons, List.length_nil, Bx.at, Bx.put, List.any_cons, List.any_nil, Bool.not_true, Bool.not_false, Nat.reduceAdd, Nat.reduceLeDiff, reduceIte, reduceCtorEq, and_self, and_true, true_and, if_s_non, if_s_bl, if_s_int, if_s_str, if_s_tup, if_s_lst, if_i_non, if_i_bl, if_i_int, if_i_str, if_i_tup, if_i_lst, if_b_non, if_b_bl, if_b_int, if_b_str, if_b_tup, if_b_lst, if_t_non, if_t_bl, if_t_int, if_t_str, if_t_tup, if_t_lst, if_l_non, if_l_bl, if_l_int, if_l_str, if_l_tup, if_l_lst, if_lt2_non, if_lt2_bl, if_lt2_int, if_lt2_str, if_lt2_tup, if_lt2_lst, mRaise, mTryAs, tryOut, mXf, mIsE, mLenO, mGetO, mIxSet, mSwapIx, ixSt, mNeg, isFO, gIns, SO.foX, SO.foJ, one_self, is1_self, at1_self, noRefAt, List.all_cons, List.all_nil, Sl.noBox, D.flat, Bool.and_self, Bool.and_true, Bool.true_and, List.zip_cons_cons, List.zip_nil_right, mTru, List.contains_nil, mIE, mIZ, mBrk, mCnt, decide_true, decide_false, Bool.false_eq_true, Bool.not_eq_true, i41, ne_nil hok, List.map_nil, List.isEmpty_nil, askT]
      · have hne : (l.map D.str).isEmpty = false := by cases l <;> simp_all
        have hjj : jJoin " and " [.lst (l.map .str)] = some (.v (.str (Txt.join " and " l))) := by
          simp only [jJoin, strsD_of, Option.bind_some, h5, hj, if_true]
        have ha2 : askT l = Txt.join " and " l := if_neg hn
        simp only [mSeq, mSet, mRet, mRetN, mIf, mExp, mBad, mNext, mPar, W.sl, mFor, Out.bindS, MX.bind, Out.bind, mK, mVar, mFz, mFf, mOp, mTest, mNotT, mNotV, mAndT, mOrT, mAndV, mOrV, mIfE, mChain, mNil, mCons, mTup, mLst, mCB, mFld, mFldSet, mCallP, mCallB, mMethP, mMakeP, mMut, mSl, mPart, mNoPart, mIsi, mIL, mIT, mIR, mIEn, mIS, mBGet, mBSet, mNewBox, mComp, mYes, Out.bindN, bindA, env0, envA, envI, FO.outP, FO.outL, FO.out, SO.fo0, SO.foF, SO.foI, lensW, lensL, resO_some, Rs.w_v, Rs.w_f, W.rd_v, W.rd_t, W.rd_f, W.rd_l, W.kp_v, List.mapM_cons, List.mapM_nil, Option.bind_eq_bind, Option.bind_some, Option.pure_def, Option.map_some, List.replicate_succ, List.replicate_zero, List.cons_append, List.nil_append, List.getElem?_cons_zero, List.getElem?_cons_succ, List.set_cons_zero, List.set_cons_succ, rb, ri, fI, fC, fAdd, fSub, fMod, fMul, fDiv, fIx, fIsN, fNotN, D.isN, cl_lst, cl_tup, cInt, cTup, cList, gApp, gN, gT, gsC, gsN, Sl.isRef, if_true, if_false, if_pos, List.length_cons, List.length_nil, Bx.at, Bx.put, List.any_cons, List.any_nil, Bool.not_true, Bool.not_false, Nat.reduceAdd, Nat.reduceLeDiff, reduceIte, reduceCtorEq, and_self, and_true, true_and, if_s_non, if_s_bl, if_s_int, if_s_str, if_s_tup, if_s_lst, if_i_non, if_i_bl, if_i_int, if_i_str, if_i_tup, if_i_lst, if_b_non, if_b_bl, if_b_int, if_b_str, if_b_tup, if_b_lst, if_t_non, if_t_bl, if_t_int, if_t_str, if_t_tup, if_t_lst, if_l_non, if_l_bl, if_l_int, if_l_str, if_l_tup, if_l_lst, if_lt2_non, if_lt2_bl, if_lt2_int, if_lt2_str, if_lt2_tup, if_lt2_lst, mRaise, mTryAs, tryOut, mXf, mIsE, mLenO, mGetO, mIxSet, mSwapIx, ixSt, mNeg, isFO, gIns, SO.foX, SO.foJ, one_self, is1_self, at1_self, noRefAt, List.all_cons, List.all_nil, Sl.noBox, D.flat, Bool.and_self, Bool.and_true, Bool.true_and, List.zip_cons_cons, List.zip_nil_right, mTru, List.contains_nil, mIE, mIZ, mBrk, mCnt, decide_true, decide_false, Bool.false_eq_true, Bool.not_eq_true, i41, ne_nil hok, hne, mSm, hjj, ha2]
    rw [show env0 [.v] 1 [.tup [.str "lead", .lst (l.map .str), .str a, .str b]] = [.val (.tup [.str "lead", .lst (l.map .str), .str a, .str b]), .no] from rfl]
    rw [seq_nx (e1 := [.val (.tup [.str "lead", .lst (l.map .str), .str a, .str b]), .no]) (s1 := ()) (by simp only [mSeq, mSet, mRet, mRetN, mIf, mExp, mBad, mNext, mPar, W.sl, mFor, Out.bindS, MX.bind, Out.bind, mK, mVar, mFz, mFf, mOp, mTest, mNotT, mNotV, mAndT, mOrT, mAndV, mOrV, mIfE, mChain, mNil, mCons, mTup, mLst, mCB, mFld, mFldSet, mCallP, mCallB, mMethP, mMakeP, mMut, mSl, mPart, mNoPart, mIsi, mIL, mIT, mIR, mIEn, mIS, mBGet, mBSet, mNewBox, mComp, mYes, Out.bindN, bindA, env0, envA, envI, FO.outP, FO.outL, FO.out, SO.fo0, SO.foF, SO.foI, lensW, lensL, resO_some, Rs.w_v, Rs.w_f, W.rd_v, W.rd_t, W.rd_f, W.rd_l, W.kp_v, List.mapM_cons, List.mapM_nil, Option.bind_eq_bind, Option.bind_some, Option.pure_def, Option.map_some, List.replicate_succ, List.replicate_zero, List.cons_append, List.nil_append, List.getElem?_cons_zero, List.getElem?_cons_succ, List.set_cons_zero, List.set_cons_succ, rb, ri, fI, fC, fAdd, fSub, fMod, fMul, fDiv, fIx, fIsN, fNotN, D.isN, cl_lst, cl_tup, cInt, cTup, cList, gApp, gN, gT, gsC, gsN, Sl.isRef, if_true, if_false, if_pos, List.length_cons, List.length_nil, Bx.at, Bx.put, List.any_cons, List.any_nil, Bool.not_true, Bool.not_false, Nat.reduceAdd, Nat.reduceLeDiff, reduceIte, reduceCtorEq, and_self, and_true, true_and, if_s_non, if_s_bl, if_s_int, if_s_str, if_s_tup, if_s_lst, if_i_non, if_i_bl, if_i_int, if_i_str, if_i_tup, if_i_lst, if_b_non, if_b_bl, if_b_int, if_b_str, if_b_tup, if_b_lst, if_t_non, if_t_bl, if_t_int, if_t_str, if_t_tup, if_t_lst, if_l_non, if_l_bl, if_l_int, if_l_str, if_l_tup, if_l_lst, if_lt2_non, if_lt2_bl, if_lt2_int, if_lt2_str, if_lt2_tup, if_lt2_lst, mRaise, mTryAs, tryOut, mXf, mIsE, mLenO, mGetO, mIxSet, mSwapIx, ixSt, mNeg, isFO, gIns, SO.foX, SO.foJ, one_self, is1_self, at1_self, noRefAt, List.all_cons, List.all_nil, Sl.noBox, D.flat, Bool.and_self, Bool.and_true, Bool.true_and, List.zip_cons_cons, List.zip_nil_right, mTru, List.contains_nil, mIE, mIZ, mBrk, mCnt, decide_true, decide_false, Bool.false_eq_true, Bool.not_eq_true, i40, eq_str, k1])]
    rw [seq_rt (d := .str (rowT (.tup [.str "lead", .lst (l.map .str), .str a, .str b]))) (e1 := [.val (.tup [.str "lead", .lst (l.map .str), .str a, .str b]), .val (.str (askT l))]) (s1 := ()) (by
      rw [if_t (e1 := [.val (.tup [.str "lead", .lst (l.map .str), .str a, .str b]), .no]) (s1 := ()) (by simp only [mSeq, mSet, mRet, mRetN, mIf, mExp, mBad, mNext, mPar, W.sl, mFor, Out.bindS, MX.bind, Out.bind, mK, mVar, mFz, mFf, mOp, mTest, mNotT, mNotV, mAndT, mOrT, mAndV, mOrV, mIfE, mChain, mNil, mCons, mTup, mLst, mCB, mFld, mFldSet, mCallP, mCallB, mMethP, mMakeP, mMut, mSl, mPart, mNoPart, mIsi, mIL, mIT, mIR, mIEn, mIS, mBGet, mBSet, mNewBox, mComp, mYes, Out.bindN, bindA, env0, envA, envI, FO.outP, FO.outL, FO.out, SO.fo0, SO.foF, SO.foI, lensW, lensL, resO_some, Rs.w_v, Rs.w_f, W.rd_v, W.rd_t, W.rd_f, W.rd_l, W.kp_v, List.mapM_cons, List.mapM_nil, Option.bind_eq_bind, Option.bind_some, Option.pure_def, Option.map_some, List.replicate_succ, List.replicate_zero, List.cons_append, List.nil_append, List.getElem?_cons_zero, List.getElem?_cons_succ, List.set_cons_zero, List.set_cons_succ, rb, ri, fI, fC, fAdd, fSub, fMod, fMul, fDiv, fIx, fIsN, fNotN, D.isN, cl_lst, cl_tup, cInt, cTup, cList, gApp, gN, gT, gsC, gsN, Sl.isRef, if_true, if_false, if_pos, List.length_cons, List.length_nil, Bx.at, Bx.put, List.any_cons, List.any_nil, Bool.not_true, Bool.not_false, Nat.reduceAdd, Nat.reduceLeDiff, reduceIte, reduceCtorEq, and_self, and_true, true_and, if_s_non, if_s_bl, if_s_int, if_s_str, if_s_tup, if_s_lst, if_i_non, if_i_bl, if_i_int, if_i_str, if_i_tup, if_i_lst, if_b_non, if_b_bl, if_b_int, if_b_str, if_b_tup, if_b_lst, if_t_non, if_t_bl, if_t_int, if_t_str, if_t_tup, if_t_lst, if_l_non, if_l_bl, if_l_int, if_l_str, if_l_tup, if_l_lst, if_lt2_non, if_lt2_bl, if_lt2_int, if_lt2_str, if_lt2_tup, if_lt2_lst, mRaise, mTryAs, tryOut, mXf, mIsE, mLenO, mGetO, mIxSet, mSwapIx, ixSt, mNeg, isFO, gIns, SO.foX, SO.foJ, one_self, is1_self, at1_self, noRefAt, List.all_cons, List.all_nil, Sl.noBox, D.flat, Bool.and_self, Bool.and_true, Bool.true_and, List.zip_cons_cons, List.zip_nil_right, mTru, List.contains_nil, mIE, mIZ, mBrk, mCnt, decide_true, decide_false, Bool.false_eq_true, Bool.not_eq_true, i40, eq_str])]
      rw [seq_nx (set_v hask)]
      simp only [mSeq, mSet, mRet, mRetN, mIf, mExp, mBad, mNext, mPar, W.sl, mFor, Out.bindS, MX.bind, Out.bind, mK, mVar, mFz, mFf, mOp, mTest, mNotT, mNotV, mAndT, mOrT, mAndV, mOrV, mIfE, mChain, mNil, mCons, mTup, mLst, mCB, mFld, mFldSet, mCallP, mCallB, mMethP, mMakeP, mMut, mSl, mPart, mNoPart, mIsi, mIL, mIT, mIR, mIEn, mIS, mBGet, mBSet, mNewBox, mComp, mYes, Out.bindN, bindA, env0, envA, envI, FO.outP, FO.outL, FO.out, SO.fo0, SO.foF, SO.foI, lensW, lensL, resO_some, Rs.w_v, Rs.w_f, W.rd_v, W.rd_t, W.rd_f, W.rd_l, W.kp_v, List.mapM_cons, List.mapM_nil, Option.bind_eq_bind, Option.bind_some, Option.pure_def, Option.map_some, List.replicate_succ, List.replicate_zero, List.cons_append, List.nil_append, List.getElem?_cons_zero, List.getElem?_cons_succ, List.set_cons_zero, List.set_cons_succ, rb, ri, fI, fC, fAdd, fSub, fMod, fMul, fDiv, fIx, fIsN, fNotN, D.isN, cl_lst, cl_tup, cInt, cTup, cList, gApp, gN, gT, gsC, gsN, Sl.isRef, if_true, if_false, if_pos, List.length_cons, List.length_nil, Bx.at, Bx.put, List.any_cons, List.any_nil, Bool.not_true, Bool.not_false, Nat.reduceAdd, Nat.reduceLeDiff, reduceIte, reduceCtorEq, and_self, and_true, true_and, if_s_non, if_s_bl, if_s_int, if_s_str, if_s_tup, if_s_lst, if_i_non, if_i_bl, if_i_int, if_i_str, if_i_tup, if_i_lst, if_b_non, if_b_bl, if_b_int, if_b_str, if_b_tup, if_b_lst, if_t_non, if_t_bl, if_t_int, if_t_str, if_t_tup, if_t_lst, if_l_non, if_l_bl, if_l_int, if_l_str, if_l_tup, if_l_lst, if_lt2_non, if_lt2_bl, if_lt2_int, if_lt2_str, if_lt2_tup, if_lt2_lst, mRaise, mTryAs, tryOut, mXf, mIsE, mLenO, mGetO, mIxSet, mSwapIx, ixSt, mNeg, isFO, gIns, SO.foX, SO.foJ, one_self, is1_self, at1_self, noRefAt, List.all_cons, List.all_nil, Sl.noBox, D.flat, Bool.and_self, Bool.and_true, Bool.true_and, List.zip_cons_cons, List.zip_nil_right, mTru, List.contains_nil, mIE, mIZ, mBrk, mCnt, decide_true, decide_false, Bool.false_eq_true, Bool.not_eq_true, i40, i41, i42, i43, e1, e2, e3, e4, e5, e])]
    rfl
  · have la := (wl4 a (w_words ha)).1
    have lb := (wl4 b (w_words hb)).1
    have lc := (wl4 c (t_words hc)).1
    obtain ⟨e1, g1⟩ := add_t (x := "join ") (y := a) (by omega) (by omega)
    obtain ⟨e2, g2⟩ := add_t (x := "join " ++ a) (y := " ") (by omega) (by omega)
    obtain ⟨e3, g3⟩ := add_t (x := "join " ++ a ++ " ") (y := b) (by omega) (by omega)
    obtain ⟨e4, g4⟩ := add_t (x := "join " ++ a ++ " " ++ b) (y := " to ") (by omega) (by omega)
    obtain ⟨e5, g5⟩ := add_t (x := "join " ++ a ++ " " ++ b ++ " to ") (y := c) (by omega) (by omega)
    have e : ("join " ++ a ++ " " ++ b ++ " to " ++ c : Str) = rowT (.tup [.str "join", .str a, .str b, .str c]) := by
      refine tl_inj ?_
      simp only [rowT]
      rw [TL.join_eq, TL.tl_join, t32]
      simp only [TL.tl_append, tr4, tr2, t32, List.map_cons, List.map_nil, TL.joinL, List.append_assoc, List.cons_append, List.nil_append]
    simp only [mSeq, mSet, mRet, mRetN, mIf, mExp, mBad, mNext, mPar, W.sl, mFor, Out.bindS, MX.bind, Out.bind, mK, mVar, mFz, mFf, mOp, mTest, mNotT, mNotV, mAndT, mOrT, mAndV, mOrV, mIfE, mChain, mNil, mCons, mTup, mLst, mCB, mFld, mFldSet, mCallP, mCallB, mMethP, mMakeP, mMut, mSl, mPart, mNoPart, mIsi, mIL, mIT, mIR, mIEn, mIS, mBGet, mBSet, mNewBox, mComp, mYes, Out.bindN, bindA, env0, envA, envI, FO.outP, FO.outL, FO.out, SO.fo0, SO.foF, SO.foI, lensW, lensL, resO_some, Rs.w_v, Rs.w_f, W.rd_v, W.rd_t, W.rd_f, W.rd_l, W.kp_v, List.mapM_cons, List.mapM_nil, Option.bind_eq_bind, Option.bind_some, Option.pure_def, Option.map_some, List.replicate_succ, List.replicate_zero, List.cons_append, List.nil_append, List.getElem?_cons_zero, List.getElem?_cons_succ, List.set_cons_zero, List.set_cons_succ, rb, ri, fI, fC, fAdd, fSub, fMod, fMul, fDiv, fIx, fIsN, fNotN, D.isN, cl_lst, cl_tup, cInt, cTup, cList, gApp, gN, gT, gsC, gsN, Sl.isRef, if_true, if_false, if_pos, List.length_cons, List.length_nil, Bx.at, Bx.put, List.any_cons, List.any_nil, Bool.not_true, Bool.not_false, Nat.reduceAdd, Nat.reduceLeDiff, reduceIte, reduceCtorEq, and_self, and_true, true_and, if_s_non, if_s_bl, if_s_int, if_s_str, if_s_tup, if_s_lst, if_i_non, if_i_bl, if_i_int, if_i_str, if_i_tup, if_i_lst, if_b_non, if_b_bl, if_b_int, if_b_str, if_b_tup, if_b_lst, if_t_non, if_t_bl, if_t_int, if_t_str, if_t_tup, if_t_lst, if_l_non, if_l_bl, if_l_int, if_l_str, if_l_tup, if_l_lst, if_lt2_non, if_lt2_bl, if_lt2_int, if_lt2_str, if_lt2_tup, if_lt2_lst, mRaise, mTryAs, tryOut, mXf, mIsE, mLenO, mGetO, mIxSet, mSwapIx, ixSt, mNeg, isFO, gIns, SO.foX, SO.foJ, one_self, is1_self, at1_self, noRefAt, List.all_cons, List.all_nil, Sl.noBox, D.flat, Bool.and_self, Bool.and_true, Bool.true_and, List.zip_cons_cons, List.zip_nil_right, mTru, List.contains_nil, mIE, mIZ, mBrk, mCnt, decide_true, decide_false, Bool.false_eq_true, Bool.not_eq_true, i40, i41, i42, i43, eq_str, k2, k3, e1, e2, e3, e4, e5, e]
end
end ledmarks_k04_texts_of_rows

namespace ledmarks_k04_texts_of_rows
open PySem L2 LM
section
variable {P : Program} {K : PySem.W.Frag} {mg : Str → Option Value}
theorem fldP_v {S : Type} {Q : Addr → Bool} {f : Str} {ma : MX S W} {env e1 : List Sl} {s s1 : S} {C : Addr} {ns : List Str} {ds : List D} {d : D} (h : ma env s = .ok (.v (.ins C ns ds)) e1 s1) (hp : Q C = true) (hl : (ns.zip ds).lookup f = some d) : mFldP Q f ma env s = .ok (.v d) e1 s1 := by
  simp only [mFldP, MX.bind, Out.bind, h, hp, if_true, hl]
theorem strP_v {S : Type} {Q : Addr → Bool} {f : List D → Unit → FO Unit D} {ma : MX S W} {env e1 : List Sl} {s s1 : S} {C : Addr} {ns : List Str} {ds : List D} {y : Str} (h : ma env s = .ok (.v (.ins C ns ds)) e1 s1) (hp : Q C = true) (hf : f [.ins C ns ds] () = .ok (.str y) ()) : mStrP Q f ma env s = .ok (.v (.str y)) e1 s1 := by
  simp only [mStrP, MX.bind, Out.bind, h, hp, if_true, hf]
theorem eqP_v {S : Type} {Q : Addr → Bool} {f : List D → Unit → FO Unit D} {ma mb : MX S W} {env e1 e2 : List Sl} {s s1 s2 : S} {C C2 : Addr} {ns ns2 : List Str} {ds ds2 : List D} {b : Bool} (h : ma env s = .ok (.v (.ins C ns ds)) e1 s1) (h2 : mb e1 s1 = .ok (.v (.ins C2 ns2 ds2)) e2 s2) (hp : Q C = true) (hp2 : Q C2 = true) (hf : f [.ins C ns ds, .ins C2 ns2 ds2] () = .ok (.bl b) ()) : mEqP Q f ma mb env s = .ok (.v (.bl b)) e2 s2 := by
  simp only [mEqP, MX.bind, Out.bind, h, h2, hp, hp2, and_self, if_true, hf]
theorem neP_v {S : Type} {Q : Addr → Bool} {f : List D → Unit → FO Unit D} {ma mb : MX S W} {env e1 e2 : List Sl} {s s1 s2 : S} {C C2 : Addr} {ns ns2 : List Str} {ds ds2 : List D} {b : Bool} (h : ma env s = .ok (.v (.ins C ns ds)) e1 s1) (h2 : mb e1 s1 = .ok (.v (.ins C2 ns2 ds2)) e2 s2) (hp : Q C = true) (hp2 : Q C2 = true) (hf : f [.ins C ns ds, .ins C2 ns2 ds2] () = .ok (.bl b) ()) : mNeP Q f ma mb env s = .ok (.v (.bl (!b))) e2 s2 := by
  simp only [mNeP, MX.bind, Out.bind, h, h2, hp, hp2, and_self, if_true, hf]
/-- the classes of rows -/
def PC (T : Tx P K mg) : Addr → Bool := pC [T.c_Join, T.c_Lead, T.c_Run]
theorem pcR (T : Tx P K mg) : PC T T.c_Run = true := by simp [PC, pC]
theorem pcL (T : Tx P K mg) : PC T T.c_Lead = true := by simp [PC, pC]
theorem pcJ (T : Tx P K mg) : PC T T.c_Join = true := by simp [PC, pC]
theorem mk_ins (T : Tx P K mg) {d : D} (h : isRow4 d) : ∃ C ns es, mkRow T d = .ins C ns es ∧ PC T C = true := by
  rcases h with ⟨a, ha, b, hb, rfl⟩ | ⟨l, hl, a, ha, b, hb, rfl⟩ | ⟨a, ha, b, hb, c, hc, rfl⟩
  · exact ⟨_, _, _, rfl, pcR T⟩
  · exact ⟨_, _, _, rfl, pcL T⟩
  · exact ⟨_, _, _, rfl, pcJ T⟩
theorem join_v {ws : List Str} (h : (ws.map (·.length)).sum + ws.length ≤ 1000) : jJoin " " [.tup (ws.map .str)] = some (.v (.str (Txt.join " " ws))) := by
  have h1 : (" " : Str).length = 1 := by decide
  have h2 : (ws.map (·.length)).sum + ws.length * (" " : Str).length ≤ 16777216 := by rw [h1]; omega
  simp only [jJoin, strsD_of, Option.bind_some, h2, if_true]
theorem str_ok (T : Tx P K mg) {d : D} (h : isRow4 d) : f_Row___str__ T [mkRow T d] () = .ok (.str (rowT d)) () := by
  unfold f_Row___str__ m_Row___str__
  obtain ⟨z1, z2, z3, z4, z5, z6, z7, z8, z9⟩ := n1
  have go : ∀ {C : Addr} {ns : List Str} {es : List D} {ws : List Str}, PC T C = true → (ns.zip es).lookup ("_words" : Str) = some (D.tup (ws.map .str)) → (ws.map (·.length)).sum + ws.length ≤ 1000 → (mRet (mSm jJoin (mK (.str " ")) (mCons (mFldP (pC [T.c_Join, T.c_Lead, T.c_Run]) "_words" (mVar 0)) mNil)) : MS Unit) (env0 [.v] 0 [.ins C ns es]) () = .rt (.str (Txt.join " " ws)) [.val (.ins C ns es)] () := by
    intro C ns es ws hC hl hw
    have e1 : mFldP (pC [T.c_Join, T.c_Lead, T.c_Run]) "_words" (mVar 0) [.val (.ins C ns es)] () = .ok (.v (.tup (ws.map .str))) [.val (.ins C ns es)] () := fldP_v rfl hC hl
    have e2 := join_v hw
    simp only [mSeq, mSet, mRet, mRetN, mIf, mExp, mBad, mNext, mPar, W.sl, mFor, Out.bindS, MX.bind, Out.bind, mK, mVar, mFz, mFf, mOp, mTest, mNotT, mNotV, mAndT, mOrT, mAndV, mOrV, mIfE, mChain, mNil, mCons, mTup, mLst, mCB, mFld, mFldSet, mCallP, mCallB, mMethP, mMakeP, mMut, mSl, mPart, mNoPart, mIsi, mIL, mIT, mIR, mIEn, mIS, mBGet, mBSet, mNewBox, mComp, mYes, Out.bindN, bindA, env0, envA, envI, FO.outP, FO.outL, FO.out, SO.fo0, SO.foF, SO.foI, lensW, lensL, resO_some, Rs.w_v, Rs.w_f, W.rd_v, W.rd_t, W.rd_f, W.rd_l, W.kp_v, List.mapM_cons, List.mapM_nil, Option.bind_eq_bind, Option.bind_some, Option.pure_def, Option.map_some, List.replicate_succ, List.replicate_zero, List.cons_append, List.nil_append, List.getElem?_cons_zero, List.getElem?_cons_succ, List.set_cons_zero, List.set_cons_succ, rb, ri, fI, fC, fAdd, fSub, fMod, fMul, fDiv, fIx, fIsN, fNotN, D.isN, cl_lst, cl_tup, cInt, cTup, cList, gApp, gN, gT, gsC, gsN, Sl.isRef, if_true, if_false, if_pos, List.length_cons, List.length_nil, Bx.at, Bx.put, List.any_cons, List.any_nil, Bool.not_true, Bool.not_false, Nat.reduceAdd, Nat.reduceLeDiff, reduceIte, reduceCtorEq, and_self, and_true, true_and, if_s_non, if_s_bl, if_s_int, if_s_str, if_s_tup, if_s_lst, if_i_non, if_i_bl, if_i_int, if_i_str, if_i_tup, if_i_lst, if_b_non, if_b_bl, if_b_int, if_b_str, if_b_tup, if_b_lst, if_t_non, if_t_bl, if_t_int, if_t_str, if_t_tup, if_t_lst, if_l_non, if_l_bl, if_l_int, if_l_str, if_l_tup, if_l_lst, if_lt2_non, if_lt2_bl, if_lt2_int, if_lt2_str, if_lt2_tup, if_lt2_lst, mRaise, mTryAs, tryOut, mXf, mIsE, mLenO, mGetO, mIxSet, mSwapIx, ixSt, mNeg, isFO, gIns, SO.foX, SO.foJ, one_self, is1_self, at1_self, noRefAt, List.all_cons, List.all_nil, Sl.noBox, D.flat, Bool.and_self, Bool.and_true, Bool.true_and, List.zip_cons_cons, List.zip_nil_right, mTru, List.contains_nil, mIE, mIZ, mBrk, mCnt, decide_true, decide_false, Bool.false_eq_true, Bool.not_eq_true, mSm, e1, e2]
  rcases h with ⟨a, ha, b, hb, rfl⟩ | ⟨l, hl, a, ha, b, hb, rfl⟩ | ⟨a, ha, b, hb, c, hc, rfl⟩
  · have la := (wl4 a (w_words ha)).1
    have lb := (wl4 b (m_words hb)).1
    have e := go (ns := ["old", "then", "_words", "named"]) (es := [.str a, .str b, .tup [.str "run", .str a, .str "to", .str b], .tup ([D.str a, .str b].filter kpW)]) (ws := ["run", a, "to", b]) (pcR T) rfl (by simp only [List.map_cons, List.map_nil, List.sum_cons, List.sum_nil, List.length_cons, List.length_nil]; omega)
    exact congrArg SO.fo0 e
  · have la := (wl4 a (w_words ha)).1
    have lb := (wl4 b (m_words hb)).1
    have ll := (askl l hl).1
    have e := go (ns := ["tests", "old", "then", "_words", "named"]) (es := [.tup (l.map .str), .str a, .str b, .tup [.str "lead", .str (askT l), .str a, .str "to", .str b], .tup ([D.str a, .str b].filter kpW)]) (ws := ["lead", askT l, a, "to", b]) (pcL T) rfl (by simp only [List.map_cons, List.map_nil, List.sum_cons, List.sum_nil, List.length_cons, List.length_nil]; omega)
    have e3 := congrArg SO.fo0 e
    simp only [mkRow, rowT, strsD_of, Option.getD_some]
    exact e3
  · have la := (wl4 a (w_words ha)).1
    have lb := (wl4 b (w_words hb)).1
    have lc := (wl4 c (t_words hc)).1
    have e := go (ns := ["here", "came", "then", "_words", "named"]) (es := [.str a, .str b, .str c, .tup [.str "join", .str a, .str b, .str "to", .str c], .tup ([D.str a, .str b, .str c].filter kpW)]) (ws := ["join", a, b, "to", c]) (pcJ T) rfl (by simp only [List.map_cons, List.map_nil, List.sum_cons, List.sum_nil, List.length_cons, List.length_nil]; omega)
    exact congrArg SO.fo0 e
theorem isl3 (T : Tx P K mg) {C : Addr} (h : PC T C = true) : isL [(T.c_Join, true), (T.c_Lead, true), (T.c_Run, true)] C = some true := by
  unfold PC pC at h
  simp only [List.contains_cons, List.contains_nil, Bool.or_false, Bool.or_eq_true, beq_iff_eq] at h
  unfold isL
  simp only [List.lookup]
  cases q1 : C == T.c_Join with
  | true => rfl
  | false =>
    cases q2 : C == T.c_Lead with
    | true => rfl
    | false =>
      cases q3 : C == T.c_Run with
      | true => rfl
      | false =>
        rcases h with h | h | h
        · subst h; simp at q1
        · subst h; simp at q2
        · subst h; simp at q3
theorem eq_ok (T : Tx P K mg) {d d' : D} (h : isRow4 d) (h' : isRow4 d') : f_Row___eq__ T [mkRow T d, mkRow T d'] () = .ok (.bl (decide (rowT d = rowT d'))) () := by
  have s1 := str_ok T h
  have s2 := str_ok T h'
  obtain ⟨C, ns, es, e1, p1⟩ := mk_ins T h
  obtain ⟨C2, ns2, es2, e2, p2⟩ := mk_ins T h'
  rw [e1] at s1 ⊢
  rw [e2] at s2 ⊢
  unfold f_Row___eq__ m_Row___eq__
  have i1 : isM [(T.c_Join, true), (T.c_Lead, true), (T.c_Run, true)] (.ins C2 ns2 es2) = some true := isl3 T p2
  have a1 : mStrP (pC [T.c_Join, T.c_Lead, T.c_Run]) (f_Row___str__ T) (mVar 0) [.val (.ins C ns es), .val (.ins C2 ns2 es2)] () = .ok (.v (.str (rowT d))) [.val (.ins C ns es), .val (.ins C2 ns2 es2)] () := strP_v rfl p1 s1
  have a2 : mStrP (pC [T.c_Join, T.c_Lead, T.c_Run]) (f_Row___str__ T) (mVar 1) [.val (.ins C ns es), .val (.ins C2 ns2 es2)] () = .ok (.v (.str (rowT d'))) [.val (.ins C ns es), .val (.ins C2 ns2 es2)] () := strP_v rfl p2 s2
  simp only [mSeq, mSet, mRet, mRetN, mIf, mExp, mBad, mNext, mPar, W.sl, mFor, Out.bindS, MX.bind, Out.bind, mK, mVar, mFz, mFf, mOp, mTest, mNotT, mNotV, mAndT, mOrT, mAndV, mOrV, mIfE, mChain, mNil, mCons, mTup, mLst, mCB, mFld, mFldSet, mCallP, mCallB, mMethP, mMakeP, mMut, mSl, mPart, mNoPart, mIsi, mIL, mIT, mIR, mIEn, mIS, mBGet, mBSet, mNewBox, mComp, mYes, Out.bindN, bindA, env0, envA, envI, FO.outP, FO.outL, FO.out, SO.fo0, SO.foF, SO.foI, lensW, lensL, resO_some, Rs.w_v, Rs.w_f, W.rd_v, W.rd_t, W.rd_f, W.rd_l, W.kp_v, List.mapM_cons, List.mapM_nil, Option.bind_eq_bind, Option.bind_some, Option.pure_def, Option.map_some, List.replicate_succ, List.replicate_zero, List.cons_append, List.nil_append, List.getElem?_cons_zero, List.getElem?_cons_succ, List.set_cons_zero, List.set_cons_succ, rb, ri, fI, fC, fAdd, fSub, fMod, fMul, fDiv, fIx, fIsN, fNotN, D.isN, cl_lst, cl_tup, cInt, cTup, cList, gApp, gN, gT, gsC, gsN, Sl.isRef, if_true, if_false, if_pos, List.length_cons, List.length_nil, Bx.at, Bx.put, List.any_cons, List.any_nil, Bool.not_true, Bool.not_false, Nat.reduceAdd, Nat.reduceLeDiff, reduceIte, reduceCtorEq, and_self, and_true, true_and, if_s_non, if_s_bl, if_s_int, if_s_str, if_s_tup, if_s_lst, if_i_non, if_i_bl, if_i_int, if_i_str, if_i_tup, if_i_lst, if_b_non, if_b_bl, if_b_int, if_b_str, if_b_tup, if_b_lst, if_t_non, if_t_bl, if_t_int, if_t_str, if_t_tup, if_t_lst, if_l_non, if_l_bl, if_l_int, if_l_str, if_l_tup, if_l_lst, if_lt2_non, if_lt2_bl, if_lt2_int, if_lt2_str, if_lt2_tup, if_lt2_lst, mRaise, mTryAs, tryOut, mXf, mIsE, mLenO, mGetO, mIxSet, mSwapIx, ixSt, mNeg, isFO, gIns, SO.foX, SO.foJ, one_self, is1_self, at1_self, noRefAt, List.all_cons, List.all_nil, Sl.noBox, D.flat, Bool.and_self, Bool.and_true, Bool.true_and, List.zip_cons_cons, List.zip_nil_right, mTru, List.contains_nil, mIE, mIZ, mBrk, mCnt, decide_true, decide_false, Bool.false_eq_true, Bool.not_eq_true, i1, a1, a2, eq_str]
theorem ne_cls {K : PySem.W.Frag} {A B : Addr} (h1 : PySem.W.kitAny K (.ref A) [.ref B] = some false) (h2 : PySem.W.kitAny K (.ref B) [.ref B] = some true) : ¬ A = B := fun e => by
  subst e
  rw [h1] at h2
  cases h2
def kinds : D → List D
  | .tup (.str x :: _) => [.bl (decide ("run" = x)), .bl (decide ("lead" = x)), .bl (decide ("join" = x))]
  | _ => []
theorem lk0 {A B C X : Addr} {p q r : Bool} (h : A = X) : isL [(A, p), (B, q), (C, r)] X = some p := by
  subst h; simp [isL, List.lookup]
theorem lk1 {A B C X : Addr} {p q r : Bool} (h1 : ¬ X = A) (h : B = X) : isL [(A, p), (B, q), (C, r)] X = some q := by
  subst h; simp [isL, List.lookup, beq_false_of_ne h1]
theorem lk2 {A B C X : Addr} {p q r : Bool} (h1 : ¬ X = A) (h2 : ¬ X = B) (h : C = X) : isL [(A, p), (B, q), (C, r)] X = some r := by
  subst h; simp [isL, List.lookup, beq_false_of_ne h1, beq_false_of_ne h2]
theorem sort_ok (T : Tx P K mg) {d : D} (h : isRow4 d) : f__law_sort T [mkRow T d] () = .ok (.lst (kinds d)) () := by
  unfold f__law_sort m__law_sort
  have n1 := ne_cls T.km_Run_Join T.km_Join_Join
  have n2 := ne_cls T.km_Run_Lead T.km_Lead_Lead
  have n3 := ne_cls T.km_Lead_Join T.km_Join_Join
  rcases h with ⟨a, ha, b, hb, rfl⟩ | ⟨l, hl, a, ha, b, hb, rfl⟩ | ⟨a, ha, b, hb, c, hc, rfl⟩
  · have q : ∀ p q r : Bool, isL [(T.c_Join, p), (T.c_Lead, q), (T.c_Run, r)] T.c_Run = some r := fun p q r => lk2 n1 n2 rfl
    simp only [mSeq, mSet, mRet, mRetN, mIf, mExp, mBad, mNext, mPar, W.sl, mFor, Out.bindS, MX.bind, Out.bind, mK, mVar, mFz, mFf, mOp, mTest, mNotT, mNotV, mAndT, mOrT, mAndV, mOrV, mIfE, mChain, mNil, mCons, mTup, mLst, mCB, mFld, mFldSet, mCallP, mCallB, mMethP, mMakeP, mMut, mSl, mPart, mNoPart, mIsi, mIL, mIT, mIR, mIEn, mIS, mBGet, mBSet, mNewBox, mComp, mYes, Out.bindN, bindA, env0, envA, envI, FO.outP, FO.outL, FO.out, SO.fo0, SO.foF, SO.foI, lensW, lensL, resO_some, Rs.w_v, Rs.w_f, W.rd_v, W.rd_t, W.rd_f, W.rd_l, W.kp_v, List.mapM_cons, List.mapM_nil, Option.bind_eq_bind, Option.bind_some, Option.pure_def, Option.map_some, List.replicate_succ, List.replicate_zero, List.cons_append, List.nil_append, List.getElem?_cons_zero, List.getElem?_cons_succ, List.set_cons_zero, List.set_cons_succ, rb, ri, fI, fC, fAdd, fSub, fMod, fMul, fDiv, fIx, fIsN, fNotN, D.isN, cl_lst, cl_tup, cInt, cTup, cList, gApp, gN, gT, gsC, gsN, Sl.isRef, if_true, if_false, if_pos, List.length_cons, List.length_nil, Bx.at, Bx.put, List.any_cons, List.any_nil, Bool.not_true, Bool.not_false, Nat.reduceAdd, Nat.reduceLeDiff, reduceIte, reduceCtorEq, and_self, and_true, true_and, if_s_non, if_s_bl, if_s_int, if_s_str, if_s_tup, if_s_lst, if_i_non, if_i_bl, if_i_int, if_i_str, if_i_tup, if_i_lst, if_b_non, if_b_bl, if_b_int, if_b_str, if_b_tup, if_b_lst, if_t_non, if_t_bl, if_t_int, if_t_str, if_t_tup, if_t_lst, if_l_non, if_l_bl, if_l_int, if_l_str, if_l_tup, if_l_lst, if_lt2_non, if_lt2_bl, if_lt2_int, if_lt2_str, if_lt2_tup, if_lt2_lst, mRaise, mTryAs, tryOut, mXf, mIsE, mLenO, mGetO, mIxSet, mSwapIx, ixSt, mNeg, isFO, gIns, SO.foX, SO.foJ, one_self, is1_self, at1_self, noRefAt, List.all_cons, List.all_nil, Sl.noBox, D.flat, Bool.and_self, Bool.and_true, Bool.true_and, List.zip_cons_cons, List.zip_nil_right, mTru, List.contains_nil, mIE, mIZ, mBrk, mCnt, decide_true, decide_false, Bool.false_eq_true, Bool.not_eq_true, mkRow, isM, q]
    rfl
  · have q : ∀ p q r : Bool, isL [(T.c_Join, p), (T.c_Lead, q), (T.c_Run, r)] T.c_Lead = some q := fun p q r => lk1 n3 rfl
    simp only [mSeq, mSet, mRet, mRetN, mIf, mExp, mBad, mNext, mPar, W.sl, mFor, Out.bindS, MX.bind, Out.bind, mK, mVar, mFz, mFf, mOp, mTest, mNotT, mNotV, mAndT, mOrT, mAndV, mOrV, mIfE, mChain, mNil, mCons, mTup, mLst, mCB, mFld, mFldSet, mCallP, mCallB, mMethP, mMakeP, mMut, mSl, mPart, mNoPart, mIsi, mIL, mIT, mIR, mIEn, mIS, mBGet, mBSet, mNewBox, mComp, mYes, Out.bindN, bindA, env0, envA, envI, FO.outP, FO.outL, FO.out, SO.fo0, SO.foF, SO.foI, lensW, lensL, resO_some, Rs.w_v, Rs.w_f, W.rd_v, W.rd_t, W.rd_f, W.rd_l, W.kp_v, List.mapM_cons, List.mapM_nil, Option.bind_eq_bind, Option.bind_some, Option.pure_def, Option.map_some, List.replicate_succ, List.replicate_zero, List.cons_append, List.nil_append, List.getElem?_cons_zero, List.getElem?_cons_succ, List.set_cons_zero, List.set_cons_succ, rb, ri, fI, fC, fAdd, fSub, fMod, fMul, fDiv, fIx, fIsN, fNotN, D.isN, cl_lst, cl_tup, cInt, cTup, cList, gApp, gN, gT, gsC, gsN, Sl.isRef, if_true, if_false, if_pos, List.length_cons, List.length_nil, Bx.at, Bx.put, List.any_cons, List.any_nil, Bool.not_true, Bool.not_false, Nat.reduceAdd, Nat.reduceLeDiff, reduceIte, reduceCtorEq, and_self, and_true, true_and, if_s_non, if_s_bl, if_s_int, if_s_str, if_s_tup, if_s_lst, if_i_non, if_i_bl, if_i_int, if_i_str, if_i_tup, if_i_lst, if_b_non, if_b_bl, if_b_int, if_b_str, if_b_tup, if_b_lst, if_t_non, if_t_bl, if_t_int, if_t_str, if_t_tup, if_t_lst, if_l_non, if_l_bl, if_l_int, if_l_str, if_l_tup, if_l_lst, if_lt2_non, if_lt2_bl, if_lt2_int, if_lt2_str, if_lt2_tup, if_lt2_lst, mRaise, mTryAs, tryOut, mXf, mIsE, mLenO, mGetO, mIxSet, mSwapIx, ixSt, mNeg, isFO, gIns, SO.foX, SO.foJ, one_self, is1_self, at1_self, noRefAt, List.all_cons, List.all_nil, Sl.noBox, D.flat, Bool.and_self, Bool.and_true, Bool.true_and, List.zip_cons_cons, List.zip_nil_right, mTru, List.contains_nil, mIE, mIZ, mBrk, mCnt, decide_true, decide_false, Bool.false_eq_true, Bool.not_eq_true, mkRow, isM, q]
    rfl
  · have q : ∀ p q r : Bool, isL [(T.c_Join, p), (T.c_Lead, q), (T.c_Run, r)] T.c_Join = some p := fun p q r => lk0 rfl
    simp only [mSeq, mSet, mRet, mRetN, mIf, mExp, mBad, mNext, mPar, W.sl, mFor, Out.bindS, MX.bind, Out.bind, mK, mVar, mFz, mFf, mOp, mTest, mNotT, mNotV, mAndT, mOrT, mAndV, mOrV, mIfE, mChain, mNil, mCons, mTup, mLst, mCB, mFld, mFldSet, mCallP, mCallB, mMethP, mMakeP, mMut, mSl, mPart, mNoPart, mIsi, mIL, mIT, mIR, mIEn, mIS, mBGet, mBSet, mNewBox, mComp, mYes, Out.bindN, bindA, env0, envA, envI, FO.outP, FO.outL, FO.out, SO.fo0, SO.foF, SO.foI, lensW, lensL, resO_some, Rs.w_v, Rs.w_f, W.rd_v, W.rd_t, W.rd_f, W.rd_l, W.kp_v, List.mapM_cons, List.mapM_nil, Option.bind_eq_bind, Option.bind_some, Option.pure_def, Option.map_some, List.replicate_succ, List.replicate_zero, List.cons_append, List.nil_append, List.getElem?_cons_zero, List.getElem?_cons_succ, List.set_cons_zero, List.set_cons_succ, rb, ri, fI, fC, fAdd, fSub, fMod, fMul, fDiv, fIx, fIsN, fNotN, D.isN, cl_lst, cl_tup, cInt, cTup, cList, gApp, gN, gT, gsC, gsN, Sl.isRef, if_true, if_false, if_pos, List.length_cons, List.length_nil, Bx.at, Bx.put, List.any_cons, List.any_nil, Bool.not_true, Bool.not_false, Nat.reduceAdd, Nat.reduceLeDiff, reduceIte, reduceCtorEq, and_self, and_true, true_and, if_s_non, if_s_bl, if_s_int, if_s_str, if_s_tup, if_s_lst, if_i_non, if_i_bl, if_i_int, if_i_str, if_i_tup, if_i_lst, if_b_non, if_b_bl, if_b_int, if_b_str, if_b_tup, if_b_lst, if_t_non, if_t_bl, if_t_int, if_t_str, if_t_tup, if_t_lst, if_l_non, if_l_bl, if_l_int, if_l_str, if_l_tup, if_l_lst, if_lt2_non, if_lt2_bl, if_lt2_int, if_lt2_str, if_lt2_tup, if_lt2_lst, mRaise, mTryAs, tryOut, mXf, mIsE, mLenO, mGetO, mIxSet, mSwapIx, ixSt, mNeg, isFO, gIns, SO.foX, SO.foJ, one_self, is1_self, at1_self, noRefAt, List.all_cons, List.all_nil, Sl.noBox, D.flat, Bool.and_self, Bool.and_true, Bool.true_and, List.zip_cons_cons, List.zip_nil_right, mTru, List.contains_nil, mIE, mIZ, mBrk, mCnt, decide_true, decide_false, Bool.false_eq_true, Bool.not_eq_true, mkRow, isM, q]
    rfl
end
end ledmarks_k04_texts_of_rows

namespace ledmarks_k04_texts_of_rows
open PySem L2 LM
def isLs (o : FO Unit D) (l : List Str) : Bool := match o with
  | .ok (.lst ds) _ => decide (strsD ds = some l)
  | _ => false
theorem isLs_t {o : FO Unit D} {l : List Str} (h : isLs o l = true) : o = .ok (.lst (l.map .str)) () := by
  cases o with
  | ok d u =>
    cases d with
    | lst ds =>
      have h := of_decide_eq_true (show decide (strsD ds = some l) = true from h)
      rw [strsD_map h]
    | _ => cases h
  | _ => cases h
section
variable {P : Program} {K : PySem.W.Frag} {mg : Str → Option Value}
theorem tests_all2 (T : Tx P K mg) : (tests4.all fun l => isLs (f__tests T [.lst ((askW l).map .str)] ()) l) = true := by kernel_rfl
theorem tests_rd (T : Tx P K mg) {l : List Str} (h : l ∈ tests4) : f__tests T [.lst ((askW l).map .str)] () = .ok (.lst (l.map .str)) () := isLs_t (List.all_eq_true.mp (tests_all2 T) l h)
end
end ledmarks_k04_texts_of_rows

namespace ledmarks_k04_texts_of_rows
open PySem L2 LM
section
variable {P : Program} {K : PySem.W.Frag} {mg : Str → Option Value}
theorem joinL_app (S : List Nat) : ∀ xs ys : List (List Nat), xs ≠ [] → ys ≠ [] → TL.joinL S (xs ++ ys) = TL.joinL S xs ++ (S ++ TL.joinL S ys)
  | [], _, h, _ => absurd rfl h
  | [x], [], _, h => absurd rfl h
  | [x], y :: r, _, _ => rfl
  | x :: z :: r, ys, _, h => by
    have ih := joinL_app S (z :: r) ys (by simp) h
    show x ++ (S ++ TL.joinL S ((z :: r) ++ ys)) = _
    rw [ih]
    simp only [TL.joinL, List.append_assoc]
theorem spl {ws : List Str} (hne : ws ≠ []) (h : ∀ w ∈ ws, 32 ∉ TL.tl w) : Txt.split (Txt.join " " ws) " " = ws := TL.split_join (s := 32) (S := []) t32 (by decide +kernel) hne h
theorem spj {x : Str} {ws : List Str} (hl : x.length ≤ 1000) (h : Txt.split x " " = ws) : jSplit x [.str " "] = some (.f (ws.map .str)) := by
  have h1 : ((" " : Str).length == 0) = false ∧ x.length + 2 ≤ 16777216 := ⟨by decide, by omega⟩
  simp only [jSplit, h1, and_self, if_true, h]
theorem n32 : (32 ∉ TL.tl ("run" : Str)) ∧ (32 ∉ TL.tl ("lead" : Str)) ∧ (32 ∉ TL.tl ("join" : Str)) ∧ (32 ∉ TL.tl ("to" : Str)) := by decide +kernel
theorem at_neg {xs : List D} {k : Nat} (h0 : 0 < k) (h : k ≤ xs.length) : atI xs (-(k : Int)) = xs[xs.length - k]? := by
  unfold atI ixN
  rw [if_neg (by omega), if_pos (by omega)]
  have e : (-(k : Int) + (xs.length : Nat)).toNat = xs.length - k := by omega
  rw [e]
  rfl
/-- the words of a lead row -/
theorem lead_at {tw : List D} {a t b : D} {x : D} : atI (x :: (tw ++ [a, t, b])) 0 = some x ∧ atI (x :: (tw ++ [a, t, b])) (-1) = some b ∧ atI (x :: (tw ++ [a, t, b])) (-2) = some t ∧ atI (x :: (tw ++ [a, t, b])) (-3) = some a ∧ cutD (x :: (tw ++ [a, t, b])) (some 1) (some (-3)) = tw ∧ (x :: (tw ++ [a, t, b])).length = tw.length + 4 := by
  have hl : (x :: (tw ++ [a, t, b])).length = tw.length + 4 := by simp
  have g : ∀ k : Nat, (x :: (tw ++ [a, t, b]))[tw.length + 1 + k]? = [a, t, b][k]? := fun k => by
    rw [show tw.length + 1 + k = (tw.length + k) + 1 by omega, List.getElem?_cons_succ, List.getElem?_append_right (by omega)]
    congr 1
    omega
  refine ⟨?_, ?_, ?_, ?_, ?_, hl⟩
  · exact at_nat (x :: (tw ++ [a, t, b])) 0
  · rw [show (-1 : Int) = -((1 : Nat) : Int) from rfl, at_neg (by omega) (by omega), hl, show tw.length + 4 - 1 = tw.length + 1 + 2 by omega, g]
    rfl
  · rw [show (-2 : Int) = -((2 : Nat) : Int) from rfl, at_neg (by omega) (by omega), hl, show tw.length + 4 - 2 = tw.length + 1 + 1 by omega, g]
    rfl
  · rw [show (-3 : Int) = -((3 : Nat) : Int) from rfl, at_neg (by omega) (by omega), hl, show tw.length + 4 - 3 = tw.length + 1 + 0 by omega, g]
    rfl
  · unfold cutD
    rw [hl]
    have e1 : HT.sIx (tw.length + 4) 0 (some 1) = 1 := by
      exact (HT.sIx_nat (tw.length + 4) 0 1).trans (Nat.min_eq_left (by omega))
    have e2 : HT.sIx (tw.length + 4) (tw.length + 4) (some (-3)) = tw.length + 1 := by
      simp only [HT.sIx]
      rw [if_pos (by decide)]
      omega
    rw [e1, e2]
    show (tw ++ [a, t, b]).take (tw.length + 1 - 1) = tw
    rw [Nat.add_sub_cancel, List.take_left]
theorem row_run (T : Tx P K mg) {a b : Str} (ha : a ∈ wants4) (hb : b ∈ marks4) : f__row T [.lst (([("run" : Str), a, "to", b] : List Str).map .str)] () = .ok (mkRow T (.tup [.str "run", .str a, .str b])) () := by
  have e := f_run T ha hb
  unfold f__row m__row
  show (mSeq _ _ [.val (.lst [.str "run", .str a, .str "to", .str b]), .no] ()).fo0 = _
  rw [seq_nx (m := mSet 1 (mCB cLen (mCons (mVar 0) mNil))) (e1 := [.val (.lst [.str "run", .str a, .str "to", .str b]), .val (.int 4)]) (s1 := ()) rfl]
  simp only [mSeq, mSet, mRet, mRetN, mIf, mExp, mBad, mNext, mPar, W.sl, mFor, Out.bindS, MX.bind, Out.bind, mK, mVar, mFz, mFf, mOp, mTest, mNotT, mNotV, mAndT, mOrT, mAndV, mOrV, mIfE, mChain, mNil, mCons, mTup, mLst, mCB, mFld, mFldSet, mCallP, mCallB, mMethP, mMakeP, mMut, mSl, mPart, mNoPart, mIsi, mIL, mIT, mIR, mIEn, mIS, mBGet, mBSet, mNewBox, mComp, mYes, Out.bindN, bindA, env0, envA, envI, FO.outP, FO.outL, FO.out, SO.fo0, SO.foF, SO.foI, lensW, lensL, resO_some, Rs.w_v, Rs.w_f, W.rd_v, W.rd_t, W.rd_f, W.rd_l, W.kp_v, List.mapM_cons, List.mapM_nil, Option.bind_eq_bind, Option.bind_some, Option.pure_def, Option.map_some, List.replicate_succ, List.replicate_zero, List.cons_append, List.nil_append, List.getElem?_cons_zero, List.getElem?_cons_succ, List.set_cons_zero, List.set_cons_succ, rb, ri, fI, fC, fAdd, fSub, fMod, fMul, fDiv, fIx, fIsN, fNotN, D.isN, cl_lst, cl_tup, cInt, cTup, cList, gApp, gN, gT, gsC, gsN, Sl.isRef, if_true, if_false, if_pos, List.length_cons, List.length_nil, Bx.at, Bx.put, List.any_cons, List.any_nil, Bool.not_true, Bool.not_false, Nat.reduceAdd, Nat.reduceLeDiff, reduceIte, reduceCtorEq, and_self, and_true, true_and, if_s_non, if_s_bl, if_s_int, if_s_str, if_s_tup, if_s_lst, if_i_non, if_i_bl, if_i_int, if_i_str, if_i_tup, if_i_lst, if_b_non, if_b_bl, if_b_int, if_b_str, if_b_tup, if_b_lst, if_t_non, if_t_bl, if_t_int, if_t_str, if_t_tup, if_t_lst, if_l_non, if_l_bl, if_l_int, if_l_str, if_l_tup, if_l_lst, if_lt2_non, if_lt2_bl, if_lt2_int, if_lt2_str, if_lt2_tup, if_lt2_lst, mRaise, mTryAs, tryOut, mXf, mIsE, mLenO, mGetO, mIxSet, mSwapIx, ixSt, mNeg, isFO, gIns, SO.foX, SO.foJ, one_self, is1_self, at1_self, noRefAt, List.all_cons, List.all_nil, Sl.noBox, D.flat, Bool.and_self, Bool.and_true, Bool.true_and, List.zip_cons_cons, List.zip_nil_right, mTru, List.contains_nil, mIE, mIZ, mBrk, mCnt, decide_true, decide_false, Bool.false_eq_true, Bool.not_eq_true, i40, i41, i42, i43, eq_str, eq_int, e]
  rfl
theorem row_join (T : Tx P K mg) {a b c : Str} (ha : a ∈ wants4) (hb : b ∈ wants4) (hc : c ∈ thens4) : f__row T [.lst (([("join" : Str), a, b, "to", c] : List Str).map .str)] () = .ok (mkRow T (.tup [.str "join", .str a, .str b, .str c])) () := by
  have e := f_join T ha hb hc
  unfold f__row m__row
  show (mSeq _ _ [.val (.lst [.str "join", .str a, .str b, .str "to", .str c]), .no] ()).fo0 = _
  rw [seq_nx (m := mSet 1 (mCB cLen (mCons (mVar 0) mNil))) (e1 := [.val (.lst [.str "join", .str a, .str b, .str "to", .str c]), .val (.int 5)]) (s1 := ()) rfl]
  simp only [mSeq, mSet, mRet, mRetN, mIf, mExp, mBad, mNext, mPar, W.sl, mFor, Out.bindS, MX.bind, Out.bind, mK, mVar, mFz, mFf, mOp, mTest, mNotT, mNotV, mAndT, mOrT, mAndV, mOrV, mIfE, mChain, mNil, mCons, mTup, mLst, mCB, mFld, mFldSet, mCallP, mCallB, mMethP, mMakeP, mMut, mSl, mPart, mNoPart, mIsi, mIL, mIT, mIR, mIEn, mIS, mBGet, mBSet, mNewBox, mComp, mYes, Out.bindN, bindA, env0, envA, envI, FO.outP, FO.outL, FO.out, SO.fo0, SO.foF, SO.foI, lensW, lensL, resO_some, Rs.w_v, Rs.w_f, W.rd_v, W.rd_t, W.rd_f, W.rd_l, W.kp_v, List.mapM_cons, List.mapM_nil, Option.bind_eq_bind, Option.bind_some, Option.pure_def, Option.map_some, List.replicate_succ, List.replicate_zero, List.cons_append, List.nil_append, List.getElem?_cons_zero, List.getElem?_cons_succ, List.set_cons_zero, List.set_cons_succ, rb, ri, fI, fC, fAdd, fSub, fMod, fMul, fDiv, fIx, fIsN, fNotN, D.isN, cl_lst, cl_tup, cInt, cTup, cList, gApp, gN, gT, gsC, gsN, Sl.isRef, if_true, if_false, if_pos, List.length_cons, List.length_nil, Bx.at, Bx.put, List.any_cons, List.any_nil, Bool.not_true, Bool.not_false, Nat.reduceAdd, Nat.reduceLeDiff, reduceIte, reduceCtorEq, and_self, and_true, true_and, if_s_non, if_s_bl, if_s_int, if_s_str, if_s_tup, if_s_lst, if_i_non, if_i_bl, if_i_int, if_i_str, if_i_tup, if_i_lst, if_b_non, if_b_bl, if_b_int, if_b_str, if_b_tup, if_b_lst, if_t_non, if_t_bl, if_t_int, if_t_str, if_t_tup, if_t_lst, if_l_non, if_l_bl, if_l_int, if_l_str, if_l_tup, if_l_lst, if_lt2_non, if_lt2_bl, if_lt2_int, if_lt2_str, if_lt2_tup, if_lt2_lst, mRaise, mTryAs, tryOut, mXf, mIsE, mLenO, mGetO, mIxSet, mSwapIx, ixSt, mNeg, isFO, gIns, SO.foX, SO.foJ, one_self, is1_self, at1_self, noRefAt, List.all_cons, List.all_nil, Sl.noBox, D.flat, Bool.and_self, Bool.and_true, Bool.true_and, List.zip_cons_cons, List.zip_nil_right, mTru, List.contains_nil, mIE, mIZ, mBrk, mCnt, decide_true, decide_false, Bool.false_eq_true, Bool.not_eq_true, i50, i51, i52, i53, i54, eq_str, eq_int, e, k2, k3]
  rfl
theorem row_lead (T : Tx P K mg) {l : List Str} {a b : Str} (hl : l ∈ tests4) (ha : a ∈ wants4) (hb : b ∈ marks4) : f__row T [.lst ((("lead" : Str) :: (askW l ++ [a, "to", b])).map .str)] () = .ok (mkRow T (.tup [.str "lead", .lst (l.map .str), .str a, .str b])) () := by
  have e := f_lead T hl ha hb
  have et := tests_rd T hl
  obtain ⟨q1, q2, q3, q4, q5⟩ := askl l hl
  obtain ⟨tw, htw⟩ : ∃ tw : List D, (askW l).map D.str = tw := ⟨_, rfl⟩
  have hl0 : 0 < tw.length := by
    rw [← htw, List.length_map]
    exact List.length_pos_iff.mpr q3
  rw [htw] at et
  have hm : (("lead" : Str) :: (askW l ++ [a, "to", b])).map D.str = .str "lead" :: (tw ++ [.str a, .str "to", .str b]) := by
    rw [List.map_cons, List.map_append, htw]; rfl
  rw [hm]
  obtain ⟨c0, c1, c2, c3, c4, c5⟩ := lead_at (tw := tw) (a := .str a) (t := .str "to") (b := .str b) (x := .str "lead")
  obtain ⟨WD, hWD⟩ : ∃ WD : List D, (D.str "lead" :: (tw ++ [.str a, .str "to", .str b])) = WD := ⟨_, rfl⟩
  rw [hWD] at c0 c1 c2 c3 c4 c5 ⊢
  obtain ⟨L, hL⟩ : ∃ L : Int, (WD.length : Int) = L := ⟨_, rfl⟩
  have h4 : (4 : Int) < L := by omega
  have hcut : fSlL (.lst WD) (some 1) (some (-3)) = some (.f tw) := by
    show some (Rs.f (cutD WD (some 1) (some (-3)))) = _
    rw [c4]
  have hlen : cLen [.lst WD] = some (.v (.int L)) := by rw [← hL]; rfl
  unfold f__row m__row
  rw [show env0 [.v] 1 [.lst WD] = [.val (.lst WD), .no] from rfl]
  rw [seq_nx (e1 := [.val (.lst WD), .val (.int L)]) (s1 := ()) (set_v (e1 := [.val (.lst WD), .no]) (s1 := ()) (cb_v (w := .v (.lst WD)) (d := .lst WD) rfl rfl hlen))]
  rw [seq_nx (e1 := [.val (.lst WD), .val (.int L)]) (s1 := ()) (by simp only [mSeq, mSet, mRet, mRetN, mIf, mExp, mBad, mNext, mPar, W.sl, mFor, Out.bindS, MX.bind, Out.bind, mK, mVar, mFz, mFf, mOp, mTest, mNotT, mNotV, mAndT, mOrT, mAndV, mOrV, mIfE, mChain, mNil, mCons, mTup, mLst, mCB, mFld, mFldSet, mCallP, mCallB, mMethP, mMakeP, mMut, mSl, mPart, mNoPart, mIsi, mIL, mIT, mIR, mIEn, mIS, mBGet, mBSet, mNewBox, mComp, mYes, Out.bindN, bindA, env0, envA, envI, FO.outP, FO.outL, FO.out, SO.fo0, SO.foF, SO.foI, lensW, lensL, resO_some, Rs.w_v, Rs.w_f, W.rd_v, W.rd_t, W.rd_f, W.rd_l, W.kp_v, List.mapM_cons, List.mapM_nil, Option.bind_eq_bind, Option.bind_some, Option.pure_def, Option.map_some, List.replicate_succ, List.replicate_zero, List.cons_append, List.nil_append, List.getElem?_cons_zero, List.getElem?_cons_succ, List.set_cons_zero, List.set_cons_succ, rb, ri, fI, fC, fAdd, fSub, fMod, fMul, fDiv, fIx, fIsN, fNotN, D.isN, cl_lst, cl_tup, cInt, cTup, cList, gApp, gN, gT, gsC, gsN, Sl.isRef, if_true, if_false, if_pos, List.length_cons, List.length_nil, Bx.at, Bx.put, List.any_cons, List.any_nil, Bool.not_true, Bool.not_false, Nat.reduceAdd, Nat.reduceLeDiff, reduceIte, reduceCtorEq, and_self, and_true, true_and, if_s_non, if_s_bl, if_s_int, if_s_str, if_s_tup, if_s_lst, if_i_non, if_i_bl, if_i_int, if_i_str, if_i_tup, if_i_lst, if_b_non, if_b_bl, if_b_int, if_b_str, if_b_tup, if_b_lst, if_t_non, if_t_bl, if_t_int, if_t_str, if_t_tup, if_t_lst, if_l_non, if_l_bl, if_l_int, if_l_str, if_l_tup, if_l_lst, if_lt2_non, if_lt2_bl, if_lt2_int, if_lt2_str, if_lt2_tup, if_lt2_lst, mRaise, mTryAs, tryOut, mXf, mIsE, mLenO, mGetO, mIxSet, mSwapIx, ixSt, mNeg, isFO, gIns, SO.foX, SO.foJ, one_self, is1_self, at1_self, noRefAt, List.all_cons, List.all_nil, Sl.noBox, D.flat, Bool.and_self, Bool.and_true, Bool.true_and, List.zip_cons_cons, List.zip_nil_right, mTru, List.contains_nil, mIE, mIZ, mBrk, mCnt, decide_true, decide_false, Bool.false_eq_true, Bool.not_eq_true, c0, eq_str, k1])]
  simp only [mSeq, mSet, mRet, mRetN, mIf, mExp, mBad, mNext, mPar, W.sl, mFor, Out.bindS, MX.bind, Out.bind, mK, mVar, mFz, mFf, mOp, mTest, mNotT, mNotV, mAndT, mOrT, mAndV, mOrV, mIfE, mChain, mNil, mCons, mTup, mLst, mCB, mFld, mFldSet, mCallP, mCallB, mMethP, mMakeP, mMut, mSl, mPart, mNoPart, mIsi, mIL, mIT, mIR, mIEn, mIS, mBGet, mBSet, mNewBox, mComp, mYes, Out.bindN, bindA, env0, envA, envI, FO.outP, FO.outL, FO.out, SO.fo0, SO.foF, SO.foI, lensW, lensL, resO_some, Rs.w_v, Rs.w_f, W.rd_v, W.rd_t, W.rd_f, W.rd_l, W.kp_v, List.mapM_cons, List.mapM_nil, Option.bind_eq_bind, Option.bind_some, Option.pure_def, Option.map_some, List.replicate_succ, List.replicate_zero, List.cons_append, List.nil_append, List.getElem?_cons_zero, List.getElem?_cons_succ, List.set_cons_zero, List.set_cons_succ, rb, ri, fI, fC, fAdd, fSub, fMod, fMul, fDiv, fIx, fIsN, fNotN, D.isN, cl_lst, cl_tup, cInt, cTup, cList, gApp, gN, gT, gsC, gsN, Sl.isRef, if_true, if_false, if_pos, List.length_cons, List.length_nil, Bx.at, Bx.put, List.any_cons, List.any_nil, Bool.not_true, Bool.not_false, Nat.reduceAdd, Nat.reduceLeDiff, reduceIte, reduceCtorEq, and_self, and_true, true_and, if_s_non, if_s_bl, if_s_int, if_s_str, if_s_tup, if_s_lst, if_i_non, if_i_bl, if_i_int, if_i_str, if_i_tup, if_i_lst, if_b_non, if_b_bl, if_b_int, if_b_str, if_b_tup, if_b_lst, if_t_non, if_t_bl, if_t_int, if_t_str, if_t_tup, if_t_lst, if_l_non, if_l_bl, if_l_int, if_l_str, if_l_tup, if_l_lst, if_lt2_non, if_lt2_bl, if_lt2_int, if_lt2_str, if_lt2_tup, if_lt2_lst, mRaise, mTryAs, tryOut, mXf, mIsE, mLenO, mGetO, mIxSet, mSwapIx, ixSt, mNeg, isFO, gIns, SO.foX, SO.foJ, one_self, is1_self, at1_self, noRefAt, List.all_cons, List.all_nil, Sl.noBox, D.flat, Bool.and_self, Bool.and_true, Bool.true_and, List.zip_cons_cons, List.zip_nil_right, mTru, List.contains_nil, mIE, mIZ, mBrk, mCnt, decide_true, decide_false, Bool.false_eq_true, Bool.not_eq_true, c0, c1, c2, c3, hcut, eq_str, h4, et, e, mkRow, strsD_of, Option.getD_some, Int.reduceNeg]
theorem rowT_run (a b : Str) : rowT (.tup [.str "run", .str a, .str b]) = Txt.join " " ["run", a, "to", b] := rfl
theorem rowT_join (a b c : Str) : rowT (.tup [.str "join", .str a, .str b, .str c]) = Txt.join " " ["join", a, b, "to", c] := rfl
theorem rowT_lead {l : List Str} (hl : l ∈ tests4) (a b : Str) : rowT (.tup [.str "lead", .lst (l.map .str), .str a, .str b]) = Txt.join " " (("lead" : Str) :: (askW l ++ [a, "to", b])) := by
  obtain ⟨q1, q2, q3, q4, q5⟩ := askl l hl
  refine tl_inj ?_
  simp only [rowT, strsD_of, Option.getD_some]
  rw [TL.join_eq, TL.tl_join, TL.join_eq, TL.tl_join, t32]
  rw [show List.map TL.tl (("lead" : Str) :: (askW l ++ [a, "to", b])) = TL.tl "lead" :: ((askW l).map TL.tl ++ ([a, "to", b] : List Str).map TL.tl) from by rw [List.map_cons, List.map_append]]
  rw [show TL.tl "lead" :: ((askW l).map TL.tl ++ ([a, "to", b] : List Str).map TL.tl) = [TL.tl "lead"] ++ ((askW l).map TL.tl ++ ([a, "to", b] : List Str).map TL.tl) from rfl]
  rw [joinL_app _ [TL.tl "lead"] _ (by simp) (by simp), joinL_app _ ((askW l).map TL.tl) _ (by simpa using q3) (by simp)]
  have e : TL.joinL [32] ((askW l).map TL.tl) = TL.tl (askT l) := by
    rw [← q5, TL.join_eq, TL.tl_join, t32]
  rw [e]
  rfl
theorem len_tl (x : Str) : x.length = (TL.tl x).length := rfl
theorem rowT_len {d : D} (h : isRow4 d) : (rowT d).length ≤ 1000 := by
  have z : (TL.tl ("run" : Str)).length = 3 ∧ (TL.tl ("lead" : Str)).length = 4 ∧ (TL.tl ("join" : Str)).length = 4 ∧ (TL.tl ("to" : Str)).length = 2 := by decide
  obtain ⟨z1, z2, z3, z4⟩ := z
  rcases h with ⟨a, ha, b, hb, rfl⟩ | ⟨l, hl, a, ha, b, hb, rfl⟩ | ⟨a, ha, b, hb, c, hc, rfl⟩
  · have la := (wl4 a (w_words ha)).1
    have lb := (wl4 b (m_words hb)).1
    rw [len_tl] at la lb ⊢
    simp only [rowT]
    rw [TL.join_eq, TL.tl_join, t32]
    simp only [List.map_cons, List.map_nil, TL.joinL, List.length_append, List.length_cons, List.length_nil]
    omega
  · have la := (wl4 a (w_words ha)).1
    have lb := (wl4 b (m_words hb)).1
    have ll := (askl l hl).1
    rw [len_tl] at la lb ll ⊢
    simp only [rowT, strsD_of, Option.getD_some]
    rw [TL.join_eq, TL.tl_join, t32]
    simp only [List.map_cons, List.map_nil, TL.joinL, List.length_append, List.length_cons, List.length_nil]
    omega
  · have la := (wl4 a (w_words ha)).1
    have lb := (wl4 b (w_words hb)).1
    have lc := (wl4 c (t_words hc)).1
    rw [len_tl] at la lb lc ⊢
    simp only [rowT]
    rw [TL.join_eq, TL.tl_join, t32]
    simp only [List.map_cons, List.map_nil, TL.joinL, List.length_append, List.length_cons, List.length_nil]
    omega
theorem read_ok (T : Tx P K mg) {d : D} (h : isRow4 d) : f_Row_read T [.str (rowT d)] () = .ok (mkRow T d) () := by
  have hlen := rowT_len h
  obtain ⟨C, ns, es, em, _⟩ := mk_ins T h
  have go : ∀ ws : List Str, Txt.split (rowT d) " " = ws → f__row T [.lst (ws.map .str)] () = .ok (mkRow T d) () → f_Row_read T [.str (rowT d)] () = .ok (mkRow T d) () := by
    intro ws h1 h2
    have e1 := spj hlen h1
    rw [em] at h2 ⊢
    unfold f_Row_read m_Row_read
    simp only [mSeq, mSet, mRet, mRetN, mIf, mExp, mBad, mNext, mPar, W.sl, mFor, Out.bindS, MX.bind, Out.bind, mK, mVar, mFz, mFf, mOp, mTest, mNotT, mNotV, mAndT, mOrT, mAndV, mOrV, mIfE, mChain, mNil, mCons, mTup, mLst, mCB, mFld, mFldSet, mCallP, mCallB, mMethP, mMakeP, mMut, mSl, mPart, mNoPart, mIsi, mIL, mIT, mIR, mIEn, mIS, mBGet, mBSet, mNewBox, mComp, mYes, Out.bindN, bindA, env0, envA, envI, FO.outP, FO.outL, FO.out, SO.fo0, SO.foF, SO.foI, lensW, lensL, resO_some, Rs.w_v, Rs.w_f, W.rd_v, W.rd_t, W.rd_f, W.rd_l, W.kp_v, List.mapM_cons, List.mapM_nil, Option.bind_eq_bind, Option.bind_some, Option.pure_def, Option.map_some, List.replicate_succ, List.replicate_zero, List.cons_append, List.nil_append, List.getElem?_cons_zero, List.getElem?_cons_succ, List.set_cons_zero, List.set_cons_succ, rb, ri, fI, fC, fAdd, fSub, fMod, fMul, fDiv, fIx, fIsN, fNotN, D.isN, cl_lst, cl_tup, cInt, cTup, cList, gApp, gN, gT, gsC, gsN, Sl.isRef, if_true, if_false, if_pos, List.length_cons, List.length_nil, Bx.at, Bx.put, List.any_cons, List.any_nil, Bool.not_true, Bool.not_false, Nat.reduceAdd, Nat.reduceLeDiff, reduceIte, reduceCtorEq, and_self, and_true, true_and, if_s_non, if_s_bl, if_s_int, if_s_str, if_s_tup, if_s_lst, if_i_non, if_i_bl, if_i_int, if_i_str, if_i_tup, if_i_lst, if_b_non, if_b_bl, if_b_int, if_b_str, if_b_tup, if_b_lst, if_t_non, if_t_bl, if_t_int, if_t_str, if_t_tup, if_t_lst, if_l_non, if_l_bl, if_l_int, if_l_str, if_l_tup, if_l_lst, if_lt2_non, if_lt2_bl, if_lt2_int, if_lt2_str, if_lt2_tup, if_lt2_lst, mRaise, mTryAs, tryOut, mXf, mIsE, mLenO, mGetO, mIxSet, mSwapIx, ixSt, mNeg, isFO, gIns, SO.foX, SO.foJ, one_self, is1_self, at1_self, noRefAt, List.all_cons, List.all_nil, Sl.noBox, D.flat, Bool.and_self, Bool.and_true, Bool.true_and, List.zip_cons_cons, List.zip_nil_right, mTru, List.contains_nil, mIE, mIZ, mBrk, mCnt, decide_true, decide_false, Bool.false_eq_true, Bool.not_eq_true, mSm, e1, h2]
  obtain ⟨r1, r2, r3, r4⟩ := n32
  rcases h with ⟨a, ha, b, hb, rfl⟩ | ⟨l, hl, a, ha, b, hb, rfl⟩ | ⟨a, ha, b, hb, c, hc, rfl⟩
  · refine go [("run" : Str), a, "to", b] ?_ (row_run T ha hb)
    rw [rowT_run]
    refine spl (by simp) fun w hw => ?_
    simp only [List.mem_cons, List.not_mem_nil, or_false] at hw
    rcases hw with rfl | rfl | rfl | rfl
    · exact r1
    · exact (wl4 _ (w_words ha)).2
    · exact r4
    · exact (wl4 _ (m_words hb)).2
  · refine go (("lead" : Str) :: (askW l ++ [a, "to", b])) ?_ (row_lead T hl ha hb)
    rw [rowT_lead hl]
    refine spl (by simp) fun w hw => ?_
    simp only [List.mem_cons, List.mem_append, List.not_mem_nil, or_false] at hw
    rcases hw with rfl | hw | rfl | rfl | rfl
    · exact r2
    · exact (askl l hl).2.1 w hw
    · exact (wl4 _ (w_words ha)).2
    · exact r4
    · exact (wl4 _ (m_words hb)).2
  · refine go [("join" : Str), a, b, "to", c] ?_ (row_join T ha hb hc)
    rw [rowT_join]
    refine spl (by simp) fun w hw => ?_
    simp only [List.mem_cons, List.not_mem_nil, or_false] at hw
    rcases hw with rfl | rfl | rfl | rfl | rfl
    · exact r3
    · exact (wl4 _ (w_words ha)).2
    · exact (wl4 _ (w_words hb)).2
    · exact r4
    · exact (wl4 _ (t_words hc)).2
end
end ledmarks_k04_texts_of_rows

namespace ledmarks_k04_texts_of_rows
open PySem L2 LM
section
variable {P : Program} {K : PySem.W.Frag} {mg : Str → Option Value}
theorem eqs_strs : ∀ l m : List Str, PyData.eqvAll (pys (l.map D.str)) (pys (m.map D.str)) = decide (l = m)
  | [], [] => rfl
  | [], y :: m => rfl
  | x :: l, [] => rfl
  | x :: l, y :: m => by
    show (x == y && PyData.eqvAll (pys (l.map D.str)) (pys (m.map D.str))) = _
    rw [eqs_strs l m]
    by_cases h1 : x = y
    · subst h1
      by_cases h2 : l = m
      · subst h2; simp
      · simp [h2]
    · simp [h1]
theorem strs_inj {l m : List Str} (h : l.map D.str = m.map D.str) : l = m := by
  have := congrArg strsD h
  rw [strsD_of, strsD_of] at this
  exact Option.some.inj this
theorem h1 : (("run" : Str) == "lead") = false := by decide
theorem h2 : (("run" : Str) == "join") = false := by decide
theorem h3 : (("lead" : Str) == "run") = false := by decide
theorem h4 : (("lead" : Str) == "join") = false := by decide
theorem h5 : (("join" : Str) == "run") = false := by decide
theorem h6 : (("join" : Str) == "lead") = false := by decide
theorem eqv_rows {d d' : D} (h : isRow4 d) (h' : isRow4 d') : PyData.eqv d.py d'.py = true ↔ d = d' := by
  rcases h with ⟨a, ha, b, hb, rfl⟩ | ⟨l, hl, a, ha, b, hb, rfl⟩ | ⟨a, ha, b, hb, c, hc, rfl⟩ <;> rcases h' with ⟨a', ha', b', hb', rfl⟩ | ⟨l', hl', a', ha', b', hb', rfl⟩ | ⟨a', ha', b', hb', c', hc', rfl⟩
  all_goals simp only [D.py, pys, PyData.eqv, PyData.eqvAll, h1, h2, h3, h4, h5, h6, Bool.false_and, Bool.and_true, beq_self_eq_true, Bool.true_and, Bool.and_eq_true, beq_iff_eq, eqs_strs, decide_eq_true_eq, D.tup.injEq, D.str.injEq, D.lst.injEq, List.cons.injEq, and_true, true_and, Bool.false_eq_true, false_iff, reduceCtorEq, and_false, false_and, not_false_eq_true, not_and]
  all_goals first | done | exact ⟨fun ⟨q1, q2, q3⟩ => ⟨by rw [q1], q2, q3⟩, fun ⟨q1, q2, q3⟩ => ⟨strs_inj q1, q2, q3⟩⟩ | skip
theorem ok_row {d : D} (h : isRow4 d) : d.ok 60 = true := by
  rcases h with ⟨a, ha, b, hb, rfl⟩ | ⟨l, hl, a, ha, b, hb, rfl⟩ | ⟨a, ha, b, hb, c, hc, rfl⟩
  · rfl
  · have : oks 58 (l.map D.str) = true := oks_of fun d hd => by
      obtain ⟨x, hx, rfl⟩ := List.mem_map.mp hd
      rfl
    show (decide (0 < 60) && (true && (decide (0 < 59) && oks 58 (l.map D.str) && true))) = true
    rw [this]
    rfl
  · rfl
theorem mk_inj (T : Tx P K mg) {d d' : D} (h : isRow4 d) (h' : isRow4 d') (e : mkRow T d = mkRow T d') : d = d' := by
  rcases h with ⟨a, ha, b, hb, rfl⟩ | ⟨l, hl, a, ha, b, hb, rfl⟩ | ⟨a, ha, b, hb, c, hc, rfl⟩ <;> rcases h' with ⟨a', ha', b', hb', rfl⟩ | ⟨l', hl', a', ha', b', hb', rfl⟩ | ⟨a', ha', b', hb', c', hc', rfl⟩
  all_goals simp only [mkRow, D.ins.injEq, List.cons.injEq, D.str.injEq, D.tup.injEq, reduceCtorEq, false_and, and_false] at e
  · rw [e.2.2.1, e.2.2.2.1]
  · rw [e.2.2.1, e.2.2.2.1, e.2.2.2.2.1]
  · rw [e.2.2.1, e.2.2.2.1, e.2.2.2.2.1]
theorem txt_iff (T : Tx P K mg) {d d' : D} (h : isRow4 d) (h' : isRow4 d') : rowT d = rowT d' ↔ d = d' := by
  refine ⟨fun e => ?_, fun e => by rw [e]⟩
  have r1 := read_ok T h
  have r2 := read_ok T h'
  rw [e, r2] at r1
  refine mk_inj T h h' ?_
  injection r1 with r1
  exact r1.symm
theorem row_eq (T : Tx P K mg) {d d' : D} (h : isRow4 d) (h' : isRow4 d') : fEq d d' = some (.v (.bl (decide (rowT d = rowT d')))) := by
  unfold fEq
  rw [ok_row h, ok_row h']
  show some (Rs.v (.bl (PyData.eqv d.py d'.py))) = _
  have : PyData.eqv d.py d'.py = decide (rowT d = rowT d') := by
    rw [Bool.eq_iff_iff, eqv_rows h h', decide_eq_true_eq, txt_iff T h h']
  rw [this]
end
end ledmarks_k04_texts_of_rows

namespace ledmarks_k04_texts_of_rows
open PySem L2 LM
section
variable {P : Program} {K : PySem.W.Frag} {mg : Str → Option Value}
theorem ne_bl (b : Bool) : fNe (.bl b) (.bl b) = some (.v (.bl false)) := by cases b <;> rfl
theorem ne_s (x : Str) : fNe (.str x) (.str x) = some (.v (.bl false)) := by rw [ne_str]; simp
theorem ne_x {S : Type} {f : D → D → Option Rs} {ma mb : MX S W} {env : List Sl} {s : S} {w u : W} {d d' : D} {b : Bool} (h1 : ma env s = .ok w env s) (h2 : mb env s = .ok u env s) (r1 : w.rd env = some d) (r2 : u.rd env = some d') (hf : f d d' = some (.v (.bl b))) : mTest (mOp f ma mb) env s = .ok b env s := by
  simp only [mTest, mOp, MX.bind, Out.bind, h1, h2, r1, r2, hf, resO_some, Rs.w_v]
theorem op_x {S : Type} {f : D → D → Option Rs} {ma mb : MX S W} {env : List Sl} {s : S} {w u : W} {d d' r : D} (h1 : ma env s = .ok w env s) (h2 : mb env s = .ok u env s) (r1 : w.rd env = some d) (r2 : u.rd env = some d') (hf : f d d' = some (.v r)) : mOp f ma mb env s = .ok (.v r) env s := by
  simp only [mOp, MX.bind, Out.bind, h1, h2, r1, r2, hf, resO_some, Rs.w_v]
theorem orT_f {S : Type} {a b : MX S Bool} {env : List Sl} {s : S} (h : a env s = .ok false env s) : mOrT a b env s = b env s := by
  simp only [mOrT, MX.bind, Out.bind, h, Bool.false_eq_true, if_false]
theorem strO_v {S : Type} {C : Addr} {f : List D → Unit → FO Unit D} {ma : MX S W} {env e1 : List Sl} {s s1 : S} {ns : List Str} {ds : List D} {y : Str} (h : ma env s = .ok (.v (.ins C ns ds)) e1 s1) (hf : f [.ins C ns ds] () = .ok (.str y) ()) : mStrO C f ma env s = .ok (.v (.str y)) e1 s1 := by
  simp only [mStrO, MX.bind, Out.bind, h, if_true, hf]
theorem fldO_v {S : Type} {C : Addr} {f : Str} {ma : MX S W} {env e1 : List Sl} {s s1 : S} {ns : List Str} {ds : List D} {d : D} (h : ma env s = .ok (.v (.ins C ns ds)) e1 s1) (hl : (ns.zip ds).lookup f = some d) : mFld C f ma env s = .ok (.v d) e1 s1 := by
  simp only [mFld, MX.bind, Out.bind, h, if_true, hl]
theorem first {d : D} (h : isRow4 d) : ∃ x rest, d = .tup (.str x :: rest) := by
  rcases h with ⟨a, ha, b, hb, rfl⟩ | ⟨l, hl, a, ha, b, hb, rfl⟩ | ⟨a, ha, b, hb, c, hc, rfl⟩ <;> exact ⟨_, _, rfl⟩
theorem ne_k (p q r : Bool) : fNe (.lst [.bl p, .bl q, .bl r]) (.lst [.bl p, .bl q, .bl r]) = some (.v (.bl false)) := by cases p <;> cases q <;> cases r <;> rfl
theorem at_hd {x : D} {xs : List D} : atI (x :: xs) 0 = some x := at_nat (x :: xs) 0
theorem due_ok (T : Tx P K mg) {x : Str} {rest : List D} {A x2 x3 x5 x6 x7 x8 x9 x10 : Sl} {s : Option Bd} (hr : x2.isRef = x2.isRef) :
    (mComp (mIT (mTup (mCons (mK (.str "run")) (mCons (mK (.str "lead")) (mCons (mK (.str "join")) mNil))))) [11] (gN 11) mYes (mOp fEq (mVar 11) (mOp fIx (mVar 4) (mK (.int 0)))) : MX (Option Bd) W) [A, .box, x2, x3, .val (.tup (.str x :: rest)), x5, x6, x7, x8, x9, x10, .no] s
      = .ok (.f [.bl (decide ("run" = x)), .bl (decide ("lead" = x)), .bl (decide ("join" = x))]) [A, .box, x2, x3, .val (.tup (.str x :: rest)), x5, x6, x7, x8, x9, x10, .no] s := by
  refine (comp_x (xs := [.str "run", .str "lead", .str "join"]) (e1 := [A, .box, x2, x3, .val (.tup (.str x :: rest)), x5, x6, x7, x8, x9, x10, .no]) (s1 := s) (by simp only [mSeq, mSet, mRet, mRetN, mIf, mExp, mBad, mNext, mPar, W.sl, mFor, Out.bindS, MX.bind, Out.bind, mK, mVar, mFz, mFf, mOp, mTest, mNotT, mNotV, mAndT, mOrT, mAndV, mOrV, mIfE, mChain, mNil, mCons, mTup, mLst, mCB, mFld, mFldSet, mCallP, mCallB, mMethP, mMakeP, mMut, mSl, mPart, mNoPart, mIsi, mIL, mIT, mIR, mIEn, mIS, mBGet, mBSet, mNewBox, mComp, mYes, Out.bindN, bindA, env0, envA, envI, FO.outP, FO.outL, FO.out, SO.fo0, SO.foF, SO.foI, lensW, lensL, resO_some, Rs.w_v, Rs.w_f, W.rd_v, W.rd_t, W.rd_f, W.rd_l, W.kp_v, List.mapM_cons, List.mapM_nil, Option.bind_eq_bind, Option.bind_some, Option.pure_def, Option.map_some, List.replicate_succ, List.replicate_zero, List.cons_append, List.nil_append, List.getElem?_cons_zero, List.getElem?_cons_succ, List.set_cons_zero, List.set_cons_succ, rb, ri, fI, fC, fAdd, fSub, fMod, fMul, fDiv, fIx, fIsN, fNotN, D.isN, cl_lst, cl_tup, cInt, cTup, cList, gApp, gN, gT, gsC, gsN, Sl.isRef, if_true, if_false, if_pos, List.length_cons, List.length_nil, Bx.at, Bx.put, List.any_cons, List.any_nil, Bool.not_true, Bool.not_false, Nat.reduceAdd, Nat.reduceLeDiff, reduceIte, reduceCtorEq, and_self, and_true, true_and, if_s_non, if_s_bl, if_s_int, if_s_str, if_s_tup, if_s_lst, if_i_non, if_i_bl, if_i_int, if_i_str, if_i_tup, if_i_lst, if_b_non, if_b_bl, if_b_int, if_b_str, if_b_tup, if_b_lst, if_t_non, if_t_bl, if_t_int, if_t_str, if_t_tup, if_t_lst, if_l_non, if_l_bl, if_l_int, if_l_str, if_l_tup, if_l_lst, if_lt2_non, if_lt2_bl, if_lt2_int, if_lt2_str, if_lt2_tup, if_lt2_lst, mRaise, mTryAs, tryOut, mXf, mIsE, mLenO, mGetO, mIxSet, mSwapIx, ixSt, mNeg, isFO, gIns, SO.foX, SO.foJ, one_self, is1_self, at1_self, noRefAt, List.all_cons, List.all_nil, Sl.noBox, D.flat, Bool.and_self, Bool.and_true, Bool.true_and, List.zip_cons_cons, List.zip_nil_right, mTru, List.contains_nil, mIE, mIZ, mBrk, mCnt, decide_true, decide_false, Bool.false_eq_true, Bool.not_eq_true]) rfl).trans ?_
  have z := comp_map (S := Option Bd) (vs := [11]) (g := gN 11) (mt := mYes) (me := mOp fEq (mVar 11) (mOp fIx (mVar 4) (mK (.int 0)))) (f := fun d => match d with | .str w => .bl (decide (w = x)) | _ => .non) (L := [.str "run", .str "lead", .str "join"]) [A, .box, x2, x3, .val (.tup (.str x :: rest)), x5, x6, x7, x8, x9, x10, .no] s (fun d hd => by
    obtain ⟨w, rfl⟩ : ∃ w : Str, d = .str w := by
      simp only [List.mem_cons, List.not_mem_nil, or_false] at hd
      rcases hd with rfl | rfl | rfl <;> exact ⟨_, rfl⟩
    refine ⟨[A, .box, x2, x3, .val (.tup (.str x :: rest)), x5, x6, x7, x8, x9, x10, .val (.str w)], [A, .box, x2, x3, .val (.tup (.str x :: rest)), x5, x6, x7, x8, x9, x10, .val (.str w)], [A, .box, x2, x3, .val (.tup (.str x :: rest)), x5, x6, x7, x8, x9, x10, .val (.str w)], .v (.bl (decide (w = x))), rfl, rfl, ?_, rfl, rfl, rfl⟩
    simp only [mSeq, mSet, mRet, mRetN, mIf, mExp, mBad, mNext, mPar, W.sl, mFor, Out.bindS, MX.bind, Out.bind, mK, mVar, mFz, mFf, mOp, mTest, mNotT, mNotV, mAndT, mOrT, mAndV, mOrV, mIfE, mChain, mNil, mCons, mTup, mLst, mCB, mFld, mFldSet, mCallP, mCallB, mMethP, mMakeP, mMut, mSl, mPart, mNoPart, mIsi, mIL, mIT, mIR, mIEn, mIS, mBGet, mBSet, mNewBox, mComp, mYes, Out.bindN, bindA, env0, envA, envI, FO.outP, FO.outL, FO.out, SO.fo0, SO.foF, SO.foI, lensW, lensL, resO_some, Rs.w_v, Rs.w_f, W.rd_v, W.rd_t, W.rd_f, W.rd_l, W.kp_v, List.mapM_cons, List.mapM_nil, Option.bind_eq_bind, Option.bind_some, Option.pure_def, Option.map_some, List.replicate_succ, List.replicate_zero, List.cons_append, List.nil_append, List.getElem?_cons_zero, List.getElem?_cons_succ, List.set_cons_zero, List.set_cons_succ, rb, ri, fI, fC, fAdd, fSub, fMod, fMul, fDiv, fIx, fIsN, fNotN, D.isN, cl_lst, cl_tup, cInt, cTup, cList, gApp, gN, gT, gsC, gsN, Sl.isRef, if_true, if_false, if_pos, List.length_cons, List.length_nil, Bx.at, Bx.put, List.any_cons, List.any_nil, Bool.not_true, Bool.not_false, Nat.reduceAdd, Nat.reduceLeDiff, reduceIte, reduceCtorEq, and_self, and_true, true_and, if_s_non, if_s_bl, if_s_int, if_s_str, if_s_tup, if_s_lst, if_i_non, if_i_bl, if_i_int, if_i_str, if_i_tup, if_i_lst, if_b_non, if_b_bl, if_b_int, if_b_str, if_b_tup, if_b_lst, if_t_non, if_t_bl, if_t_int, if_t_str, if_t_tup, if_t_lst, if_l_non, if_l_bl, if_l_int, if_l_str, if_l_tup, if_l_lst, if_lt2_non, if_lt2_bl, if_lt2_int, if_lt2_str, if_lt2_tup, if_lt2_lst, mRaise, mTryAs, tryOut, mXf, mIsE, mLenO, mGetO, mIxSet, mSwapIx, ixSt, mNeg, isFO, gIns, SO.foX, SO.foJ, one_self, is1_self, at1_self, noRefAt, List.all_cons, List.all_nil, Sl.noBox, D.flat, Bool.and_self, Bool.and_true, Bool.true_and, List.zip_cons_cons, List.zip_nil_right, mTru, List.contains_nil, mIE, mIZ, mBrk, mCnt, decide_true, decide_false, Bool.false_eq_true, Bool.not_eq_true, at_hd, eq_str]) [] (by simp)
  exact z
theorem turn_ok (T : Tx P K mg) (A x2 x3 x4 x5 x6 x7 x8 x9 x10 : Sl) (t : Bd) (ht : t.gr.length ≤ 63) (h4 : x4.isRef = false) (h5 : x5.isRef = false) :
    ∃ y3 y4 y5 y6 y7 y8 y9 y10 t', (mSeq (mSet 3 (mCallB lensDW [.b, .v] (f__law_marks T) (mCons (mVar 1) (mCons (mK (.int 5)) mNil))))
    (mSeq (mSetG (gT 2 (gsC (gN 4) (gsC (gN 5) gsN))) (mTup (mCons (mCallB lensDW [.b, .v] (f__law_row T) (mCons (mVar 1) (mCons (mVar 3) mNil))) (mCons (mCallB lensDW [.b, .v] (f__law_row T) (mCons (mVar 1) (mCons (mVar 3) mNil))) mNil))))
    (mSeq (mPar 6 7 (mCallP [.v] (f__law_made T) (mCons (mVar 4) mNil)) (mCallP [.v] (f__law_row_text T) (mCons (mVar 4) mNil)))
    (mSeq (mSet 8 (mCallP [.v] (f__law_row_text T) (mCons (mVar 5) mNil)))
    (mSeq (mSet 9 (mCallP [.v] (f_Row_read T) (mCons (mVar 7) mNil)))
    (mSeq (mIf (mOrT (mTest (mOp fNe (mStrP (pC [T.c_Join, T.c_Lead, T.c_Run]) (f_Row___str__ T) (mVar 6)) (mVar 7))) (mOrT (mTest (mOp fNe (mStrP (pC [T.c_Join, T.c_Lead, T.c_Run]) (f_Row___str__ T) (mVar 9)) (mVar 7))) (mOrT (mTest (mNeP (pC [T.c_Join, T.c_Lead, T.c_Run]) (f_Row___eq__ T) (mVar 9) (mVar 6))) (mTest (mOp fNe (mStrP (pC [T.c_Join, T.c_Lead, T.c_Run]) (f_Row___str__ T) (mCallP [.v] (f_Row_read T) (mCons (mVar 8) mNil))) (mVar 8)))))) (mRet (mK (.bl false))) mNext)
    (mSeq (mSet 10 (mComp (mIT (mTup (mCons (mK (.str "run")) (mCons (mK (.str "lead")) (mCons (mK (.str "join")) mNil))))) [11] (gN 11) mYes (mOp fEq (mVar 11) (mOp fIx (mVar 4) (mK (.int 0))))))
    (mSeq (mIf (mOrT (mTest (mOp fNe (mCallP [.v] (f__law_sort T) (mCons (mVar 6) mNil)) (mVar 10))) (mTest (mOp fNe (mCallP [.v] (f__law_sort T) (mCons (mVar 9) mNil)) (mVar 10)))) (mRet (mK (.bl false))) mNext)
    (mIf (mOrT (mTest (mOp fNe (mOp fEq (mVar 4) (mVar 5)) (mOp fEq (mVar 7) (mVar 8)))) (mTest (mOp fNe (mEqP (pC [T.c_Join, T.c_Lead, T.c_Run]) (f_Row___eq__ T) (mVar 6) (mCallP [.v] (f__law_made T) (mCons (mVar 5) mNil))) (mOp fEq (mVar 4) (mVar 5))))) (mRet (mK (.bl false))) mNext)))))))) : MS (Option Bd)) [A, .box, x2, x3, x4, x5, x6, x7, x8, x9, x10, .no] (some t)
      = .nx [A, .box, x2, y3, y4, y5, y6, y7, y8, y9, y10, .no] (some t') ∧ t'.gr.length ≤ 63 ∧ y4.isRef = false ∧ y5.isRef = false := by
  obtain ⟨ms, t1, e1, hl, hm, ht1⟩ := marks_ok T t ht
  obtain ⟨d, t2, e2, hd, ht2⟩ := row_ok T ms t1 ht1 hl hm
  obtain ⟨o, t3, e3, ho, ht3⟩ := row_ok T ms t2 ht2 hl hm
  rw [seq_nx (e1 := [A, .box, x2, .val (.lst ms), x4, x5, x6, x7, x8, x9, x10, .no]) (s1 := some t1) (by simp only [mSeq, mSet, mRet, mRetN, mIf, mExp, mBad, mNext, mPar, W.sl, mFor, Out.bindS, MX.bind, Out.bind, mK, mVar, mFz, mFf, mOp, mTest, mNotT, mNotV, mAndT, mOrT, mAndV, mOrV, mIfE, mChain, mNil, mCons, mTup, mLst, mCB, mFld, mFldSet, mCallP, mCallB, mMethP, mMakeP, mMut, mSl, mPart, mNoPart, mIsi, mIL, mIT, mIR, mIEn, mIS, mBGet, mBSet, mNewBox, mComp, mYes, Out.bindN, bindA, env0, envA, envI, FO.outP, FO.outL, FO.out, SO.fo0, SO.foF, SO.foI, lensW, lensL, resO_some, Rs.w_v, Rs.w_f, W.rd_v, W.rd_t, W.rd_f, W.rd_l, W.kp_v, List.mapM_cons, List.mapM_nil, Option.bind_eq_bind, Option.bind_some, Option.pure_def, Option.map_some, List.replicate_succ, List.replicate_zero, List.cons_append, List.nil_append, List.getElem?_cons_zero, List.getElem?_cons_succ, List.set_cons_zero, List.set_cons_succ, rb, ri, fI, fC, fAdd, fSub, fMod, fMul, fDiv, fIx, fIsN, fNotN, D.isN, cl_lst, cl_tup, cInt, cTup, cList, gApp, gN, gT, gsC, gsN, Sl.isRef, if_true, if_false, if_pos, List.length_cons, List.length_nil, Bx.at, Bx.put, List.any_cons, List.any_nil, Bool.not_true, Bool.not_false, Nat.reduceAdd, Nat.reduceLeDiff, reduceIte, reduceCtorEq, and_self, and_true, true_and, if_s_non, if_s_bl, if_s_int, if_s_str, if_s_tup, if_s_lst, if_i_non, if_i_bl, if_i_int, if_i_str, if_i_tup, if_i_lst, if_b_non, if_b_bl, if_b_int, if_b_str, if_b_tup, if_b_lst, if_t_non, if_t_bl, if_t_int, if_t_str, if_t_tup, if_t_lst, if_l_non, if_l_bl, if_l_int, if_l_str, if_l_tup, if_l_lst, if_lt2_non, if_lt2_bl, if_lt2_int, if_lt2_str, if_lt2_tup, if_lt2_lst, mRaise, mTryAs, tryOut, mXf, mIsE, mLenO, mGetO, mIxSet, mSwapIx, ixSt, mNeg, isFO, gIns, SO.foX, SO.foJ, one_self, is1_self, at1_self, noRefAt, List.all_cons, List.all_nil, Sl.noBox, D.flat, Bool.and_self, Bool.and_true, Bool.true_and, List.zip_cons_cons, List.zip_nil_right, mTru, List.contains_nil, mIE, mIZ, mBrk, mCnt, decide_true, decide_false, Bool.false_eq_true, Bool.not_eq_true, e1, lensDW])]
  have tpx : (mTup (mCons (mCallB lensDW [.b, .v] (f__law_row T) (mCons (mVar 1) (mCons (mVar 3) mNil))) (mCons (mCallB lensDW [.b, .v] (f__law_row T) (mCons (mVar 1) (mCons (mVar 3) mNil))) mNil)) : MX (Option Bd) W) [A, .box, x2, .val (.lst ms), x4, x5, x6, x7, x8, x9, x10, .no] (some t1) = .ok (.v (.tup [d, o])) [A, .box, x2, .val (.lst ms), x4, x5, x6, x7, x8, x9, x10, .no] (some t3) := by simp only [mSeq, mSet, mRet, mRetN, mIf, mExp, mBad, mNext, mPar, W.sl, mFor, Out.bindS, MX.bind, Out.bind, mK, mVar, mFz, mFf, mOp, mTest, mNotT, mNotV, mAndT, mOrT, mAndV, mOrV, mIfE, mChain, mNil, mCons, mTup, mLst, mCB, mFld, mFldSet, mCallP, mCallB, mMethP, mMakeP, mMut, mSl, mPart, mNoPart, mIsi, mIL, mIT, mIR, mIEn, mIS, mBGet, mBSet, mNewBox, mComp, mYes, Out.bindN, bindA, env0, envA, envI, FO.outP, FO.outL, FO.out, SO.fo0, SO.foF, SO.foI, lensW, lensL, resO_some, Rs.w_v, Rs.w_f, W.rd_v, W.rd_t, W.rd_f, W.rd_l, W.kp_v, List.mapM_cons, List.mapM_nil, Option.bind_eq_bind, Option.bind_some, Option.pure_def, Option.map_some, List.replicate_succ, List.replicate_zero, List.cons_append, List.nil_append, List.getElem?_cons_zero, List.getElem?_cons_succ, List.set_cons_zero, List.set_cons_succ, rb, ri, fI, fC, fAdd, fSub, fMod, fMul, fDiv, fIx, fIsN, fNotN, D.isN, cl_lst, cl_tup, cInt, cTup, cList, gApp, gN, gT, gsC, gsN, Sl.isRef, if_true, if_false, if_pos, List.length_cons, List.length_nil, Bx.at, Bx.put, List.any_cons, List.any_nil, Bool.not_true, Bool.not_false, Nat.reduceAdd, Nat.reduceLeDiff, reduceIte, reduceCtorEq, and_self, and_true, true_and, if_s_non, if_s_bl, if_s_int, if_s_str, if_s_tup, if_s_lst, if_i_non, if_i_bl, if_i_int, if_i_str, if_i_tup, if_i_lst, if_b_non, if_b_bl, if_b_int, if_b_str, if_b_tup, if_b_lst, if_t_non, if_t_bl, if_t_int, if_t_str, if_t_tup, if_t_lst, if_l_non, if_l_bl, if_l_int, if_l_str, if_l_tup, if_l_lst, if_lt2_non, if_lt2_bl, if_lt2_int, if_lt2_str, if_lt2_tup, if_lt2_lst, mRaise, mTryAs, tryOut, mXf, mIsE, mLenO, mGetO, mIxSet, mSwapIx, ixSt, mNeg, isFO, gIns, SO.foX, SO.foJ, one_self, is1_self, at1_self, noRefAt, List.all_cons, List.all_nil, Sl.noBox, D.flat, Bool.and_self, Bool.and_true, Bool.true_and, List.zip_cons_cons, List.zip_nil_right, mTru, List.contains_nil, mIE, mIZ, mBrk, mCnt, decide_true, decide_false, Bool.false_eq_true, Bool.not_eq_true, e2, e3, lensDW]
  have sg : (mSetG (gT 2 (gsC (gN 4) (gsC (gN 5) gsN))) (mTup (mCons (mCallB lensDW [.b, .v] (f__law_row T) (mCons (mVar 1) (mCons (mVar 3) mNil))) (mCons (mCallB lensDW [.b, .v] (f__law_row T) (mCons (mVar 1) (mCons (mVar 3) mNil))) mNil))) : MS (Option Bd)) [A, .box, x2, .val (.lst ms), x4, x5, x6, x7, x8, x9, x10, .no] (some t1) = .nx [A, .box, x2, .val (.lst ms), .val d, .val o, x6, x7, x8, x9, x10, .no] (some t3) := by
    simp only [mSetG, Out.bindS, tpx, gT, gsC, gN, gsN, List.length_cons, List.length_nil, Nat.reduceAdd, if_true, List.getElem?_cons_zero, List.getElem?_cons_succ, h4, h5, Bool.false_eq_true, if_false, List.set_cons_zero, List.set_cons_succ, Option.bind_some]
  rw [seq_nx sg]
  have f1 := made_ok T hd
  have f2 := text_ok T hd
  have f3 := text_ok T ho
  have f4 := read_ok T hd
  have f5 := read_ok T ho
  have f6 := made_ok T ho
  have g1 := str_ok T hd
  have g2 := str_ok T ho
  have g3 := eq_ok T hd hd
  have g4 := eq_ok T hd ho
  have g5 := sort_ok T hd
  have g6 := row_eq T hd ho
  obtain ⟨x, rest, hx⟩ := first hd
  obtain ⟨C, ns, es, m1, p1⟩ := mk_ins T hd
  obtain ⟨C2, ns2, es2, m2, p2⟩ := mk_ins T ho
  have hk : kinds d = [.bl (decide ("run" = x)), .bl (decide ("lead" = x)), .bl (decide ("join" = x))] := by rw [hx]; rfl
  rw [hk] at g5
  rw [m1] at f1 f4 g1 g3 g4 g5
  rw [m2] at f5 f6 g2 g4
  obtain ⟨td, htd⟩ : ∃ td, rowT d = td := ⟨_, rfl⟩
  obtain ⟨to, hto⟩ : ∃ to, rowT o = to := ⟨_, rfl⟩
  rw [htd] at f2 f4 g1 g3 g4 g6
  rw [hto] at f3 f5 g2 g4 g6
  rw [seq_nx (e1 := [A, .box, x2, .val (.lst ms), .val d, .val o, .val (.ins C ns es), .val (.str td), x8, x9, x10, .no]) (s1 := some t3) (by simp only [mSeq, mSet, mRet, mRetN, mIf, mExp, mBad, mNext, mPar, W.sl, mFor, Out.bindS, MX.bind, Out.bind, mK, mVar, mFz, mFf, mOp, mTest, mNotT, mNotV, mAndT, mOrT, mAndV, mOrV, mIfE, mChain, mNil, mCons, mTup, mLst, mCB, mFld, mFldSet, mCallP, mCallB, mMethP, mMakeP, mMut, mSl, mPart, mNoPart, mIsi, mIL, mIT, mIR, mIEn, mIS, mBGet, mBSet, mNewBox, mComp, mYes, Out.bindN, bindA, env0, envA, envI, FO.outP, FO.outL, FO.out, SO.fo0, SO.foF, SO.foI, lensW, lensL, resO_some, Rs.w_v, Rs.w_f, W.rd_v, W.rd_t, W.rd_f, W.rd_l, W.kp_v, List.mapM_cons, List.mapM_nil, Option.bind_eq_bind, Option.bind_some, Option.pure_def, Option.map_some, List.replicate_succ, List.replicate_zero, List.cons_append, List.nil_append, List.getElem?_cons_zero, List.getElem?_cons_succ, List.set_cons_zero, List.set_cons_succ, rb, ri, fI, fC, fAdd, fSub, fMod, fMul, fDiv, fIx, fIsN, fNotN, D.isN, cl_lst, cl_tup, cInt, cTup, cList, gApp, gN, gT, gsC, gsN, Sl.isRef, if_true, if_false, if_pos, List.length_cons, List.length_nil, Bx.at, Bx.put, List.any_cons, List.any_nil, Bool.not_true, Bool.not_false, Nat.reduceAdd, Nat.reduceLeDiff, reduceIte, reduceCtorEq, and_self, and_true, true_and, if_s_non, if_s_bl, if_s_int, if_s_str, if_s_tup, if_s_lst, if_i_non, if_i_bl, if_i_int, if_i_str, if_i_tup, if_i_lst, if_b_non, if_b_bl, if_b_int, if_b_str, if_b_tup, if_b_lst, if_t_non, if_t_bl, if_t_int, if_t_str, if_t_tup, if_t_lst, if_l_non, if_l_bl, if_l_int, if_l_str, if_l_tup, if_l_lst, if_lt2_non, if_lt2_bl, if_lt2_int, if_lt2_str, if_lt2_tup, if_lt2_lst, mRaise, mTryAs, tryOut, mXf, mIsE, mLenO, mGetO, mIxSet, mSwapIx, ixSt, mNeg, isFO, gIns, SO.foX, SO.foJ, one_self, is1_self, at1_self, noRefAt, List.all_cons, List.all_nil, Sl.noBox, D.flat, Bool.and_self, Bool.and_true, Bool.true_and, List.zip_cons_cons, List.zip_nil_right, mTru, List.contains_nil, mIE, mIZ, mBrk, mCnt, decide_true, decide_false, Bool.false_eq_true, Bool.not_eq_true, f1, f2])]
  rw [seq_nx (e1 := [A, .box, x2, .val (.lst ms), .val d, .val o, .val (.ins C ns es), .val (.str td), .val (.str to), x9, x10, .no]) (s1 := some t3) (by simp only [mSeq, mSet, mRet, mRetN, mIf, mExp, mBad, mNext, mPar, W.sl, mFor, Out.bindS, MX.bind, Out.bind, mK, mVar, mFz, mFf, mOp, mTest, mNotT, mNotV, mAndT, mOrT, mAndV, mOrV, mIfE, mChain, mNil, mCons, mTup, mLst, mCB, mFld, mFldSet, mCallP, mCallB, mMethP, mMakeP, mMut, mSl, mPart, mNoPart, mIsi, mIL, mIT, mIR, mIEn, mIS, mBGet, mBSet, mNewBox, mComp, mYes, Out.bindN, bindA, env0, envA, envI, FO.outP, FO.outL, FO.out, SO.fo0, SO.foF, SO.foI, lensW, lensL, resO_some, Rs.w_v, Rs.w_f, W.rd_v, W.rd_t, W.rd_f, W.rd_l, W.kp_v, List.mapM_cons, List.mapM_nil, Option.bind_eq_bind, Option.bind_some, Option.pure_def, Option.map_some, List.replicate_succ, List.replicate_zero, List.cons_append, List.nil_append, List.getElem?_cons_zero, List.getElem?_cons_succ, List.set_cons_zero, List.set_cons_succ, rb, ri, fI, fC, fAdd, fSub, fMod, fMul, fDiv, fIx, fIsN, fNotN, D.isN, cl_lst, cl_tup, cInt, cTup, cList, gApp, gN, gT, gsC, gsN, Sl.isRef, if_true, if_false, if_pos, List.length_cons, List.length_nil, Bx.at, Bx.put, List.any_cons, List.any_nil, Bool.not_true, Bool.not_false, Nat.reduceAdd, Nat.reduceLeDiff, reduceIte, reduceCtorEq, and_self, and_true, true_and, if_s_non, if_s_bl, if_s_int, if_s_str, if_s_tup, if_s_lst, if_i_non, if_i_bl, if_i_int, if_i_str, if_i_tup, if_i_lst, if_b_non, if_b_bl, if_b_int, if_b_str, if_b_tup, if_b_lst, if_t_non, if_t_bl, if_t_int, if_t_str, if_t_tup, if_t_lst, if_l_non, if_l_bl, if_l_int, if_l_str, if_l_tup, if_l_lst, if_lt2_non, if_lt2_bl, if_lt2_int, if_lt2_str, if_lt2_tup, if_lt2_lst, mRaise, mTryAs, tryOut, mXf, mIsE, mLenO, mGetO, mIxSet, mSwapIx, ixSt, mNeg, isFO, gIns, SO.foX, SO.foJ, one_self, is1_self, at1_self, noRefAt, List.all_cons, List.all_nil, Sl.noBox, D.flat, Bool.and_self, Bool.and_true, Bool.true_and, List.zip_cons_cons, List.zip_nil_right, mTru, List.contains_nil, mIE, mIZ, mBrk, mCnt, decide_true, decide_false, Bool.false_eq_true, Bool.not_eq_true, f3])]
  rw [seq_nx (e1 := [A, .box, x2, .val (.lst ms), .val d, .val o, .val (.ins C ns es), .val (.str td), .val (.str to), .val (.ins C ns es), x10, .no]) (s1 := some t3) (by simp only [mSeq, mSet, mRet, mRetN, mIf, mExp, mBad, mNext, mPar, W.sl, mFor, Out.bindS, MX.bind, Out.bind, mK, mVar, mFz, mFf, mOp, mTest, mNotT, mNotV, mAndT, mOrT, mAndV, mOrV, mIfE, mChain, mNil, mCons, mTup, mLst, mCB, mFld, mFldSet, mCallP, mCallB, mMethP, mMakeP, mMut, mSl, mPart, mNoPart, mIsi, mIL, mIT, mIR, mIEn, mIS, mBGet, mBSet, mNewBox, mComp, mYes, Out.bindN, bindA, env0, envA, envI, FO.outP, FO.outL, FO.out, SO.fo0, SO.foF, SO.foI, lensW, lensL, resO_some, Rs.w_v, Rs.w_f, W.rd_v, W.rd_t, W.rd_f, W.rd_l, W.kp_v, List.mapM_cons, List.mapM_nil, Option.bind_eq_bind, Option.bind_some, Option.pure_def, Option.map_some, List.replicate_succ, List.replicate_zero, List.cons_append, List.nil_append, List.getElem?_cons_zero, List.getElem?_cons_succ, List.set_cons_zero, List.set_cons_succ, rb, ri, fI, fC, fAdd, fSub, fMod, fMul, fDiv, fIx, fIsN, fNotN, D.isN, cl_lst, cl_tup, cInt, cTup, cList, gApp, gN, gT, gsC, gsN, Sl.isRef, if_true, if_false, if_pos, List.length_cons, List.length_nil, Bx.at, Bx.put, List.any_cons, List.any_nil, Bool.not_true, Bool.not_false, Nat.reduceAdd, Nat.reduceLeDiff, reduceIte, reduceCtorEq, and_self, and_true, true_and, if_s_non, if_s_bl, if_s_int, if_s_str, if_s_tup, if_s_lst, if_i_non, if_i_bl, if_i_int, if_i_str, if_i_tup, if_i_lst, if_b_non, if_b_bl, if_b_int, if_b_str, if_b_tup, if_b_lst, if_t_non, if_t_bl, if_t_int, if_t_str, if_t_tup, if_t_lst, if_l_non, if_l_bl, if_l_int, if_l_str, if_l_tup, if_l_lst, if_lt2_non, if_lt2_bl, if_lt2_int, if_lt2_str, if_lt2_tup, if_lt2_lst, mRaise, mTryAs, tryOut, mXf, mIsE, mLenO, mGetO, mIxSet, mSwapIx, ixSt, mNeg, isFO, gIns, SO.foX, SO.foJ, one_self, is1_self, at1_self, noRefAt, List.all_cons, List.all_nil, Sl.noBox, D.flat, Bool.and_self, Bool.and_true, Bool.true_and, List.zip_cons_cons, List.zip_nil_right, mTru, List.contains_nil, mIE, mIZ, mBrk, mCnt, decide_true, decide_false, Bool.false_eq_true, Bool.not_eq_true, f4])]
  have a6 : mStrP (pC [T.c_Join, T.c_Lead, T.c_Run]) (f_Row___str__ T) (mVar 6) [A, .box, x2, .val (.lst ms), .val d, .val o, .val (.ins C ns es), .val (.str td), .val (.str to), .val (.ins C ns es), x10, .no] (some t3) = .ok (.v (.str td)) [A, .box, x2, .val (.lst ms), .val d, .val o, .val (.ins C ns es), .val (.str td), .val (.str to), .val (.ins C ns es), x10, .no] (some t3) := strP_v rfl p1 g1
  have a9 : mStrP (pC [T.c_Join, T.c_Lead, T.c_Run]) (f_Row___str__ T) (mVar 9) [A, .box, x2, .val (.lst ms), .val d, .val o, .val (.ins C ns es), .val (.str td), .val (.str to), .val (.ins C ns es), x10, .no] (some t3) = .ok (.v (.str td)) [A, .box, x2, .val (.lst ms), .val d, .val o, .val (.ins C ns es), .val (.str td), .val (.str to), .val (.ins C ns es), x10, .no] (some t3) := strP_v rfl p1 g1
  have n96 : mNeP (pC [T.c_Join, T.c_Lead, T.c_Run]) (f_Row___eq__ T) (mVar 9) (mVar 6) [A, .box, x2, .val (.lst ms), .val d, .val o, .val (.ins C ns es), .val (.str td), .val (.str to), .val (.ins C ns es), x10, .no] (some t3) = .ok (.v (.bl (!decide (td = td)))) [A, .box, x2, .val (.lst ms), .val d, .val o, .val (.ins C ns es), .val (.str td), .val (.str to), .val (.ins C ns es), x10, .no] (some t3) := neP_v rfl rfl p1 p1 g3
  rw [show (!decide (td = td)) = false by simp] at n96
  have a8 : mStrP (pC [T.c_Join, T.c_Lead, T.c_Run]) (f_Row___str__ T) (mCallP [.v] (f_Row_read T) (mCons (mVar 8) mNil)) [A, .box, x2, .val (.lst ms), .val d, .val o, .val (.ins C ns es), .val (.str td), .val (.str to), .val (.ins C ns es), x10, .no] (some t3) = .ok (.v (.str to)) [A, .box, x2, .val (.lst ms), .val d, .val o, .val (.ins C ns es), .val (.str td), .val (.str to), .val (.ins C ns es), x10, .no] (some t3) := strP_v (by simp only [mSeq, mSet, mRet, mRetN, mIf, mExp, mBad, mNext, mPar, W.sl, mFor, Out.bindS, MX.bind, Out.bind, mK, mVar, mFz, mFf, mOp, mTest, mNotT, mNotV, mAndT, mOrT, mAndV, mOrV, mIfE, mChain, mNil, mCons, mTup, mLst, mCB, mFld, mFldSet, mCallP, mCallB, mMethP, mMakeP, mMut, mSl, mPart, mNoPart, mIsi, mIL, mIT, mIR, mIEn, mIS, mBGet, mBSet, mNewBox, mComp, mYes, Out.bindN, bindA, env0, envA, envI, FO.outP, FO.outL, FO.out, SO.fo0, SO.foF, SO.foI, lensW, lensL, resO_some, Rs.w_v, Rs.w_f, W.rd_v, W.rd_t, W.rd_f, W.rd_l, W.kp_v, List.mapM_cons, List.mapM_nil, Option.bind_eq_bind, Option.bind_some, Option.pure_def, Option.map_some, List.replicate_succ, List.replicate_zero, List.cons_append, List.nil_append, List.getElem?_cons_zero, List.getElem?_cons_succ, List.set_cons_zero, List.set_cons_succ, rb, ri, fI, fC, fAdd, fSub, fMod, fMul, fDiv, fIx, fIsN, fNotN, D.isN, cl_lst, cl_tup, cInt, cTup, cList, gApp, gN, gT, gsC, gsN, Sl.isRef, if_true, if_false, if_pos, List.length_cons, List.length_nil, Bx.at, Bx.put, List.any_cons, List.any_nil, Bool.not_true, Bool.not_false, Nat.reduceAdd, Nat.reduceLeDiff, reduceIte, reduceCtorEq, and_self, and_true, true_and, if_s_non, if_s_bl, if_s_int, if_s_str, if_s_tup, if_s_lst, if_i_non, if_i_bl, if_i_int, if_i_str, if_i_tup, if_i_lst, if_b_non, if_b_bl, if_b_int, if_b_str, if_b_tup, if_b_lst, if_t_non, if_t_bl, if_t_int, if_t_str, if_t_tup, if_t_lst, if_l_non, if_l_bl, if_l_int, if_l_str, if_l_tup, if_l_lst, if_lt2_non, if_lt2_bl, if_lt2_int, if_lt2_str, if_lt2_tup, if_lt2_lst, mRaise, mTryAs, tryOut, mXf, mIsE, mLenO, mGetO, mIxSet, mSwapIx, ixSt, mNeg, isFO, gIns, SO.foX, SO.foJ, one_self, is1_self, at1_self, noRefAt, List.all_cons, List.all_nil, Sl.noBox, D.flat, Bool.and_self, Bool.and_true, Bool.true_and, List.zip_cons_cons, List.zip_nil_right, mTru, List.contains_nil, mIE, mIZ, mBrk, mCnt, decide_true, decide_false, Bool.false_eq_true, Bool.not_eq_true, f5]) p2 g2
  rw [seq_nx (if_no (e1 := [A, .box, x2, .val (.lst ms), .val d, .val o, .val (.ins C ns es), .val (.str td), .val (.str to), .val (.ins C ns es), x10, .no]) (s1 := some t3) ((orT_f (ne_x (mb := mVar 7) a6 rfl rfl rfl (ne_s td))).trans ((orT_f (ne_x (mb := mVar 7) a9 rfl rfl rfl (ne_s td))).trans ((orT_f (a := mTest (mNeP (pC [T.c_Join, T.c_Lead, T.c_Run]) (f_Row___eq__ T) (mVar 9) (mVar 6))) (by simp only [mTest, MX.bind, Out.bind, n96])).trans (ne_x (mb := mVar 8) a8 rfl rfl rfl (ne_s to))))))]
  obtain ⟨p, hp⟩ : ∃ p, decide ("run" = x) = p := ⟨_, rfl⟩
  obtain ⟨q, hq⟩ : ∃ q, decide ("lead" = x) = q := ⟨_, rfl⟩
  obtain ⟨r, hr⟩ : ∃ r, decide ("join" = x) = r := ⟨_, rfl⟩
  have du := due_ok T (x := x) (rest := rest) (A := A) (x2 := x2) (x3 := .val (.lst ms)) (x5 := .val o) (x6 := .val (.ins C ns es)) (x7 := .val (.str td)) (x8 := .val (.str to)) (x9 := .val (.ins C ns es)) (x10 := x10) (s := some t3) rfl
  rw [← hx, hp, hq, hr] at du
  rw [hp, hq, hr] at g5
  rw [seq_nx (set_f du)]
  have nk := ne_k p q r
  rw [seq_nx (e1 := [A, .box, x2, .val (.lst ms), .val d, .val o, .val (.ins C ns es), .val (.str td), .val (.str to), .val (.ins C ns es), .own [.bl p, .bl q, .bl r], .no]) (s1 := some t3) (by simp only [mSeq, mSet, mRet, mRetN, mIf, mExp, mBad, mNext, mPar, W.sl, mFor, Out.bindS, MX.bind, Out.bind, mK, mVar, mFz, mFf, mOp, mTest, mNotT, mNotV, mAndT, mOrT, mAndV, mOrV, mIfE, mChain, mNil, mCons, mTup, mLst, mCB, mFld, mFldSet, mCallP, mCallB, mMethP, mMakeP, mMut, mSl, mPart, mNoPart, mIsi, mIL, mIT, mIR, mIEn, mIS, mBGet, mBSet, mNewBox, mComp, mYes, Out.bindN, bindA, env0, envA, envI, FO.outP, FO.outL, FO.out, SO.fo0, SO.foF, SO.foI, lensW, lensL, resO_some, Rs.w_v, Rs.w_f, W.rd_v, W.rd_t, W.rd_f, W.rd_l, W.kp_v, List.mapM_cons, List.mapM_nil, Option.bind_eq_bind, Option.bind_some, Option.pure_def, Option.map_some, List.replicate_succ, List.replicate_zero, List.cons_append, List.nil_append, List.getElem?_cons_zero, List.getElem?_cons_succ, List.set_cons_zero, List.set_cons_succ, rb, ri, fI, fC, fAdd, fSub, fMod, fMul, fDiv, fIx, fIsN, fNotN, D.isN, cl_lst, cl_tup, cInt, cTup, cList, gApp, gN, gT, gsC, gsN, Sl.isRef, if_true, if_false, if_pos, List.length_cons, List.length_nil, Bx.at, Bx.put, List.any_cons, List.any_nil, Bool.not_true, Bool.not_false, Nat.reduceAdd, Nat.reduceLeDiff, reduceIte, reduceCtorEq, and_self, and_true, true_and, if_s_non, if_s_bl, if_s_int, if_s_str, if_s_tup, if_s_lst, if_i_non, if_i_bl, if_i_int, if_i_str, if_i_tup, if_i_lst, if_b_non, if_b_bl, if_b_int, if_b_str, if_b_tup, if_b_lst, if_t_non, if_t_bl, if_t_int, if_t_str, if_t_tup, if_t_lst, if_l_non, if_l_bl, if_l_int, if_l_str, if_l_tup, if_l_lst, if_lt2_non, if_lt2_bl, if_lt2_int, if_lt2_str, if_lt2_tup, if_lt2_lst, mRaise, mTryAs, tryOut, mXf, mIsE, mLenO, mGetO, mIxSet, mSwapIx, ixSt, mNeg, isFO, gIns, SO.foX, SO.foJ, one_self, is1_self, at1_self, noRefAt, List.all_cons, List.all_nil, Sl.noBox, D.flat, Bool.and_self, Bool.and_true, Bool.true_and, List.zip_cons_cons, List.zip_nil_right, mTru, List.contains_nil, mIE, mIZ, mBrk, mCnt, decide_true, decide_false, Bool.false_eq_true, Bool.not_eq_true, g5, nk])]
  obtain ⟨B, hB⟩ : ∃ B, decide (td = to) = B := ⟨_, rfl⟩
  rw [hB] at g4 g6
  have ts : fEq (.str td) (.str to) = some (.v (.bl B)) := by rw [eq_str, hB]
  have q6 : mEqP (pC [T.c_Join, T.c_Lead, T.c_Run]) (f_Row___eq__ T) (mVar 6) (mCallP [.v] (f__law_made T) (mCons (mVar 5) mNil)) [A, .box, x2, .val (.lst ms), .val d, .val o, .val (.ins C ns es), .val (.str td), .val (.str to), .val (.ins C ns es), .own [.bl p, .bl q, .bl r], .no] (some t3) = .ok (.v (.bl B)) [A, .box, x2, .val (.lst ms), .val d, .val o, .val (.ins C ns es), .val (.str td), .val (.str to), .val (.ins C ns es), .own [.bl p, .bl q, .bl r], .no] (some t3) := eqP_v rfl (by simp only [mSeq, mSet, mRet, mRetN, mIf, mExp, mBad, mNext, mPar, W.sl, mFor, Out.bindS, MX.bind, Out.bind, mK, mVar, mFz, mFf, mOp, mTest, mNotT, mNotV, mAndT, mOrT, mAndV, mOrV, mIfE, mChain, mNil, mCons, mTup, mLst, mCB, mFld, mFldSet, mCallP, mCallB, mMethP, mMakeP, mMut, mSl, mPart, mNoPart, mIsi, mIL, mIT, mIR, mIEn, mIS, mBGet, mBSet, mNewBox, mComp, mYes, Out.bindN, bindA, env0, envA, envI, FO.outP, FO.outL, FO.out, SO.fo0, SO.foF, SO.foI, lensW, lensL, resO_some, Rs.w_v, Rs.w_f, W.rd_v, W.rd_t, W.rd_f, W.rd_l, W.kp_v, List.mapM_cons, List.mapM_nil, Option.bind_eq_bind, Option.bind_some, Option.pure_def, Option.map_some, List.replicate_succ, List.replicate_zero, List.cons_append, List.nil_append, List.getElem?_cons_zero, List.getElem?_cons_succ, List.set_cons_zero, List.set_cons_succ, rb, ri, fI, fC, fAdd, fSub, fMod, fMul, fDiv, fIx, fIsN, fNotN, D.isN, cl_lst, cl_tup, cInt, cTup, cList, gApp, gN, gT, gsC, gsN, Sl.isRef, if_true, if_false, if_pos, List.length_cons, List.length_nil, Bx.at, Bx.put, List.any_cons, List.any_nil, Bool.not_true, Bool.not_false, Nat.reduceAdd, Nat.reduceLeDiff, reduceIte, reduceCtorEq, and_self, and_true, true_and, if_s_non, if_s_bl, if_s_int, if_s_str, if_s_tup, if_s_lst, if_i_non, if_i_bl, if_i_int, if_i_str, if_i_tup, if_i_lst, if_b_non, if_b_bl, if_b_int, if_b_str, if_b_tup, if_b_lst, if_t_non, if_t_bl, if_t_int, if_t_str, if_t_tup, if_t_lst, if_l_non, if_l_bl, if_l_int, if_l_str, if_l_tup, if_l_lst, if_lt2_non, if_lt2_bl, if_lt2_int, if_lt2_str, if_lt2_tup, if_lt2_lst, mRaise, mTryAs, tryOut, mXf, mIsE, mLenO, mGetO, mIxSet, mSwapIx, ixSt, mNeg, isFO, gIns, SO.foX, SO.foJ, one_self, is1_self, at1_self, noRefAt, List.all_cons, List.all_nil, Sl.noBox, D.flat, Bool.and_self, Bool.and_true, Bool.true_and, List.zip_cons_cons, List.zip_nil_right, mTru, List.contains_nil, mIE, mIZ, mBrk, mCnt, decide_true, decide_false, Bool.false_eq_true, Bool.not_eq_true, f6]) p1 p2 g4
  have nb := ne_bl B
  refine ⟨.val (.lst ms), .val d, .val o, .val (.ins C ns es), .val (.str td), .val (.str to), .val (.ins C ns es), .own [.bl p, .bl q, .bl r], t3, ?_, ht3, rfl, rfl⟩
  have u1 : (mOp fEq (mVar 4) (mVar 5) : MX (Option Bd) W) [A, .box, x2, .val (.lst ms), .val d, .val o, .val (.ins C ns es), .val (.str td), .val (.str to), .val (.ins C ns es), .own [.bl p, .bl q, .bl r], .no] (some t3) = .ok (.v (.bl B)) [A, .box, x2, .val (.lst ms), .val d, .val o, .val (.ins C ns es), .val (.str td), .val (.str to), .val (.ins C ns es), .own [.bl p, .bl q, .bl r], .no] (some t3) := op_x rfl rfl rfl rfl g6
  have u2 : (mOp fEq (mVar 7) (mVar 8) : MX (Option Bd) W) [A, .box, x2, .val (.lst ms), .val d, .val o, .val (.ins C ns es), .val (.str td), .val (.str to), .val (.ins C ns es), .own [.bl p, .bl q, .bl r], .no] (some t3) = .ok (.v (.bl B)) [A, .box, x2, .val (.lst ms), .val d, .val o, .val (.ins C ns es), .val (.str td), .val (.str to), .val (.ins C ns es), .own [.bl p, .bl q, .bl r], .no] (some t3) := op_x rfl rfl rfl rfl ts
  exact if_no ((orT_f (ne_x u1 u2 rfl rfl nb)).trans (ne_x q6 u1 rfl rfl nb))
theorem d0 : isRow4 (.tup [.str "lead", .lst (([] : List Str).map .str), .str "any", .str "a"]) := .inr (.inl ⟨[], by decide +kernel, "any", by decide, "a", by decide, rfl⟩)
theorem d1 : isRow4 (.tup [.str "lead", .lst (([("not own" : Str)] : List Str).map .str), .str "a", .str "b"]) := .inr (.inl ⟨[("not own" : Str)], by decide +kernel, "a", by decide, "b", by decide, rfl⟩)
theorem r0 : rowT (.tup [.str "lead", .lst (([] : List Str).map .str), .str "any", .str "a"]) = "lead always any to a" := by decide +kernel
theorem r1 : rowT (.tup [.str "lead", .lst (([("not own" : Str)] : List Str).map .str), .str "a", .str "b"]) = "lead not own a to b" := by decide +kernel
theorem law_ok (T : Tx P K mg) : LawOkD (m_law T) 11 := by
  intro ns hn
  obtain ⟨t, et, ht⟩ := deal_ok T ns hn
  obtain ⟨L, hL⟩ : ∃ L : D, D.lst (ns.map D.int) = L := ⟨_, rfl⟩
  rw [hL] at et ⊢
  unfold m_law
  have eb : (mNewBoxD 1 [.v, .v] (f__law_deal T) (mCons (mVar 0) (mCons (mK (.int 0)) mNil)) : MS (Option Bd)) (env0 [.v] 11 [L]) none = .nx [.val L, .box, .no, .no, .no, .no, .no, .no, .no, .no, .no, .no] (some t) := by
    simp only [mSeq, mSet, mRet, mRetN, mIf, mExp, mBad, mNext, mPar, W.sl, mFor, Out.bindS, MX.bind, Out.bind, mK, mVar, mFz, mFf, mOp, mTest, mNotT, mNotV, mAndT, mOrT, mAndV, mOrV, mIfE, mChain, mNil, mCons, mTup, mLst, mCB, mFld, mFldSet, mCallP, mCallB, mMethP, mMakeP, mMut, mSl, mPart, mNoPart, mIsi, mIL, mIT, mIR, mIEn, mIS, mBGet, mBSet, mNewBox, mComp, mYes, Out.bindN, bindA, env0, envA, envI, FO.outP, FO.outL, FO.out, SO.fo0, SO.foF, SO.foI, lensW, lensL, resO_some, Rs.w_v, Rs.w_f, W.rd_v, W.rd_t, W.rd_f, W.rd_l, W.kp_v, List.mapM_cons, List.mapM_nil, Option.bind_eq_bind, Option.bind_some, Option.pure_def, Option.map_some, List.replicate_succ, List.replicate_zero, List.cons_append, List.nil_append, List.getElem?_cons_zero, List.getElem?_cons_succ, List.set_cons_zero, List.set_cons_succ, rb, ri, fI, fC, fAdd, fSub, fMod, fMul, fDiv, fIx, fIsN, fNotN, D.isN, cl_lst, cl_tup, cInt, cTup, cList, gApp, gN, gT, gsC, gsN, Sl.isRef, if_true, if_false, if_pos, List.length_cons, List.length_nil, Bx.at, Bx.put, List.any_cons, List.any_nil, Bool.not_true, Bool.not_false, Nat.reduceAdd, Nat.reduceLeDiff, reduceIte, reduceCtorEq, and_self, and_true, true_and, if_s_non, if_s_bl, if_s_int, if_s_str, if_s_tup, if_s_lst, if_i_non, if_i_bl, if_i_int, if_i_str, if_i_tup, if_i_lst, if_b_non, if_b_bl, if_b_int, if_b_str, if_b_tup, if_b_lst, if_t_non, if_t_bl, if_t_int, if_t_str, if_t_tup, if_t_lst, if_l_non, if_l_bl, if_l_int, if_l_str, if_l_tup, if_l_lst, if_lt2_non, if_lt2_bl, if_lt2_int, if_lt2_str, if_lt2_tup, if_lt2_lst, mRaise, mTryAs, tryOut, mXf, mIsE, mLenO, mGetO, mIxSet, mSwapIx, ixSt, mNeg, isFO, gIns, SO.foX, SO.foJ, one_self, is1_self, at1_self, noRefAt, List.all_cons, List.all_nil, Sl.noBox, D.flat, Bool.and_self, Bool.and_true, Bool.true_and, List.zip_cons_cons, List.zip_nil_right, mTru, List.contains_nil, mIE, mIZ, mBrk, mCnt, decide_true, decide_false, Bool.false_eq_true, Bool.not_eq_true, mNewBoxD, et]
  rw [seq_nx eb]
  have ei : (mIR (mK (.int 16)) : MX (Option Bd) (List D)) [.val L, .box, .no, .no, .no, .no, .no, .no, .no, .no, .no, .no] (some t) = .ok ((List.range (16 : Int).toNat).map fun i => .int (i : Nat)) [.val L, .box, .no, .no, .no, .no, .no, .no, .no, .no, .no, .no] (some t) := ir_int rfl (by decide) (by decide)
  obtain ⟨e2, s2, hf, x2, x3, x4, x5, x6, x7, x8, x9, x10, t2, rfl, rfl, ht2, h2, h4, h5⟩ := forL_inv (S := Option Bd) (g := gN 2) (L := (List.range (16 : Int).toNat).map fun i => D.int (i : Nat))
    (fun env s => ∃ x2 x3 x4 x5 x6 x7 x8 x9 x10 t, env = [.val L, .box, x2, x3, x4, x5, x6, x7, x8, x9, x10, .no] ∧ s = some t ∧ t.gr.length ≤ 63 ∧ x2.isRef = false ∧ x4.isRef = false ∧ x5.isRef = false) (by
      rintro d hd env s ⟨x2, x3, x4, x5, x6, x7, x8, x9, x10, t, rfl, rfl, ht, h2, h4, h5⟩
      obtain ⟨y3, y4, y5, y6, y7, y8, y9, y10, t', e, ht', q4, q5⟩ := turn_ok T (.val L) (.val d) x3 x4 x5 x6 x7 x8 x9 x10 t ht h4 h5
      refine ⟨[.val L, .box, .val d, x3, x4, x5, x6, x7, x8, x9, x10, .no], _, _, ?_, e, .val d, y3, y4, y5, y6, y7, y8, y9, y10, t', rfl, rfl, ht', rfl, q4, q5⟩
      simp only [gN, List.getElem?_cons_zero, List.getElem?_cons_succ, h2]
      rfl) [.val L, .box, .no, .no, .no, .no, .no, .no, .no, .no, .no, .no] (some t) ⟨.no, .no, .no, .no, .no, .no, .no, .no, .no, t, rfl, rfl, ht, rfl, rfl, rfl⟩
  rw [seq_nx ((for_x ei).trans hf)]
  have i0 := f_lead T (l := []) (a := "any") (b := "a") (by decide +kernel) (by decide) (by decide)
  have s0 := str_ok T d0
  rw [r0] at s0
  have c0 := read_ok T d1
  rw [r1] at c0
  have e0 : (mStrO T.c_Lead (f_Row___str__ T) (mMakeP T.c_Lead [.v, .v, .v] (f_Lead_init T) (mCons (mFf (mLst mNil)) (mCons (mK (.str "any")) (mCons (mK (.str "a")) mNil)))) : MX (Option Bd) W) [.val L, .box, x2, x3, x4, x5, x6, x7, x8, x9, x10, .no] (some t2) = .ok (.v (.str "lead always any to a")) [.val L, .box, x2, x3, x4, x5, x6, x7, x8, x9, x10, .no] (some t2) := by
    exact strO_v (ns := ["tests", "old", "then", "_words", "named"]) (make_w (ws := [.v (.lst []), .v (.str "any"), .v (.str "a")]) (ds := [.lst [], .str "any", .str "a"]) rfl rfl i0) s0
  rw [seq_nx (e1 := [.val L, .box, x2, x3, x4, x5, x6, x7, x8, x9, x10, .no]) (s1 := some t2) (if_no (ne_x (mb := mK (.str "lead always any to a")) e0 rfl rfl rfl (ne_s _)))]
  have e1 : (mFld T.c_Lead "tests" (mCallP [.v] (f_Row_read T) (mCons (mK (.str "lead not own a to b")) mNil)) : MX (Option Bd) W) [.val L, .box, x2, x3, x4, x5, x6, x7, x8, x9, x10, .no] (some t2) = .ok (.v (.tup [.str "not own"])) [.val L, .box, x2, x3, x4, x5, x6, x7, x8, x9, x10, .no] (some t2) := by
    exact fldO_v (ns := ["tests", "old", "then", "_words", "named"]) (callP_w (ws := [.v (.str "lead not own a to b")]) (ds := [.str "lead not own a to b"]) rfl rfl c0) rfl
  have q1 : fEq (.tup [.str "not own"]) (.tup [.str "not own"]) = some (.v (.bl true)) := by rfl
  exact ⟨[.val L, .box, x2, x3, x4, x5, x6, x7, x8, x9, x10, .no], some t2, ret_v (op_x (mb := mTup (mCons (mK (.str "not own")) mNil)) e1 (u := .v (.tup [.str "not own"])) rfl rfl rfl q1)⟩
end
end ledmarks_k04_texts_of_rows

namespace ledmarks_k04_texts_of_rows
open PySem L2 LM
theorem tx_mk {P : Program} {w : World} {K : PySem.W.Frag} {h : Heap} {mg : Str → Option Value} {fa : Addr} (X : K.In h) (G : h.Ns mainGlobals mg) (hfa : mg "law" = some (.ref fa))
    {C_Join : Addr} {C_Lead : Addr} {C_Row : Addr} {C_Run : Addr} {f_is_name_ : Addr} {od_is_name an_is_name : Option Addr} {sl_is_name : Array (Option Value)} {oc_is_name kV_is_name dc_is_name pm_is_name ct_is_name : Value} {cd_is_name : Value} {f_Row_init_ : Addr} {od_Row_init an_Row_init : Option Addr} {sl_Row_init : Array (Option Value)} {oc_Row_init kV_Row_init dc_Row_init pm_Row_init ct_Row_init : Value} {cd_Row_init : Value} {f__is_wanted_ : Addr} {od__is_wanted an__is_wanted : Option Addr} {sl__is_wanted : Array (Option Value)} {oc__is_wanted kV__is_wanted dc__is_wanted pm__is_wanted ct__is_wanted : Value} {cd__is_wanted : Value} {f_Join_init_ : Addr} {od_Join_init an_Join_init : Option Addr} {sl_Join_init : Array (Option Value)} {oc_Join_init kV_Join_init dc_Join_init pm_Join_init ct_Join_init : Value} {cc_Join_init_ ca_Join_init_ : Addr} {cl1_Join_init cl2_Join_init : Value} {cd1_Join_init cd2_Join_init : Option Addr} {cs1_Join_init cs2_Join_init : Array (Option Value)} {vs_Join_init : Array Value} {file_Join_init : Str} {tf_Join_init : Tok} {f_are_different_ : Addr} {od_are_different an_are_different : Option Addr} {sl_are_different : Array (Option Value)} {oc_are_different kV_are_different dc_are_different pm_are_different ct_are_different : Value} {cd_are_different : Value} {f_part_of_ : Addr} {od_part_of an_part_of : Option Addr} {sl_part_of : Array (Option Value)} {oc_part_of kV_part_of dc_part_of pm_part_of ct_part_of : Value} {cd_part_of : Value} {f_is_sequence_ : Addr} {od_is_sequence an_is_sequence : Option Addr} {sl_is_sequence : Array (Option Value)} {oc_is_sequence kV_is_sequence dc_is_sequence pm_is_sequence ct_is_sequence : Value} {cd_is_sequence : Value} {f__are_tests_ : Addr} {od__are_tests an__are_tests : Option Addr} {sl__are_tests : Array (Option Value)} {oc__are_tests kV__are_tests dc__are_tests pm__are_tests ct__are_tests : Value} {cd__are_tests : Value} {f_Lead_init_ : Addr} {od_Lead_init an_Lead_init : Option Addr} {sl_Lead_init : Array (Option Value)} {oc_Lead_init kV_Lead_init dc_Lead_init pm_Lead_init ct_Lead_init : Value} {cc_Lead_init_ ca_Lead_init_ : Addr} {cl1_Lead_init cl2_Lead_init : Value} {cd1_Lead_init cd2_Lead_init : Option Addr} {cs1_Lead_init cs2_Lead_init : Array (Option Value)} {vs_Lead_init : Array Value} {file_Lead_init : Str} {tf_Lead_init : Tok} {f__tests_ : Addr} {od__tests an__tests : Option Addr} {sl__tests : Array (Option Value)} {oc__tests kV__tests dc__tests pm__tests ct__tests : Value} {cd__tests : Value} {f_Run_init_ : Addr} {od_Run_init an_Run_init : Option Addr} {sl_Run_init : Array (Option Value)} {oc_Run_init kV_Run_init dc_Run_init pm_Run_init ct_Run_init : Value} {cc_Run_init_ ca_Run_init_ : Addr} {cl1_Run_init cl2_Run_init : Value} {cd1_Run_init cd2_Run_init : Option Addr} {cs1_Run_init cs2_Run_init : Array (Option Value)} {vs_Run_init : Array Value} {file_Run_init : Str} {tf_Run_init : Tok} {f__row_ : Addr} {od__row an__row : Option Addr} {sl__row : Array (Option Value)} {oc__row kV__row dc__row pm__row ct__row : Value} {cd__row : Value} {f_Row_read_ : Addr} {od_Row_read an_Row_read : Option Addr} {sl_Row_read : Array (Option Value)} {oc_Row_read kV_Row_read dc_Row_read pm_Row_read ct_Row_read : Value} {cd_Row_read : Value} {q_Row_read_ : Addr} {r_Row_read_ : List Value} {f_Row___str___ : Addr} {od_Row___str__ an_Row___str__ : Option Addr} {sl_Row___str__ : Array (Option Value)} {oc_Row___str__ kV_Row___str__ dc_Row___str__ pm_Row___str__ ct_Row___str__ : Value} {cd_Row___str__ : Value} {f_Row___eq___ : Addr} {od_Row___eq__ an_Row___eq__ : Option Addr} {sl_Row___eq__ : Array (Option Value)} {oc_Row___eq__ kV_Row___eq__ dc_Row___eq__ pm_Row___eq__ ct_Row___eq__ : Value} {cd_Row___eq__ : Value} {f__law_made_ : Addr} {od__law_made an__law_made : Option Addr} {sl__law_made : Array (Option Value)} {oc__law_made kV__law_made dc__law_made pm__law_made ct__law_made : Value} {cd__law_made : Value} {f__law_sort_ : Addr} {od__law_sort an__law_sort : Option Addr} {sl__law_sort : Array (Option Value)} {oc__law_sort kV__law_sort dc__law_sort pm__law_sort ct__law_sort : Value} {cd__law_sort : Value} {f__law_row_text_ : Addr} {od__law_row_text an__law_row_text : Option Addr} {sl__law_row_text : Array (Option Value)} {oc__law_row_text kV__law_row_text dc__law_row_text pm__law_row_text ct__law_row_text : Value} {cd__law_row_text : Value} {f__law_draw_ : Addr} {od__law_draw an__law_draw : Option Addr} {sl__law_draw : Array (Option Value)} {oc__law_draw kV__law_draw dc__law_draw pm__law_draw ct__law_draw : Value} {cd__law_draw : Value} {f__law_pick_ : Addr} {od__law_pick an__law_pick : Option Addr} {sl__law_pick : Array (Option Value)} {oc__law_pick kV__law_pick dc__law_pick pm__law_pick ct__law_pick : Value} {cd__law_pick : Value} {f__law_mixed_ : Addr} {od__law_mixed an__law_mixed : Option Addr} {sl__law_mixed : Array (Option Value)} {oc__law_mixed kV__law_mixed dc__law_mixed pm__law_mixed ct__law_mixed : Value} {cd__law_mixed : Value} {f__law_tests_ : Addr} {od__law_tests an__law_tests : Option Addr} {sl__law_tests : Array (Option Value)} {oc__law_tests kV__law_tests dc__law_tests pm__law_tests ct__law_tests : Value} {cd__law_tests : Value} {f__law_row_ : Addr} {od__law_row an__law_row : Option Addr} {sl__law_row : Array (Option Value)} {oc__law_row kV__law_row dc__law_row pm__law_row ct__law_row : Value} {cd__law_row : Value} {f__law_marks_ : Addr} {od__law_marks an__law_marks : Option Addr} {sl__law_marks : Array (Option Value)} {oc__law_marks kV__law_marks dc__law_marks pm__law_marks ct__law_marks : Value} {cd__law_marks : Value} {f__law_deal_ : Addr} {od__law_deal an__law_deal : Option Addr} {sl__law_deal : Array (Option Value)} {oc__law_deal kV__law_deal dc__law_deal pm__law_deal ct__law_deal : Value} {cd__law_deal : Value} {f_law_ : Addr} {od_law an_law : Option Addr} {sl_law : Array (Option Value)} {oc_law kV_law dc_law pm_law ct_law : Value} {cd_law : Value} {tk_LETTERS : Tok} {t_TAKEN n_TAKEN : Nat} {od_TAKEN : Option Addr} {sl_TAKEN : Array (Option Value)} {tk_TAKEN_0 tk_TAKEN_1 tk_TAKEN_2 tk_TAKEN_3 tk_TAKEN_4 tk_TAKEN_5 tk_TAKEN_6 : Tok} {t_TESTS n_TESTS : Nat} {od_TESTS : Option Addr} {sl_TESTS : Array (Option Value)} {tk_TESTS_0 tk_TESTS_1 tk_TESTS_2 tk_TESTS_3 tk_TESTS_4 tk_TESTS_5 : Tok}
    (aC_Join : PySem.W.nsIn K mainGlobals "Join" = some (some (.ref C_Join)))
    (aC_Lead : PySem.W.nsIn K mainGlobals "Lead" = some (some (.ref C_Lead)))
    (aC_Row : PySem.W.nsIn K mainGlobals "Row" = some (some (.ref C_Row)))
    (aC_Run : PySem.W.nsIn K mainGlobals "Run" = some (some (.ref C_Run)))
    (a_is_name : PySem.W.nsIn K mainGlobals "is_name" = some (some (.ref f_is_name_)))
    (l_is_name : K.lookup f_is_name_ = some ⟨oc_is_name, od_is_name, .func (PySem.W.fnOf "is_name" "is_name" (defArgs s_is_name) (defBody s_is_name) (defScope s_is_name) .none kV_is_name dc_is_name pm_is_name an_is_name cd_is_name ct_is_name), sl_is_name⟩)
    (c_is_name : PySem.W.codeIn K cd_is_name "is_name" = true)
    (k_is_name : PySem.W.keepIn K (.ref f_is_name_) = true)
    (a_Row_init : PySem.W.findIn K (.ref C_Row) "__init__" = some (some (.ref f_Row_init_)))
    (i_Row_init : PySem.W.isFn K (.ref f_Row_init_) = true)
    (l_Row_init : K.lookup f_Row_init_ = some ⟨oc_Row_init, od_Row_init, .func (PySem.W.fnOf "__init__" "Row.__init__" (defArgs s_Row_init) (defBody s_Row_init) (defScope s_Row_init) .none kV_Row_init dc_Row_init pm_Row_init an_Row_init cd_Row_init ct_Row_init), sl_Row_init⟩)
    (c_Row_init : PySem.W.codeIn K cd_Row_init "Row.__init__" = true)
    (k_Row_init : PySem.W.keepIn K (.ref f_Row_init_) = true)
    (a__is_wanted : PySem.W.nsIn K mainGlobals "_is_wanted" = some (some (.ref f__is_wanted_)))
    (l__is_wanted : K.lookup f__is_wanted_ = some ⟨oc__is_wanted, od__is_wanted, .func (PySem.W.fnOf "_is_wanted" "_is_wanted" (defArgs s__is_wanted) (defBody s__is_wanted) (defScope s__is_wanted) .none kV__is_wanted dc__is_wanted pm__is_wanted an__is_wanted cd__is_wanted ct__is_wanted), sl__is_wanted⟩)
    (c__is_wanted : PySem.W.codeIn K cd__is_wanted "_is_wanted" = true)
    (k__is_wanted : PySem.W.keepIn K (.ref f__is_wanted_) = true)
    (a_Join_init : PySem.W.findIn K (.ref C_Join) "__init__" = some (some (.ref f_Join_init_)))
    (i_Join_init : PySem.W.isFn K (.ref f_Join_init_) = true)
    (l_Join_init : K.lookup f_Join_init_ = some ⟨oc_Join_init, od_Join_init, .func (PySem.W.fnX "__init__" "Join.__init__" (defArgs s_Join_init) (defBody s_Join_init) (defScope s_Join_init) [("__class__", cc_Join_init_)] .none kV_Join_init dc_Join_init pm_Join_init an_Join_init (.ref ca_Join_init_) ct_Join_init), sl_Join_init⟩)
    (c_Join_init : PySem.W.codeIn K (.ref ca_Join_init_) "Join.__init__" = true)
    (k_Join_init : PySem.W.keepIn K (.ref f_Join_init_) = true)
    (lc_Join_init : K.lookup ca_Join_init_ = some ⟨cl1_Join_init, cd1_Join_init, .fields vs_Join_init, cs1_Join_init⟩)
    (vf_Join_init : vs_Join_init[2]? = some (.str file_Join_init tf_Join_init))
    (pf0_Join_init : ((P.main.file : Str) == file_Join_init) = true)
    (lx_Join_init : K.lookup cc_Join_init_ = some ⟨cl2_Join_init, cd2_Join_init, .cell (some (.ref C_Join)), cs2_Join_init⟩)
    (ic_Join_init : PySem.W.isClsIn K C_Join = true)
    (su1_Join_init : PySem.W.ks_superIn K C_Join C_Join "__init__" = some (some (.ref f_Row_init_)))
    (su2_Join_init : PySem.W.typeIn K (.ref f_Row_init_) = some (.type "function"))
    (su3_Join_init : PySem.W.fnIn K f_Row_init_ = true)
    (su4_Join_init : PySem.W.mroIn K C_Join (.ref C_Join) = some true)
    (su5_Join_init : PySem.W.nsIn K cStatics "thirdparty.any" = some none)
    (a_are_different : PySem.W.nsIn K mainGlobals "are_different" = some (some (.ref f_are_different_)))
    (l_are_different : K.lookup f_are_different_ = some ⟨oc_are_different, od_are_different, .func (PySem.W.fnOf "are_different" "are_different" (defArgs s_are_different) (defBody s_are_different) (defScope s_are_different) .none kV_are_different dc_are_different pm_are_different an_are_different cd_are_different ct_are_different), sl_are_different⟩)
    (c_are_different : PySem.W.codeIn K cd_are_different "are_different" = true)
    (k_are_different : PySem.W.keepIn K (.ref f_are_different_) = true)
    (a_part_of : PySem.W.nsIn K mainGlobals "part_of" = some (some (.ref f_part_of_)))
    (l_part_of : K.lookup f_part_of_ = some ⟨oc_part_of, od_part_of, .func (PySem.W.fnOf "part_of" "part_of" (defArgs s_part_of) (defBody s_part_of) (defScope s_part_of) .none kV_part_of dc_part_of pm_part_of an_part_of cd_part_of ct_part_of), sl_part_of⟩)
    (c_part_of : PySem.W.codeIn K cd_part_of "part_of" = true)
    (k_part_of : PySem.W.keepIn K (.ref f_part_of_) = true)
    (a_is_sequence : PySem.W.nsIn K mainGlobals "is_sequence" = some (some (.ref f_is_sequence_)))
    (l_is_sequence : K.lookup f_is_sequence_ = some ⟨oc_is_sequence, od_is_sequence, .func (PySem.W.fnOf "is_sequence" "is_sequence" (defArgs s_is_sequence) (defBody s_is_sequence) (defScope s_is_sequence) .none kV_is_sequence dc_is_sequence pm_is_sequence an_is_sequence cd_is_sequence ct_is_sequence), sl_is_sequence⟩)
    (c_is_sequence : PySem.W.codeIn K cd_is_sequence "is_sequence" = true)
    (k_is_sequence : PySem.W.keepIn K (.ref f_is_sequence_) = true)
    (a__are_tests : PySem.W.nsIn K mainGlobals "_are_tests" = some (some (.ref f__are_tests_)))
    (l__are_tests : K.lookup f__are_tests_ = some ⟨oc__are_tests, od__are_tests, .func (PySem.W.fnOf "_are_tests" "_are_tests" (defArgs s__are_tests) (defBody s__are_tests) (defScope s__are_tests) .none kV__are_tests dc__are_tests pm__are_tests an__are_tests cd__are_tests ct__are_tests), sl__are_tests⟩)
    (c__are_tests : PySem.W.codeIn K cd__are_tests "_are_tests" = true)
    (k__are_tests : PySem.W.keepIn K (.ref f__are_tests_) = true)
    (a_Lead_init : PySem.W.findIn K (.ref C_Lead) "__init__" = some (some (.ref f_Lead_init_)))
    (i_Lead_init : PySem.W.isFn K (.ref f_Lead_init_) = true)
    (l_Lead_init : K.lookup f_Lead_init_ = some ⟨oc_Lead_init, od_Lead_init, .func (PySem.W.fnX "__init__" "Lead.__init__" (defArgs s_Lead_init) (defBody s_Lead_init) (defScope s_Lead_init) [("__class__", cc_Lead_init_)] .none kV_Lead_init dc_Lead_init pm_Lead_init an_Lead_init (.ref ca_Lead_init_) ct_Lead_init), sl_Lead_init⟩)
    (c_Lead_init : PySem.W.codeIn K (.ref ca_Lead_init_) "Lead.__init__" = true)
    (k_Lead_init : PySem.W.keepIn K (.ref f_Lead_init_) = true)
    (lc_Lead_init : K.lookup ca_Lead_init_ = some ⟨cl1_Lead_init, cd1_Lead_init, .fields vs_Lead_init, cs1_Lead_init⟩)
    (vf_Lead_init : vs_Lead_init[2]? = some (.str file_Lead_init tf_Lead_init))
    (pf0_Lead_init : ((P.main.file : Str) == file_Lead_init) = true)
    (lx_Lead_init : K.lookup cc_Lead_init_ = some ⟨cl2_Lead_init, cd2_Lead_init, .cell (some (.ref C_Lead)), cs2_Lead_init⟩)
    (ic_Lead_init : PySem.W.isClsIn K C_Lead = true)
    (su1_Lead_init : PySem.W.ks_superIn K C_Lead C_Lead "__init__" = some (some (.ref f_Row_init_)))
    (su2_Lead_init : PySem.W.typeIn K (.ref f_Row_init_) = some (.type "function"))
    (su3_Lead_init : PySem.W.fnIn K f_Row_init_ = true)
    (su4_Lead_init : PySem.W.mroIn K C_Lead (.ref C_Lead) = some true)
    (su5_Lead_init : PySem.W.nsIn K cStatics "thirdparty.any" = some none)
    (a__tests : PySem.W.nsIn K mainGlobals "_tests" = some (some (.ref f__tests_)))
    (l__tests : K.lookup f__tests_ = some ⟨oc__tests, od__tests, .func (PySem.W.fnOf "_tests" "_tests" (defArgs s__tests) (defBody s__tests) (defScope s__tests) .none kV__tests dc__tests pm__tests an__tests cd__tests ct__tests), sl__tests⟩)
    (c__tests : PySem.W.codeIn K cd__tests "_tests" = true)
    (k__tests : PySem.W.keepIn K (.ref f__tests_) = true)
    (a_Run_init : PySem.W.findIn K (.ref C_Run) "__init__" = some (some (.ref f_Run_init_)))
    (i_Run_init : PySem.W.isFn K (.ref f_Run_init_) = true)
    (l_Run_init : K.lookup f_Run_init_ = some ⟨oc_Run_init, od_Run_init, .func (PySem.W.fnX "__init__" "Run.__init__" (defArgs s_Run_init) (defBody s_Run_init) (defScope s_Run_init) [("__class__", cc_Run_init_)] .none kV_Run_init dc_Run_init pm_Run_init an_Run_init (.ref ca_Run_init_) ct_Run_init), sl_Run_init⟩)
    (c_Run_init : PySem.W.codeIn K (.ref ca_Run_init_) "Run.__init__" = true)
    (k_Run_init : PySem.W.keepIn K (.ref f_Run_init_) = true)
    (lc_Run_init : K.lookup ca_Run_init_ = some ⟨cl1_Run_init, cd1_Run_init, .fields vs_Run_init, cs1_Run_init⟩)
    (vf_Run_init : vs_Run_init[2]? = some (.str file_Run_init tf_Run_init))
    (pf0_Run_init : ((P.main.file : Str) == file_Run_init) = true)
    (lx_Run_init : K.lookup cc_Run_init_ = some ⟨cl2_Run_init, cd2_Run_init, .cell (some (.ref C_Run)), cs2_Run_init⟩)
    (ic_Run_init : PySem.W.isClsIn K C_Run = true)
    (su1_Run_init : PySem.W.ks_superIn K C_Run C_Run "__init__" = some (some (.ref f_Row_init_)))
    (su2_Run_init : PySem.W.typeIn K (.ref f_Row_init_) = some (.type "function"))
    (su3_Run_init : PySem.W.fnIn K f_Row_init_ = true)
    (su4_Run_init : PySem.W.mroIn K C_Run (.ref C_Run) = some true)
    (su5_Run_init : PySem.W.nsIn K cStatics "thirdparty.any" = some none)
    (a__row : PySem.W.nsIn K mainGlobals "_row" = some (some (.ref f__row_)))
    (l__row : K.lookup f__row_ = some ⟨oc__row, od__row, .func (PySem.W.fnOf "_row" "_row" (defArgs s__row) (defBody s__row) (defScope s__row) .none kV__row dc__row pm__row an__row cd__row ct__row), sl__row⟩)
    (c__row : PySem.W.codeIn K cd__row "_row" = true)
    (k__row : PySem.W.keepIn K (.ref f__row_) = true)
    (qa_Row_read : PySem.W.findIn K (.ref C_Row) "read" = some (some (.ref q_Row_read_)))
    (qr_Row_read : PySem.W.recIn K q_Row_read_ "classmethod" = some (.ref f_Row_read_ :: r_Row_read_))
    (qf_Row_read : PySem.W.fnIn K f_Row_read_ = true)
    (qc_Row_read : PySem.W.findCls K (.ref C_Row) (.type "type") "read" = some (.get (.builtin "classmethod.__get__") (.ref q_Row_read_) .none (.ref C_Row)))
    (l_Row_read : K.lookup f_Row_read_ = some ⟨oc_Row_read, od_Row_read, .func (PySem.W.fnOf "read" "Row.read" (defArgs s_Row_read) (defBody s_Row_read) (defScope s_Row_read) .none kV_Row_read dc_Row_read pm_Row_read an_Row_read cd_Row_read ct_Row_read), sl_Row_read⟩)
    (c_Row_read : PySem.W.codeIn K cd_Row_read "Row.read" = true)
    (k_Row_read : PySem.W.keepIn K (.ref f_Row_read_) = true)
    (a_Row___str__ : PySem.W.findIn K (.ref C_Row) "__str__" = some (some (.ref f_Row___str___)))
    (i_Row___str__ : PySem.W.isFn K (.ref f_Row___str___) = true)
    (l_Row___str__ : K.lookup f_Row___str___ = some ⟨oc_Row___str__, od_Row___str__, .func (PySem.W.fnOf "__str__" "Row.__str__" (defArgs s_Row___str__) (defBody s_Row___str__) (defScope s_Row___str__) .none kV_Row___str__ dc_Row___str__ pm_Row___str__ an_Row___str__ cd_Row___str__ ct_Row___str__), sl_Row___str__⟩)
    (c_Row___str__ : PySem.W.codeIn K cd_Row___str__ "Row.__str__" = true)
    (k_Row___str__ : PySem.W.keepIn K (.ref f_Row___str___) = true)
    (a_Row___eq__ : PySem.W.findIn K (.ref C_Row) "__eq__" = some (some (.ref f_Row___eq___)))
    (i_Row___eq__ : PySem.W.isFn K (.ref f_Row___eq___) = true)
    (l_Row___eq__ : K.lookup f_Row___eq___ = some ⟨oc_Row___eq__, od_Row___eq__, .func (PySem.W.fnOf "__eq__" "Row.__eq__" (defArgs s_Row___eq__) (defBody s_Row___eq__) (defScope s_Row___eq__) .none kV_Row___eq__ dc_Row___eq__ pm_Row___eq__ an_Row___eq__ cd_Row___eq__ ct_Row___eq__), sl_Row___eq__⟩)
    (c_Row___eq__ : PySem.W.codeIn K cd_Row___eq__ "Row.__eq__" = true)
    (k_Row___eq__ : PySem.W.keepIn K (.ref f_Row___eq___) = true)
    (a__law_made : PySem.W.nsIn K mainGlobals "_law_made" = some (some (.ref f__law_made_)))
    (l__law_made : K.lookup f__law_made_ = some ⟨oc__law_made, od__law_made, .func (PySem.W.fnOf "_law_made" "_law_made" (defArgs s__law_made) (defBody s__law_made) (defScope s__law_made) .none kV__law_made dc__law_made pm__law_made an__law_made cd__law_made ct__law_made), sl__law_made⟩)
    (c__law_made : PySem.W.codeIn K cd__law_made "_law_made" = true)
    (k__law_made : PySem.W.keepIn K (.ref f__law_made_) = true)
    (a__law_sort : PySem.W.nsIn K mainGlobals "_law_sort" = some (some (.ref f__law_sort_)))
    (l__law_sort : K.lookup f__law_sort_ = some ⟨oc__law_sort, od__law_sort, .func (PySem.W.fnOf "_law_sort" "_law_sort" (defArgs s__law_sort) (defBody s__law_sort) (defScope s__law_sort) .none kV__law_sort dc__law_sort pm__law_sort an__law_sort cd__law_sort ct__law_sort), sl__law_sort⟩)
    (c__law_sort : PySem.W.codeIn K cd__law_sort "_law_sort" = true)
    (k__law_sort : PySem.W.keepIn K (.ref f__law_sort_) = true)
    (a__law_row_text : PySem.W.nsIn K mainGlobals "_law_row_text" = some (some (.ref f__law_row_text_)))
    (l__law_row_text : K.lookup f__law_row_text_ = some ⟨oc__law_row_text, od__law_row_text, .func (PySem.W.fnOf "_law_row_text" "_law_row_text" (defArgs s__law_row_text) (defBody s__law_row_text) (defScope s__law_row_text) .none kV__law_row_text dc__law_row_text pm__law_row_text an__law_row_text cd__law_row_text ct__law_row_text), sl__law_row_text⟩)
    (c__law_row_text : PySem.W.codeIn K cd__law_row_text "_law_row_text" = true)
    (k__law_row_text : PySem.W.keepIn K (.ref f__law_row_text_) = true)
    (a__law_draw : PySem.W.nsIn K mainGlobals "_law_draw" = some (some (.ref f__law_draw_)))
    (l__law_draw : K.lookup f__law_draw_ = some ⟨oc__law_draw, od__law_draw, .func (PySem.W.fnOf "_law_draw" "_law_draw" (defArgs s__law_draw) (defBody s__law_draw) (defScope s__law_draw) .none kV__law_draw dc__law_draw pm__law_draw an__law_draw cd__law_draw ct__law_draw), sl__law_draw⟩)
    (c__law_draw : PySem.W.codeIn K cd__law_draw "_law_draw" = true)
    (k__law_draw : PySem.W.keepIn K (.ref f__law_draw_) = true)
    (a__law_pick : PySem.W.nsIn K mainGlobals "_law_pick" = some (some (.ref f__law_pick_)))
    (l__law_pick : K.lookup f__law_pick_ = some ⟨oc__law_pick, od__law_pick, .func (PySem.W.fnOf "_law_pick" "_law_pick" (defArgs s__law_pick) (defBody s__law_pick) (defScope s__law_pick) .none kV__law_pick dc__law_pick pm__law_pick an__law_pick cd__law_pick ct__law_pick), sl__law_pick⟩)
    (c__law_pick : PySem.W.codeIn K cd__law_pick "_law_pick" = true)
    (k__law_pick : PySem.W.keepIn K (.ref f__law_pick_) = true)
    (a__law_mixed : PySem.W.nsIn K mainGlobals "_law_mixed" = some (some (.ref f__law_mixed_)))
    (l__law_mixed : K.lookup f__law_mixed_ = some ⟨oc__law_mixed, od__law_mixed, .func (PySem.W.fnOf "_law_mixed" "_law_mixed" (defArgs s__law_mixed) (defBody s__law_mixed) (defScope s__law_mixed) .none kV__law_mixed dc__law_mixed pm__law_mixed an__law_mixed cd__law_mixed ct__law_mixed), sl__law_mixed⟩)
    (c__law_mixed : PySem.W.codeIn K cd__law_mixed "_law_mixed" = true)
    (k__law_mixed : PySem.W.keepIn K (.ref f__law_mixed_) = true)
    (a__law_tests : PySem.W.nsIn K mainGlobals "_law_tests" = some (some (.ref f__law_tests_)))
    (l__law_tests : K.lookup f__law_tests_ = some ⟨oc__law_tests, od__law_tests, .func (PySem.W.fnOf "_law_tests" "_law_tests" (defArgs s__law_tests) (defBody s__law_tests) (defScope s__law_tests) .none kV__law_tests dc__law_tests pm__law_tests an__law_tests cd__law_tests ct__law_tests), sl__law_tests⟩)
    (c__law_tests : PySem.W.codeIn K cd__law_tests "_law_tests" = true)
    (k__law_tests : PySem.W.keepIn K (.ref f__law_tests_) = true)
    (a__law_row : PySem.W.nsIn K mainGlobals "_law_row" = some (some (.ref f__law_row_)))
    (l__law_row : K.lookup f__law_row_ = some ⟨oc__law_row, od__law_row, .func (PySem.W.fnOf "_law_row" "_law_row" (defArgs s__law_row) (defBody s__law_row) (defScope s__law_row) .none kV__law_row dc__law_row pm__law_row an__law_row cd__law_row ct__law_row), sl__law_row⟩)
    (c__law_row : PySem.W.codeIn K cd__law_row "_law_row" = true)
    (k__law_row : PySem.W.keepIn K (.ref f__law_row_) = true)
    (a__law_marks : PySem.W.nsIn K mainGlobals "_law_marks" = some (some (.ref f__law_marks_)))
    (l__law_marks : K.lookup f__law_marks_ = some ⟨oc__law_marks, od__law_marks, .func (PySem.W.fnOf "_law_marks" "_law_marks" (defArgs s__law_marks) (defBody s__law_marks) (defScope s__law_marks) .none kV__law_marks dc__law_marks pm__law_marks an__law_marks cd__law_marks ct__law_marks), sl__law_marks⟩)
    (c__law_marks : PySem.W.codeIn K cd__law_marks "_law_marks" = true)
    (k__law_marks : PySem.W.keepIn K (.ref f__law_marks_) = true)
    (a__law_deal : PySem.W.nsIn K mainGlobals "_law_deal" = some (some (.ref f__law_deal_)))
    (l__law_deal : K.lookup f__law_deal_ = some ⟨oc__law_deal, od__law_deal, .func (PySem.W.fnOf "_law_deal" "_law_deal" (defArgs s__law_deal) (defBody s__law_deal) (defScope s__law_deal) .none kV__law_deal dc__law_deal pm__law_deal an__law_deal cd__law_deal ct__law_deal), sl__law_deal⟩)
    (c__law_deal : PySem.W.codeIn K cd__law_deal "_law_deal" = true)
    (k__law_deal : PySem.W.keepIn K (.ref f__law_deal_) = true)
    (a_law : PySem.W.nsIn K mainGlobals "law" = some (some (.ref f_law_)))
    (l_law : K.lookup f_law_ = some ⟨oc_law, od_law, .func (PySem.W.fnOf "law" "law" (defArgs s_law) (defBody s_law) (defScope s_law) .none kV_law dc_law pm_law an_law cd_law ct_law), sl_law⟩)
    (c_law : PySem.W.codeIn K cd_law "law" = true)
    (k_law : PySem.W.keepIn K (.ref f_law_) = true)
    (pg_Join : PySem.W.plainGet K C_Join Str.empty = true)
    (hd_Join : PySem.W.hasDictIn K C_Join = true)
    (po_Join : PySem.W.plainOver K C_Join = true)
    (sa_Join : PySem.W.findIn K (.ref C_Join) "__setattr__" = some (some (.builtin "object.__setattr__")))
    (pg_Lead : PySem.W.plainGet K C_Lead Str.empty = true)
    (hd_Lead : PySem.W.hasDictIn K C_Lead = true)
    (po_Lead : PySem.W.plainOver K C_Lead = true)
    (sa_Lead : PySem.W.findIn K (.ref C_Lead) "__setattr__" = some (some (.builtin "object.__setattr__")))
    (pg_Row : PySem.W.plainGet K C_Row Str.empty = true)
    (hd_Row : PySem.W.hasDictIn K C_Row = true)
    (po_Row : PySem.W.plainOver K C_Row = true)
    (sa_Row : PySem.W.findIn K (.ref C_Row) "__setattr__" = some (some (.builtin "object.__setattr__")))
    (pg_Run : PySem.W.plainGet K C_Run Str.empty = true)
    (hd_Run : PySem.W.hasDictIn K C_Run = true)
    (po_Run : PySem.W.plainOver K C_Run = true)
    (sa_Run : PySem.W.findIn K (.ref C_Run) "__setattr__" = some (some (.builtin "object.__setattr__")))
    (mk_Join : PySem.W.makesIn K C_Join = true)
    (kc_Join : PySem.W.keepIn K (.ref C_Join) = true)
    (mk_Lead : PySem.W.makesIn K C_Lead = true)
    (kc_Lead : PySem.W.keepIn K (.ref C_Lead) = true)
    (mk_Run : PySem.W.makesIn K C_Run = true)
    (kc_Run : PySem.W.keepIn K (.ref C_Run) = true)
    (cr1_Row : PySem.W.readsIn K C_Row (.type "type") = true)
    (cr2_Row : PySem.W.specialIn K (.ref C_Row) "__getattribute__" = some (some (.builtin "type.__getattribute__")))
    (na_Join__words : PySem.W.findIn K (.ref C_Join) "_words" = some none)
    (na_Join_came : PySem.W.findIn K (.ref C_Join) "came" = some none)
    (na_Join_here : PySem.W.findIn K (.ref C_Join) "here" = some none)
    (na_Join_named : PySem.W.findIn K (.ref C_Join) "named" = some none)
    (na_Join_then : PySem.W.findIn K (.ref C_Join) "then" = some none)
    (na_Lead__words : PySem.W.findIn K (.ref C_Lead) "_words" = some none)
    (na_Lead_named : PySem.W.findIn K (.ref C_Lead) "named" = some none)
    (na_Lead_old : PySem.W.findIn K (.ref C_Lead) "old" = some none)
    (na_Lead_tests : PySem.W.findIn K (.ref C_Lead) "tests" = some none)
    (na_Lead_then : PySem.W.findIn K (.ref C_Lead) "then" = some none)
    (na_Run__words : PySem.W.findIn K (.ref C_Run) "_words" = some none)
    (na_Run_named : PySem.W.findIn K (.ref C_Run) "named" = some none)
    (na_Run_old : PySem.W.findIn K (.ref C_Run) "old" = some none)
    (na_Run_then : PySem.W.findIn K (.ref C_Run) "then" = some none)
    (qa_Join : PySem.W.findIn K (.ref C_Join) "__class__" = some (some (.builtin "object.__class__")))
    (qm_Join : PySem.W.mroIn K C_Join (.type "object") = some true)
    (qa_Lead : PySem.W.findIn K (.ref C_Lead) "__class__" = some (some (.builtin "object.__class__")))
    (qm_Lead : PySem.W.mroIn K C_Lead (.type "object") = some true)
    (qa_Run : PySem.W.findIn K (.ref C_Run) "__class__" = some (some (.builtin "object.__class__")))
    (qm_Run : PySem.W.mroIn K C_Run (.type "object") = some true)
    (qn_ : PySem.W.specialIn K (.builtin "object.__class__") "__get__" = some (some (.builtin "getset_descriptor.__get__")))
    (qt_ : PySem.W.takesIn K (.builtin "object.__class__") = some true)
    (sa_Join___eq__ : PySem.W.findIn K (.ref C_Join) "__eq__" = some (some (.ref f_Row___eq___)))
    (st_Join___eq__ : PySem.W.typeIn K (.ref f_Row___eq___) = some (.type "function"))
    (sa_Join___str__ : PySem.W.findIn K (.ref C_Join) "__str__" = some (some (.ref f_Row___str___)))
    (st_Join___str__ : PySem.W.typeIn K (.ref f_Row___str___) = some (.type "function"))
    (sa_Lead___eq__ : PySem.W.findIn K (.ref C_Lead) "__eq__" = some (some (.ref f_Row___eq___)))
    (st_Lead___eq__ : PySem.W.typeIn K (.ref f_Row___eq___) = some (.type "function"))
    (sa_Lead___str__ : PySem.W.findIn K (.ref C_Lead) "__str__" = some (some (.ref f_Row___str___)))
    (st_Lead___str__ : PySem.W.typeIn K (.ref f_Row___str___) = some (.type "function"))
    (sa_Run___eq__ : PySem.W.findIn K (.ref C_Run) "__eq__" = some (some (.ref f_Row___eq___)))
    (st_Run___eq__ : PySem.W.typeIn K (.ref f_Row___eq___) = some (.type "function"))
    (sa_Run___str__ : PySem.W.findIn K (.ref C_Run) "__str__" = some (some (.ref f_Row___str___)))
    (st_Run___str__ : PySem.W.typeIn K (.ref f_Row___str___) = some (.type "function"))
    (ne_Join : PySem.W.findIn K (.ref C_Join) "__ne__" = some (some (.builtin "object.__ne__")))
    (ne_Lead : PySem.W.findIn K (.ref C_Lead) "__ne__" = some (some (.builtin "object.__ne__")))
    (ne_Run : PySem.W.findIn K (.ref C_Run) "__ne__" = some (some (.builtin "object.__ne__")))
    (ik_Join__NoneType : PySem.W.kitAny K (.type "NoneType") [.ref C_Join] = some false)
    (ik_Join__bool : PySem.W.kitAny K (.type "bool") [.ref C_Join] = some false)
    (ik_Join__int : PySem.W.kitAny K (.type "int") [.ref C_Join] = some false)
    (ik_Join__str : PySem.W.kitAny K (.type "str") [.ref C_Join] = some false)
    (ik_Join__tuple : PySem.W.kitAny K (.type "tuple") [.ref C_Join] = some false)
    (ik_Join__list : PySem.W.kitAny K (.type "list") [.ref C_Join] = some false)
    (ik_Lead__NoneType : PySem.W.kitAny K (.type "NoneType") [.ref C_Lead] = some false)
    (ik_Lead__bool : PySem.W.kitAny K (.type "bool") [.ref C_Lead] = some false)
    (ik_Lead__int : PySem.W.kitAny K (.type "int") [.ref C_Lead] = some false)
    (ik_Lead__str : PySem.W.kitAny K (.type "str") [.ref C_Lead] = some false)
    (ik_Lead__tuple : PySem.W.kitAny K (.type "tuple") [.ref C_Lead] = some false)
    (ik_Lead__list : PySem.W.kitAny K (.type "list") [.ref C_Lead] = some false)
    (ik_Row__NoneType : PySem.W.kitAny K (.type "NoneType") [.ref C_Row] = some false)
    (ik_Row__bool : PySem.W.kitAny K (.type "bool") [.ref C_Row] = some false)
    (ik_Row__int : PySem.W.kitAny K (.type "int") [.ref C_Row] = some false)
    (ik_Row__str : PySem.W.kitAny K (.type "str") [.ref C_Row] = some false)
    (ik_Row__tuple : PySem.W.kitAny K (.type "tuple") [.ref C_Row] = some false)
    (ik_Row__list : PySem.W.kitAny K (.type "list") [.ref C_Row] = some false)
    (ik_Run__NoneType : PySem.W.kitAny K (.type "NoneType") [.ref C_Run] = some false)
    (ik_Run__bool : PySem.W.kitAny K (.type "bool") [.ref C_Run] = some false)
    (ik_Run__int : PySem.W.kitAny K (.type "int") [.ref C_Run] = some false)
    (ik_Run__str : PySem.W.kitAny K (.type "str") [.ref C_Run] = some false)
    (ik_Run__tuple : PySem.W.kitAny K (.type "tuple") [.ref C_Run] = some false)
    (ik_Run__list : PySem.W.kitAny K (.type "list") [.ref C_Run] = some false)
    (nf_Join_Join : PySem.W.notFirst K C_Join (.ref C_Join) = true)
    (nf_Join_Lead : PySem.W.notFirst K C_Join (.ref C_Lead) = true)
    (nf_Join_Run : PySem.W.notFirst K C_Join (.ref C_Run) = true)
    (nf_Lead_Join : PySem.W.notFirst K C_Lead (.ref C_Join) = true)
    (nf_Lead_Lead : PySem.W.notFirst K C_Lead (.ref C_Lead) = true)
    (nf_Lead_Run : PySem.W.notFirst K C_Lead (.ref C_Run) = true)
    (nf_Run_Join : PySem.W.notFirst K C_Run (.ref C_Join) = true)
    (nf_Run_Lead : PySem.W.notFirst K C_Run (.ref C_Lead) = true)
    (nf_Run_Run : PySem.W.notFirst K C_Run (.ref C_Run) = true)
    (ik_Join_in_Join : PySem.W.kitAny K (.ref C_Join) [.ref C_Join] = some true)
    (ik_Join_in_Lead : PySem.W.kitAny K (.ref C_Join) [.ref C_Lead] = some false)
    (ik_Join_in_Row : PySem.W.kitAny K (.ref C_Join) [.ref C_Row] = some true)
    (ik_Join_in_Run : PySem.W.kitAny K (.ref C_Join) [.ref C_Run] = some false)
    (ik_Lead_in_Join : PySem.W.kitAny K (.ref C_Lead) [.ref C_Join] = some false)
    (ik_Lead_in_Lead : PySem.W.kitAny K (.ref C_Lead) [.ref C_Lead] = some true)
    (ik_Lead_in_Row : PySem.W.kitAny K (.ref C_Lead) [.ref C_Row] = some true)
    (ik_Lead_in_Run : PySem.W.kitAny K (.ref C_Lead) [.ref C_Run] = some false)
    (ik_Run_in_Join : PySem.W.kitAny K (.ref C_Run) [.ref C_Join] = some false)
    (ik_Run_in_Lead : PySem.W.kitAny K (.ref C_Run) [.ref C_Lead] = some false)
    (ik_Run_in_Row : PySem.W.kitAny K (.ref C_Run) [.ref C_Row] = some true)
    (ik_Run_in_Run : PySem.W.kitAny K (.ref C_Run) [.ref C_Run] = some true)
    (top_ : (P.main.scope.names.lookup ("super" : Str)).isSome = false)
    (z_abs : PySem.W.nsIn K mainGlobals "abs" = some none)
    (z_all : PySem.W.nsIn K mainGlobals "all" = some none)
    (z_int : PySem.W.nsIn K mainGlobals "int" = some none)
    (z_isinstance : PySem.W.nsIn K mainGlobals "isinstance" = some none)
    (z_len : PySem.W.nsIn K mainGlobals "len" = some none)
    (z_list : PySem.W.nsIn K mainGlobals "list" = some none)
    (z_range : PySem.W.nsIn K mainGlobals "range" = some none)
    (z_set : PySem.W.nsIn K mainGlobals "set" = some none)
    (z_str : PySem.W.nsIn K mainGlobals "str" = some none)
    (z_super : PySem.W.nsIn K mainGlobals "super" = some none)
    (z_tuple : PySem.W.nsIn K mainGlobals "tuple" = some none)
    (u_LETTERS : PySem.W.nsIn K mainGlobals "LETTERS" = some (some (.str "abcdefghijklmnopqrstuvwxyz" tk_LETTERS)))
    (u_TAKEN : PySem.W.nsIn K mainGlobals "TAKEN" = some (some (.ref t_TAKEN)))
    (l_TAKEN : K.lookup t_TAKEN = some ⟨.type "tuple", od_TAKEN, .seq #[.str "and" tk_TAKEN_0, .str "any" tk_TAKEN_1, .str "came" tk_TAKEN_2, .str "here" tk_TAKEN_3, .str "not" tk_TAKEN_4, .str "own" tk_TAKEN_5, .str "to" tk_TAKEN_6] n_TAKEN, sl_TAKEN⟩)
    (u_TESTS : PySem.W.nsIn K mainGlobals "TESTS" = some (some (.ref t_TESTS)))
    (l_TESTS : K.lookup t_TESTS = some ⟨.type "tuple", od_TESTS, .seq #[.str "above" tk_TESTS_0, .str "below" tk_TESTS_1, .str "own" tk_TESTS_2, .str "not above" tk_TESTS_3, .str "not below" tk_TESTS_4, .str "not own" tk_TESTS_5] n_TESTS, sl_TESTS⟩) :
    ∃ (fd : FuncData) (m : MS (Option Bd)) (qual : Str), Fun K qual qual s_law fa fd ∧ (∀ (s : Shared) (u : Value), BindsTo s fd ⟨[u], []⟩ [("_law_script", u)]) ∧ LawOkD m 11 ∧
      ∀ (base : Heap) (cdv : Value) (s : Shared) (H : Hp) (E : XK), K.In base → base.Ns mainGlobals mg → Room 6 (callerA.deeper (PyProof.Rows.envOfC qual (defScope s_law) s.heap.objs.size fa cdv)) →
        PSs (cxOf CX0 P w K mg base ["_law_script", "_law_deal_here", "_law_turn", "_law_marks_here", "_law_row_here", "_law_other", "_law_made_here", "_law_text", "_law_near", "_law_again", "_law_due", "_law_word"] qual (defScope s_law) fa cdv callerA [] s H E).nox (defBody s_law) (tS K boxDW W0 m) := by
  have e := hfa.symm.trans (PySem.W.mg_of X G a_law)
  cases e
  have F_is_name := fun_mk (st := s_is_name) l_is_name c_is_name k_is_name
  have b_is_name := F_is_name.binds (ps := ["value"]) fun _ _ _ _ _ _ us hl => match us, hl with | [_], _ => rfl
  have F_Row_init := fun_mk (st := s_Row_init) l_Row_init c_Row_init k_Row_init
  have b_Row_init := F_Row_init.binds (ps := ["self", "words", "marks"]) fun _ _ _ _ _ _ us hl => match us, hl with | [_, _, _], _ => rfl
  have F__is_wanted := fun_mk (st := s__is_wanted) l__is_wanted c__is_wanted k__is_wanted
  have b__is_wanted := F__is_wanted.binds (ps := ["value"]) fun _ _ _ _ _ _ us hl => match us, hl with | [_], _ => rfl
  have F_Join_init : FunC P K "__init__" "Join.__init__" s_Join_init f_Join_init_ _ C_Join cc_Join_init_ ca_Join_init_ := ⟨⟨_, _, _, _, _, _, _, _, rfl, l_Join_init⟩, c_Join_init, k_Join_init, ⟨_, _, _, _, _, _, lc_Join_init, vf_Join_init, pf0_Join_init⟩, ⟨_, _, _, lx_Join_init⟩, Option.isSome_iff_exists.mp ic_Join_init, top_⟩
  have b_Join_init : Binds K (PySem.W.fnX "__init__" "Join.__init__" (defArgs s_Join_init) (defBody s_Join_init) (defScope s_Join_init) [("__class__", cc_Join_init_)] .none kV_Join_init dc_Join_init pm_Join_init an_Join_init (.ref ca_Join_init_) ct_Join_init) ["self", "here", "came", "then"] [] := .all fun us hl => match us, hl with | [_, _, _, _], _ => rfl
  have F_are_different := fun_mk (st := s_are_different) l_are_different c_are_different k_are_different
  have b_are_different := F_are_different.binds (ps := ["words"]) fun _ _ _ _ _ _ us hl => match us, hl with | [_], _ => rfl
  have F_part_of := fun_mk (st := s_part_of) l_part_of c_part_of k_part_of
  have b_part_of := F_part_of.binds (ps := ["test"]) fun _ _ _ _ _ _ us hl => match us, hl with | [_], _ => rfl
  have F_is_sequence := fun_mk (st := s_is_sequence) l_is_sequence c_is_sequence k_is_sequence
  have b_is_sequence := F_is_sequence.binds (ps := ["value"]) fun _ _ _ _ _ _ us hl => match us, hl with | [_], _ => rfl
  have F__are_tests := fun_mk (st := s__are_tests) l__are_tests c__are_tests k__are_tests
  have b__are_tests := F__are_tests.binds (ps := ["value"]) fun _ _ _ _ _ _ us hl => match us, hl with | [_], _ => rfl
  have F_Lead_init : FunC P K "__init__" "Lead.__init__" s_Lead_init f_Lead_init_ _ C_Lead cc_Lead_init_ ca_Lead_init_ := ⟨⟨_, _, _, _, _, _, _, _, rfl, l_Lead_init⟩, c_Lead_init, k_Lead_init, ⟨_, _, _, _, _, _, lc_Lead_init, vf_Lead_init, pf0_Lead_init⟩, ⟨_, _, _, lx_Lead_init⟩, Option.isSome_iff_exists.mp ic_Lead_init, top_⟩
  have b_Lead_init : Binds K (PySem.W.fnX "__init__" "Lead.__init__" (defArgs s_Lead_init) (defBody s_Lead_init) (defScope s_Lead_init) [("__class__", cc_Lead_init_)] .none kV_Lead_init dc_Lead_init pm_Lead_init an_Lead_init (.ref ca_Lead_init_) ct_Lead_init) ["self", "tests", "old", "then"] [] := .all fun us hl => match us, hl with | [_, _, _, _], _ => rfl
  have F__tests := fun_mk (st := s__tests) l__tests c__tests k__tests
  have b__tests := F__tests.binds (ps := ["words"]) fun _ _ _ _ _ _ us hl => match us, hl with | [_], _ => rfl
  have F_Run_init : FunC P K "__init__" "Run.__init__" s_Run_init f_Run_init_ _ C_Run cc_Run_init_ ca_Run_init_ := ⟨⟨_, _, _, _, _, _, _, _, rfl, l_Run_init⟩, c_Run_init, k_Run_init, ⟨_, _, _, _, _, _, lc_Run_init, vf_Run_init, pf0_Run_init⟩, ⟨_, _, _, lx_Run_init⟩, Option.isSome_iff_exists.mp ic_Run_init, top_⟩
  have b_Run_init : Binds K (PySem.W.fnX "__init__" "Run.__init__" (defArgs s_Run_init) (defBody s_Run_init) (defScope s_Run_init) [("__class__", cc_Run_init_)] .none kV_Run_init dc_Run_init pm_Run_init an_Run_init (.ref ca_Run_init_) ct_Run_init) ["self", "old", "then"] [] := .all fun us hl => match us, hl with | [_, _, _], _ => rfl
  have F__row := fun_mk (st := s__row) l__row c__row k__row
  have b__row := F__row.binds (ps := ["words"]) fun _ _ _ _ _ _ us hl => match us, hl with | [_], _ => rfl
  have F_Row_read := fun_mk (st := s_Row_read) l_Row_read c_Row_read k_Row_read
  have b_Row_read := F_Row_read.binds (ps := ["cls", "text"]) fun _ _ _ _ _ _ us hl => match us, hl with | [_, _], _ => rfl
  have F_Row___str__ := fun_mk (st := s_Row___str__) l_Row___str__ c_Row___str__ k_Row___str__
  have b_Row___str__ := F_Row___str__.binds (ps := ["self"]) fun _ _ _ _ _ _ us hl => match us, hl with | [_], _ => rfl
  have F_Row___eq__ := fun_mk (st := s_Row___eq__) l_Row___eq__ c_Row___eq__ k_Row___eq__
  have b_Row___eq__ := F_Row___eq__.binds (ps := ["self", "other"]) fun _ _ _ _ _ _ us hl => match us, hl with | [_, _], _ => rfl
  have F__law_made := fun_mk (st := s__law_made) l__law_made c__law_made k__law_made
  have b__law_made := F__law_made.binds (ps := ["_law_row_here"]) fun _ _ _ _ _ _ us hl => match us, hl with | [_], _ => rfl
  have F__law_sort := fun_mk (st := s__law_sort) l__law_sort c__law_sort k__law_sort
  have b__law_sort := F__law_sort.binds (ps := ["_law_made_here"]) fun _ _ _ _ _ _ us hl => match us, hl with | [_], _ => rfl
  have F__law_row_text := fun_mk (st := s__law_row_text) l__law_row_text c__law_row_text k__law_row_text
  have b__law_row_text := F__law_row_text.binds (ps := ["_law_row_here"]) fun _ _ _ _ _ _ us hl => match us, hl with | [_], _ => rfl
  have F__law_draw := fun_mk (st := s__law_draw) l__law_draw c__law_draw k__law_draw
  have b__law_draw := F__law_draw.binds (ps := ["_law_deal_here", "_law_many"]) fun _ _ _ _ _ _ us hl => match us, hl with | [_, _], _ => rfl
  have F__law_pick := fun_mk (st := s__law_pick) l__law_pick c__law_pick k__law_pick
  have b__law_pick := F__law_pick.binds (ps := ["_law_deal_here", "_law_some"]) fun _ _ _ _ _ _ us hl => match us, hl with | [_, _], _ => rfl
  have F__law_mixed := fun_mk (st := s__law_mixed) l__law_mixed c__law_mixed k__law_mixed
  have b__law_mixed := F__law_mixed.binds (ps := ["_law_deal_here", "_law_some"]) fun _ _ _ _ _ _ us hl => match us, hl with | [_, _], _ => rfl
  have F__law_tests := fun_mk (st := s__law_tests) l__law_tests c__law_tests k__law_tests
  have b__law_tests := F__law_tests.binds (ps := ["_law_deal_here"]) fun _ _ _ _ _ _ us hl => match us, hl with | [_], _ => rfl
  have F__law_row := fun_mk (st := s__law_row) l__law_row c__law_row k__law_row
  have b__law_row := F__law_row.binds (ps := ["_law_deal_here", "_law_marks_here"]) fun _ _ _ _ _ _ us hl => match us, hl with | [_, _], _ => rfl
  have F__law_marks := fun_mk (st := s__law_marks) l__law_marks c__law_marks k__law_marks
  have b__law_marks := F__law_marks.binds (ps := ["_law_deal_here", "_law_many"]) fun _ _ _ _ _ _ us hl => match us, hl with | [_, _], _ => rfl
  have F__law_deal := fun_mk (st := s__law_deal) l__law_deal c__law_deal k__law_deal
  have b__law_deal := F__law_deal.binds (ps := ["_law_script", "_law_base"]) fun _ _ _ _ _ _ us hl => match us, hl with | [_, _], _ => rfl
  have F_law := fun_mk (st := s_law) l_law c_law k_law
  have T : Tx P K mg := {
    a_is_name := f_is_name_,
    fd_is_name := _,
    F_is_name := F_is_name,
    b_is_name := b_is_name,
    g_is_name := PySem.W.mg_of X G a_is_name,
    a_Row_init := f_Row_init_,
    fd_Row_init := _,
    F_Row_init := F_Row_init,
    b_Row_init := b_Row_init,
    a__is_wanted := f__is_wanted_,
    fd__is_wanted := _,
    F__is_wanted := F__is_wanted,
    b__is_wanted := b__is_wanted,
    g__is_wanted := PySem.W.mg_of X G a__is_wanted,
    cc_Join_init := cc_Join_init_,
    cda_Join_init := ca_Join_init_,
    a_Join_init := f_Join_init_,
    fd_Join_init := _,
    F_Join_init := F_Join_init,
    b_Join_init := b_Join_init,
    a_are_different := f_are_different_,
    fd_are_different := _,
    F_are_different := F_are_different,
    b_are_different := b_are_different,
    g_are_different := PySem.W.mg_of X G a_are_different,
    a_part_of := f_part_of_,
    fd_part_of := _,
    F_part_of := F_part_of,
    b_part_of := b_part_of,
    g_part_of := PySem.W.mg_of X G a_part_of,
    a_is_sequence := f_is_sequence_,
    fd_is_sequence := _,
    F_is_sequence := F_is_sequence,
    b_is_sequence := b_is_sequence,
    g_is_sequence := PySem.W.mg_of X G a_is_sequence,
    a__are_tests := f__are_tests_,
    fd__are_tests := _,
    F__are_tests := F__are_tests,
    b__are_tests := b__are_tests,
    g__are_tests := PySem.W.mg_of X G a__are_tests,
    cc_Lead_init := cc_Lead_init_,
    cda_Lead_init := ca_Lead_init_,
    a_Lead_init := f_Lead_init_,
    fd_Lead_init := _,
    F_Lead_init := F_Lead_init,
    b_Lead_init := b_Lead_init,
    a__tests := f__tests_,
    fd__tests := _,
    F__tests := F__tests,
    b__tests := b__tests,
    g__tests := PySem.W.mg_of X G a__tests,
    cc_Run_init := cc_Run_init_,
    cda_Run_init := ca_Run_init_,
    a_Run_init := f_Run_init_,
    fd_Run_init := _,
    F_Run_init := F_Run_init,
    b_Run_init := b_Run_init,
    a__row := f__row_,
    fd__row := _,
    F__row := F__row,
    b__row := b__row,
    g__row := PySem.W.mg_of X G a__row,
    a_Row_read := f_Row_read_,
    fd_Row_read := _,
    F_Row_read := F_Row_read,
    b_Row_read := b_Row_read,
    a_Row___str__ := f_Row___str___,
    fd_Row___str__ := _,
    F_Row___str__ := F_Row___str__,
    b_Row___str__ := b_Row___str__,
    a_Row___eq__ := f_Row___eq___,
    fd_Row___eq__ := _,
    F_Row___eq__ := F_Row___eq__,
    b_Row___eq__ := b_Row___eq__,
    a__law_made := f__law_made_,
    fd__law_made := _,
    F__law_made := F__law_made,
    b__law_made := b__law_made,
    g__law_made := PySem.W.mg_of X G a__law_made,
    a__law_sort := f__law_sort_,
    fd__law_sort := _,
    F__law_sort := F__law_sort,
    b__law_sort := b__law_sort,
    g__law_sort := PySem.W.mg_of X G a__law_sort,
    a__law_row_text := f__law_row_text_,
    fd__law_row_text := _,
    F__law_row_text := F__law_row_text,
    b__law_row_text := b__law_row_text,
    g__law_row_text := PySem.W.mg_of X G a__law_row_text,
    a__law_draw := f__law_draw_,
    fd__law_draw := _,
    F__law_draw := F__law_draw,
    b__law_draw := b__law_draw,
    g__law_draw := PySem.W.mg_of X G a__law_draw,
    a__law_pick := f__law_pick_,
    fd__law_pick := _,
    F__law_pick := F__law_pick,
    b__law_pick := b__law_pick,
    g__law_pick := PySem.W.mg_of X G a__law_pick,
    a__law_mixed := f__law_mixed_,
    fd__law_mixed := _,
    F__law_mixed := F__law_mixed,
    b__law_mixed := b__law_mixed,
    g__law_mixed := PySem.W.mg_of X G a__law_mixed,
    a__law_tests := f__law_tests_,
    fd__law_tests := _,
    F__law_tests := F__law_tests,
    b__law_tests := b__law_tests,
    g__law_tests := PySem.W.mg_of X G a__law_tests,
    a__law_row := f__law_row_,
    fd__law_row := _,
    F__law_row := F__law_row,
    b__law_row := b__law_row,
    g__law_row := PySem.W.mg_of X G a__law_row,
    a__law_marks := f__law_marks_,
    fd__law_marks := _,
    F__law_marks := F__law_marks,
    b__law_marks := b__law_marks,
    g__law_marks := PySem.W.mg_of X G a__law_marks,
    a__law_deal := f__law_deal_,
    fd__law_deal := _,
    F__law_deal := F__law_deal,
    b__law_deal := b__law_deal,
    g__law_deal := PySem.W.mg_of X G a__law_deal,
    c_Join := C_Join,
    g_Join := PySem.W.mg_of X G aC_Join,
    cl_Join := ⟨pg_Join, hd_Join, po_Join, sa_Join⟩,
    c_Lead := C_Lead,
    g_Lead := PySem.W.mg_of X G aC_Lead,
    cl_Lead := ⟨pg_Lead, hd_Lead, po_Lead, sa_Lead⟩,
    c_Row := C_Row,
    g_Row := PySem.W.mg_of X G aC_Row,
    cl_Row := ⟨pg_Row, hd_Row, po_Row, sa_Row⟩,
    c_Run := C_Run,
    g_Run := PySem.W.mg_of X G aC_Run,
    cl_Run := ⟨pg_Run, hd_Run, po_Run, sa_Run⟩,
    su_Join_init := ⟨su1_Join_init, su2_Join_init, su3_Join_init, su4_Join_init, su5_Join_init⟩,
    su_Lead_init := ⟨su1_Lead_init, su2_Lead_init, su3_Lead_init, su4_Lead_init, su5_Lead_init⟩,
    su_Run_init := ⟨su1_Run_init, su2_Run_init, su3_Run_init, su4_Run_init, su5_Run_init⟩,
    nf_Join_Join := nf_Join_Join,
    nf_Join_Lead := nf_Join_Lead,
    nf_Join_Run := nf_Join_Run,
    nf_Lead_Join := nf_Lead_Join,
    nf_Lead_Lead := nf_Lead_Lead,
    nf_Lead_Run := nf_Lead_Run,
    nf_Run_Join := nf_Run_Join,
    nf_Run_Lead := nf_Run_Lead,
    nf_Run_Run := nf_Run_Run,
    km_Join_Join := ik_Join_in_Join,
    km_Join_Lead := ik_Join_in_Lead,
    km_Join_Row := ik_Join_in_Row,
    km_Join_Run := ik_Join_in_Run,
    km_Lead_Join := ik_Lead_in_Join,
    km_Lead_Lead := ik_Lead_in_Lead,
    km_Lead_Row := ik_Lead_in_Row,
    km_Lead_Run := ik_Lead_in_Run,
    km_Run_Join := ik_Run_in_Join,
    km_Run_Lead := ik_Run_in_Lead,
    km_Run_Row := ik_Run_in_Row,
    km_Run_Run := ik_Run_in_Run,
    mk_Join := ⟨mk_Join, a_Join_init, i_Join_init, kc_Join⟩,
    mk_Lead := ⟨mk_Lead, a_Lead_init, i_Lead_init, kc_Lead⟩,
    mk_Run := ⟨mk_Run, a_Run_init, i_Run_init, kc_Run⟩,
    na_Join__words := na_Join__words,
    na_Join_came := na_Join_came,
    na_Join_here := na_Join_here,
    na_Join_named := na_Join_named,
    na_Join_then := na_Join_then,
    na_Lead__words := na_Lead__words,
    na_Lead_named := na_Lead_named,
    na_Lead_old := na_Lead_old,
    na_Lead_tests := na_Lead_tests,
    na_Lead_then := na_Lead_then,
    na_Run__words := na_Run__words,
    na_Run_named := na_Run_named,
    na_Run_old := na_Run_old,
    na_Run_then := na_Run_then,
    sp_Join___eq__ := ⟨sa_Join___eq__, st_Join___eq__⟩,
    sp_Join___str__ := ⟨sa_Join___str__, st_Join___str__⟩,
    sp_Lead___eq__ := ⟨sa_Lead___eq__, st_Lead___eq__⟩,
    sp_Lead___str__ := ⟨sa_Lead___str__, st_Lead___str__⟩,
    sp_Run___eq__ := ⟨sa_Run___eq__, st_Run___eq__⟩,
    sp_Run___str__ := ⟨sa_Run___str__, st_Run___str__⟩,
    if_Row___eq__ := i_Row___eq__,
    if_Row___str__ := i_Row___str__,
    cr_Row := ⟨cr1_Row, cr2_Row⟩,
    q_Row_read := q_Row_read_,
    cm_Row_read := ⟨qc_Row_read, ⟨r_Row_read_, qr_Row_read⟩, qf_Row_read⟩,
    it_Join := ⟨⟨pg_Join, hd_Join, po_Join, sa_Join⟩, qa_Join, qn_, qt_, qm_Join⟩,
    it_Lead := ⟨⟨pg_Lead, hd_Lead, po_Lead, sa_Lead⟩, qa_Lead, qn_, qt_, qm_Lead⟩,
    it_Run := ⟨⟨pg_Run, hd_Run, po_Run, sa_Run⟩, qa_Run, qn_, qt_, qm_Run⟩,
    ne_Join := ne_Join,
    ne_Lead := ne_Lead,
    ne_Run := ne_Run,
    kb_Join := fun t ht => by simp only [List.mem_cons, List.not_mem_nil, or_false] at ht; rcases ht with rfl | rfl | rfl | rfl | rfl | rfl <;> assumption,
    kb_Lead := fun t ht => by simp only [List.mem_cons, List.not_mem_nil, or_false] at ht; rcases ht with rfl | rfl | rfl | rfl | rfl | rfl <;> assumption,
    kb_Row := fun t ht => by simp only [List.mem_cons, List.not_mem_nil, or_false] at ht; rcases ht with rfl | rfl | rfl | rfl | rfl | rfl <;> assumption,
    kb_Run := fun t ht => by simp only [List.mem_cons, List.not_mem_nil, or_false] at ht; rcases ht with rfl | rfl | rfl | rfl | rfl | rfl <;> assumption,
    n_abs := PySem.W.mg_none_of X G z_abs,
    n_all := PySem.W.mg_none_of X G z_all,
    n_int := PySem.W.mg_none_of X G z_int,
    n_isinstance := PySem.W.mg_none_of X G z_isinstance,
    n_len := PySem.W.mg_none_of X G z_len,
    n_list := PySem.W.mg_none_of X G z_list,
    n_range := PySem.W.mg_none_of X G z_range,
    n_set := PySem.W.mg_none_of X G z_set,
    n_str := PySem.W.mg_none_of X G z_str,
    n_super := PySem.W.mg_none_of X G z_super,
    n_tuple := PySem.W.mg_none_of X G z_tuple,
    gk_LETTERS := PySem.W.mg_of X G u_LETTERS,
    u_LETTERS := _,
    v_LETTERS := .str "abcdefghijklmnopqrstuvwxyz",
    rk_LETTERS := ⟨_, rfl⟩,
    dk_LETTERS := fun _ _ => .str _,
    gk_TAKEN := PySem.W.mg_of X G u_TAKEN,
    u_TAKEN := _,
    v_TAKEN := .ref t_TAKEN,
    rk_TAKEN := rfl,
    dk_TAKEN := fun _ _ => .wtup (xs := [V.str "and", V.str "any", V.str "came", V.str "here", V.str "not", V.str "own", V.str "to"]) ⟨_, _, _, l_TAKEN, rfl, rfl, (by show 7 ≤ sizeLine; decide), (.cons ⟨_, rfl⟩ (.cons ⟨_, rfl⟩ (.cons ⟨_, rfl⟩ (.cons ⟨_, rfl⟩ (.cons ⟨_, rfl⟩ (.cons ⟨_, rfl⟩ (.cons ⟨_, rfl⟩ .nil)))))))⟩ (.cons (.str _) (.cons (.str _) (.cons (.str _) (.cons (.str _) (.cons (.str _) (.cons (.str _) (.cons (.str _) .nil))))))),
    gk_TESTS := PySem.W.mg_of X G u_TESTS,
    u_TESTS := _,
    v_TESTS := .ref t_TESTS,
    rk_TESTS := rfl,
    dk_TESTS := fun _ _ => .wtup (xs := [V.str "above", V.str "below", V.str "own", V.str "not above", V.str "not below", V.str "not own"]) ⟨_, _, _, l_TESTS, rfl, rfl, (by show 6 ≤ sizeLine; decide), (.cons ⟨_, rfl⟩ (.cons ⟨_, rfl⟩ (.cons ⟨_, rfl⟩ (.cons ⟨_, rfl⟩ (.cons ⟨_, rfl⟩ (.cons ⟨_, rfl⟩ .nil))))))⟩ (.cons (.str _) (.cons (.str _) (.cons (.str _) (.cons (.str _) (.cons (.str _) (.cons (.str _) .nil)))))) }
  exact ⟨_, m_law T, "law", F_law, fun s v => .of_eq rfl, law_ok T, fun base cdv s H E _ _ hr => pf_law T hr⟩
end ledmarks_k04_texts_of_rows
open PySem PySem.W PyProof.Rows in
set_option maxRecDepth 100000 in
set_option maxHeartbeats 0 in
theorem PySem.Challenge.cw_ledmarks_k04_texts_of_rows_holds : PySem.Challenge.rw_ledmarks_k04_texts_of_rows.Holds := by
  w_on; o_law; k_head; (case hw => w_witness2)
  k_fill
  refine LM.walk_lawD (l := PySem.Challenge.rw_ledmarks_k04_texts_of_rows) (k := 6) (st := ledmarks_k04_texts_of_rows.s_law) (N := ["_law_script", "_law_deal_here", "_law_turn", "_law_marks_here", "_law_row_here", "_law_other", "_law_made_here", "_law_text", "_law_near", "_law_again", "_law_due", "_law_word"]) (x := "_law_script") rfl rfl ⟨rfl, by decide, by decide⟩ (fun w h Y => PySem.W.kIn_of Y) ledmarks_k04_texts_of_rows.sc_law ?F
  case F =>
    intro w mg fa h KX G hmg
    refine' ledmarks_k04_texts_of_rows.tx_mk KX G hmg ?aC_Join ?aC_Lead ?aC_Row ?aC_Run ?a_is_name ?l_is_name ?c_is_name ?k_is_name ?a_Row_init ?i_Row_init ?l_Row_init ?c_Row_init ?k_Row_init ?a__is_wanted ?l__is_wanted ?c__is_wanted ?k__is_wanted ?a_Join_init ?i_Join_init ?l_Join_init ?c_Join_init ?k_Join_init ?lc_Join_init ?vf_Join_init ?pf0_Join_init ?lx_Join_init ?ic_Join_init ?su1_Join_init ?su2_Join_init ?su3_Join_init ?su4_Join_init ?su5_Join_init ?a_are_different ?l_are_different ?c_are_different ?k_are_different ?a_part_of ?l_part_of ?c_part_of ?k_part_of ?a_is_sequence ?l_is_sequence ?c_is_sequence ?k_is_sequence ?a__are_tests ?l__are_tests ?c__are_tests ?k__are_tests ?a_Lead_init ?i_Lead_init ?l_Lead_init ?c_Lead_init ?k_Lead_init ?lc_Lead_init ?vf_Lead_init ?pf0_Lead_init ?lx_Lead_init ?ic_Lead_init ?su1_Lead_init ?su2_Lead_init ?su3_Lead_init ?su4_Lead_init ?su5_Lead_init ?a__tests ?l__tests ?c__tests ?k__tests ?a_Run_init ?i_Run_init ?l_Run_init ?c_Run_init ?k_Run_init ?lc_Run_init ?vf_Run_init ?pf0_Run_init ?lx_Run_init ?ic_Run_init ?su1_Run_init ?su2_Run_init ?su3_Run_init ?su4_Run_init ?su5_Run_init ?a__row ?l__row ?c__row ?k__row ?qa_Row_read ?qr_Row_read ?qf_Row_read ?qc_Row_read ?l_Row_read ?c_Row_read ?k_Row_read ?a_Row___str__ ?i_Row___str__ ?l_Row___str__ ?c_Row___str__ ?k_Row___str__ ?a_Row___eq__ ?i_Row___eq__ ?l_Row___eq__ ?c_Row___eq__ ?k_Row___eq__ ?a__law_made ?l__law_made ?c__law_made ?k__law_made ?a__law_sort ?l__law_sort ?c__law_sort ?k__law_sort ?a__law_row_text ?l__law_row_text ?c__law_row_text ?k__law_row_text ?a__law_draw ?l__law_draw ?c__law_draw ?k__law_draw ?a__law_pick ?l__law_pick ?c__law_pick ?k__law_pick ?a__law_mixed ?l__law_mixed ?c__law_mixed ?k__law_mixed ?a__law_tests ?l__law_tests ?c__law_tests ?k__law_tests ?a__law_row ?l__law_row ?c__law_row ?k__law_row ?a__law_marks ?l__law_marks ?c__law_marks ?k__law_marks ?a__law_deal ?l__law_deal ?c__law_deal ?k__law_deal ?a_law ?l_law ?c_law ?k_law ?pg_Join ?hd_Join ?po_Join ?sa_Join ?pg_Lead ?hd_Lead ?po_Lead ?sa_Lead ?pg_Row ?hd_Row ?po_Row ?sa_Row ?pg_Run ?hd_Run ?po_Run ?sa_Run ?mk_Join ?kc_Join ?mk_Lead ?kc_Lead ?mk_Run ?kc_Run ?cr1_Row ?cr2_Row ?na_Join__words ?na_Join_came ?na_Join_here ?na_Join_named ?na_Join_then ?na_Lead__words ?na_Lead_named ?na_Lead_old ?na_Lead_tests ?na_Lead_then ?na_Run__words ?na_Run_named ?na_Run_old ?na_Run_then ?qa_Join ?qm_Join ?qa_Lead ?qm_Lead ?qa_Run ?qm_Run ?qn_ ?qt_ ?sa_Join___eq__ ?st_Join___eq__ ?sa_Join___str__ ?st_Join___str__ ?sa_Lead___eq__ ?st_Lead___eq__ ?sa_Lead___str__ ?st_Lead___str__ ?sa_Run___eq__ ?st_Run___eq__ ?sa_Run___str__ ?st_Run___str__ ?ne_Join ?ne_Lead ?ne_Run ?ik_Join__NoneType ?ik_Join__bool ?ik_Join__int ?ik_Join__str ?ik_Join__tuple ?ik_Join__list ?ik_Lead__NoneType ?ik_Lead__bool ?ik_Lead__int ?ik_Lead__str ?ik_Lead__tuple ?ik_Lead__list ?ik_Row__NoneType ?ik_Row__bool ?ik_Row__int ?ik_Row__str ?ik_Row__tuple ?ik_Row__list ?ik_Run__NoneType ?ik_Run__bool ?ik_Run__int ?ik_Run__str ?ik_Run__tuple ?ik_Run__list ?nf_Join_Join ?nf_Join_Lead ?nf_Join_Run ?nf_Lead_Join ?nf_Lead_Lead ?nf_Lead_Run ?nf_Run_Join ?nf_Run_Lead ?nf_Run_Run ?ik_Join_in_Join ?ik_Join_in_Lead ?ik_Join_in_Row ?ik_Join_in_Run ?ik_Lead_in_Join ?ik_Lead_in_Lead ?ik_Lead_in_Row ?ik_Lead_in_Run ?ik_Run_in_Join ?ik_Run_in_Lead ?ik_Run_in_Row ?ik_Run_in_Run ?top_ ?z_abs ?z_all ?z_int ?z_isinstance ?z_len ?z_list ?z_range ?z_set ?z_str ?z_super ?z_tuple ?u_LETTERS ?u_TAKEN ?l_TAKEN ?u_TESTS ?l_TESTS
    (case aC_Join => k_is)
    (case aC_Lead => k_is)
    (case aC_Row => k_is)
    (case aC_Run => k_is)
    (case a_is_name => k_is)
    (case l_is_name => k_is)
    (case c_is_name => k_is)
    (case k_is_name => k_is)
    (case a_Row_init => k_is)
    (case i_Row_init => k_is)
    (case l_Row_init => k_is)
    (case c_Row_init => k_is)
    (case k_Row_init => k_is)
    (case a__is_wanted => k_is)
    (case l__is_wanted => k_is)
    (case c__is_wanted => k_is)
    (case k__is_wanted => k_is)
    (case a_Join_init => k_is)
    (case i_Join_init => k_is)
    (case l_Join_init => k_is)
    (case c_Join_init => k_is)
    (case k_Join_init => k_is)
    (case lc_Join_init => k_is)
    (case vf_Join_init => rfl)
    (case pf0_Join_init => rfl)
    (case lx_Join_init => k_is)
    (case ic_Join_init => k_is)
    (case su1_Join_init => ks_is)
    (case su2_Join_init => k_is)
    (case su3_Join_init => k_is)
    (case su4_Join_init => k_is)
    (case su5_Join_init => k_is)
    (case a_are_different => k_is)
    (case l_are_different => k_is)
    (case c_are_different => k_is)
    (case k_are_different => k_is)
    (case a_part_of => k_is)
    (case l_part_of => k_is)
    (case c_part_of => k_is)
    (case k_part_of => k_is)
    (case a_is_sequence => k_is)
    (case l_is_sequence => k_is)
    (case c_is_sequence => k_is)
    (case k_is_sequence => k_is)
    (case a__are_tests => k_is)
    (case l__are_tests => k_is)
    (case c__are_tests => k_is)
    (case k__are_tests => k_is)
    (case a_Lead_init => k_is)
    (case i_Lead_init => k_is)
    (case l_Lead_init => k_is)
    (case c_Lead_init => k_is)
    (case k_Lead_init => k_is)
    (case lc_Lead_init => k_is)
    (case vf_Lead_init => rfl)
    (case pf0_Lead_init => rfl)
    (case lx_Lead_init => k_is)
    (case ic_Lead_init => k_is)
    (case su1_Lead_init => ks_is)
    (case su2_Lead_init => k_is)
    (case su3_Lead_init => k_is)
    (case su4_Lead_init => k_is)
    (case su5_Lead_init => k_is)
    (case a__tests => k_is)
    (case l__tests => k_is)
    (case c__tests => k_is)
    (case k__tests => k_is)
    (case a_Run_init => k_is)
    (case i_Run_init => k_is)
    (case l_Run_init => k_is)
    (case c_Run_init => k_is)
    (case k_Run_init => k_is)
    (case lc_Run_init => k_is)
    (case vf_Run_init => rfl)
    (case pf0_Run_init => rfl)
    (case lx_Run_init => k_is)
    (case ic_Run_init => k_is)
    (case su1_Run_init => ks_is)
    (case su2_Run_init => k_is)
    (case su3_Run_init => k_is)
    (case su4_Run_init => k_is)
    (case su5_Run_init => k_is)
    (case a__row => k_is)
    (case l__row => k_is)
    (case c__row => k_is)
    (case k__row => k_is)
    (case qa_Row_read => k_is)
    (case qr_Row_read => k_is)
    (case qf_Row_read => k_is)
    (case qc_Row_read => k_is)
    (case l_Row_read => k_is)
    (case c_Row_read => k_is)
    (case k_Row_read => k_is)
    (case a_Row___str__ => k_is)
    (case i_Row___str__ => k_is)
    (case l_Row___str__ => k_is)
    (case c_Row___str__ => k_is)
    (case k_Row___str__ => k_is)
    (case a_Row___eq__ => k_is)
    (case i_Row___eq__ => k_is)
    (case l_Row___eq__ => k_is)
    (case c_Row___eq__ => k_is)
    (case k_Row___eq__ => k_is)
    (case a__law_made => k_is)
    (case l__law_made => k_is)
    (case c__law_made => k_is)
    (case k__law_made => k_is)
    (case a__law_sort => k_is)
    (case l__law_sort => k_is)
    (case c__law_sort => k_is)
    (case k__law_sort => k_is)
    (case a__law_row_text => k_is)
    (case l__law_row_text => k_is)
    (case c__law_row_text => k_is)
    (case k__law_row_text => k_is)
    (case a__law_draw => k_is)
    (case l__law_draw => k_is)
    (case c__law_draw => k_is)
    (case k__law_draw => k_is)
    (case a__law_pick => k_is)
    (case l__law_pick => k_is)
    (case c__law_pick => k_is)
    (case k__law_pick => k_is)
    (case a__law_mixed => k_is)
    (case l__law_mixed => k_is)
    (case c__law_mixed => k_is)
    (case k__law_mixed => k_is)
    (case a__law_tests => k_is)
    (case l__law_tests => k_is)
    (case c__law_tests => k_is)
    (case k__law_tests => k_is)
    (case a__law_row => k_is)
    (case l__law_row => k_is)
    (case c__law_row => k_is)
    (case k__law_row => k_is)
    (case a__law_marks => k_is)
    (case l__law_marks => k_is)
    (case c__law_marks => k_is)
    (case k__law_marks => k_is)
    (case a__law_deal => k_is)
    (case l__law_deal => k_is)
    (case c__law_deal => k_is)
    (case k__law_deal => k_is)
    (case a_law => k_is)
    (case l_law => k_is)
    (case c_law => k_is)
    (case k_law => k_is)
    (case pg_Join => k_is)
    (case hd_Join => k_is)
    (case po_Join => k_is)
    (case sa_Join => k_is)
    (case pg_Lead => k_is)
    (case hd_Lead => k_is)
    (case po_Lead => k_is)
    (case sa_Lead => k_is)
    (case pg_Row => k_is)
    (case hd_Row => k_is)
    (case po_Row => k_is)
    (case sa_Row => k_is)
    (case pg_Run => k_is)
    (case hd_Run => k_is)
    (case po_Run => k_is)
    (case sa_Run => k_is)
    (case mk_Join => k_is)
    (case kc_Join => k_is)
    (case mk_Lead => k_is)
    (case kc_Lead => k_is)
    (case mk_Run => k_is)
    (case kc_Run => k_is)
    (case cr1_Row => k_is)
    (case cr2_Row => k_is)
    (case na_Join__words => k_is)
    (case na_Join_came => k_is)
    (case na_Join_here => k_is)
    (case na_Join_named => k_is)
    (case na_Join_then => k_is)
    (case na_Lead__words => k_is)
    (case na_Lead_named => k_is)
    (case na_Lead_old => k_is)
    (case na_Lead_tests => k_is)
    (case na_Lead_then => k_is)
    (case na_Run__words => k_is)
    (case na_Run_named => k_is)
    (case na_Run_old => k_is)
    (case na_Run_then => k_is)
    (case qa_Join => k_is)
    (case qm_Join => k_is)
    (case qa_Lead => k_is)
    (case qm_Lead => k_is)
    (case qa_Run => k_is)
    (case qm_Run => k_is)
    (case qn_ => k_is)
    (case qt_ => k_is)
    (case sa_Join___eq__ => k_is)
    (case st_Join___eq__ => k_is)
    (case sa_Join___str__ => k_is)
    (case st_Join___str__ => k_is)
    (case sa_Lead___eq__ => k_is)
    (case st_Lead___eq__ => k_is)
    (case sa_Lead___str__ => k_is)
    (case st_Lead___str__ => k_is)
    (case sa_Run___eq__ => k_is)
    (case st_Run___eq__ => k_is)
    (case sa_Run___str__ => k_is)
    (case st_Run___str__ => k_is)
    (case ne_Join => k_is)
    (case ne_Lead => k_is)
    (case ne_Run => k_is)
    (case ik_Join__NoneType => kit_is)
    (case ik_Join__bool => kit_is)
    (case ik_Join__int => kit_is)
    (case ik_Join__str => kit_is)
    (case ik_Join__tuple => kit_is)
    (case ik_Join__list => kit_is)
    (case ik_Lead__NoneType => kit_is)
    (case ik_Lead__bool => kit_is)
    (case ik_Lead__int => kit_is)
    (case ik_Lead__str => kit_is)
    (case ik_Lead__tuple => kit_is)
    (case ik_Lead__list => kit_is)
    (case ik_Row__NoneType => kit_is)
    (case ik_Row__bool => kit_is)
    (case ik_Row__int => kit_is)
    (case ik_Row__str => kit_is)
    (case ik_Row__tuple => kit_is)
    (case ik_Row__list => kit_is)
    (case ik_Run__NoneType => kit_is)
    (case ik_Run__bool => kit_is)
    (case ik_Run__int => kit_is)
    (case ik_Run__str => kit_is)
    (case ik_Run__tuple => kit_is)
    (case ik_Run__list => kit_is)
    (case nf_Join_Join => k_is)
    (case nf_Join_Lead => k_is)
    (case nf_Join_Run => k_is)
    (case nf_Lead_Join => k_is)
    (case nf_Lead_Lead => k_is)
    (case nf_Lead_Run => k_is)
    (case nf_Run_Join => k_is)
    (case nf_Run_Lead => k_is)
    (case nf_Run_Run => k_is)
    (case ik_Join_in_Join => kit_is)
    (case ik_Join_in_Lead => kit_is)
    (case ik_Join_in_Row => kit_is)
    (case ik_Join_in_Run => kit_is)
    (case ik_Lead_in_Join => kit_is)
    (case ik_Lead_in_Lead => kit_is)
    (case ik_Lead_in_Row => kit_is)
    (case ik_Lead_in_Run => kit_is)
    (case ik_Run_in_Join => kit_is)
    (case ik_Run_in_Lead => kit_is)
    (case ik_Run_in_Row => kit_is)
    (case ik_Run_in_Run => kit_is)
    (case top_ => rfl)
    (case z_abs => k_is)
    (case z_all => k_is)
    (case z_int => k_is)
    (case z_isinstance => k_is)
    (case z_len => k_is)
    (case z_list => k_is)
    (case z_range => k_is)
    (case z_set => k_is)
    (case z_str => k_is)
    (case z_super => k_is)
    (case z_tuple => k_is)
    (case u_LETTERS => k_is)
    (case u_TAKEN => k_is)
    (case l_TAKEN => k_is)
    (case u_TESTS => k_is)
    (case l_TESTS => k_is)

