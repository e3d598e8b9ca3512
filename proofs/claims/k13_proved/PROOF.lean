import PyProof.Rows.All
import Wide.All
import OpenK.AllK
import Wide.FinOn
import HandS.ForMost
import HandS.ForExc
import HandS.IsInst
import HandS.CallSlots
import KE.DataEq
import PyProof.ReprBulk
import KE.GoesEnum
import HandS.Iter
import HandS.FStr
import HandS.Text
import HandS.Flow
import KE.KExcInit
import HandS.Exc
import HandS.ExcIs
import HandS.ExcField
import KE.KExcIs
import OpenK.KMake
import PyProof.InstSpecial
import HandS.More
import KE.KExcLine
import KE.RegKIsAll
import KE.KCallOwn
import HandS.ClsMeth
import PyProof.InstNe
import PySem.Challenge.RW_ledmarks_k13_editions_made
set_option Elab.async false
set_option linter.all false
set_option maxRecDepth 100000
set_option maxHeartbeats 4000000
namespace LM
open PySem L2

inductive D where
  | non | bl (b : Bool) | int (i : Int) | str (x : Str)
  | tup (ds : List D) | lst (ds : List D) | ins (C : Addr) (ns : List Str) (ds : List D)

def WrT (K : PySem.W.Frag) (a : Addr) (xs : List V) : Prop :=
  ∃ (o : Obj) (its : Array Value) (n : Nat), K.lookup a = some o ∧ o.cls = .type "tuple" ∧ o.data = .seq its n ∧ its.size ≤ sizeLine ∧ Vals xs its.toList
def WrL (K : PySem.W.Frag) (a : Addr) (xs : List V) : Prop :=
  ∃ (its : Array Value) (n : Nat), K.lookup a = some { cls := .type "list", data := .seq its n } ∧ its.size ≤ sizeLine ∧ Vals xs its.toList
theorem WrL.sq {K : PySem.W.Frag} {H : Hp} {a : Addr} {xs : List V} (h : WrL K a xs) : SqL K H a xs := let ⟨its, n, e, z, r⟩ := h; .inr ⟨_, its, n, e, rfl, rfl, rfl, z, r⟩

mutual
inductive Rep (K : PySem.W.Frag) (B : Addr → Prop) (H : Hp) : V → D → Prop
  | non : Rep K B H .non .non
  | bl (b : Bool) : Rep K B H (.bl b) (.bl b)
  | int (i : Int) : Rep K B H (.int i) (.int i)
  | str (x : Str) : Rep K B H (.str x) (.str x)
  | tup {a : Addr} {xs : List V} {ds : List D} : ¬ B a → Rd H a (.tup xs) → Reps K B H xs ds → Rep K B H (.ref a) (.tup ds)
  | wtup {a : Addr} {xs : List V} {ds : List D} : WrT K a xs → Reps K B H xs ds → Rep K B H (.ref a) (.tup ds)
  | lst {a : Addr} {xs : List V} {ds : List D} : ¬ B a → Rd H a (.lst xs) → Reps K B H xs ds → Rep K B H (.ref a) (.lst ds)
  | wlst {a : Addr} {xs : List V} {ds : List D} : WrL K a xs → Reps K B H xs ds → Rep K B H (.ref a) (.lst ds)
  | ins {a C dx : Addr} {fs : List (Str × V)} {ns : List Str} {ds : List D} : ¬ B a → H a = some (.ins C dx fs) → ns = fs.map (·.1) → Reps K B H (fs.map (·.2)) ds → Rep K B H (.ref a) (.ins C ns ds)
inductive Reps (K : PySem.W.Frag) (B : Addr → Prop) (H : Hp) : List V → List D → Prop
  | nil : Reps K B H [] []
  | cons {v : V} {vs : List V} {d : D} {ds : List D} : Rep K B H v d → Reps K B H vs ds → Reps K B H (v :: vs) (d :: ds)
end

/-- the heap may turn at B, and grow; the avoided ones grow by new ones alone -/
structure Gr (B B' : Addr → Prop) (H H' : Hp) : Prop where
  kp : ∀ a o, H a = some o → ¬ B a → H' a = some o
  bb : ∀ a, B' a → B a ∨ H a = none

theorem rdgr {B B' : Addr → Prop} {H H' : Hp} {a : Addr} {u : HO} (g : Gr B B' H H') (n : ¬ B a) (r : Rd H a u) : ¬ B' a ∧ Rd H' a u := by
  rcases r with r | ⟨o, r⟩
  · exact ⟨fun h => (g.bb a h).elim n fun z => (by rw [r] at z; cases z), .inl (g.kp _ _ r n)⟩
  · exact ⟨fun h => (g.bb a h).elim n fun z => (by rw [r] at z; cases z), .inr ⟨o, g.kp _ _ r n⟩⟩

section
variable {K : PySem.W.Frag} {B B' : Addr → Prop} {H H' : Hp}
mutual
theorem Rep.gr (g : Gr B B' H H') : ∀ (d : D) (v : V), Rep K B H v d → Rep K B' H' v d
  | .non, _, h => by cases h; exact .non
  | .bl _, _, h => by cases h; exact .bl _
  | .int _, _, h => by cases h; exact .int _
  | .str _, _, h => by cases h; exact .str _
  | .tup ds, _, h => by
    cases h with
    | tup n r q => exact .tup (rdgr g n r).1 (rdgr g n r).2 (Reps.gr g ds _ q)
    | wtup r q => exact .wtup r (Reps.gr g ds _ q)
  | .lst ds, _, h => by
    cases h with
    | lst n r q => exact .lst (rdgr g n r).1 (rdgr g n r).2 (Reps.gr g ds _ q)
    | wlst r q => exact .wlst r (Reps.gr g ds _ q)
  | .ins C ns ds, _, h => by
    cases h with
    | ins n r e q => exact .ins (fun z => (g.bb _ z).elim n fun y => (by rw [r] at y; cases y)) (g.kp _ _ r n) e (Reps.gr g ds _ q)
theorem Reps.gr (g : Gr B B' H H') : ∀ (ds : List D) (vs : List V), Reps K B H vs ds → Reps K B' H' vs ds
  | [], _, h => by cases h; exact .nil
  | d :: ds, _, h => by
    cases h with
    | cons h1 h2 => exact .cons (Rep.gr g d _ h1) (Reps.gr g ds _ h2)
end
theorem Reps.len : ∀ {vs : List V} {ds : List D}, Reps K B H vs ds → vs.length = ds.length
  | _, [], h => by cases h; rfl
  | _, d :: ds, h => by
    cases h with
    | cons h1 h2 => rw [List.length_cons, List.length_cons, Reps.len h2]
theorem Reps.app : ∀ {vs us : List V} {ds es : List D}, Reps K B H vs ds → Reps K B H us es → Reps K B H (vs ++ us) (ds ++ es)
  | _, _, [], _, h, h' => by cases h; exact h'
  | _, _, d :: ds, _, h, h' => by
    cases h with
    | cons h1 h2 => exact .cons h1 (Reps.app h2 h')
theorem Reps.one {v : V} {d : D} (h : Rep K B H v d) : Reps K B H [v] [d] := .cons h .nil
theorem Reps.get : ∀ {ds : List D} {vs : List V} {i : Nat} {d : D}, Reps K B H vs ds → ds[i]? = some d → ∃ v, vs[i]? = some v ∧ Rep K B H v d
  | d :: ds, _, 0, e, h, q => by
    cases h with
    | cons h1 h2 =>
      simp at q; subst q
      exact ⟨_, rfl, h1⟩
  | d :: ds, _, i + 1, e, h, q => by
    cases h with
    | cons h1 h2 =>
      obtain ⟨v, e1, e2⟩ := Reps.get (i := i) h2 (by simpa using q)
      exact ⟨v, by simpa using e1, e2⟩
  | [], _, _, _, _, q => by simp at q
theorem Reps.getV : ∀ {vs : List V} {ds : List D} {i : Nat} {v : V}, Reps K B H vs ds → vs[i]? = some v → ∃ d, ds[i]? = some d ∧ Rep K B H v d
  | [], _, _, _, _, q => by simp at q
  | v :: vs, d :: ds, 0, e, h, q => by
    cases h with
    | cons h1 h2 =>
      simp at q; subst q
      exact ⟨_, rfl, h1⟩
  | v :: vs, d :: ds, i + 1, e, h, q => by
    cases h with
    | cons h1 h2 =>
      obtain ⟨v, e1, e2⟩ := Reps.getV (i := i) h2 (by simpa using q)
      exact ⟨v, by simpa using e1, e2⟩
  | v :: vs, [], _, _, h, _ => by cases h
theorem Reps.set : ∀ {vs : List V} {ds : List D} (i : Nat) {v : V} {d : D}, Reps K B H vs ds → Rep K B H v d → Reps K B H (vs.set i v) (ds.set i d)
  | _, [], _, _, _, h, _ => by cases h; exact .nil
  | _, d :: ds, 0, _, _, h, r => by
    cases h with
    | cons h1 h2 => exact .cons r h2
  | _, d :: ds, i + 1, _, _, h, r => by
    cases h with
    | cons h1 h2 => exact .cons h1 (Reps.set i h2 r)
theorem Reps.take : ∀ {vs : List V} {ds : List D} (n : Nat), Reps K B H vs ds → Reps K B H (vs.take n) (ds.take n)
  | _, _, 0, _ => .nil
  | _, [], _ + 1, h => by cases h; exact .nil
  | _, d :: ds, n + 1, h => by
    cases h with
    | cons h1 h2 => exact .cons h1 (Reps.take n h2)
theorem Reps.drop : ∀ {vs : List V} {ds : List D} (n : Nat), Reps K B H vs ds → Reps K B H (vs.drop n) (ds.drop n)
  | _, _, 0, h => h
  | _, [], _ + 1, h => by cases h; exact .nil
  | _, d :: ds, n + 1, h => by
    cases h with
    | cons h1 h2 => exact Reps.drop n h2
theorem Reps.rev : ∀ {vs : List V} {ds : List D}, Reps K B H vs ds → Reps K B H vs.reverse ds.reverse
  | _, [], h => by cases h; exact .nil
  | _, d :: ds, h => by
    cases h with
    | cons h1 h2 =>
      rw [List.reverse_cons, List.reverse_cons]
      exact (Reps.rev h2).app (.one h1)
theorem Reps.erase (i : Nat) {vs : List V} {ds : List D} (h : Reps K B H vs ds) : Reps K B H (vs.eraseIdx i) (ds.eraseIdx i) := by
  rw [List.eraseIdx_eq_take_drop_succ, List.eraseIdx_eq_take_drop_succ]
  exact (h.take i).app (h.drop (i + 1))
theorem Gr.sub (h : ∀ a, B' a → B a) : Gr B B' H H := ⟨fun _ _ e _ => e, fun a z => .inl (h a z)⟩
theorem Gr.same (h : ∀ a o, H a = some o → H' a = some o) : Gr B B H H' := ⟨fun _ _ e _ => h _ _ e, fun _ z => .inl z⟩
end

/-- a value whose own list may be avoided itself: T is what it is not -/
def Top (K : PySem.W.Frag) (T B : Addr → Prop) (H : Hp) (v : V) (d : D) : Prop :=
  Rep K B H v d ∨ ∃ (a : Addr) (xs : List V) (ds : List D), v = .ref a ∧ d = .lst ds ∧ ¬ T a ∧ Rd H a (.lst xs) ∧ Reps K B H xs ds
theorem Top.gr {K : PySem.W.Frag} {T T' B B' : Addr → Prop} {H H' : Hp} (gt : Gr T T' H H') (g : Gr B B' H H') {v : V} {d : D} (h : Top K T B H v d) : Top K T' B' H' v d := by
  rcases h with h | ⟨a, xs, ds, rfl, rfl, n, r, q⟩
  · exact .inl (h.gr g)
  · exact .inr ⟨a, xs, ds, rfl, rfl, (rdgr gt n r).1, (rdgr gt n r).2, q.gr g⟩

/-! ### what a value is, read -/
section
variable {K : PySem.W.Frag} {T B : Addr → Prop} {H : Hp}
theorem sqT_of {a : Addr} {xs : List V} (h : Rd H a (.tup xs)) : SqT K H a xs := .inl h
theorem sqT_w {a : Addr} {xs : List V} (h : WrT K a xs) : SqT K H a xs := .inr h
theorem Top.tup {v : V} {ds : List D} (h : Top K T B H v (.tup ds)) : ∃ a xs, v = .ref a ∧ SqT K H a xs ∧ Reps K B H xs ds := by
  rcases h with h | ⟨_, _, _, _, e, _⟩
  · cases h with
    | tup n r q => exact ⟨_, _, rfl, .inl r, q⟩
    | wtup r q => exact ⟨_, _, rfl, .inr r, q⟩
  · cases e
theorem Top.lst {v : V} {ds : List D} (h : Top K T B H v (.lst ds)) : ∃ a xs, v = .ref a ∧ SqL K H a xs ∧ Reps K B H xs ds := by
  rcases h with h | ⟨a, xs, es, rfl, e, _, r, q⟩
  · cases h with
    | lst n r q => exact ⟨_, _, rfl, .inl r, q⟩
    | wlst r q => exact ⟨_, _, rfl, r.sq, q⟩
  · cases e
    exact ⟨a, xs, rfl, .inl r, q⟩
theorem Top.int {v : V} {i : Int} (h : Top K T B H v (.int i)) : v = .int i := by
  rcases h with h | ⟨_, _, _, _, e, _⟩
  · cases h; rfl
  · cases e
theorem Top.str {v : V} {i : Str} (h : Top K T B H v (.str i)) : v = .str i := by
  rcases h with h | ⟨_, _, _, _, e, _⟩
  · cases h; rfl
  · cases e
theorem Top.bl {v : V} {i : Bool} (h : Top K T B H v (.bl i)) : v = .bl i := by
  rcases h with h | ⟨_, _, _, _, e, _⟩
  · cases h; rfl
  · cases e
theorem Top.non {v : V} (h : Top K T B H v .non) : v = .non := by
  rcases h with h | ⟨_, _, _, _, e, _⟩
  · cases h; rfl
  · cases e
theorem Top.ins {v : V} {C : Addr} {ns : List Str} {ds : List D} (h : Top K T B H v (.ins C ns ds)) : ∃ a dx fs, v = .ref a ∧ H a = some (.ins C dx fs) ∧ ns = fs.map (·.1) ∧ Reps K B H (fs.map (·.2)) ds := by
  rcases h with h | ⟨_, _, _, _, e, _⟩
  · cases h with
    | ins n r e q => exact ⟨_, _, _, rfl, r, e, q⟩
  · cases e
end
end LM

namespace LM
open PySem L2

/-- what a name's slot holds -/
inductive Sl where
  | no | val (d : D) | top (d : D) | own (ds : List D) | fz (ds : List D) | slf (x C : Addr) (ns : List Str) (ds : List D) | box
def Sl.isOwn : Sl → Bool
  | .own _ => true
  | .slf _ _ _ _ => true
  | _ => false
def Sl.isRef : Sl → Bool
  | .own _ => true
  | .slf _ _ _ _ => true
  | .fz _ => true
  | _ => false
/-- what an expression's value is: data; data whose own list is somebody's; the own list of a slot; a new list; the box -/
inductive W where
  | v (d : D) | t (d : D) | l (i : Nat) | f (ds : List D) | b
def W.isF : W → Bool
  | .f _ => true
  | _ => false

/-- the state behind a reference that many defs hand on -/
structure BoxI (S : Type) where
  rel : S → V → (Addr → Prop) → Hp → Prop
  frame : ∀ {s : S} {bv : V} {bm : Addr → Prop} {H H' : Hp}, rel s bv bm H → (∀ a, bm a → H' a = H a) → rel s bv bm H'
  dom : ∀ {s : S} {bv : V} {bm : Addr → Prop} {H : Hp} {a : Addr}, rel s bv bm H → bm a → H a ≠ none
  fix : Bool
def boxNil : BoxI Unit where
  rel := fun _ _ bm _ => ∀ a, ¬ bm a
  frame := fun h _ => h
  dom := fun h m => absurd m (h _)
  fix := true

structure Gh where
  B : Addr → Prop
  M : Addr → Prop
  H0 : Hp
  bv : V := .non

def Ow (ad : Nat → Addr) (env : List Sl) (ts : List (V × W)) (a : Addr) : Prop :=
  (∃ i x, env[i]? = some x ∧ x.isOwn = true ∧ ad i = a) ∨ ∃ p ∈ ts, p.2.isF = true ∧ p.1 = .ref a
def Tv (bm : Addr → Prop) (ad : Nat → Addr) (env : List Sl) (ts : List (V × W)) (a : Addr) : Prop := bm a ∨ Ow ad env ts a
def Bv (G : Gh) (bm : Addr → Prop) (ad : Nat → Addr) (env : List Sl) (ts : List (V × W)) (a : Addr) : Prop := G.B a ∨ bm a ∨ Ow ad env ts a

def SlR (K : PySem.W.Frag) (T B : Addr → Prop) (bv : V) (H : Hp) (a : Addr) (o : Option (Option V)) : Sl → Prop
  | .no => True
  | .val d => ∃ v, o = some (some v) ∧ Rep K B H v d
  | .top d => ∃ v, o = some (some v) ∧ Top K T B H v d
  | .own ds => o = some (some (.ref a)) ∧ ∃ xs, H a = some (.lst xs) ∧ Reps K B H xs ds
  | .fz ds => o = some (some (.ref a)) ∧ Rep K B H (.ref a) (.lst ds)
  | .slf x C ns ds => a = x ∧ o = some (some (.ref a)) ∧ ∃ dx fs, H a = some (.ins C dx fs) ∧ ns = fs.map (·.1) ∧ Reps K B H (fs.map (·.2)) ds
  | .box => o = some (some bv)
def Wr (K : PySem.W.Frag) (T B : Addr → Prop) (bv : V) (ad : Nat → Addr) (env : List Sl) (H : Hp) (x : V) : W → Prop
  | .v d => Rep K B H x d
  | .t d => Top K T B H x d
  | .l i => x = .ref (ad i) ∧ ∃ y, env[i]? = some y ∧ y.isRef = true
  | .f ds => ∃ a xs, x = .ref a ∧ H a = some (.lst xs) ∧ Reps K B H xs ds
  | .b => x = bv

structure ERa {S : Type} (K : PySem.W.Frag) (I : BoxI S) (G : Gh) (ad : Nat → Addr) (bv : V) (bm : Addr → Prop) (env : List Sl) (s : S) (ts : List (V × W)) (σ : St) (H : Hp) : Prop where
  len : σ.length = env.length
  ext : ∀ a o, G.H0 a = some o → ¬ G.M a → H a = some o
  dom : ∀ a, H a = none → G.H0 a = none
  box : I.rel s bv bm H
  bfr : (∀ a, bm a → G.M a ∨ G.H0 a = none) ∧ (I.fix = true → bv = G.bv ∧ bm = G.M)
  bdom : ∀ a, G.B a → G.H0 a ≠ none
  own : ∀ i x, env[i]? = some x → x.isOwn = true → G.H0 (ad i) = none ∧ ¬ bm (ad i)
  tow : ∀ p ∈ ts, p.2.isF = true → ∀ a, p.1 = .ref a → G.H0 a = none ∧ ¬ bm a
  d1 : ∀ i j x y, env[i]? = some x → env[j]? = some y → x.isOwn = true → y.isOwn = true → ad i = ad j → i = j
  d2 : ∀ i x p, env[i]? = some x → x.isOwn = true → p ∈ ts → p.2.isF = true → p.1 ≠ .ref (ad i)
  d3 : ts.Pairwise fun p q => p.2.isF = true → q.2.isF = true → p.1 ≠ q.1
  sl : ∀ i x, env[i]? = some x → SlR K (Tv bm ad env ts) (Bv G bm ad env ts) bv H (ad i) σ[i]? x
  tm : ∀ p ∈ ts, Wr K (Tv bm ad env ts) (Bv G bm ad env ts) bv ad env H p.1 p.2

section
variable {S : Type} {K : PySem.W.Frag} {I : BoxI S} {G : Gh} {ad : Nat → Addr} {bv : V} {bm : Addr → Prop} {env : List Sl} {s s' : S} {ts ts' : List (V × W)} {σ : St} {H H' : Hp}

theorem SlR.gr {T T' B B' : Addr → Prop} {a : Addr} {o : Option (Option V)} {x : Sl} (gt : Gr T T' H H') (g : Gr B B' H H') (ho : x.isOwn = true → ∀ u, H a = some u → H' a = some u) (h : SlR K T B bv H a o x) : SlR K T' B' bv H' a o x := by
  cases x with
  | no => exact h
  | val d => obtain ⟨v, e, r⟩ := h; exact ⟨v, e, r.gr g⟩
  | top d => obtain ⟨v, e, r⟩ := h; exact ⟨v, e, r.gr gt g⟩
  | own ds => obtain ⟨e, xs, e2, r⟩ := h; exact ⟨e, xs, ho rfl _ e2, r.gr g⟩
  | fz ds => obtain ⟨e, r⟩ := h; exact ⟨e, r.gr g⟩
  | slf x C ns ds => obtain ⟨ea, e, dx, fs, e2, e3, r⟩ := h; exact ⟨ea, e, dx, fs, ho rfl _ e2, e3, r.gr g⟩
  | box => exact h
theorem Wr.gr {T T' B B' : Addr → Prop} {env' : List Sl} {x : V} {w : W} (gt : Gr T T' H H') (g : Gr B B' H H') (ho : w.isF = true → ∀ a u, x = .ref a → H a = some u → H' a = some u)
    (he : ∀ i y, w = .l i → env[i]? = some y → y.isRef = true → ∃ y', env'[i]? = some y' ∧ y'.isRef = true) (h : Wr K T B bv ad env H x w) : Wr K T' B' bv ad env' H' x w := by
  cases w with
  | v d => exact Rep.gr g _ _ h
  | t d => exact Top.gr gt g h
  | l i => obtain ⟨e, y, e1, e2⟩ := h; exact ⟨e, he i y rfl e1 e2⟩
  | f ds => obtain ⟨a, xs, e, e1, r⟩ := h; exact ⟨a, xs, e, ho rfl a _ e e1, r.gr g⟩
  | b => exact h
/-- all that is avoided stands -/
theorem ERa.tdom (R : ERa K I G ad bv bm env s ts σ H) {a : Addr} (h : Tv bm ad env ts a) : H a ≠ none := by
  rcases h with h | ⟨i, x, e, o, rfl⟩ | ⟨p, hp, f, e⟩
  · exact I.dom R.box h
  · have q := R.sl i x e
    cases x with
    | own ds => obtain ⟨_, xs, e2, _⟩ := q; rw [e2]; exact fun z => by cases z
    | slf x C ns ds => obtain ⟨_, _, dx, fs, e2, _⟩ := q; rw [e2]; exact fun z => by cases z
    | _ => cases o
  · have q := R.tm p hp
    obtain ⟨v, w⟩ := p
    cases w with
    | f ds =>
      obtain ⟨b, xs, e1, e2, _⟩ := q
      cases e.symm.trans e1
      rw [e2]
      exact fun z => by cases z
    | _ => cases f
theorem ERa.avdom (R : ERa K I G ad bv bm env s ts σ H) {a : Addr} (h : Bv G bm ad env ts a) : H a ≠ none := by
  rcases h with h | h
  · exact fun z => R.bdom a h (R.dom a z)
  · exact R.tdom h
/-- the heap grows; what the box holds may turn -/
theorem ERa.grow (R : ERa K I G ad bv bm env s ts σ H) (hk : ∀ a o, H a = some o → ¬ bm a → H' a = some o) (hd : ∀ a, H' a = none → H a = none) (hb : I.rel s' bv bm H') : ERa K I G ad bv bm env s' ts σ H' := by
  have gt : Gr (Tv bm ad env ts) (Tv bm ad env ts) H H' := ⟨fun a o e n => hk a o e fun z => n (.inl z), fun a z => .inl z⟩
  have g : Gr (Bv G bm ad env ts) (Bv G bm ad env ts) H H' := ⟨fun a o e n => hk a o e fun z => n (.inr (.inl z)), fun a z => .inl z⟩
  refine ⟨R.len, fun a o e n => hk a o (R.ext a o e n) fun z => (R.bfr.1 a z).elim n fun q => (by rw [e] at q; cases q), fun a e => R.dom a (hd a e), hb, R.bfr, R.bdom, R.own, R.tow, R.d1, R.d2, R.d3, fun i x e => ?_, fun p hp => ?_⟩
  · exact (R.sl i x e).gr gt g fun ho u q => hk _ _ q (R.own i x e ho).2
  · exact (R.tm p hp).gr gt g (fun hf a u e q => hk _ _ q (R.tow p hp hf a e).2) fun i y _ q r => ⟨y, q, r⟩
theorem ERa.same (R : ERa K I G ad bv bm env s ts σ H) (h : ∀ a o, H a = some o → H' a = some o) : ERa K I G ad bv bm env s ts σ H' :=
  R.grow (fun a o e _ => h a o e) (fun a e => by cases q : H a with | none => rfl | some o => rw [h a o q] at e; cases e) (I.frame R.box fun a m => by cases q : H a with | none => exact absurd q (I.dom R.box m) | some o => exact h a o q)
theorem same_upd {a : Addr} {o : HO} (n : H a = none) : ∀ b u, H b = some u → upd H a o b = some u := fun b u e => by rw [upd_ne (ne_of_none e n)]; exact e

/-- fewer temporaries -/
theorem ERa.less (R : ERa K I G ad bv bm env s ts σ H) (h : List.Sublist ts' ts) : ERa K I G ad bv bm env s ts' σ H := by
  have hm : ∀ p ∈ ts', p ∈ ts := fun p hp => h.subset hp
  have go : ∀ a, Ow ad env ts' a → Ow ad env ts a := fun a z => z.imp (fun q => q) fun ⟨p, hp, q⟩ => ⟨p, hm p hp, q⟩
  have gt : Gr (Tv bm ad env ts) (Tv bm ad env ts') H H := .sub fun a z => z.imp (fun q => q) (go a)
  have g : Gr (Bv G bm ad env ts) (Bv G bm ad env ts') H H := .sub fun a z => z.imp (fun q => q) fun z => z.imp (fun q => q) (go a)
  refine ⟨R.len, R.ext, R.dom, R.box, R.bfr, R.bdom, R.own, fun p hp => R.tow p (hm p hp), R.d1, fun i x p e o hp => R.d2 i x p e o (hm p hp), R.d3.sublist h, fun i x e => (R.sl i x e).gr gt g fun _ _ q => q, fun p hp => (R.tm p (hm p hp)).gr gt g (fun _ _ _ _ q => q) fun i y _ q r => ⟨y, q, r⟩⟩
theorem ERa.pop {p : V × W} (R : ERa K I G ad bv bm env s (p :: ts) σ H) : ERa K I G ad bv bm env s ts σ H := R.less (List.sublist_cons_self _ _)
theorem ERa.pops {l : List (V × W)} (R : ERa K I G ad bv bm env s (l ++ ts) σ H) : ERa K I G ad bv bm env s ts σ H := R.less (List.sublist_append_right _ _)
/-- a value more that is no new list -/
theorem ERa.push {v : V} {w : W} (R : ERa K I G ad bv bm env s ts σ H) (nf : w.isF = false) (h : Wr K (Tv bm ad env ts) (Bv G bm ad env ts) bv ad env H v w) : ERa K I G ad bv bm env s ((v, w) :: ts) σ H := by
  have go : ∀ a, Ow ad env ((v, w) :: ts) a → Ow ad env ts a := fun a z => z.imp (fun q => q) fun ⟨p, hp, f, q⟩ => by
    rcases List.mem_cons.mp hp with rfl | hp
    · rw [nf] at f; cases f
    · exact ⟨p, hp, f, q⟩
  have gt : Gr (Tv bm ad env ts) (Tv bm ad env ((v, w) :: ts)) H H := .sub fun a z => z.imp (fun q => q) (go a)
  have g : Gr (Bv G bm ad env ts) (Bv G bm ad env ((v, w) :: ts)) H H := .sub fun a z => z.imp (fun q => q) fun z => z.imp (fun q => q) (go a)
  refine ⟨R.len, R.ext, R.dom, R.box, R.bfr, R.bdom, R.own, fun p hp f => ?_, R.d1, fun i x p e o hp f => ?_, List.pairwise_cons.mpr ⟨fun q _ f => (by rw [nf] at f; cases f), R.d3⟩, fun i x e => (R.sl i x e).gr gt g fun _ _ q => q, fun p hp => ?_⟩
  · rcases List.mem_cons.mp hp with rfl | hp
    · rw [nf] at f; cases f
    · exact R.tow p hp f
  · rcases List.mem_cons.mp hp with rfl | hp
    · rw [nf] at f; cases f
    · exact R.d2 i x p e o hp f
  · rcases List.mem_cons.mp hp with rfl | hp
    · exact h.gr gt g (fun f => by rw [nf] at f; cases f) fun i y _ q r => ⟨y, q, r⟩
    · exact (R.tm p hp).gr gt g (fun _ _ _ _ q => q) fun i y _ q r => ⟨y, q, r⟩
theorem ERa.pushV {v : V} {d : D} (R : ERa K I G ad bv bm env s ts σ H) (h : Rep K (Bv G bm ad env ts) H v d) : ERa K I G ad bv bm env s ((v, .v d) :: ts) σ H := R.push rfl h
/-- a new list -/
theorem ERa.newF {a : Addr} {xs : List V} {ds : List D} (R : ERa K I G ad bv bm env s ts σ H) (n : H a = none) (r : Reps K (Bv G bm ad env ts) H xs ds) : ERa K I G ad bv bm env s ((.ref a, .f ds) :: ts) σ (upd H a (.lst xs)) := by
  have R' := R.same (H' := upd H a (.lst xs)) (same_upd n)
  have go : ∀ b, Ow ad env ((.ref a, .f ds) :: ts) b → Ow ad env ts b ∨ b = a := fun b z => by
    rcases z with z | ⟨p, hp, f, q⟩
    · exact .inl (.inl z)
    · rcases List.mem_cons.mp hp with rfl | hp
      · injection q with q; exact .inr q.symm
      · exact .inl (.inr ⟨p, hp, f, q⟩)
  have gt : Gr (Tv bm ad env ts) (Tv bm ad env ((.ref a, .f ds) :: ts)) H (upd H a (.lst xs)) := ⟨fun b u e _ => same_upd n b u e, fun b z => z.elim (fun z => .inl (.inl z)) fun z => (go b z).elim (fun z => .inl (.inr z)) fun z => .inr (z ▸ n)⟩
  have g : Gr (Bv G bm ad env ts) (Bv G bm ad env ((.ref a, .f ds) :: ts)) H (upd H a (.lst xs)) :=
    ⟨fun b u e _ => same_upd n b u e, fun b z => z.elim (fun z => .inl (.inl z)) fun z => z.elim (fun z => .inl (.inr (.inl z))) fun z => (go b z).elim (fun z => .inl (.inr (.inr z))) fun z => .inr (z ▸ n)⟩
  have nb : ¬ bm a := fun z => I.dom R.box z n
  refine ⟨R.len, R'.ext, R'.dom, R'.box, R.bfr, R.bdom, R.own, fun p hp f b e => ?_, R.d1, fun i x p e o hp f => ?_, List.pairwise_cons.mpr ⟨fun q hq _ f e => ?_, R.d3⟩, fun i x e => (R.sl i x e).gr gt g fun _ _ q => same_upd n _ _ q, fun p hp => ?_⟩
  · rcases List.mem_cons.mp hp with rfl | hp
    · injection e with e; subst e; exact ⟨R.dom _ n, nb⟩
    · exact R.tow p hp f b e
  · rcases List.mem_cons.mp hp with rfl | hp
    · intro z
      injection z with z
      exact R.tdom (.inr (.inl ⟨i, x, e, o, z.symm⟩)) n
    · exact R.d2 i x p e o hp f
  · exact R.tdom (.inr (.inr ⟨q, hq, f, e.symm⟩)) n
  · rcases List.mem_cons.mp hp with rfl | hp
    · exact ⟨a, xs, rfl, upd_same, r.gr g⟩
    · exact (R.tm p hp).gr gt g (fun _ _ _ _ q => same_upd n _ _ q) fun i y _ q r => ⟨y, q, r⟩
theorem ERa.newT {a : Addr} {xs : List V} {ds : List D} (R : ERa K I G ad bv bm env s ts σ H) (n : H a = none) (r : Reps K (Bv G bm ad env ts) H xs ds) : ERa K I G ad bv bm env s ((.ref a, .v (.tup ds)) :: ts) σ (upd H a (.tup xs)) := by
  refine (R.same (H' := upd H a (.tup xs)) (same_upd n)).pushV (.tup (fun z => R.avdom z n) (.inl upd_same) (r.gr (.same (same_upd n))))
/-- a new list is let be -/
theorem ERa.fzF {v : V} {ds : List D} (R : ERa K I G ad bv bm env s ((v, .f ds) :: ts) σ H) : ERa K I G ad bv bm env s ((v, .v (.lst ds)) :: ts) σ H := by
  obtain ⟨a, xs, e, e1, r⟩ := R.tm _ List.mem_cons_self
  obtain rfl : v = .ref a := e
  have r' : Reps K (Bv G bm ad env ts) H xs ds := r.gr (.sub fun b z => z.imp (fun q => q) fun z => z.imp (fun q => q) fun z => z.imp (fun q => q) fun ⟨p, hp, q⟩ => ⟨p, List.mem_cons_of_mem _ hp, q⟩)
  refine R.pop.pushV (.lst ?_ (.inl e1) r')
  obtain ⟨h0, hb⟩ := R.tow _ List.mem_cons_self rfl a rfl
  rintro (z | z | ⟨i, x, e, o, z⟩ | ⟨p, hp, f, z⟩)
  · exact R.bdom a z h0
  · exact hb z
  · exact R.d2 i x _ e o List.mem_cons_self rfl (by rw [z])
  · exact (List.pairwise_cons.mp R.d3).1 p hp rfl f z.symm
end
end LM

namespace LM
open PySem L2

/-- the temporaries at a statement's begin: data alone -/
def Cl (ts : List (V × W)) : Prop := ∀ p ∈ ts, (∃ d, p.2 = .v d) ∨ ∃ d, p.2 = .t d
theorem Cl.nf {ts : List (V × W)} (c : Cl ts) {p : V × W} (h : p ∈ ts) : p.2.isF = false := by
  rcases c p h with ⟨d, e⟩ | ⟨d, e⟩ <;> rw [e] <;> rfl
theorem Cl.nl {ts : List (V × W)} (c : Cl ts) {p : V × W} (h : p ∈ ts) (i : Nat) : p.2 ≠ .l i := by
  rcases c p h with ⟨d, e⟩ | ⟨d, e⟩ <;> rw [e] <;> exact fun z => by cases z
theorem Cl.nil : Cl [] := fun _ h => nomatch h
theorem Cl.cons {v : V} {d : D} {ts : List (V × W)} (c : Cl ts) : Cl ((v, .v d) :: ts) := fun p hp => by
  rcases List.mem_cons.mp hp with rfl | hp
  · exact .inl ⟨d, rfl⟩
  · exact c p hp
theorem Cl.consT {v : V} {d : D} {ts : List (V × W)} (c : Cl ts) : Cl ((v, .t d) :: ts) := fun p hp => by
  rcases List.mem_cons.mp hp with rfl | hp
  · exact .inr ⟨d, rfl⟩
  · exact c p hp

section
variable {S : Type} {K : PySem.W.Frag} {I : BoxI S} {G : Gh} {ad : Nat → Addr} {bv : V} {bm : Addr → Prop} {env : List Sl} {s s' : S} {ts ts' : List (V × W)} {σ : St} {H H' : Hp}

theorem set_get {α : Type} {l : List α} {i j : Nat} {x y : α} (h : (l.set i x)[j]? = some y) : (j = i ∧ y = x ∧ i < l.length) ∨ (j ≠ i ∧ l[j]? = some y) := by
  by_cases e : j = i
  · subst e
    by_cases hl : j < l.length
    · rw [List.getElem?_set_self hl] at h
      exact .inl ⟨rfl, (Option.some.inj h).symm, hl⟩
    · rw [List.getElem?_eq_none_iff.mpr (by rw [List.length_set]; omega)] at h
      cases h
  · rw [List.getElem?_set_ne (Ne.symm e)] at h
    exact .inr ⟨e, h⟩

/-- a slot stored: no list of its own -/
theorem ERa.put {x : Sl} {i : Nat} {v : Option V} (R : ERa K I G ad bv bm env s ts σ H) (cl : Cl ts) (nx : x.isOwn = false) (h : SlR K (Tv bm ad env ts) (Bv G bm ad env ts) bv H (ad i) (some v) x) : ERa K I G ad bv bm (env.set i x) s ts (σ.set i v) H := by
  have go : ∀ a, Ow ad (env.set i x) ts a → Ow ad env ts a := fun a z => z.imp (fun ⟨j, y, e, o, q⟩ => by
    rcases set_get e with ⟨_, rfl, _⟩ | ⟨_, e⟩
    · rw [nx] at o; cases o
    · exact ⟨j, y, e, o, q⟩) fun q => q
  have gt : Gr (Tv bm ad env ts) (Tv bm ad (env.set i x) ts) H H := .sub fun a z => z.imp (fun q => q) (go a)
  have g : Gr (Bv G bm ad env ts) (Bv G bm ad (env.set i x) ts) H H := .sub fun a z => z.imp (fun q => q) fun z => z.imp (fun q => q) (go a)
  refine ⟨by rw [List.length_set, List.length_set]; exact R.len, R.ext, R.dom, R.box, R.bfr, R.bdom, fun j y e o => ?_, R.tow, fun j k y z ej ek oj ok => ?_, fun j y p e o => ?_, R.d3, fun j y e => ?_, fun p hp => ?_⟩
  · rcases set_get e with ⟨_, rfl, _⟩ | ⟨_, e⟩
    · rw [nx] at o; cases o
    · exact R.own j y e o
  · rcases set_get ej with ⟨_, rfl, _⟩ | ⟨_, ej⟩
    · rw [nx] at oj; cases oj
    rcases set_get ek with ⟨_, rfl, _⟩ | ⟨_, ek⟩
    · rw [nx] at ok; cases ok
    exact R.d1 j k y z ej ek oj ok
  · rcases set_get e with ⟨_, rfl, _⟩ | ⟨_, e⟩
    · rw [nx] at o; cases o
    · exact R.d2 j y p e o
  · rcases set_get e with ⟨rfl, rfl, hl⟩ | ⟨ne, e⟩
    · rw [List.getElem?_set_self (by rw [R.len]; exact hl)]
      exact h.gr gt g fun _ _ q => q
    · rw [List.getElem?_set_ne (Ne.symm ne)]
      exact (R.sl j y e).gr gt g fun _ _ q => q
  · exact (R.tm p hp).gr gt g (fun _ _ _ _ q => q) fun j y e _ _ => absurd e (cl.nl hp j)
theorem ERa.putV {d : D} {i : Nat} {v : V} (R : ERa K I G ad bv bm env s ((v, .v d) :: ts) σ H) (cl : Cl ts) : ERa K I G ad bv bm (env.set i (.val d)) s ts (σ.set i (some v)) H := by
  have r : Rep K (Bv G bm ad env ((v, .v d) :: ts)) H v d := R.tm _ List.mem_cons_self
  exact (R.put (x := .val d) cl.cons rfl ⟨v, rfl, r⟩).pop
theorem ERa.putT {d : D} {i : Nat} {v : V} (R : ERa K I G ad bv bm env s ((v, .t d) :: ts) σ H) (cl : Cl ts) : ERa K I G ad bv bm (env.set i (.top d)) s ts (σ.set i (some v)) H := by
  have r : Top K (Tv bm ad env ((v, .t d) :: ts)) (Bv G bm ad env ((v, .t d) :: ts)) H v d := R.tm _ List.mem_cons_self
  exact (R.put (x := .top d) cl.consT rfl ⟨v, rfl, r⟩).pop
theorem ERa.putNo {i : Nat} {v : Option V} (R : ERa K I G ad bv bm env s ts σ H) (cl : Cl ts) : ERa K I G ad bv bm (env.set i .no) s ts (σ.set i v) H := R.put (x := .no) cl rfl True.intro
/-- a slot that is no list of its own is forgotten -/
theorem ERa.forget {i : Nat} {x : Sl} {v : Option V} (R : ERa K I G ad bv bm env s ts σ H) (e : env[i]? = some x) (nr : x.isRef = false) : ERa K I G ad bv bm (env.set i .no) s ts (σ.set i v) H := by
  have no : x.isOwn = false := by cases x <;> first | rfl | cases nr
  have go : ∀ a, Ow ad (env.set i .no) ts a → Ow ad env ts a := fun a z => z.imp (fun ⟨j, y, e, o, q⟩ => by
    rcases set_get e with ⟨_, rfl, _⟩ | ⟨_, e⟩
    · cases o
    · exact ⟨j, y, e, o, q⟩) fun q => q
  have gt : Gr (Tv bm ad env ts) (Tv bm ad (env.set i .no) ts) H H := .sub fun a z => z.imp (fun q => q) (go a)
  have g : Gr (Bv G bm ad env ts) (Bv G bm ad (env.set i .no) ts) H H := .sub fun a z => z.imp (fun q => q) fun z => z.imp (fun q => q) (go a)
  refine ⟨by rw [List.length_set, List.length_set]; exact R.len, R.ext, R.dom, R.box, R.bfr, R.bdom, fun j y e o => ?_, R.tow, fun j k y z ej ek oj ok => ?_, fun j y p e o => ?_, R.d3, fun j y e => ?_, fun p hp => ?_⟩
  · rcases set_get e with ⟨_, rfl, _⟩ | ⟨_, e⟩
    · cases o
    · exact R.own j y e o
  · rcases set_get ej with ⟨_, rfl, _⟩ | ⟨_, ej⟩
    · cases oj
    rcases set_get ek with ⟨_, rfl, _⟩ | ⟨_, ek⟩
    · cases ok
    exact R.d1 j k y z ej ek oj ok
  · rcases set_get e with ⟨_, rfl, _⟩ | ⟨_, e⟩
    · cases o
    · exact R.d2 j y p e o
  · rcases set_get e with ⟨rfl, rfl, hl⟩ | ⟨ne, e⟩
    · exact True.intro
    · rw [List.getElem?_set_ne (Ne.symm ne)]
      exact (R.sl j y e).gr gt g fun _ _ q => q
  · refine (R.tm p hp).gr gt g (fun _ _ _ _ q => q) fun j y _ q r => ?_
    by_cases hj : j = i
    · subst hj
      rw [e] at q; cases q
      rw [nr] at r; cases r
    · exact ⟨y, by rw [List.getElem?_set_ne (Ne.symm hj)]; exact q, r⟩
/-- a new list becomes a slot's own -/
theorem ERa.putF {ds : List D} {i : Nat} {v : V} (R : ERa K I G ad bv bm env s ((v, .f ds) :: ts) σ H) (cl : Cl ts) : ∃ ad', ERa K I G ad' bv bm (env.set i (.own ds)) s ts (σ.set i (some v)) H := by
  obtain ⟨a, xs, e, e1, r⟩ := R.tm _ List.mem_cons_self
  obtain rfl : v = .ref a := e
  obtain ⟨h0, hb⟩ := R.tow _ List.mem_cons_self rfl a rfl
  refine ⟨fun j => if j = i then a else ad j, ?_⟩
  have aj : ∀ j, j ≠ i → (if j = i then a else ad j) = ad j := fun j h => if_neg h
  have go : ∀ b, Ow (fun j => if j = i then a else ad j) (env.set i (.own ds)) ts b → Ow ad env ((.ref a, .f ds) :: ts) b := fun b z => by
    rcases z with ⟨j, y, e, o, q⟩ | ⟨p, hp, q⟩
    · rcases set_get e with ⟨rfl, rfl, _⟩ | ⟨ne, e⟩
      · exact .inr ⟨_, List.mem_cons_self, rfl, by rw [← q]; simp⟩
      · exact .inl ⟨j, y, e, o, by rw [← q]; exact (aj j ne).symm⟩
    · exact .inr ⟨p, List.mem_cons_of_mem _ hp, q⟩
  have gt : Gr (Tv bm ad env ((.ref a, .f ds) :: ts)) (Tv bm (fun j => if j = i then a else ad j) (env.set i (.own ds)) ts) H H := .sub fun b z => z.imp (fun q => q) (go b)
  have g : Gr (Bv G bm ad env ((.ref a, .f ds) :: ts)) (Bv G bm (fun j => if j = i then a else ad j) (env.set i (.own ds)) ts) H H := .sub fun b z => z.imp (fun q => q) fun z => z.imp (fun q => q) (go b)
  refine ⟨by rw [List.length_set, List.length_set]; exact R.len, R.ext, R.dom, R.box, R.bfr, R.bdom, fun j y e o => ?_, fun p hp => R.tow p (List.mem_cons_of_mem _ hp), fun j k y z ej ek oj ok q => ?_, fun j y p e o hp f => ?_, (List.pairwise_cons.mp R.d3).2, fun j y e => ?_, fun p hp => ?_⟩
  · rcases set_get e with ⟨rfl, rfl, _⟩ | ⟨ne, e⟩
    · simp only [if_pos]; exact ⟨h0, hb⟩
    · simp only [if_neg ne]; exact R.own j y e o
  · rcases set_get ej with ⟨rfl, rfl, _⟩ | ⟨nj, ej'⟩
    · rcases set_get ek with ⟨rfl, rfl, _⟩ | ⟨nk, ek'⟩
      · rfl
      · simp only [if_pos, if_neg nk] at q
        exact absurd (by rw [q]) (R.d2 k z _ ek' ok List.mem_cons_self rfl)
    · rcases set_get ek with ⟨rfl, rfl, _⟩ | ⟨nk, ek'⟩
      · simp only [if_pos, if_neg nj] at q
        exact absurd (by rw [q]) (R.d2 j y _ ej' oj List.mem_cons_self rfl)
      · simp only [if_neg nj, if_neg nk] at q
        exact R.d1 j k y z ej' ek' oj ok q
  · rw [cl.nf hp] at f; cases f
  · rcases set_get e with ⟨rfl, rfl, hl⟩ | ⟨ne, e⟩
    · rw [List.getElem?_set_self (by rw [R.len]; exact hl)]
      exact ⟨by simp, xs, by simpa using e1, r.gr g⟩
    · rw [List.getElem?_set_ne (Ne.symm ne)]
      simp only [if_neg ne]
      exact (R.sl j y e).gr gt g fun _ _ q => q
  · have q := R.tm p (List.mem_cons_of_mem _ hp)
    rcases cl p hp with ⟨d, e⟩ | ⟨d, e⟩
    · rw [e] at q ⊢; exact Rep.gr g _ _ q
    · rw [e] at q ⊢; exact Top.gr gt g q
/-- a slot's own list is let be -/
theorem ERa.fzS {ds : List D} {i : Nat} (R : ERa K I G ad bv bm env s ts σ H) (e : env[i]? = some (.own ds)) : ERa K I G ad bv bm (env.set i (.fz ds)) s ts σ H := by
  have go : ∀ a, Ow ad (env.set i (.fz ds)) ts a → Ow ad env ts a ∧ a ≠ ad i := fun a z => by
    rcases z with ⟨j, y, e', o, q⟩ | ⟨p, hp, f, q⟩
    · rcases set_get e' with ⟨_, rfl, _⟩ | ⟨ne, e'⟩
      · cases o
      · exact ⟨.inl ⟨j, y, e', o, q⟩, fun z => ne (R.d1 j i _ _ e' e o rfl (q.trans z))⟩
    · exact ⟨.inr ⟨p, hp, f, q⟩, fun z => R.d2 i _ p e rfl hp f (by rw [q, z])⟩
  have gt : Gr (Tv bm ad env ts) (Tv bm ad (env.set i (.fz ds)) ts) H H := .sub fun a z => z.imp (fun q => q) fun z => (go a z).1
  have g : Gr (Bv G bm ad env ts) (Bv G bm ad (env.set i (.fz ds)) ts) H H := .sub fun a z => z.imp (fun q => q) fun z => z.imp (fun q => q) fun z => (go a z).1
  obtain ⟨h0, hb⟩ := R.own i _ e rfl
  refine ⟨by rw [List.length_set]; exact R.len, R.ext, R.dom, R.box, R.bfr, R.bdom, fun j y e o => ?_, R.tow, fun j k y z ej ek oj ok => ?_, fun j y p e o => ?_, R.d3, fun j y e' => ?_, fun p hp => ?_⟩
  · rcases set_get e with ⟨_, rfl, _⟩ | ⟨_, e⟩
    · cases o
    · exact R.own j y e o
  · rcases set_get ej with ⟨_, rfl, _⟩ | ⟨_, ej⟩
    · cases oj
    rcases set_get ek with ⟨_, rfl, _⟩ | ⟨_, ek⟩
    · cases ok
    exact R.d1 j k y z ej ek oj ok
  · rcases set_get e with ⟨_, rfl, _⟩ | ⟨_, e⟩
    · cases o
    · exact R.d2 j y p e o
  · rcases set_get e' with ⟨rfl, rfl, hl⟩ | ⟨ne, e'⟩
    · obtain ⟨eσ, xs, e1, r⟩ := R.sl j _ e
      refine ⟨eσ, .lst (fun z => ?_) (.inl e1) (r.gr g)⟩
      rcases z with z | z | z
      · exact R.bdom _ z h0
      · exact hb z
      · exact (go _ z).2 rfl
    · exact (R.sl j y e').gr gt g fun _ _ q => q
  · refine (R.tm p hp).gr gt g (fun _ _ _ _ q => q) fun j y _ q r => ?_
    by_cases hj : j = i
    · subst hj
      exact ⟨.fz ds, List.getElem?_set_self (List.getElem?_eq_some_iff.mp q).1, rfl⟩
    · exact ⟨y, by rw [List.getElem?_set_ne (Ne.symm hj)]; exact q, r⟩
/-- a slot's own list is written -/
theorem ERa.wrS {ds ds' : List D} {xs' : List V} {i : Nat} (R : ERa K I G ad bv bm env s ts σ H) (e : env[i]? = some (.own ds)) (r : Reps K (Bv G bm ad env ts) H xs' ds') : ERa K I G ad bv bm (env.set i (.own ds')) s ts σ (upd H (ad i) (.lst xs')) := by
  have oi : Ow ad env ts (ad i) := .inl ⟨i, _, e, rfl, rfl⟩
  have go : ∀ a, Ow ad (env.set i (.own ds')) ts a → Ow ad env ts a := fun a z => z.imp (fun ⟨j, y, e', o, q⟩ => by
    rcases set_get e' with ⟨rfl, rfl, _⟩ | ⟨_, e'⟩
    · exact ⟨j, _, e, rfl, q⟩
    · exact ⟨j, y, e', o, q⟩) fun q => q
  have kp : ∀ a o, H a = some o → a ≠ ad i → upd H (ad i) (.lst xs') a = some o := fun a o q n => by rw [upd_ne n]; exact q
  have gt : Gr (Tv bm ad env ts) (Tv bm ad (env.set i (.own ds')) ts) H (upd H (ad i) (.lst xs')) := ⟨fun a o q n => kp a o q fun z => n (.inr (z ▸ oi)), fun a z => .inl (z.imp (fun q => q) (go a))⟩
  have g : Gr (Bv G bm ad env ts) (Bv G bm ad (env.set i (.own ds')) ts) H (upd H (ad i) (.lst xs')) := ⟨fun a o q n => kp a o q fun z => n (.inr (.inr (z ▸ oi))), fun a z => .inl (z.imp (fun q => q) fun z => z.imp (fun q => q) (go a))⟩
  obtain ⟨h0, hb⟩ := R.own i _ e rfl
  refine ⟨by rw [List.length_set]; exact R.len, fun a o q n => kp a o (R.ext a o q n) fun z => (by rw [z, h0] at q; cases q), fun a q => ?_, I.frame R.box fun a m => upd_ne fun z => hb (z ▸ m), R.bfr, R.bdom, fun j y e o => ?_, R.tow, fun j k y z ej ek oj ok => ?_, fun j y p e' o => ?_, R.d3, fun j y e' => ?_, fun p hp => ?_⟩
  · by_cases n : a = ad i
    · rw [n]; exact h0
    · rw [upd_ne n] at q; exact R.dom a q
  · rcases set_get e with ⟨rfl, rfl, _⟩ | ⟨_, e⟩
    · exact ⟨h0, hb⟩
    · exact R.own j y e o
  · rcases set_get ej with ⟨rfl, rfl, _⟩ | ⟨_, ej'⟩
    · rcases set_get ek with ⟨rfl, rfl, _⟩ | ⟨_, ek'⟩
      · exact fun _ => rfl
      · exact R.d1 j k _ z e ek' rfl ok
    · rcases set_get ek with ⟨rfl, rfl, _⟩ | ⟨_, ek'⟩
      · exact R.d1 j k y _ ej' e oj rfl
      · exact R.d1 j k y z ej' ek' oj ok
  · rcases set_get e' with ⟨rfl, rfl, _⟩ | ⟨_, e'⟩
    · exact R.d2 j _ p e rfl
    · exact R.d2 j y p e' o
  · rcases set_get e' with ⟨rfl, rfl, hl⟩ | ⟨ne, e'⟩
    · exact ⟨(R.sl j _ e).1, xs', upd_same, r.gr g⟩
    · exact (R.sl j y e').gr gt g fun ho u q => kp _ _ q fun z => ne (R.d1 j i _ _ e' e ho rfl z)
  · refine (R.tm p hp).gr gt g (fun f a u ea q => kp _ _ q fun z => R.d2 i _ p e rfl hp f (by rw [ea, z])) fun j y _ q r => ?_
    by_cases hj : j = i
    · subst hj
      exact ⟨.own ds', List.getElem?_set_self (List.getElem?_eq_some_iff.mp q).1, rfl⟩
    · exact ⟨y, by rw [List.getElem?_set_ne (Ne.symm hj)]; exact q, r⟩
/-- a new list is written -/
theorem ERa.wrF {ds ds' : List D} {xs' : List V} {a : Addr} (R : ERa K I G ad bv bm env s ((.ref a, .f ds) :: ts) σ H) (r : Reps K (Bv G bm ad env ((.ref a, .f ds) :: ts)) H xs' ds') : ERa K I G ad bv bm env s ((.ref a, .f ds') :: ts) σ (upd H a (.lst xs')) := by
  have oi : Ow ad env ((.ref a, .f ds) :: ts) a := .inr ⟨_, List.mem_cons_self, rfl, rfl⟩
  have go : ∀ b, Ow ad env ((.ref a, .f ds') :: ts) b → Ow ad env ((.ref a, .f ds) :: ts) b := fun b z => z.imp (fun q => q) fun ⟨p, hp, f, q⟩ => by
    rcases List.mem_cons.mp hp with rfl | hp
    · exact ⟨_, List.mem_cons_self, rfl, q⟩
    · exact ⟨p, List.mem_cons_of_mem _ hp, f, q⟩
  have kp : ∀ b o, H b = some o → b ≠ a → upd H a (.lst xs') b = some o := fun a o q n => by rw [upd_ne n]; exact q
  have gt : Gr (Tv bm ad env ((.ref a, .f ds) :: ts)) (Tv bm ad env ((.ref a, .f ds') :: ts)) H (upd H a (.lst xs')) := ⟨fun b o q n => kp b o q fun z => n (.inr (z ▸ oi)), fun b z => .inl (z.imp (fun q => q) (go b))⟩
  have g : Gr (Bv G bm ad env ((.ref a, .f ds) :: ts)) (Bv G bm ad env ((.ref a, .f ds') :: ts)) H (upd H a (.lst xs')) := ⟨fun b o q n => kp b o q fun z => n (.inr (.inr (z ▸ oi))), fun b z => .inl (z.imp (fun q => q) fun z => z.imp (fun q => q) (go b))⟩
  obtain ⟨h0, hb⟩ := R.tow _ List.mem_cons_self rfl a rfl
  refine ⟨R.len, fun b o q n => kp b o (R.ext b o q n) fun z => (by rw [z, h0] at q; cases q), fun b q => ?_, I.frame R.box fun b m => upd_ne fun z => hb (z ▸ m), R.bfr, R.bdom, R.own, fun p hp f b e => ?_, R.d1, fun j y p e' o hp f => ?_, List.pairwise_cons.mpr ⟨fun q hq _ f => (List.pairwise_cons.mp R.d3).1 q hq rfl f, (List.pairwise_cons.mp R.d3).2⟩, fun j y e' => ?_, fun p hp => ?_⟩
  · by_cases n : b = a
    · rw [n]; exact h0
    · rw [upd_ne n] at q; exact R.dom b q
  · rcases List.mem_cons.mp hp with rfl | hp
    · injection e with e; subst e; exact ⟨h0, hb⟩
    · exact R.tow p (List.mem_cons_of_mem _ hp) f b e
  · rcases List.mem_cons.mp hp with rfl | hp
    · exact R.d2 j y (.ref a, .f ds) e' o List.mem_cons_self rfl
    · exact R.d2 j y p e' o (List.mem_cons_of_mem _ hp) f
  · exact (R.sl j y e').gr gt g fun ho u q => kp _ _ q fun z => R.d2 j y _ e' ho List.mem_cons_self rfl (by rw [z])
  · rcases List.mem_cons.mp hp with rfl | hp
    · exact ⟨a, xs', rfl, upd_same, r.gr g⟩
    · exact (R.tm p (List.mem_cons_of_mem _ hp)).gr gt g (fun f b u ea q => kp _ _ q fun z => (List.pairwise_cons.mp R.d3).1 p hp rfl f (by rw [ea, z])) fun j y _ q r => ⟨y, q, r⟩
end
end LM

namespace LM
open PySem L2

structure Ex where
  C : Addr
  ns : List Str
  ds : List D
inductive Out (S α : Type) where
  | ok (a : α) (env : List Sl) (s : S) | ex (e : Ex) (env : List Sl) (s : S) | bad
inductive SO (S : Type) where
  | nx (env : List Sl) (s : S) | rt (d : D) (env : List Sl) (s : S) | rf (ds : List D) (env : List Sl) (s : S) | bk (env : List Sl) (s : S) | ct (env : List Sl) (s : S) | ex (e : Ex) (env : List Sl) (s : S) | bad
abbrev MX (S α : Type) := List Sl → S → Out S α
abbrev MS (S : Type) := List Sl → S → SO S

/-- the environment stands -/
def ER {S : Type} (K : PySem.W.Frag) (I : BoxI S) (G : Gh) (env : List Sl) (s : S) (ts : List (V × W)) (σ : St) (H : Hp) : Prop := ∃ ad bv bm, ERa K I G ad bv bm env s ts σ H
/-- .., and an exception's dict at dx -/
def ERX {S : Type} (K : PySem.W.Frag) (I : BoxI S) (G : Gh) (e : Ex) (dx : Addr) (env : List Sl) (s : S) (ts : List (V × W)) (σ : St) (H : Hp) : Prop :=
  ∃ ad bv bm, ERa K I G ad bv bm env s ts σ H ∧ G.H0 dx = none ∧ ∃ fs, H dx = some (.xd fs) ∧ e.ns = fs.map (·.1) ∧ Reps K (Bv G bm ad env ts) H (fs.map (·.2)) e.ds

section
variable {S : Type} (K : PySem.W.Frag) (I : BoxI S) (Wx : WX)
def tD (m : MX S W) : TE := fun σ H Q => ∃ G env s ts, ER K I G env s ts σ H ∧
  match m env s with
  | .ok w env' s' => ∀ v H', ER K I G env' s' ((v, w) :: ts) σ H' → Q v H'
  | .ex e env' s' => ∀ dx H', ERX K I G e dx env' s' ts σ H' → Wx (.ref e.C) (some dx) σ H'
  | .bad => False
def tB (m : MX S Bool) : TT := fun σ H Q => ∃ G env s ts, ER K I G env s ts σ H ∧
  match m env s with
  | .ok b env' s' => ∀ H', ER K I G env' s' ts σ H' → Q b H'
  | .ex e env' s' => ∀ dx H', ERX K I G e dx env' s' ts σ H' → Wx (.ref e.C) (some dx) σ H'
  | .bad => False
def tDs (m : MX S (List W)) : TA := fun σ H Q => ∃ G env s ts, ER K I G env s ts σ H ∧
  match m env s with
  | .ok ws env' s' => ∀ vs H', vs.length = ws.length → ER K I G env' s' (vs.zip ws ++ ts) σ H' → Q vs H'
  | .ex e env' s' => ∀ dx H', ERX K I G e dx env' s' ts σ H' → Wx (.ref e.C) (some dx) σ H'
  | .bad => False
def tS (m : MS S) : TS := fun D σ H => ∃ G env s ts, ER K I G env s ts σ H ∧ Cl ts ∧
  match m env s with
  | .nx env' s' => ∀ σ' H', ER K I G env' s' ts σ' H' → D.nx σ' H'
  | .rt d env' s' => ∀ v σ' H', ER K I G env' s' ((v, .v d) :: ts) σ' H' → D.rt v H'
  | .rf d env' s' => ∀ v σ' H', ER K I G env' s' ((v, .f d) :: ts) σ' H' → D.rt v H'
  | .bk env' s' => ∀ σ' H', ER K I G env' s' ts σ' H' → D.bk σ' H'
  | .ct env' s' => ∀ σ' H', ER K I G env' s' ts σ' H' → D.ct σ' H'
  | .ex e env' s' => ∀ dx σ' H', ERX K I G e dx env' s' ts σ' H' → Wx (.ref e.C) (some dx) σ' H'
  | .bad => False
end

/-- one after the other -/
def Out.bind {S α β : Type} (o : Out S α) (f : α → MX S β) : Out S β :=
  match o with
  | .ok a env s => f a env s
  | .ex e env s => .ex e env s
  | .bad => .bad
def MX.bind {S α β : Type} (m : MX S α) (f : α → MX S β) : MX S β := fun env s => (m env s).bind f

section
variable {S : Type} {K : PySem.W.Frag} {I : BoxI S} {Wx : WX} {G : Gh} {env env' : List Sl} {s s' : S} {ts : List (V × W)} {σ : St} {H H' : Hp}
theorem ERX.less {e : Ex} {dx : Addr} {ts' : List (V × W)} (R : ERX K I G e dx env s ts σ H) (h : List.Sublist ts' ts) : ERX K I G e dx env s ts' σ H := by
  obtain ⟨ad, bv, bm, R, n, fs, e1, e2, r⟩ := R
  refine ⟨ad, bv, bm, R.less h, n, fs, e1, e2, r.gr (.sub fun a z => z.imp (fun q => q) fun z => z.imp (fun q => q) fun z => z.imp (fun q => q) fun ⟨p, hp, q⟩ => ⟨p, h.subset hp, q⟩)⟩
theorem ER.less {ts' : List (V × W)} (R : ER K I G env s ts σ H) (h : List.Sublist ts' ts) : ER K I G env s ts' σ H := by
  obtain ⟨ad, bv, bm, R⟩ := R
  exact ⟨ad, bv, bm, R.less h⟩
theorem ER.pop {p : V × W} (R : ER K I G env s (p :: ts) σ H) : ER K I G env s ts σ H := R.less (List.sublist_cons_self _ _)
theorem ER.pops {l : List (V × W)} (R : ER K I G env s (l ++ ts) σ H) : ER K I G env s ts σ H := R.less (List.sublist_append_right _ _)

/-- two readings one behind the other, over what stands -/
theorem tD_bind {α : Type} {m : MX S W} {f : W → MX S α} {Q : V → Hp → Prop} {Z : Out S α → Prop}
    (R : ER K I G env s ts σ H) (h : Z ((m env s).bind f))
    (hex : ∀ e env' s', Z (.ex e env' s') → ∀ dx H', ERX K I G e dx env' s' ts σ H' → Wx (.ref e.C) (some dx) σ H')
    (hbad : ¬ Z .bad)
    (hok : ∀ w env' s' v H', m env s = .ok w env' s' → ER K I G env' s' ((v, w) :: ts) σ H' → Z (f w env' s') → Q v H') : tD K I Wx m σ H Q := by
  refine ⟨G, env, s, ts, R, ?_⟩
  cases e : m env s with
  | ok w env' s' =>
    rw [e] at h
    exact fun v H' R' => hok w env' s' v H' e R' h
  | ex x env' s' =>
    rw [e] at h
    exact hex x env' s' h
  | bad =>
    rw [e] at h
    exact hbad h
theorem tDs_bind {α : Type} {m : MX S (List W)} {f : List W → MX S α} {Q : List V → Hp → Prop} {Z : Out S α → Prop}
    (R : ER K I G env s ts σ H) (h : Z ((m env s).bind f))
    (hex : ∀ e env' s', Z (.ex e env' s') → ∀ dx H', ERX K I G e dx env' s' ts σ H' → Wx (.ref e.C) (some dx) σ H')
    (hbad : ¬ Z .bad)
    (hok : ∀ ws env' s' vs H', m env s = .ok ws env' s' → vs.length = ws.length → ER K I G env' s' (vs.zip ws ++ ts) σ H' → Z (f ws env' s') → Q vs H') : tDs K I Wx m σ H Q := by
  refine ⟨G, env, s, ts, R, ?_⟩
  cases e : m env s with
  | ok w env' s' =>
    rw [e] at h
    exact fun v H' l R' => hok w env' s' v H' e l R' h
  | ex x env' s' =>
    rw [e] at h
    exact hex x env' s' h
  | bad =>
    rw [e] at h
    exact hbad h
theorem tB_bind {α : Type} {m : MX S Bool} {f : Bool → MX S α} {Q : Bool → Hp → Prop} {Z : Out S α → Prop}
    (R : ER K I G env s ts σ H) (h : Z ((m env s).bind f))
    (hex : ∀ e env' s', Z (.ex e env' s') → ∀ dx H', ERX K I G e dx env' s' ts σ H' → Wx (.ref e.C) (some dx) σ H')
    (hbad : ¬ Z .bad)
    (hok : ∀ b env' s' H', m env s = .ok b env' s' → ER K I G env' s' ts σ H' → Z (f b env' s') → Q b H') : tB K I Wx m σ H Q := by
  refine ⟨G, env, s, ts, R, ?_⟩
  cases e : m env s with
  | ok w env' s' =>
    rw [e] at h
    exact fun H' R' => hok w env' s' H' e R' h
  | ex x env' s' =>
    rw [e] at h
    exact hex x env' s' h
  | bad =>
    rw [e] at h
    exact hbad h

/-- what an expression's outcome gives its reading -/
def ZD (K : PySem.W.Frag) (I : BoxI S) (Wx : WX) (G : Gh) (ts : List (V × W)) (σ : St) (Q : V → Hp → Prop) (o : Out S W) : Prop :=
  match o with
  | .ok w env' s' => ∀ v H', ER K I G env' s' ((v, w) :: ts) σ H' → Q v H'
  | .ex e env' s' => ∀ dx H', ERX K I G e dx env' s' ts σ H' → Wx (.ref e.C) (some dx) σ H'
  | .bad => False
def ZB (K : PySem.W.Frag) (I : BoxI S) (Wx : WX) (G : Gh) (ts : List (V × W)) (σ : St) (Q : Bool → Hp → Prop) (o : Out S Bool) : Prop :=
  match o with
  | .ok b env' s' => ∀ H', ER K I G env' s' ts σ H' → Q b H'
  | .ex e env' s' => ∀ dx H', ERX K I G e dx env' s' ts σ H' → Wx (.ref e.C) (some dx) σ H'
  | .bad => False
def ZDs (K : PySem.W.Frag) (I : BoxI S) (Wx : WX) (G : Gh) (ts : List (V × W)) (σ : St) (Q : List V → Hp → Prop) (o : Out S (List W)) : Prop :=
  match o with
  | .ok ws env' s' => ∀ vs H', vs.length = ws.length → ER K I G env' s' (vs.zip ws ++ ts) σ H' → Q vs H'
  | .ex e env' s' => ∀ dx H', ERX K I G e dx env' s' ts σ H' → Wx (.ref e.C) (some dx) σ H'
  | .bad => False

/-! ### reading temporaries -/
/-- the data of a value -/
def W.rd (env : List Sl) : W → Option D
  | .v d => some d
  | .t d => some d
  | .f ds => some (.lst ds)
  | .l i => match env[i]? with
    | some (.own ds) => some (.lst ds)
    | some (.fz ds) => some (.lst ds)
    | _ => none
  | .b => none
/-- .. that may be kept -/
def D.flat : D → Bool
  | .non => true | .bl _ => true | .int _ => true | .str _ => true
  | _ => false
def W.kp : W → Option D
  | .v d => some d
  | .t d => if d.flat then some d else none
  | _ => none
theorem Top.flat {T B : Addr → Prop} {v : V} {d : D} (h : Top K T B H v d) (f : d.flat = true) : Rep K B H v d := by
  rcases h with h | ⟨_, _, _, _, rfl, _⟩
  · exact h
  · cases f
section
variable {ad : Nat → Addr} {bv : V} {bm : Addr → Prop}
/-- a value, read: its own list is not the box's -/
theorem ERa.rdB {p : V × W} {d : D} (R : ERa K I G ad bv bm env s ts σ H) (hp : p ∈ ts) (e : p.2.rd env = some d) : Top K bm (Bv G bm ad env ts) H p.1 d := by
  have q := R.tm p hp
  obtain ⟨v, w⟩ := p
  cases w with
  | v d' => cases e; exact .inl q
  | t d' =>
    cases e
    have q : Top K _ _ H v d := q
    rcases q with q | ⟨a, xs, ds, e1, e2, _, r, q⟩
    · exact .inl q
    · exact .inr ⟨a, xs, ds, e1, e2, fun z => ‹¬ Tv bm ad env ts a› (.inl z), r, q⟩
  | f ds =>
    cases e
    obtain ⟨a, xs, e1, e2, r⟩ := q
    exact .inr ⟨a, xs, ds, e1, rfl, (R.tow (v, .f ds) hp rfl a e1).2, .inl e2, r⟩
  | l i =>
    obtain ⟨e1, y, e2, e3⟩ := q
    have q2 := R.sl i y e2
    have e : (W.l i).rd env = some d := e
    simp only [W.rd, e2] at e
    cases y with
    | own ds =>
      cases e
      obtain ⟨_, xs, e4, r⟩ := q2
      exact .inr ⟨ad i, xs, ds, e1, rfl, (R.own i _ e2 rfl).2, .inl e4, r⟩
    | fz ds =>
      cases e
      obtain ⟨_, r⟩ := q2
      have e1 : v = .ref (ad i) := e1
      subst e1
      exact .inl r
    | _ => cases e
  | b => cases e
theorem ERa.rd {p : V × W} {d : D} (R : ERa K I G ad bv bm env s ts σ H) (hp : p ∈ ts) (e : p.2.rd env = some d) : Top K (fun _ => False) (Bv G bm ad env ts) H p.1 d :=
  (R.rdB hp e).gr (.sub fun _ z => z.elim) (.sub fun _ z => z)
theorem ERa.keep {p : V × W} {d : D} (R : ERa K I G ad bv bm env s ts σ H) (hp : p ∈ ts) (e : p.2.kp = some d) : Rep K (Bv G bm ad env ts) H p.1 d := by
  have q := R.tm p hp
  obtain ⟨v, w⟩ := p
  cases w with
  | v d' => cases e; exact q
  | t d' =>
    have e : (if d'.flat then some d' else none) = some d := e
    split at e
    · cases e
      rename_i f
      exact Top.flat q f
    · cases e
  | f ds => cases e
  | l i => cases e
  | b => cases e
/-- all values kept -/
theorem ERa.keeps : ∀ {ws : List W} {vs : List V} {ds : List D}, ERa K I G ad bv bm env s ts σ H → vs.length = ws.length → (∀ p ∈ vs.zip ws, p ∈ ts) → ws.mapM W.kp = some ds → Reps K (Bv G bm ad env ts) H vs ds
  | [], [], ds, _, _, _, e => by
    simp at e; subst e
    exact .nil
  | w :: ws, v :: vs, ds, R, l, h, e => by
    rw [List.mapM_cons] at e
    cases e1 : w.kp with
    | none => rw [e1] at e; simp at e
    | some d =>
      rw [e1] at e
      cases e2 : ws.mapM W.kp with
      | none => rw [e2] at e; simp at e
      | some es =>
        rw [e2] at e
        simp at e
        subst e
        exact .cons (R.keep (p := (v, w)) (h _ List.mem_cons_self) e1) (ERa.keeps R (by simpa using l) (fun p hp => h p (List.mem_cons_of_mem _ hp)) e2)
  | [], _ :: _, _, _, l, _, _ => by simp at l
  | _ :: _, [], _, _, l, _, _ => by simp at l
end
end
end LM

namespace LM
open PySem L2

/-- a result: data, or a new list -/
inductive Rs where
  | v (d : D) | f (ds : List D)
def Rs.w : Rs → W
  | .v d => .v d
  | .f ds => .f ds
def FinQ (K : PySem.W.Frag) (B : Addr → Prop) (H : Hp) (Q : VK) : Rs → Prop
  | .v d => ∀ v H', (∀ a o, H a = some o → H' a = some o) → Rep K B H' v d → Q v H'
  | .f es => ∀ a xs, H a = none → Reps K B H xs es → Q (.ref a) (upd H a (.lst xs))
abbrev Tp (K : PySem.W.Frag) (B : Addr → Prop) (H : Hp) (v : V) (d : D) : Prop := Top K (fun _ => False) B H v d
inductive Tps (K : PySem.W.Frag) (B : Addr → Prop) (H : Hp) : List V → List D → Prop
  | nil : Tps K B H [] []
  | cons {v : V} {d : D} {vs : List V} {ds : List D} : Tp K B H v d → Tps K B H vs ds → Tps K B H (v :: vs) (d :: ds)
/-- an operator of two values, by data -/
def DOp (K : PySem.W.Frag) (r : R2) (f : D → D → Option Rs) : Prop :=
  ∀ B H x y d e res Q, Tp K B H x d → Tp K B H y e → (∀ a, B a → H a ≠ none) → f d e = some res → FinQ K B H Q res → r x y H Q
/-- a call by values -/
def DCall (K : PySem.W.Frag) (r : List V → Hp → VK → Prop) (f : List D → Option Rs) : Prop :=
  ∀ B H vs ds res Q, Tps K B H vs ds → (∀ a, B a → H a ≠ none) → f ds = some res → FinQ K B H Q res → r vs H Q

section
variable {S : Type} {K : PySem.W.Frag} {I : BoxI S} {Wx : WX} {G : Gh} {ad : Nat → Addr} {bv : V} {bm : Addr → Prop} {env : List Sl} {s : S} {ts : List (V × W)} {σ : St} {H : Hp}
theorem fin_of {l : List (V × W)} {Q : VK} (R : ERa K I G ad bv bm env s (l ++ ts) σ H) : ∀ (res : Rs), (∀ v H', ER K I G env s ((v, res.w) :: ts) σ H' → Q v H') → FinQ K (Bv G bm ad env (l ++ ts)) H Q res
  | .v d, h => fun v H' hs r => h v H' ⟨ad, bv, bm, ((R.same hs).pushV r).less (.cons_cons _ (List.sublist_append_right _ _))⟩
  | .f es, h => fun a xs n r => h _ _ ⟨ad, bv, bm, (R.newF n r).less (.cons_cons _ (List.sublist_append_right _ _))⟩
theorem ERa.rds : ∀ {ws : List W} {vs : List V} {ds : List D} {l : List (V × W)}, ERa K I G ad bv bm env s l σ H → vs.length = ws.length → (∀ p ∈ vs.zip ws, p ∈ l) → ws.mapM (W.rd env) = some ds → Tps K (Bv G bm ad env l) H vs ds
  | [], [], ds, _, _, _, _, e => by
    simp at e; subst e
    exact .nil
  | w :: ws, v :: vs, ds, _, R, l, h, e => by
    rw [List.mapM_cons] at e
    cases e1 : w.rd env with
    | none => rw [e1] at e; simp at e
    | some d =>
      rw [e1] at e
      cases e2 : ws.mapM (W.rd env) with
      | none => rw [e2] at e; simp at e
      | some es =>
        rw [e2] at e
        simp at e
        subst e
        exact .cons (R.rd (p := (v, w)) (h _ List.mem_cons_self) e1) (ERa.rds R (by simpa using l) (fun p hp => h p (List.mem_cons_of_mem _ hp)) e2)
  | [], _ :: _, _, _, _, l, _, _ => by simp at l
  | _ :: _, [], _, _, _, l, _, _ => by simp at l
end

/-! ### the mirrors -/
section
variable {S : Type}
def resO (env : List Sl) (s : S) (o : Option Rs) : Out S W := match o with
  | some r => .ok r.w env s
  | none => .bad
def mK (d : D) : MX S W := fun env s => .ok (.v d) env s
def mVar (i : Nat) : MX S W := fun env s => match env[i]? with
  | some (.val d) => .ok (.v d) env s
  | some (.top d) => .ok (.t d) env s
  | some (.own _) => .ok (.l i) env s
  | some (.slf _ _ _ _) => .ok (.l i) env s
  | some (.fz ds) => .ok (.v (.lst ds)) env s
  | some .box => .ok .b env s
  | _ => .bad
/-- a name whose own list is let be from here on -/
def mFz (i : Nat) : MX S W := fun env s => match env[i]? with
  | some (.own ds) => .ok (.v (.lst ds)) (env.set i (.fz ds)) s
  | some (.fz ds) => .ok (.v (.lst ds)) env s
  | _ => .bad
def mOp (f : D → D → Option Rs) (ma mb : MX S W) : MX S W := ma.bind fun a => mb.bind fun b => fun env s => match a.rd env, b.rd env with
  | some d, some e => resO env s (f d e)
  | _, _ => .bad
/-- a new list is let be -/
def mFf (ma : MX S W) : MX S W := ma.bind fun a => fun env s => match a with
  | .f ds => .ok (.v (.lst ds)) env s
  | _ => .bad
def mNil : MX S (List W) := fun env s => .ok [] env s
def mCons (ma : MX S W) (ms : MX S (List W)) : MX S (List W) := ma.bind fun a => ms.bind fun as => fun env s => .ok (a :: as) env s
def mTup (ms : MX S (List W)) : MX S W := ms.bind fun ws => fun env s => match ws.mapM W.kp with
  | some ds => if ds.length ≤ 16777216 then .ok (.v (.tup ds)) env s else .bad
  | none => .bad
def mLst (ms : MX S (List W)) : MX S W := ms.bind fun ws => fun env s => match ws.mapM W.kp with
  | some ds => if ds.length ≤ 16777216 then .ok (.f ds) env s else .bad
  | none => .bad
def mCB (f : List D → Option Rs) (ms : MX S (List W)) : MX S W := ms.bind fun ws => fun env s => match ws.mapM (W.rd env) with
  | some ds => resO env s (f ds)
  | none => .bad
def mTest (m : MX S W) : MX S Bool := m.bind fun a => fun env s => match a with
  | .v (.bl b) => .ok b env s
  | _ => .bad
def mNotT (m : MX S Bool) : MX S Bool := m.bind fun b => fun env s => .ok (!b) env s
def mAndT (m n : MX S Bool) : MX S Bool := m.bind fun b => if b then n else fun env s => .ok false env s
def mOrT (m n : MX S Bool) : MX S Bool := m.bind fun b => if b then fun env s => .ok true env s else n
def mNotV (m : MX S W) : MX S W := m.bind fun a => fun env s => match a with
  | .v (.bl b) => .ok (.v (.bl (!b))) env s
  | _ => .bad
def mAndV (m n : MX S W) : MX S W := m.bind fun a => match a with
  | .v (.bl b) => if b then n else fun env s => .ok (.v (.bl false)) env s
  | _ => fun _ _ => .bad
def mOrV (m n : MX S W) : MX S W := m.bind fun a => match a with
  | .v (.bl b) => if b then fun env s => .ok (.v (.bl true)) env s else n
  | _ => fun _ _ => .bad
def mIfE (c : MX S Bool) (m n : MX S W) : MX S W := c.bind fun b => if b then m else n
def mChain (f g : D → D → Option Rs) (ma mb mc : MX S W) : MX S W := ma.bind fun a => mb.bind fun b => fun env s => match a.rd env, b.rd env with
  | some d, some e => match f d e with
    | some (.v (.bl true)) => (mc.bind fun c => fun env s => match b.rd env, c.rd env with
      | some e', some h => resO env s (g e' h)
      | _, _ => .bad) env s
    | some (.v (.bl false)) => .ok (.v (.bl false)) env s
    | _ => .bad
  | _, _ => .bad
end
end LM

namespace LM
open PySem L2

theorem ERa.perm {S : Type} {K : PySem.W.Frag} {I : BoxI S} {G : Gh} {ad : Nat → Addr} {bv : V} {bm : Addr → Prop} {env : List Sl} {s : S} {ts ts' : List (V × W)} {σ : St} {H : Hp} (R : ERa K I G ad bv bm env s ts σ H) (h : ts.Perm ts') : ERa K I G ad bv bm env s ts' σ H := by
  have hm : ∀ p ∈ ts', p ∈ ts := fun p hp => h.mem_iff.mpr hp
  have go : ∀ a, Ow ad env ts' a → Ow ad env ts a := fun a z => z.imp (fun q => q) fun ⟨p, hp, q⟩ => ⟨p, hm p hp, q⟩
  have gt : Gr (Tv bm ad env ts) (Tv bm ad env ts') H H := .sub fun a z => z.imp (fun q => q) (go a)
  have g : Gr (Bv G bm ad env ts) (Bv G bm ad env ts') H H := .sub fun a z => z.imp (fun q => q) fun z => z.imp (fun q => q) (go a)
  refine ⟨R.len, R.ext, R.dom, R.box, R.bfr, R.bdom, R.own, fun p hp => R.tow p (hm p hp), R.d1, fun i x p e o hp => R.d2 i x p e o (hm p hp), ?_, fun i x e => (R.sl i x e).gr gt g fun _ _ q => q, fun p hp => (R.tm p (hm p hp)).gr gt g (fun _ _ _ _ q => q) fun i y _ q r => ⟨y, q, r⟩⟩
  exact (h.pairwise_iff fun {p q} x f1 f2 e => x f2 f1 e.symm).mp R.d3
theorem PEimp {X : Cx} {e : Expr} {t t' : TE} (h : PE X e t) (w : ∀ σ H Q, t' σ H Q → t σ H Q) : PE X e t' := ⟨fun pins s σ H Q I q => h.run pins s σ H Q I (w _ _ _ q)⟩
theorem PTimp {X : Cx} {e : Expr} {t t' : TT} (h : PT X e t) (w : ∀ σ H Q, t' σ H Q → t σ H Q) : PT X e t' := ⟨fun pins s σ H Q I q => h.run pins s σ H Q I (w _ _ _ q)⟩
theorem PWimp {X : Cx} {e : Expr} {t t' : TT} (h : PW X e t) (w : ∀ σ H Q, t' σ H Q → t σ H Q) : PW X e t' := ⟨fun wh pins s σ H Q I q => h.run wh pins s σ H Q I (w _ _ _ q)⟩
theorem PAimp {X : Cx} {e : List Expr} {t t' : TA} (h : PA X e t) (w : ∀ σ H Q, t' σ H Q → t σ H Q) : PA X e t' := ⟨fun p pins s σ H Q I q => h.run p pins s σ H Q I (w _ _ _ q)⟩
theorem PSimp {X : Cx} {e : Stmt} {t t' : TS} (h : PS X e t) (w : ∀ D σ H, t' D σ H → t D σ H) : PS X e t' := ⟨fun pins s σ H D I q => h.run pins s σ H D I (w _ _ _ q)⟩
theorem PSsimp {X : Cx} {e : List Stmt} {t t' : TS} (h : PSs X e t) (w : ∀ D σ H, t' D σ H → t D σ H) : PSs X e t' := ⟨fun pins s σ H D I q => h.run pins s σ H D I (w _ _ _ q)⟩

section
variable {S : Type} {X : Cx} {I : BoxI S} {Wx : WX} {a b c : Expr} {es : List Expr} {pos : Pos} {ma mb mc : MX S W} {ms : MX S (List W)}
theorem sl1 {α : Type} {x : α} {l : List α} : l.Sublist (x :: l) := List.sublist_cons_self _ _
theorem sl2 {α : Type} {x y : α} {l : List α} : l.Sublist (x :: y :: l) := .cons _ sl1
theorem slA {α : Type} {x l : List α} : l.Sublist (x ++ l) := List.sublist_append_right _ _

theorem d_k {d : D} {v : V} {e : Expr} (h : PE X e (tC v)) (r : ∀ B H, Rep X.K B H v d) : PE X e (tD X.K I Wx (mK d)) := by
  refine PEimp h fun σ H Q ⟨G, env, s, ts, ⟨ad, bv, bm, R⟩, h⟩ => ?_
  exact h v H ⟨ad, bv, bm, R.pushV (r _ _)⟩
theorem d_int {i j} : PE X (.Constant (.int i) j pos) (tD X.K I Wx (mK (.int i))) := d_k pe_int fun _ _ => .int _
theorem d_bl {i j} : PE X (.Constant (.bool i) j pos) (tD X.K I Wx (mK (.bl i))) := d_k pe_bl fun _ _ => .bl _
theorem d_non {j} : PE X (.Constant .none j pos) (tD X.K I Wx (mK .non)) := d_k pe_non fun _ _ => .non
theorem d_str {i j} : PE X (.Constant (.str i) j pos) (tD X.K I Wx (mK (.str i))) := d_k pe_str fun _ _ => .str _

theorem d_var (i : Nat) {x : Str} (hN : X.N[i]? = some x := by rfl) (hv : Vis X.env.scope x := by first | exact Or.inl rfl | exact Or.inr (Or.inl rfl) | exact Or.inr (Or.inr rfl)) (hd : (x == ("__debug__" : Str)) = false := by decide)
    (hcd : (x == ("__classdict__" : Str)) = false := by decide) : PE X (.Name x pos) (tD X.K I Wx (mVar i)) := by
  refine PEimp (pe_var (i := i) hN hv hd hcd) fun σ H Q ⟨G, env, s, ts, ⟨ad, bv, bm, R⟩, h⟩ => ?_
  unfold mVar at h
  cases e : env[i]? with
  | none => rw [e] at h; exact h.elim
  | some x =>
    have q := R.sl i x e
    rw [e] at h
    cases x with
    | no => exact h.elim
    | val d =>
      obtain ⟨v, e1, r⟩ := q
      exact ⟨v, e1, h v H ⟨ad, bv, bm, R.pushV r⟩⟩
    | top d =>
      obtain ⟨v, e1, r⟩ := q
      exact ⟨v, e1, h v H ⟨ad, bv, bm, R.push (w := .t d) rfl r⟩⟩
    | own ds => exact ⟨_, q.1, h _ H ⟨ad, bv, bm, R.push (w := .l i) rfl ⟨rfl, _, e, rfl⟩⟩⟩
    | slf x C ns ds => exact ⟨_, q.2.1, h _ H ⟨ad, bv, bm, R.push (w := .l i) rfl ⟨rfl, _, e, rfl⟩⟩⟩
    | fz ds => exact ⟨_, q.1, h _ H ⟨ad, bv, bm, R.pushV q.2⟩⟩
    | box => exact ⟨_, q, h _ H ⟨ad, bv, bm, R.push (w := .b) rfl rfl⟩⟩
theorem d_fz (i : Nat) {x : Str} (hN : X.N[i]? = some x := by rfl) (hv : Vis X.env.scope x := by first | exact Or.inl rfl | exact Or.inr (Or.inl rfl) | exact Or.inr (Or.inr rfl)) (hd : (x == ("__debug__" : Str)) = false := by decide)
    (hcd : (x == ("__classdict__" : Str)) = false := by decide) : PE X (.Name x pos) (tD X.K I Wx (mFz i)) := by
  refine PEimp (pe_var (i := i) hN hv hd hcd) fun σ H Q ⟨G, env, s, ts, ⟨ad, bv, bm, R⟩, h⟩ => ?_
  unfold mFz at h
  cases e : env[i]? with
  | none => rw [e] at h; exact h.elim
  | some x =>
    have q := R.sl i x e
    rw [e] at h
    cases x with
    | own ds =>
      have R' := R.fzS e
      have q' := R'.sl i (.fz ds) (List.getElem?_set_self (List.getElem?_eq_some_iff.mp e).1)
      exact ⟨_, q'.1, h _ H ⟨ad, bv, bm, R'.pushV q'.2⟩⟩
    | fz ds => exact ⟨_, q.1, h _ H ⟨ad, bv, bm, R.pushV q.2⟩⟩
    | _ => exact h.elim

/-- the shape of all readings of two parts -/
theorem two_of {f : W → W → MX S W} {r : R2} {G : Gh} {env : List Sl} {s : S} {ts : List (V × W)} {σ : St} {H : Hp} {Q : VK} (R : ER X.K I G env s ts σ H) (h : ZD X.K I Wx G ts σ Q ((ma.bind fun a => mb.bind fun b => f a b) env s))
    (hf : ∀ x y w u env' s' H', ER X.K I G env' s' ((y, u) :: (x, w) :: ts) σ H' → ZD X.K I Wx G ts σ Q (f w u env' s') → r x y H' Q) : tOp r (tD X.K I Wx ma) (tD X.K I Wx mb) σ H Q := by
  refine tD_bind (Z := ZD X.K I Wx G ts σ Q) R h (fun _ _ _ z => z) (fun z => z) fun w env1 s1 x H1 _ R1 z1 => ?_
  refine tD_bind (Z := ZD X.K I Wx G ts σ Q) R1 z1 (fun _ _ _ z dx H' q => z dx H' (q.less sl1)) (fun z => z) fun u env2 s2 y H2 _ R2 z2 => ?_
  exact hf x y w u env2 s2 H2 R2 z2
theorem op_fin {r : R2} {f : D → D → Option Rs} (df : DOp X.K r f) {G : Gh} {env : List Sl} {s : S} {ts : List (V × W)} {σ : St} {H : Hp} {Q : VK} {x y : V} {w u : W} (R : ER X.K I G env s ((y, u) :: (x, w) :: ts) σ H)
    (z : ZD X.K I Wx G ts σ Q (match w.rd env, u.rd env with
      | some d, some e => resO env s (f d e)
      | _, _ => .bad)) : r x y H Q := by
  obtain ⟨ad, bv, bm, R⟩ := R
  cases e1 : w.rd env with
  | none => rw [e1] at z; exact z.elim
  | some d =>
    cases e2 : u.rd env with
    | none => rw [e1, e2] at z; exact z.elim
    | some e =>
      rw [e1, e2] at z
      cases e3 : f d e with
      | none => simp only [e3] at z; exact z.elim
      | some res =>
        simp only [e3] at z
        exact df _ H x y d e res Q (R.rd (p := (x, w)) (.tail _ List.mem_cons_self) e1) (R.rd (p := (y, u)) List.mem_cons_self e2) (fun a => R.avdom) e3 (fin_of (l := [(y, u), (x, w)]) R res z)
theorem d_op {op : Operator} {r : R2} {f : D → D → Option Rs} (ho : OpR X (binaryOp op) r) (df : DOp X.K r f) (ha : PE X a (tD X.K I Wx ma)) (hb : PE X b (tD X.K I Wx mb)) : PE X (.BinOp a op b pos) (tD X.K I Wx (mOp f ma mb)) :=
  PEimp (pe_op ho ha hb) fun σ H Q ⟨G, env, s, ts, R, h⟩ => two_of R h fun x y w u env' s' H' R' z => op_fin df R' z
theorem d_cmp {op : CmpOp} {r : R2} {f : D → D → Option Rs} (ho : OpR X (compareOp op) r) (df : DOp X.K r f) (ha : PE X a (tD X.K I Wx ma)) (hb : PE X b (tD X.K I Wx mb)) (hm : behindInMarks op b = false := by first | exact nomark _ | with_unfolding_all rfl) :
    PE X (.Compare a [op] [b] pos) (tD X.K I Wx (mOp f ma mb)) :=
  PEimp (pe_cmpR ho ha hb hm) fun σ H Q ⟨G, env, s, ts, R, h⟩ => two_of R h fun x y w u env' s' H' R' z => op_fin df R' z
theorem d_ix {r : R2} {f : D → D → Option Rs} (ho : IxR X r) (df : DOp X.K r f) (ha : PE X a (tD X.K I Wx ma)) (hb : PE X b (tD X.K I Wx mb)) (hs : PlainIx b := by exact fun _ _ => rfl) : PE X (.Subscript a b pos) (tD X.K I Wx (mOp f ma mb)) :=
  PEimp (pe_ix ho ha hb hs) fun σ H Q ⟨G, env, s, ts, R, h⟩ => two_of R h fun x y w u env' s' H' R' z => op_fin df R' z

/-- a value as a test -/
theorem test_fin {t : TE} {m : MX S W} {σ : St} {H : Hp} {Q : Bool → Hp → Prop} (ht : t = tD X.K I Wx m) (h : L2.tTest (tD X.K I Wx m) σ H Q) : L2.tTest t σ H Q := by subst ht; exact h
theorem test_of {m : MX S W} {G : Gh} {env : List Sl} {s : S} {ts : List (V × W)} {σ : St} {H : Hp} {Q : Bool → Hp → Prop} (R : ER X.K I G env s ts σ H) (h : ZB X.K I Wx G ts σ Q (mTest m env s)) :
    tD X.K I Wx m σ H fun x H' => ∃ k, x = .bl k ∧ Q k H' := by
  refine tD_bind (Z := ZB X.K I Wx G ts σ Q) R h (fun _ _ _ z => z) (fun z => z) fun w env1 s1 x H1 _ R1 z1 => ?_
  cases w with
  | v d =>
    cases d with
    | bl k =>
      obtain ⟨ad, bv, bm, R2⟩ := id R1
      have q : Rep X.K _ H1 x (.bl k) := R2.tm _ List.mem_cons_self
      cases q
      exact ⟨k, rfl, z1 H1 R1.pop⟩
    | _ => exact z1.elim
  | _ => exact z1.elim
theorem t_val {e : Expr} {m : MX S W} (h : PE X e (tD X.K I Wx m)) (he : ∀ whole, isTrue e X.env whole = (do let v ← whole; standAt e.pos; holding [v] (truthy v)) := by intro _; rfl) : PT X e (LM.tB X.K I Wx (mTest m)) :=
  PTimp (pt_val h he) fun σ H Q ⟨G, env, s, ts, R, h⟩ => test_of R h
theorem t_cmp {op : CmpOp} {r : R2} {f : D → D → Option Rs} (ho : OpR X (compareOp op) r) (df : DOp X.K r f) (ha : PE X a (tD X.K I Wx ma)) (hb : PE X b (tD X.K I Wx mb)) (hm : behindInMarks op b = false := by first | exact nomark _ | with_unfolding_all rfl) :
    PT X (.Compare a [op] [b] pos) (LM.tB X.K I Wx (mTest (mOp f ma mb))) := by
  refine PTimp (pt_cmpR ho ha hb hm) fun σ H Q ⟨G, env, s, ts, R, h⟩ => ?_
  show tOp r (tD X.K I Wx ma) (tD X.K I Wx mb) σ H fun x H' => ∃ k, x = .bl k ∧ Q k H'
  have q := test_of (X := X) R h
  obtain ⟨G', env', s', ts', R', h'⟩ := q
  exact two_of R' h' fun x y w u env' s' H' R' z => op_fin df R' z

/-! ### tests of tests -/
theorem ZB_less {G : Gh} {ts ts' : List (V × W)} {σ : St} {Q : Bool → Hp → Prop} {o : Out S Bool} (z : ZB X.K I Wx G ts σ Q o) (h : ts.Sublist ts') : ZB X.K I Wx G ts' σ Q o := by
  cases o with
  | ok b env s => exact fun H' R => z H' (R.less h)
  | ex e env s => exact fun dx H' R => z dx H' (R.less h)
  | bad => exact z
theorem tB_of {m : MX S Bool} {G : Gh} {env : List Sl} {s : S} {ts : List (V × W)} {σ : St} {H : Hp} {Q : Bool → Hp → Prop} (R : ER X.K I G env s ts σ H) (z : ZB X.K I Wx G ts σ Q (m env s)) : LM.tB X.K I Wx m σ H Q := ⟨G, env, s, ts, R, z⟩
theorem tD_of {m : MX S W} {G : Gh} {env : List Sl} {s : S} {ts : List (V × W)} {σ : St} {H : Hp} {Q : VK} (R : ER X.K I G env s ts σ H) (z : ZD X.K I Wx G ts σ Q (m env s)) : tD X.K I Wx m σ H Q := ⟨G, env, s, ts, R, z⟩
variable {na nb : MX S Bool}
theorem t_not (ha : PT X a (LM.tB X.K I Wx na)) : PT X (.UnaryOp .Not a pos) (LM.tB X.K I Wx (mNotT na)) :=
  PTimp (pt_not ha) fun σ H Q ⟨G, env, s, ts, R, h⟩ => tB_bind (Z := ZB X.K I Wx G ts σ Q) R h (fun _ _ _ z => z) (fun z => z) fun b env1 s1 H1 _ R1 z1 => z1 H1 R1
theorem w_and1 (ha : PT X a (LM.tB X.K I Wx na)) : PW X (.BoolOp .And [a] pos) (LM.tB X.K I Wx na) := pw_and1 ha
theorem w_or1 (ha : PT X a (LM.tB X.K I Wx na)) : PW X (.BoolOp .Or [a] pos) (LM.tB X.K I Wx na) := pw_or1 ha
theorem w_and (ha : PT X a (LM.tB X.K I Wx na)) (hb : PW X (.BoolOp .And (b :: es) pos) (LM.tB X.K I Wx nb)) : PW X (.BoolOp .And (a :: b :: es) pos) (LM.tB X.K I Wx (mAndT na nb)) := by
  refine PWimp (pw_and ha hb) fun σ H Q ⟨G, env, s, ts, R, h⟩ => ?_
  refine tB_bind (Z := ZB X.K I Wx G ts σ Q) R h (fun _ _ _ z => z) (fun z => z) fun b env1 s1 H1 _ R1 z1 => ?_
  cases b with
  | true => exact iteT (tB_of R1 z1)
  | false => exact iteF (z1 H1 R1)
theorem w_or (ha : PT X a (LM.tB X.K I Wx na)) (hb : PW X (.BoolOp .Or (b :: es) pos) (LM.tB X.K I Wx nb)) : PW X (.BoolOp .Or (a :: b :: es) pos) (LM.tB X.K I Wx (mOrT na nb)) := by
  refine PWimp (pw_or ha hb) fun σ H Q ⟨G, env, s, ts, R, h⟩ => ?_
  refine tB_bind (Z := ZB X.K I Wx G ts σ Q) R h (fun _ _ _ z => z) (fun z => z) fun b env1 s1 H1 _ R1 z1 => ?_
  cases b with
  | true => exact iteT (z1 H1 R1)
  | false => exact iteF (tB_of R1 z1)
theorem v_one {op} (h : PE X a (tD X.K I Wx ma)) : PE X (.BoolOp op [a] pos) (tD X.K I Wx ma) := pe_one h
theorem v_and (ha : PE X a (tD X.K I Wx ma)) (hb : PE X (.BoolOp .And (b :: es) pos) (tD X.K I Wx mb)) : PE X (.BoolOp .And (a :: b :: es) pos) (tD X.K I Wx (mAndV ma mb)) := by
  refine PEimp (pe_and ha hb) fun σ H Q ⟨G, env, s, ts, R, h⟩ => ?_
  refine tD_bind (Z := ZD X.K I Wx G ts σ Q) R h (fun _ _ _ z => z) (fun z => z) fun w env1 s1 x H1 _ R1 z1 => ?_
  cases w with
  | v d =>
    cases d with
    | bl k =>
      obtain ⟨ad, bv, bm, R2⟩ := id R1
      have q : Rep X.K _ H1 x (.bl k) := R2.tm _ List.mem_cons_self
      cases q
      refine ⟨k, rfl, ?_⟩
      cases k with
      | true => exact iteT (tD_of R1.pop z1)
      | false => exact iteF (z1 _ H1 R1)
    | _ => exact z1.elim
  | _ => exact z1.elim
theorem v_or (ha : PE X a (tD X.K I Wx ma)) (hb : PE X (.BoolOp .Or (b :: es) pos) (tD X.K I Wx mb)) : PE X (.BoolOp .Or (a :: b :: es) pos) (tD X.K I Wx (mOrV ma mb)) := by
  refine PEimp (pe_or ha hb) fun σ H Q ⟨G, env, s, ts, R, h⟩ => ?_
  refine tD_bind (Z := ZD X.K I Wx G ts σ Q) R h (fun _ _ _ z => z) (fun z => z) fun w env1 s1 x H1 _ R1 z1 => ?_
  cases w with
  | v d =>
    cases d with
    | bl k =>
      obtain ⟨ad, bv, bm, R2⟩ := id R1
      have q : Rep X.K _ H1 x (.bl k) := R2.tm _ List.mem_cons_self
      cases q
      refine ⟨k, rfl, ?_⟩
      cases k with
      | true => exact iteT (z1 _ H1 R1)
      | false => exact iteF (tD_of R1.pop z1)
    | _ => exact z1.elim
  | _ => exact z1.elim
theorem v_not (ha : PE X a (tD X.K I Wx ma)) : PE X (.UnaryOp .Not a pos) (tD X.K I Wx (mNotV ma)) := by
  refine PEimp (pe_not ha) fun σ H Q ⟨G, env, s, ts, R, h⟩ => ?_
  refine tD_bind (Z := ZD X.K I Wx G ts σ Q) R h (fun _ _ _ z => z) (fun z => z) fun w env1 s1 x H1 _ R1 z1 => ?_
  cases w with
  | v d =>
    cases d with
    | bl k =>
      obtain ⟨ad, bv, bm, R2⟩ := id R1
      have q : Rep X.K _ H1 x (.bl k) := R2.tm _ List.mem_cons_self
      cases q
      exact ⟨k, rfl, z1 _ H1 ⟨ad, bv, bm, R2.pop.pushV (.bl _)⟩⟩
    | _ => exact z1.elim
  | _ => exact z1.elim
theorem d_ife (hc : PT X c (LM.tB X.K I Wx na)) (ha : PE X a (tD X.K I Wx ma)) (hb : PE X b (tD X.K I Wx mb)) : PE X (.IfExp c a b pos) (tD X.K I Wx (mIfE na ma mb)) := by
  refine PEimp (pe_ifExp hc ha hb) fun σ H Q ⟨G, env, s, ts, R, h⟩ => ?_
  refine tB_bind (Z := ZD X.K I Wx G ts σ Q) R h (fun _ _ _ z => z) (fun z => z) fun b env1 s1 H1 _ R1 z1 => ?_
  cases b with
  | true => exact iteT (tD_of R1 z1)
  | false => exact iteF (tD_of R1 z1)
theorem d_chain {op op' : CmpOp} {r r' : R2} {f g : D → D → Option Rs} (ho : OpR X (compareOp op) r) (df : DOp X.K r f) (ho' : OpR X (compareOp op') r') (dg : DOp X.K r' g) (ha : PE X a (tD X.K I Wx ma)) (hb : PE X b (tD X.K I Wx mb)) (hc : PE X c (tD X.K I Wx mc))
    (hm : lastMarks [op, op'] [b, c] = false := by with_unfolding_all rfl) : PE X (.Compare a [op, op'] [b, c] pos) (tD X.K I Wx (mChain f g ma mb mc)) := by
  refine PEimp (pe_chain ho ho' ha hb hc hm) fun σ H Q ⟨G, env, s, ts, R, h⟩ => ?_
  refine tD_bind (Z := ZD X.K I Wx G ts σ Q) R h (fun _ _ _ z => z) (fun z => z) fun w env1 s1 x H1 _ R1 z1 => ?_
  refine tD_bind (Z := ZD X.K I Wx G ts σ Q) R1 z1 (fun _ _ _ z dx H' q => z dx H' (q.less sl1)) (fun z => z) fun u env2 s2 y H2 _ R2 z2 => ?_
  cases e1 : w.rd env2 with
  | none => simp only [e1] at z2; exact z2.elim
  | some d =>
    cases e2 : u.rd env2 with
    | none => simp only [e1, e2] at z2; exact z2.elim
    | some e =>
      simp only [e1, e2] at z2
      obtain ⟨ad, bv, bm, R3⟩ := id R2
      cases e3 : f d e with
      | none => simp only [e3] at z2; exact z2.elim
      | some res =>
        simp only [e3] at z2
        refine df _ H2 x y d e res _ (R3.rd (p := (x, w)) (.tail _ List.mem_cons_self) e1) (R3.rd (p := (y, u)) List.mem_cons_self e2) (fun a => R3.avdom) e3 ?_
        cases res with
        | f ds => exact z2.elim
        | v k =>
          cases k with
          | bl k =>
            intro v H3 hs rep
            cases rep
            refine ⟨k, rfl, ?_⟩
            have R4 := R3.same hs
            cases k with
            | false => exact iteF (z2 _ H3 ⟨ad, bv, bm, (R4.less sl2).pushV (.bl _)⟩)
            | true =>
              refine iteT (tD_bind (Z := ZD X.K I Wx G ts σ Q) ⟨ad, bv, bm, R4⟩ z2 (fun _ _ _ z dx H' q => z dx H' (q.less sl2)) (fun z => z) fun h env5 s5 t H5 _ R5 z5 => ?_)
              exact op_fin dg (R5.less (.cons_cons _ (.cons_cons _ sl1))) z5
          | _ => exact z2.elim

/-! ### argument lists, displays -/
theorem a_nil : PA X [] (tDs X.K I Wx (mNil (S := S))) := PAimp pa_nil fun σ H Q ⟨G, env, s, ts, R, h⟩ => h [] H rfl R
theorem a_cons {e : Expr} (ha : PE X e (tD X.K I Wx ma)) (hr : PA X es (tDs X.K I Wx ms)) (hs : starEach (e :: es) X.env = (false, eval e X.env) :: starEach es X.env := by rfl) : PA X (e :: es) (tDs X.K I Wx (mCons ma ms)) := by
  refine PAimp (pa_cons ha hr hs) fun σ H Q ⟨G, env, s, ts, R, h⟩ => ?_
  refine tD_bind (Z := ZDs X.K I Wx G ts σ Q) R h (fun _ _ _ z => z) (fun z => z) fun w env1 s1 x H1 _ R1 z1 => ?_
  refine tDs_bind (Z := ZDs X.K I Wx G ts σ Q) R1 z1 (fun _ _ _ z dx H' q => z dx H' (q.less sl1)) (fun z => z) fun ws env2 s2 vs H2 _ l R2 z2 => ?_
  refine z2 (x :: vs) H2 (by simpa using l) ?_
  obtain ⟨ad, bv, bm, R3⟩ := R2
  exact ⟨ad, bv, bm, R3.perm (by simpa using List.perm_middle)⟩
end
end LM

namespace LM
open PySem L2

section
variable {S : Type} {X : Cx} {I : BoxI S} {Wx : WX} {a b c : Expr} {es : List Expr} {pos : Pos} {ma mb mc : MX S W} {ms : MX S (List W)}
theorem kps_len : ∀ {ws : List W} {ds : List D}, ws.mapM W.kp = some ds → ds.length = ws.length
  | [], ds, e => by simp at e; subst e; rfl
  | w :: ws, ds, e => by
    rw [List.mapM_cons] at e
    cases e1 : w.kp with
    | none => rw [e1] at e; simp at e
    | some d =>
      rw [e1] at e
      cases e2 : ws.mapM W.kp with
      | none => rw [e2] at e; simp at e
      | some es =>
        rw [e2] at e
        simp at e
        subst e
        rw [List.length_cons, List.length_cons, kps_len e2]
theorem zip_in {vs : List V} {ws : List W} {ts : List (V × W)} : ∀ p ∈ vs.zip ws, p ∈ vs.zip ws ++ ts := fun p hp => List.mem_append_left _ hp
theorem d_tup {x1} (h : PA X es (tDs X.K I Wx ms)) : PE X (.Tuple es x1 pos) (tD X.K I Wx (mTup ms)) := by
  refine PEimp (pe_tup h) fun σ H Q ⟨G, env, s, ts, R, h⟩ => ?_
  refine tDs_bind (Z := ZD X.K I Wx G ts σ Q) R h (fun _ _ _ z => z) (fun z => z) fun ws env1 s1 vs H1 _ l R1 z1 => ?_
  obtain ⟨ad, bv, bm, R2⟩ := R1
  cases e : ws.mapM W.kp with
  | none => simp only [e] at z1; exact z1.elim
  | some ds =>
    simp only [e] at z1
    split at z1
    · rename_i hl
      refine ⟨by rw [l, ← kps_len e, sizeLine_eq]; exact hl, fun p hp => z1 _ _ ⟨ad, bv, bm, ?_⟩⟩
      exact (R2.newT hp (R2.keeps l zip_in e)).less (.cons_cons _ slA)
    · exact z1.elim
theorem d_lst (h : PA X es (tDs X.K I Wx ms)) : PE X (.List es pos) (tD X.K I Wx (mLst ms)) := by
  refine PEimp (pe_lst h) fun σ H Q ⟨G, env, s, ts, R, h⟩ => ?_
  refine tDs_bind (Z := ZD X.K I Wx G ts σ Q) R h (fun _ _ _ z => z) (fun z => z) fun ws env1 s1 vs H1 _ l R1 z1 => ?_
  obtain ⟨ad, bv, bm, R2⟩ := R1
  cases e : ws.mapM W.kp with
  | none => simp only [e] at z1; exact z1.elim
  | some ds =>
    simp only [e] at z1
    split at z1
    · rename_i hl
      refine ⟨by rw [l, ← kps_len e, sizeLine_eq]; exact hl, fun p hp => z1 _ _ ⟨ad, bv, bm, ?_⟩⟩
      exact (R2.newF hp (R2.keeps l zip_in e)).less (.cons_cons _ slA)
    · exact z1.elim
theorem d_ff {e : Expr} (h : PE X e (tD X.K I Wx ma)) : PE X e (tD X.K I Wx (mFf ma)) := by
  refine PEimp h fun σ H Q ⟨G, env, s, ts, R, h⟩ => ?_
  refine tD_bind (Z := ZD X.K I Wx G ts σ Q) R h (fun _ _ _ z => z) (fun z => z) fun w env1 s1 x H1 _ R1 z1 => ?_
  cases w with
  | f ds =>
    obtain ⟨ad, bv, bm, R2⟩ := R1
    exact z1 x H1 ⟨ad, bv, bm, R2.fzF⟩
  | _ => exact z1.elim
theorem cb_fin {r : List V → Hp → VK → Prop} {f : List D → Option Rs} (df : DCall X.K r f) {σ : St} {H : Hp} {Q : VK} (h : tD X.K I Wx (mCB f ms) σ H Q) : L2.tCB r (tDs X.K I Wx ms) σ H Q := by
  obtain ⟨G, env, s, ts, R, h⟩ := h
  refine tDs_bind (Z := ZD X.K I Wx G ts σ Q) R h (fun _ _ _ z => z) (fun z => z) fun ws env1 s1 vs H1 _ l R1 z1 => ?_
  obtain ⟨ad, bv, bm, R2⟩ := R1
  cases e : ws.mapM (W.rd env1) with
  | none => simp only [e] at z1; exact z1.elim
  | some ds =>
    simp only [e] at z1
    cases e3 : f ds with
    | none => simp only [e3] at z1; exact z1.elim
    | some res =>
      simp only [e3] at z1
      exact df _ H1 vs ds res Q (R2.rds l zip_in e) (fun a => R2.avdom) e3 (fin_of R2 res z1)
theorem d_cb {id : String} {r : List V → Hp → VK → Prop} {f : List D → Option Rs} {x : Str} {p : Pos} (hc : CallR X (.builtin id) r) (df : DCall X.K r f) (hg : Gl X x) (hm : X.mg x = none) (hv : bootBuiltins x = some (.builtin id)) (ha : PA X (a :: es) (tDs X.K I Wx ms))
    (hn : x ≠ "__name__" := by decide) (hdb : (x == ("__debug__" : Str)) = false := by decide)
    (he : starEach (a :: es) X.env = (false, eval a X.env) :: starEach es X.env := by rfl) (hpl : (backTo pos (starEach es X.env)).any (·.1) = false := by rfl) : PE X (.Call (.Name x p) (a :: es) [] pos) (tD X.K I Wx (mCB f ms)) :=
  PEimp (pe_callB hc hg hm hv ha hn hdb he hpl) fun _ _ _ h => cb_fin df h
theorem d_cty {T : String} {r : List V → Hp → VK → Prop} {f : List D → Option Rs} {x : Str} {p : Pos} (hc : CallR X (.type T) r) (df : DCall X.K r f) (hg : Gl X x) (hm : X.mg x = none) (hv : bootBuiltins x = some (.type T)) (ha : PA X (a :: es) (tDs X.K I Wx ms))
    (hn : x ≠ "__name__" := by decide) (hdb : (x == ("__debug__" : Str)) = false := by decide)
    (he : starEach (a :: es) X.env = (false, eval a X.env) :: starEach es X.env := by rfl) (hpl : (backTo pos (starEach es X.env)).any (·.1) = false := by rfl) : PE X (.Call (.Name x p) (a :: es) [] pos) (tD X.K I Wx (mCB f ms)) :=
  PEimp (pe_callTy hc hg hm hv ha hn hdb he hpl) fun _ _ _ h => cb_fin df h
end

/-! ### promises by data -/
inductive FO (S α : Type) where
  | ok (a : α) (s : S) | ex (e : Ex) (s : S) | bad
inductive Md where
  | v | t | b
inductive ArgsR (K : PySem.W.Frag) (bm B : Addr → Prop) (H : Hp) (bv : V) : List Md → List V → List D → Prop
  | nil : ArgsR K bm B H bv [] [] []
  | v {m : List Md} {x : V} {d : D} {xs : List V} {ds : List D} : Rep K B H x d → ArgsR K bm B H bv m xs ds → ArgsR K bm B H bv (.v :: m) (x :: xs) (d :: ds)
  | t {m : List Md} {x : V} {d : D} {xs : List V} {ds : List D} : Top K bm B H x d → ArgsR K bm B H bv m xs ds → ArgsR K bm B H bv (.t :: m) (x :: xs) (d :: ds)
  | b {m : List Md} {xs : List V} {ds : List D} : ArgsR K bm B H bv m xs ds → ArgsR K bm B H bv (.b :: m) (bv :: xs) ds
theorem ArgsR.len {K : PySem.W.Frag} {bm B : Addr → Prop} {H : Hp} {bv : V} : ∀ {m : List Md} {xs : List V} {ds : List D}, ArgsR K bm B H bv m xs ds → xs.length = m.length
  | _, _, _, .nil => rfl
  | _, _, _, .v _ h => by rw [List.length_cons, List.length_cons, h.len]
  | _, _, _, .t _ h => by rw [List.length_cons, List.length_cons, h.len]
  | _, _, _, .b h => by rw [List.length_cons, List.length_cons, h.len]
def bindA (env : List Sl) : List Md → List W → Option (List D)
  | [], [] => some []
  | .v :: m, w :: ws => match w.kp, bindA env m ws with
    | some d, some ds => some (d :: ds)
    | _, _ => none
  | .t :: m, w :: ws => match w.rd env, bindA env m ws with
    | some d, some ds => some (d :: ds)
    | _, _ => none
  | .b :: m, .b :: ws => bindA env m ws
  | _, _ => none
structure Ext (M : Addr → Prop) (H H' : Hp) : Prop where
  kp : ∀ a o, H a = some o → ¬ M a → H' a = some o
  dm : ∀ a, H' a = none → H a = none
/-- a def's promise -/
def spD {S : Type} (I : BoxI S) (K : PySem.W.Frag) (md : List Md) (m : List D → S → FO S D) : Sp := fun vs H Q E => ∃ (B bm : Addr → Prop) (bv : V) (ds : List D) (s : S),
  (∀ a, bm a → B a) ∧ (∀ a, B a → H a ≠ none) ∧ I.rel s bv bm H ∧ ArgsR K bm B H bv md vs ds ∧
  match m ds s with
  | .ok d s' => ∀ v H', Ext bm H H' → I.rel s' bv bm H' → Rep K B H' v d → Q v H'
  | .ex e s' => ∀ dx H', Ext bm H H' → I.rel s' bv bm H' → H dx = none → (∃ fs, H' dx = some (.xd fs) ∧ e.ns = fs.map (·.1) ∧ Reps K B H' (fs.map (·.2)) e.ds) → E (.ref e.C) (some dx) H'
  | .bad => False
section
variable {S : Type} {K : PySem.W.Frag} {I : BoxI S} {G : Gh} {ad : Nat → Addr} {bv : V} {bm : Addr → Prop} {env : List Sl} {s : S} {l : List (V × W)} {σ : St} {H : Hp}
/-- the arguments of a call, for a def that reads the box -/
theorem argsB : ∀ {md : List Md} {ws : List W} {vs : List V} {ds : List D}, ERa K I G ad bv bm env s l σ H → vs.length = ws.length → (∀ p ∈ vs.zip ws, p ∈ l) → bindA env md ws = some ds → ArgsR K bm (Bv G bm ad env l) H bv md vs ds
  | [], [], [], ds, _, _, _, e => by cases e; exact .nil
  | .v :: m, w :: ws, v :: vs, ds, R, hl, h, e => by
    unfold bindA at e
    cases e1 : w.kp with
    | none => rw [e1] at e; cases e
    | some d =>
      rw [e1] at e
      cases e2 : bindA env m ws with
      | none => rw [e2] at e; cases e
      | some es =>
        rw [e2] at e
        cases e
        exact .v (R.keep (p := (v, w)) (h _ List.mem_cons_self) e1) (argsB R (by simpa using hl) (fun p hp => h p (List.mem_cons_of_mem _ hp)) e2)
  | .t :: m, w :: ws, v :: vs, ds, R, hl, h, e => by
    unfold bindA at e
    cases e1 : w.rd env with
    | none => rw [e1] at e; cases e
    | some d =>
      rw [e1] at e
      cases e2 : bindA env m ws with
      | none => rw [e2] at e; cases e
      | some es =>
        rw [e2] at e
        cases e
        exact .t (R.rdB (p := (v, w)) (h _ List.mem_cons_self) e1) (argsB R (by simpa using hl) (fun p hp => h p (List.mem_cons_of_mem _ hp)) e2)
  | .b :: m, w :: ws, v :: vs, ds, R, hl, h, e => by
    cases w with
    | b =>
      have e0 : v = bv := R.tm (v, .b) (h _ List.mem_cons_self)
      rw [e0]
      exact .b (argsB R (by simpa using hl) (fun p hp => h p (List.mem_cons_of_mem _ hp)) e)
    | _ => cases e
  | [], w :: ws, _, _, _, _, _, e => by cases e
  | .v :: m, [], _, _, _, _, _, e => by cases e
  | .t :: m, [], _, _, _, _, _, e => by cases e
  | .b :: m, [], _, _, _, _, _, e => by cases e
  | [], [], _ :: _, _, _, hl, _, _ => by simp at hl
  | .v :: m, _ :: _, [], _, _, hl, _, _ => by simp at hl
  | .t :: m, _ :: _, [], _, _, hl, _, _ => by simp at hl
  | .b :: m, _ :: _, [], _, _, hl, _, _ => by simp at hl
theorem bindA_len {env : List Sl} : ∀ {md : List Md} {ws : List W} {ds : List D}, bindA env md ws = some ds → ws.length = md.length
  | [], [], _, _ => rfl
  | .v :: m, w :: ws, ds, e => by
    unfold bindA at e
    cases e1 : w.kp with
    | none => rw [e1] at e; cases e
    | some d =>
      rw [e1] at e
      cases e2 : bindA env m ws with
      | none => rw [e2] at e; cases e
      | some es => rw [List.length_cons, List.length_cons, bindA_len e2]
  | .t :: m, w :: ws, ds, e => by
    unfold bindA at e
    cases e1 : w.rd env with
    | none => rw [e1] at e; cases e
    | some d =>
      rw [e1] at e
      cases e2 : bindA env m ws with
      | none => rw [e2] at e; cases e
      | some es => rw [List.length_cons, List.length_cons, bindA_len e2]
  | .b :: m, w :: ws, ds, e => by
    cases w with
    | b => rw [List.length_cons, List.length_cons, bindA_len (md := m) (ws := ws) e]
    | _ => cases e
  | [], w :: ws, _, e => by cases e
  | .v :: m, [], _, e => by cases e
  | .t :: m, [], _, e => by cases e
  | .b :: m, [], _, e => by cases e
end
end LM

namespace LM
open PySem L2

def FO.out {S α : Type} (w : α → W) (env : List Sl) : FO S α → Out S W
  | .ok d s => .ok (w d) env s
  | .ex e s => .ex e env s
  | .bad => .bad
def FO.outP {S T α : Type} (w : α → W) (env : List Sl) (s : S) : FO T α → Out S W
  | .ok d _ => .ok (w d) env s
  | .ex e _ => .ex e env s
  | .bad => .bad
section
variable {S : Type}
/-- the box of a caller, seen by a def that reads it -/
structure Lens (S T : Type) where
  get : S → Option T
  put : S → T → S
def FO.outL {S T : Type} (L : Lens S T) (env : List Sl) (s : S) : FO T D → Out S W
  | .ok d t => .ok (.v d) env (L.put s t)
  | .ex e t => .ex e env (L.put s t)
  | .bad => .bad
def mCallB {T : Type} (L : Lens S T) (md : List Md) (f : List D → T → FO T D) (ms : MX S (List W)) : MX S W := ms.bind fun ws => fun env s => match bindA env md ws, L.get s with
  | some ds, some t => (f ds t).outL L env s
  | _, _ => .bad
def mCallP (md : List Md) (f : List D → Unit → FO Unit D) (ms : MX S (List W)) : MX S W := ms.bind fun ws => fun env s => match bindA env md ws with
  | some ds => (f ds ()).outP .v env s
  | none => .bad
/-- o.m(..), o of the class at C -/
def mMethP (C : Addr) (m : Str) (md : List Md) (f : List D → Unit → FO Unit D) (ma : MX S W) (ms : MX S (List W)) : MX S W := ma.bind fun a => match a with
  | .v (.ins C' ns es) => if C' = C ∧ ns.contains m = false then (ms.bind fun ws => fun env s => match bindA env md ws with
    | some ds => (f (.ins C' ns es :: ds) ()).outP .v env s
    | none => .bad)
    else fun _ _ => .bad
  | _ => fun _ _ => .bad
def mFld (C : Addr) (f : Str) (ma : MX S W) : MX S W := ma.bind fun a => fun env s => match a with
  | .v (.ins C' ns ds) => if C' = C then (match (ns.zip ds).lookup f with
    | some d => .ok (.v d) env s
    | none => .bad) else .bad
  | _ => .bad
def mMakeP (C : Addr) (md : List Md) (f : List D → FO Unit (List Str × List D)) (ms : MX S (List W)) : MX S W := ms.bind fun ws => fun env s => match bindA env md ws with
  | some ds => (f ds).outP (fun p => .v (.ins C p.1 p.2)) env s
  | none => .bad
end
def Md.isB : Md → Bool
  | .b => true
  | _ => false
theorem ArgsR.pure {K : PySem.W.Frag} {bm B : Addr → Prop} {H : Hp} {bv : V} : ∀ {m : List Md} {xs : List V} {ds : List D}, ArgsR K bm B H bv m xs ds → m.any Md.isB = false → ArgsR K (fun _ => False) B H .non m xs ds
  | _, _, _, .nil, _ => .nil
  | _, _, _, .v r h, e => .v r (h.pure (by simpa [Md.isB] using e))
  | _, _, _, .t r h, e => .t (r.gr (.sub fun _ z => z.elim) (.sub fun _ z => z)) (h.pure (by simpa [Md.isB] using e))
  | _, _, _, .b h, e => by simp [Md.isB] at e

section
variable {S : Type} {K : PySem.W.Frag} {I : BoxI S} {Wx : WX} {G : Gh} {ad : Nat → Addr} {bv : V} {bm : Addr → Prop} {env : List Sl} {s : S} {l ts : List (V × W)} {σ : St} {H : Hp}
structure LensOk {S T : Type} (I : BoxI S) (J : BoxI T) (L : Lens S T) : Prop where
  get : ∀ {s t bv bm H}, L.get s = some t → I.rel s bv bm H → J.rel t bv bm H
  put : ∀ {s t t' bv bm H H'}, L.get s = some t → I.rel s bv bm H → J.rel t' bv bm H' → I.rel (L.put s t') bv bm H'
/-- a def that reads the box is called -/
theorem call_finB {T : Type} {J : BoxI T} {L : Lens S T} (LO : LensOk I J L) {md : List Md} {f : List D → T → FO T D} {ws : List W} {vs : List V} {Q : VK} {E : XK} (R : ERa K I G ad bv bm env s (l ++ ts) σ H) (hl : vs.length = ws.length) (hin : ∀ p ∈ vs.zip ws, p ∈ l ++ ts)
    (hE : ∀ c d H', Wx c d σ H' → E c d H') (z : ZD K I Wx G ts σ Q (match bindA env md ws, L.get s with
      | some ds, some t => (f ds t).outL L env s
      | _, _ => .bad)) : spD J K md f vs H Q E := by
  cases e : bindA env md ws with
  | none => rw [e] at z; exact z.elim
  | some ds =>
    cases eg : L.get s with
    | none => rw [e, eg] at z; exact z.elim
    | some t =>
      rw [e, eg] at z
      refine ⟨_, bm, bv, ds, t, fun a h => .inr (.inl h), fun a => R.avdom, LO.get eg R.box, argsB R hl hin e, ?_⟩
      have z : ZD K I Wx G ts σ Q ((f ds t).outL L env s) := z
      cases q : f ds t with
      | ok d t' =>
        rw [q] at z
        exact fun v H' x rb rep => z v H' ⟨ad, bv, bm, ((R.grow x.kp x.dm (LO.put eg R.box rb)).pushV rep).less (.cons_cons _ slA)⟩
      | ex e t' =>
        rw [q] at z
        refine fun dx H' x rb n ⟨fs, e1, e2, r⟩ => hE _ _ _ (z dx H' ?_)
        have R' := (R.grow x.kp x.dm (LO.put eg R.box rb))
        exact ERX.less ⟨ad, bv, bm, R', R.dom _ n, fs, e1, e2, r⟩ slA
      | bad => rw [q] at z; exact z.elim
theorem call_finP {md : List Md} {f : List D → Unit → FO Unit D} {ws : List W} {vs : List V} {Q : VK} {E : XK} (R : ERa K I G ad bv bm env s (l ++ ts) σ H) (hl : vs.length = ws.length) (hin : ∀ p ∈ vs.zip ws, p ∈ l ++ ts)
    (hE : ∀ c d H', Wx c d σ H' → E c d H') (hmd : md.any Md.isB = false) (z : ZD K I Wx G ts σ Q (match bindA env md ws with
      | some ds => (f ds ()).outP .v env s
      | none => .bad)) : spD boxNil K md f vs H Q E := by
  cases e : bindA env md ws with
  | none => rw [e] at z; exact z.elim
  | some ds =>
    rw [e] at z
    refine ⟨_, fun _ => False, .non, ds, (), fun a h => h.elim, fun a => R.avdom, fun _ h => h, (argsB R hl hin e).pure hmd, ?_⟩
    have z : ZD K I Wx G ts σ Q ((f ds ()).outP .v env s) := z
    have same : ∀ {H' : Hp}, Ext (fun _ => False) H H' → ∀ a o, H a = some o → H' a = some o := fun x a o h => x.kp a o h fun z => z
    cases q : f ds () with
    | ok d s' =>
      rw [q] at z
      exact fun v H' x rb rep => z v H' ⟨ad, bv, bm, ((R.same (same x)).pushV rep).less (.cons_cons _ slA)⟩
    | ex e s' =>
      rw [q] at z
      refine fun dx H' x rb n ⟨fs, e1, e2, r⟩ => hE _ _ _ (z dx H' ?_)
      exact ERX.less ⟨ad, bv, bm, R.same (same x), R.dom _ n, fs, e1, e2, r⟩ slA
    | bad => rw [q] at z; exact z.elim
end
/-- a class's __init__: the arguments' data, the fields that it leaves -/
def spI (K : PySem.W.Frag) (C : Addr) (md : List Md) (m : List D → FO Unit (List Str × List D)) : Sp := fun vs H Q E => ∃ (x dx : Addr) (H1 : Hp) (B : Addr → Prop) (rest : List V) (ds : List D),
  vs = .ref x :: rest ∧ H1 x = none ∧ H1 dx = none ∧ dx ≠ x ∧ H = upd (upd H1 dx (.own x)) x (.ins C dx []) ∧ (∀ a, B a → H1 a ≠ none) ∧ ArgsR K (fun _ => False) B H1 .non md rest ds ∧
  match m ds with
  | .ok p _ => ∀ H', (∀ a o, H1 a = some o → H' a = some o) → (∃ dx' fs, H' x = some (.ins C dx' fs) ∧ p.1 = fs.map (·.1) ∧ Reps K (fun a => B a ∨ a = x) H' (fs.map (·.2)) p.2) → Q .non H'
  | .ex e _ => ∀ dx' H', (∀ a o, H1 a = some o → H' a = some o) → H1 dx' = none → (∃ fs, H' dx' = some (.xd fs) ∧ e.ns = fs.map (·.1) ∧ Reps K B H' (fs.map (·.2)) e.ds) → E (.ref e.C) (some dx') H'
  | .bad => False
section
variable {S : Type} {K : PySem.W.Frag} {I : BoxI S} {Wx : WX} {G : Gh} {ad : Nat → Addr} {bv : V} {bm : Addr → Prop} {env : List Sl} {s : S} {l ts : List (V × W)} {σ : St} {H : Hp}
theorem make_fin {C : Addr} {md : List Md} {f : List D → FO Unit (List Str × List D)} {ws : List W} {vs : List V} {Q : VK} {E : XK} (R : ERa K I G ad bv bm env s (l ++ ts) σ H) (hl : vs.length = ws.length) (hin : ∀ p ∈ vs.zip ws, p ∈ l ++ ts)
    (hE : ∀ c d H', Wx c d σ H' → E c d H') (hmd : md.any Md.isB = false) (z : ZD K I Wx G ts σ Q (match bindA env md ws with
      | some ds => (f ds).outP (fun p => .v (.ins C p.1 p.2)) env s
      | none => .bad)) {x dx : Addr} (nx : H x = none) (nd : H dx = none) (ne : dx ≠ x) :
    spI K C md f (.ref x :: vs) (upd (upd H dx (.own x)) x (.ins C dx [])) (fun v H2 => v = .non ∧ Q (.ref x) H2) E := by
  cases e : bindA env md ws with
  | none => rw [e] at z; exact z.elim
  | some ds =>
    rw [e] at z
    refine ⟨x, dx, H, _, vs, ds, rfl, nx, nd, ne, rfl, fun a => R.avdom, (argsB R hl hin e).pure hmd, ?_⟩
    have z : ZD K I Wx G ts σ Q ((f ds).outP (fun p => .v (.ins C p.1 p.2)) env s) := z
    cases q : f ds with
    | ok p s' =>
      rw [q] at z
      refine fun H' same ⟨dx', fs, e1, e2, r⟩ => ⟨rfl, z _ H' ⟨ad, bv, bm, ((R.same same).pushV ?_).less (.cons_cons _ slA)⟩⟩
      exact .ins (fun h => R.avdom h nx) e1 e2 (r.gr (.sub fun a h => .inl h))
    | ex e s' =>
      rw [q] at z
      refine fun dx' H' same n ⟨fs, e1, e2, r⟩ => hE _ _ _ (z dx' H' ?_)
      exact ERX.less ⟨ad, bv, bm, R.same same, R.dom _ n, fs, e1, e2, r⟩ slA
    | bad => rw [q] at z; exact z.elim
end
section
variable {S : Type} {X : Cx} {I : BoxI S} {Wx : WX} {CX : CXT} {a : Expr} {es : List Expr} {pos p apos : Pos} {ma : MX S W} {ms : MX S (List W)} {md : List Md} {k : Nat} {fa C : Addr} {fd : FuncData} {ps : List Str} {x m : Str}
theorem d_callB {T : Type} {J : BoxI T} {L : Lens S T} {f : List D → T → FO T D} (LO : LensOk I J L) (F : FnOk X.prog X.w X.K X.mg X.base CX k fa fd ps (spD J X.K md f)) (hr : Room k X.A) (hg : Gl X x) (hm : X.mg x = some (.ref fa)) (hk : PySem.W.keepIn X.K (.ref fa) = true) (hb : Binds X.K fd ps [])
    (hx : ∀ σ, PassesAt CX X σ (WE Wx σ)) (ha : PA X (a :: es) (tDs X.K I Wx ms)) (hdb : (x == ("__debug__" : Str)) = false := by decide) (he : starEach (a :: es) X.env = (false, eval a X.env) :: starEach es X.env := by rfl)
    (hpl : (backTo pos (starEach es X.env)).any (·.1) = false := by rfl) : PE X (.Call (.Name x p) (a :: es) [] pos) (tD X.K I Wx (mCallB L md f ms)) := by
  refine PEimp (pe_callSD (E := fun σ => WE Wx σ) F hr hg hm hk hb .nil hx ha hdb he hpl) fun σ H Q ⟨G, env, s, ts, R, h⟩ => ?_
  refine tDs_bind (Z := ZD X.K I Wx G ts σ Q) R h (fun _ _ _ z => z) (fun z => z) fun ws env1 s1 vs H1 _ l R1 z1 => ?_
  obtain ⟨ad, bv, bm, R2⟩ := R1
  rw [List.append_nil]
  exact call_finB LO R2 l zip_in (fun _ _ _ h => h) z1
theorem d_callP {f : List D → Unit → FO Unit D} (F : FnOk X.prog X.w X.K X.mg X.base CX k fa fd ps (spD boxNil X.K md f)) (hr : Room k X.A) (hg : Gl X x) (hm : X.mg x = some (.ref fa)) (hk : PySem.W.keepIn X.K (.ref fa) = true) (hb : Binds X.K fd ps [])
    (hx : ∀ σ, PassesAt CX X σ (WE Wx σ)) (ha : PA X (a :: es) (tDs X.K I Wx ms)) (hmd : md.any Md.isB = false := by rfl) (hdb : (x == ("__debug__" : Str)) = false := by decide) (he : starEach (a :: es) X.env = (false, eval a X.env) :: starEach es X.env := by rfl)
    (hpl : (backTo pos (starEach es X.env)).any (·.1) = false := by rfl) : PE X (.Call (.Name x p) (a :: es) [] pos) (tD X.K I Wx (mCallP md f ms)) := by
  refine PEimp (pe_callSD (E := fun σ => WE Wx σ) F hr hg hm hk hb .nil hx ha hdb he hpl) fun σ H Q ⟨G, env, s, ts, R, h⟩ => ?_
  refine tDs_bind (Z := ZD X.K I Wx G ts σ Q) R h (fun _ _ _ z => z) (fun z => z) fun ws env1 s1 vs H1 _ l R1 z1 => ?_
  obtain ⟨ad, bv, bm, R2⟩ := R1
  rw [List.append_nil]
  exact call_finP R2 l zip_in (fun _ _ _ h => h) hmd z1
theorem d_make {f : List D → FO Unit (List Str × List D)} {E : XK} (M : Mk X.K C fa) (F : FnOk X.prog X.w X.K X.mg X.base CX k fa fd ps (spI X.K C md f)) (hr : Room (k + 1) X.A) (hg : Gl X x) (hm : X.mg x = some (.ref C)) (hb : Binds X.K fd ps [])
    (hx : Passes CX X E) (hE : ∀ c d σ H, Wx c d σ H → E c d H) (ha : PA X (a :: es) (tDs X.K I Wx ms)) (hmd : md.any Md.isB = false := by rfl) (hdb : (x == ("__debug__" : Str)) = false := by decide) (he : starEach (a :: es) X.env = (false, eval a X.env) :: starEach es X.env := by rfl)
    (hpl : (backTo pos (starEach es X.env)).any (·.1) = false := by rfl) : PE X (.Call (.Name x p) (a :: es) [] pos) (tD X.K I Wx (mMakeP C md f ms)) := by
  refine PEimp (pe_make (E := E) M F hr hg hm hb .nil hx ha hdb he hpl) fun σ H Q ⟨G, env, s, ts, R, h⟩ => ?_
  refine tDs_bind (Z := ZD X.K I Wx G ts σ Q) R h (fun _ _ _ z => z) (fun z => z) fun ws env1 s1 vs H1 _ l R1 z1 => ?_
  obtain ⟨ad, bv, bm, R2⟩ := R1
  intro y dx n1 n2 n3
  rw [List.append_nil]
  exact make_fin R2 l zip_in (fun c d H' h => hE c d σ H' h) hmd z1 n1 n2 n3
theorem lookup_none : ∀ {fs : List (Str × V)} {m : Str}, (fs.map (·.1)).contains m = false → fs.lookup m = none
  | [], _, _ => rfl
  | (g, v) :: fs, m, h => by
    rw [List.map_cons, List.contains_cons, Bool.or_eq_false_iff] at h
    have e : (m == g) = false := h.1
    rw [List.lookup, e]
    exact lookup_none h.2
/-- o.m(e, ..) -/
theorem meth_fin {f : List D → Unit → FO Unit D} {E : XK} {G : Gh} {env : List Sl} {s : S} {ts : List (V × W)} {σ : St} {H : Hp} {Q : VK} (R : ER X.K I G env s ts σ H) (h : ZD X.K I Wx G ts σ Q (mMethP C m md f ma ms env s)) (hE : ∀ c d H, Wx c d σ H → E c d H) (hmd : md.any Md.isB = false) :
    tMeth C m (spD boxNil X.K (.v :: md) f) [] E (tD X.K I Wx ma) (tDs X.K I Wx ms) σ H Q := by
  refine tD_bind (Z := ZD X.K I Wx G ts σ Q) R h (fun _ _ _ z => z) (fun z => z) fun w env1 s1 x H1 _ R1 z1 => ?_
  cases w with
  | v d =>
    cases d with
    | ins C' ns ds0 =>
      have z0 : ZD X.K I Wx G ts σ Q ((if C' = C ∧ ns.contains m = false then (ms.bind fun ws => fun env s => match bindA env md ws with
        | some ds => (f (.ins C' ns ds0 :: ds) ()).outP .v env s
        | none => .bad) else fun _ _ => .bad) env1 s1) := z1
      clear z1
      split at z0
      · rename_i hc
        obtain ⟨rfl, hc⟩ := hc
        obtain ⟨ad, bv, bm, R2⟩ := id R1
        have q : Rep X.K _ H1 x (.ins C' ns ds0) := R2.tm _ List.mem_cons_self
        cases q with
        | ins n r e q =>
          rename_i o dx fs
          refine ⟨o, dx, fs, rfl, r, lookup_none (by rw [← e]; exact hc), ?_⟩
          refine tDs_bind (Z := ZD X.K I Wx G ts σ Q) R1 z0 (fun _ _ _ z dx H' q => z dx H' (q.less sl1)) (fun z => z) fun ws env2 s2 vs H2 _ l R3 z2 => ?_
          rw [List.append_nil]
          obtain ⟨ad, bv, bm, R4⟩ := R3
          refine call_finP (ws := .v (.ins C' ns ds0) :: ws) (l := vs.zip ws ++ [(.ref o, .v (.ins C' ns ds0))]) (ts := ts) (env := env2) (s := s2) (G := G) (Wx := Wx) (σ := σ) (by simpa using R4) (by simpa using l) (fun p hp => ?_) hE (by simpa [Md.isB] using hmd) ?_
          · rw [List.zip_cons_cons] at hp
            rcases List.mem_cons.mp hp with rfl | hp
            · simp
            · simp [hp]
          · cases e3 : bindA env2 md ws with
            | none => rw [e3] at z2; exact z2.elim
            | some ds =>
              rw [e3] at z2
              simp only [bindA, W.kp, e3]
              exact z2
      · exact z0.elim
    | _ => exact z1.elim
  | _ => exact z1.elim
theorem d_meth {f : List D → Unit → FO Unit D} {E : XK} {o : Expr} {pl : Sem Bool} (ho : PE X o (tD X.K I Wx ma)) (c : Cls X.K C) (hm : Meth X.K C m fa) (F : FnOk X.prog X.w X.K X.mg X.base CX k fa fd ps (spD boxNil X.K (.v :: md) f)) (hr : Room k X.A) (hb : Binds X.K fd ps [])
    (hx : Passes CX X E) (hE : ∀ c d σ H, Wx c d σ H → E c d H) (ha : PA X (a :: es) (tDs X.K I Wx ms)) (hmd : md.any Md.isB = false := by rfl)
    (hst : starEach (a :: es) X.env = (false, eval a X.env) :: starEach es X.env := by rfl) (hpl : (backTo pos (starEach es X.env)).any (·.1) = false := by rfl)
    (ht : eval (.Call (.Attribute o m apos) (a :: es) [] pos) X.env = (do
      let ov ← eval o X.env
      standAt apos.atName
      let (f, first) ← holding [ov] (getMethod ov m pl)
      callWith pos f first (backTo pos (starEach (a :: es) X.env)) (backToKw pos (keywordEach [] X.env))) := by rfl) : PE X (.Call (.Attribute o m apos) (a :: es) [] pos) (tD X.K I Wx (mMethP C m md f ma ms)) :=
  PEimp (pe_meth (E := E) ho c hm F hr hb .nil hx ha hst hpl ht) fun σ H Q ⟨G, env, s, ts, R, h⟩ => meth_fin R h (fun c d H' h => hE c d σ H' h) hmd
theorem d_meth0 {f : List D → Unit → FO Unit D} {E : XK} {o : Expr} {pl : Sem Bool} (ho : PE X o (tD X.K I Wx ma)) (c : Cls X.K C) (hm : Meth X.K C m fa) (F : FnOk X.prog X.w X.K X.mg X.base CX k fa fd ps (spD boxNil X.K [.v] f)) (hr : Room k X.A) (hb : Binds X.K fd ps [])
    (hx : Passes CX X E) (hE : ∀ c d σ H, Wx c d σ H → E c d H)
    (ht : eval (.Call (.Attribute o m apos) [] [] pos) X.env = (do
      let ov ← eval o X.env
      standAt apos.atName
      let (f, first) ← holding [ov] (getMethod ov m pl)
      callWith pos f first (backTo pos (starEach [] X.env)) (backToKw pos (keywordEach [] X.env))) := by rfl) : PE X (.Call (.Attribute o m apos) [] [] pos) (tD X.K I Wx (mMethP C m [] f ma mNil)) :=
  PEimp (pe_meth0 (E := E) ho c hm F hr hb .nil hx ht) fun σ H Q ⟨G, env, s, ts, R, h⟩ => by
    have q := meth_fin (X := X) (ms := mNil) (md := []) R h (fun c d H' h => hE c d σ H' h) rfl
    obtain ⟨G', env', s', ts', R', q⟩ := q
    refine ⟨G', env', s', ts', R', ?_⟩
    cases e : ma env' s' with
    | ok w env1 s1 =>
      rw [e] at q
      intro v H' R1
      obtain ⟨o, dx, fs, e1, e2, e3, q⟩ := q v H' R1
      refine ⟨o, dx, fs, e1, e2, e3, ?_⟩
      obtain ⟨G2, env2, s2, ts2, R2, q⟩ := q
      exact q [] H' rfl R2
    | ex e env1 s1 => rw [e] at q; exact q
    | bad => rw [e] at q; exact q
/-- o.f -/
theorem fld_get : ∀ {K : PySem.W.Frag} {B : Addr → Prop} {H : Hp} {fs : List (Str × V)} {ds : List D} {f : Str} {d : D}, Reps K B H (fs.map (·.2)) ds → ((fs.map (·.1)).zip ds).lookup f = some d → ∃ v, fs.lookup f = some v ∧ Rep K B H v d
  | _, _, _, [], _, _, _, _, e => by simp at e
  | _, _, _, (g, v) :: fs, [], _, _, h, _ => by cases h
  | _, _, _, (g, v) :: fs, d' :: ds, f, d, h, e => by
    cases h with
    | cons h1 h2 =>
      simp only [List.map_cons, List.zip_cons_cons, List.lookup] at e ⊢
      cases q : f == g with
      | true =>
        rw [q] at e
        cases e
        exact ⟨v, rfl, h1⟩
      | false =>
        rw [q] at e
        exact fld_get h2 e
theorem d_fld {o : Expr} {f : Str} (ho : PE X o (tD X.K I Wx ma)) (c : Cls X.K C) (n : NoAttr X.K C f) (hb : attributeBase o f X.env (eval o X.env) = eval o X.env := by rfl) : PE X (.Attribute o f pos) (tD X.K I Wx (mFld C f ma)) := by
  refine PEimp (pe_fld ho hb) fun σ H Q ⟨G, env, s, ts, R, h⟩ => ?_
  refine tD_bind (Z := ZD X.K I Wx G ts σ Q) R h (fun _ _ _ z => z) (fun z => z) fun w env1 s1 x H1 _ R1 z1 => ?_
  cases w with
  | v d =>
    cases d with
    | ins C' ns ds0 =>
      have z0 : ZD X.K I Wx G ts σ Q (if C' = C then (match (ns.zip ds0).lookup f with
        | some d => .ok (.v d) env1 s1
        | none => .bad) else .bad) := z1
      clear z1
      split at z0
      · rename_i hc
        subst hc
        obtain ⟨ad, bv, bm, R2⟩ := id R1
        have q : Rep X.K _ H1 x (.ins C' ns ds0) := R2.tm _ List.mem_cons_self
        cases q with
        | ins n' r e q =>
          rename_i o dx fs
          cases e3 : (ns.zip ds0).lookup f with
          | none => rw [e3] at z0; exact z0.elim
          | some d =>
            rw [e3] at z0
            rw [e] at e3
            obtain ⟨v, e4, r4⟩ := fld_get q e3
            exact ⟨o, C', dx, fs, v, rfl, r, c, n, e4, z0 v H1 ⟨ad, bv, bm, (R2.pushV r4).less (.cons_cons _ sl1)⟩⟩
      · exact z0.elim
    | _ => exact z1.elim
  | _ => exact z1.elim
end
end LM

namespace LM
open PySem L2

/-! ### lists of one's own, changed by their methods -/
def DMut (K : PySem.W.Frag) (r : V → List V → Hp → VK → Prop) (g : List D → List D → Option (D × List D)) : Prop :=
  ∀ (B : Addr → Prop) H a xs ds vs es res ds' Q, H a = some (.lst xs) → Reps K B H xs ds → Reps K B H vs es → g ds es = some (res, ds') → ds'.length ≤ 16777216 → (∀ xs' v, Reps K B H xs' ds' → Rep K B H v res → Q v (upd H a (.lst xs'))) → r (.ref a) vs H Q
section
variable {S : Type}
def mMut (g : List D → List D → Option (D × List D)) (ma : MX S W) (ms : MX S (List W)) : MX S W := ma.bind fun w => fun env s => match w with
  | .l i => match env[i]? with
    | some (.own _) => (ms.bind fun ws => fun env s => match ws.mapM W.kp, env[i]? with
      | some es, some (.own ds) => match g ds es with
        | some (res, ds') => if ds'.length ≤ 16777216 then .ok (.v res) (env.set i (.own ds')) s else .bad
        | none => .bad
      | _, _ => .bad) env s
    | _ => .bad
  | _ => .bad
def mPart (m : MX S W) : MX S (Option Int) := m.bind fun w => fun env s => match w with
  | .v (.int i) => .ok (some i) env s
  | _ => .bad
def mNoPart : MX S (Option Int) := fun env s => .ok none env s
def mSl (f : D → Option Int → Option Int → Option Rs) (ma : MX S W) (ml mh : MX S (Option Int)) : MX S W := ma.bind fun w => ml.bind fun l => mh.bind fun h => fun env s => match w.rd env with
  | some d => resO env s (f d l h)
  | none => .bad
end
section
variable {S : Type} {X : Cx} {I : BoxI S} {Wx : WX} {a b c o : Expr} {es : List Expr} {pos apos cpos p2 : Pos} {ma mb mc : MX S W} {ms : MX S (List W)} {name : Str} {id : String}
theorem mut_fin {r : V → List V → Hp → VK → Prop} {g : List D → List D → Option (D × List D)} (dg : DMut X.K r g) {σ : St} {H : Hp} {Q : VK} (h : tD X.K I Wx (mMut g ma ms) σ H Q) : tBM X.K "list" r (tD X.K I Wx ma) (tDs X.K I Wx ms) σ H Q := by
  obtain ⟨G, env, s, ts, R, h⟩ := h
  refine tD_bind (Z := ZD X.K I Wx G ts σ Q) R h (fun _ _ _ z => z) (fun z => z) fun w env1 s1 x H1 _ R1 z1 => ?_
  cases w with
  | l i =>
    obtain ⟨ad, bv, bm, R2⟩ := id R1
    obtain ⟨e1, y, e2, e3⟩ : x = .ref (ad i) ∧ ∃ y, env1[i]? = some y ∧ y.isRef = true := R2.tm _ List.mem_cons_self
    simp only [e2] at z1
    cases y with
    | own ds0 =>
      simp only at z1
      obtain ⟨_, xs0, e4, r4⟩ := R2.sl i _ e2
      rw [e1]
      refine ⟨.inl ⟨rfl, xs0, .of e4⟩, ?_⟩
      refine tDs_bind (Z := ZD X.K I Wx G ts σ Q) R1 z1 (fun _ _ _ z dx H' q => z dx H' (q.less sl1)) (fun z => z) fun ws env2 s2 vs H2 _ l R3 z2 => ?_
      obtain ⟨ad', bv', bm', R4⟩ := R3
      cases q1 : ws.mapM W.kp with
      | none => simp only [q1] at z2; exact z2.elim
      | some es =>
        cases q2 : env2[i]? with
        | none => simp only [q1, q2] at z2; exact z2.elim
        | some y2 =>
          cases y2 with
          | own ds =>
            simp only [q1, q2] at z2
            cases q3 : g ds es with
            | none => simp only [q3] at z2; exact z2.elim
            | some p =>
              obtain ⟨res, ds'⟩ := p
              simp only [q3] at z2
              split at z2
              · rename_i hlen
                obtain ⟨f1, _, _, _⟩ : x = .ref (ad' i) ∧ ∃ y, env2[i]? = some y ∧ y.isRef = true := R4.tm (x, .l i) (by simp)
                obtain ⟨_, xs, f4, r5⟩ := R4.sl i _ q2
                have fa : ad i = ad' i := by rw [f1] at e1; injection e1 with e1; exact e1.symm
                rw [fa]
                refine dg _ H2 (ad' i) xs ds vs es res ds' Q f4 r5 (R4.keeps l zip_in q1) q3 hlen fun xs' v rx rv => z2 v _ ⟨ad', bv', bm', ?_⟩
                · have R5 := R4.wrS q2 rx
                  have gg : Gr (Bv G bm' ad' env2 (vs.zip ws ++ (x, .l i) :: ts)) (Bv G bm' ad' (env2.set i (.own ds')) (vs.zip ws ++ (x, .l i) :: ts)) H2 (upd H2 (ad' i) (.lst xs')) := by
                    refine ⟨fun a o q n => by rw [upd_ne fun z => n (.inr (.inr (.inl ⟨i, _, q2, rfl, z.symm⟩)))]; exact q, fun a z => .inl ?_⟩
                    refine z.imp (fun q => q) fun z => z.imp (fun q => q) fun z => z.imp (fun ⟨j, y, e', o, q⟩ => ?_) fun q => q
                    rcases set_get e' with ⟨rfl, rfl, _⟩ | ⟨_, e'⟩
                    · exact ⟨j, _, q2, rfl, q⟩
                    · exact ⟨j, y, e', o, q⟩
                  exact (R5.pushV (rv.gr gg)).less (.cons_cons _ (List.Sublist.trans sl1 slA))
              · exact z2.elim
          | _ => simp only [q1, q2] at z2; exact z2.elim
    | _ => exact z1.elim
  | _ => exact z1.elim
theorem d_mut {e : Expr} {r : V → List V → Hp → VK → Prop} {g : List D → List D → Option (D × List D)} (slot : Slot "list" name id) (hty : typeOf (.builtin id) = pure (.type "method_descriptor")) (hm : MtR X id r) (dg : DMut X.K r g) (ho : PE X o (tD X.K I Wx ma)) (ha : PA X (e :: es) (tDs X.K I Wx ms))
    (hbase : attributeBase o name X.env (eval o X.env) = eval o X.env := by rfl)
    (hfew : ((backTo cpos (starEach (e :: es) X.env)).all (fun x => !x.1) && (backToKw cpos (keywordEach [] X.env)).all (fun x => x.1.isSome)
      && decide ((e :: es).length + ([] : List Keyword).length + (if ([] : List Keyword).isEmpty then 0 else 1) < 30)) = true := by rfl)
    (hline : (apos.endLine == cpos.line) = true := by rfl) (hs : starEach (e :: es) X.env = (false, eval e X.env) :: starEach es X.env := by rfl) (hplain : (backTo cpos (starEach es X.env)).any (·.1) = false := by rfl) :
    PE X (.Call (.Attribute o name apos) (e :: es) [] cpos) (tD X.K I Wx (mMut g ma ms)) :=
  PEimp (pe_bm PySem.F.plainAttrs_list slot hty hm ho ha hbase hfew hline hs hplain) fun _ _ _ h => mut_fin dg h
theorem d_mut0 {r : V → List V → Hp → VK → Prop} {g : List D → List D → Option (D × List D)} (slot : Slot "list" name id) (hty : typeOf (.builtin id) = pure (.type "method_descriptor")) (hm : MtR X id r) (dg : DMut X.K r g) (ho : PE X o (tD X.K I Wx ma))
    (hbase : attributeBase o name X.env (eval o X.env) = eval o X.env := by rfl) (hline : (apos.endLine == cpos.line) = true := by rfl) :
    PE X (.Call (.Attribute o name apos) [] [] cpos) (tD X.K I Wx (mMut g ma mNil)) :=
  PEimp (pe_bm0 PySem.F.plainAttrs_list slot hty hm ho hbase hline) fun σ H Q h => by
    obtain ⟨G', env', s', ts', R', q⟩ := mut_fin (X := X) dg h
    refine ⟨G', env', s', ts', R', ?_⟩
    cases e : ma env' s' with
    | ok w env1 s1 =>
      rw [e] at q
      intro v H' R1
      obtain ⟨ty, G2, env2, s2, ts2, R2, q⟩ := q v H' R1
      exact ⟨ty, q [] H' rfl R2⟩
    | ex e env1 s1 => rw [e] at q; exact q
    | bad => rw [e] at q; exact q

/-! ### slices -/
def tP (K : PySem.W.Frag) (I : BoxI S) (Wx : WX) (m : MX S (Option Int)) : TO := fun σ H Q => ∃ G env s ts, ER K I G env s ts σ H ∧
  match m env s with
  | .ok i env' s' => ∀ H', ER K I G env' s' ts σ H' → Q i H'
  | .ex e env' s' => ∀ dx H', ERX K I G e dx env' s' ts σ H' → Wx (.ref e.C) (some dx) σ H'
  | .bad => False
theorem POimp {e : Option Expr} {t t' : TO} (h : PO X e t) (w : ∀ σ H Q, t' σ H Q → t σ H Q) : PO X e t' := ⟨fun pins s σ H Q I q => h.run pins s σ H Q I (w _ _ _ q)⟩
theorem o_none : PO X none (tP X.K I Wx (mNoPart (S := S))) := POimp po_none fun σ H Q ⟨G, env, s, ts, R, h⟩ => h H R
theorem o_some {e : Expr} (h : PE X e (tD X.K I Wx ma)) : PO X (some e) (tP X.K I Wx (mPart ma)) := by
  refine POimp (po_some h) fun σ H Q ⟨G, env, s, ts, R, h⟩ => ?_
  cases q : ma env s with
  | ex e env1 s1 =>
    simp only [mPart, MX.bind, Out.bind, q] at h
    exact ⟨G, env, s, ts, R, by rw [q]; exact h⟩
  | bad => simp only [mPart, MX.bind, Out.bind, q] at h
  | ok w env1 s1 =>
    simp only [mPart, MX.bind, Out.bind, q] at h
    refine ⟨G, env, s, ts, R, ?_⟩
    rw [q]
    intro x H1 R1
    cases w with
    | v d =>
      cases d with
      | int i =>
        obtain ⟨ad, bv, bm, R2⟩ := id R1
        have rq : Rep X.K _ H1 x (.int i) := R2.tm _ List.mem_cons_self
        cases rq
        exact ⟨i, rfl, h H1 R1.pop⟩
      | _ => exact h.elim
    | _ => exact h.elim
def DSl (K : PySem.W.Frag) (r : V → Option Int → Option Int → Hp → VK → Prop) (f : D → Option Int → Option Int → Option Rs) : Prop :=
  ∀ B H x d lo hi res Q, Tp K B H x d → (∀ a, B a → H a ≠ none) → f d lo hi = some res → FinQ K B H Q res → r x lo hi H Q
theorem tP_bind {α : Type} {m : MX S (Option Int)} {f : Option Int → MX S α} {Q : Option Int → Hp → Prop} {Z : Out S α → Prop} {G : Gh} {env : List Sl} {s : S} {ts : List (V × W)} {σ : St} {H : Hp}
    (R : ER X.K I G env s ts σ H) (h : Z ((m env s).bind f)) (hex : ∀ e env' s', Z (.ex e env' s') → ∀ dx H', ERX X.K I G e dx env' s' ts σ H' → Wx (.ref e.C) (some dx) σ H') (hbad : ¬ Z .bad)
    (hok : ∀ b env' s' H', ER X.K I G env' s' ts σ H' → Z (f b env' s') → Q b H') : tP X.K I Wx m σ H Q := by
  refine ⟨G, env, s, ts, R, ?_⟩
  cases e : m env s with
  | ok w env' s' =>
    rw [e] at h
    exact fun H' R' => hok w env' s' H' R' h
  | ex x env' s' =>
    rw [e] at h
    exact hex x env' s' h
  | bad =>
    rw [e] at h
    exact hbad h
theorem d_sl {e : Expr} {lo hi : Option Expr} {ml mh : MX S (Option Int)} {r : V → Option Int → Option Int → Hp → VK → Prop} {f : D → Option Int → Option Int → Option Rs} (hr : L2.SlR X r) (df : DSl X.K r f) (he : PE X e (tD X.K I Wx ma)) (hl : PO X lo (tP X.K I Wx ml)) (hu : PO X hi (tP X.K I Wx mh)) :
    PE X (.Subscript e (.Slice lo hi none p2) pos) (tD X.K I Wx (mSl f ma ml mh)) := by
  refine PEimp (pe_slice hr he hl hu) fun σ H Q ⟨G, env, s, ts, R, h⟩ => ?_
  refine tD_bind (Z := ZD X.K I Wx G ts σ Q) R h (fun _ _ _ z => z) (fun z => z) fun w env1 s1 x H1 _ R1 z1 => ?_
  refine tP_bind (Z := ZD X.K I Wx G ts σ Q) R1 z1 (fun _ _ _ z dx H' q => z dx H' (q.less sl1)) (fun z => z) fun i env2 s2 H2 R2 z2 => ?_
  refine tP_bind (Z := ZD X.K I Wx G ts σ Q) R2 z2 (fun _ _ _ z dx H' q => z dx H' (q.less sl1)) (fun z => z) fun j env3 s3 H3 R3 z3 => ?_
  obtain ⟨ad, bv, bm, R4⟩ := R3
  cases e1 : w.rd env3 with
  | none => simp only [e1] at z3; exact z3.elim
  | some d =>
    simp only [e1] at z3
    cases e3 : f d i j with
    | none => simp only [e3] at z3; exact z3.elim
    | some res =>
      simp only [e3] at z3
      exact df _ H3 x d i j res Q (R4.rd (p := (x, w)) List.mem_cons_self e1) (fun a => R4.avdom) e3 (fin_of (l := [(x, w)]) R4 res z3)
end
end LM

namespace LM
open PySem L2

/-! ### what is walked -/
/-- J gives the data xs while what stands at p stands -/
structure Wk {S : Type} (K : PySem.W.Frag) (I : BoxI S) (G : Gh) (ts : List (V × W)) (p : List (V × W)) (J : It) (xs : List D) : Prop where
  nd : ∀ q ∈ p, (∃ d, q.2 = .v d) ∨ ∃ d, q.2 = .t d
  stop : ∀ env s l σ H i, ER K I G env s (l ++ (p ++ ts)) σ H → i = xs.length → J.stop i H
  go : ∀ env s l σ H i d, ER K I G env s (l ++ (p ++ ts)) σ H → xs[i]? = some d → J.go i H ∧ ∀ x H', J.yld i H x H' → ER K I G env s ((x, .v d) :: (l ++ (p ++ ts))) σ H'
def tI {S : Type} (K : PySem.W.Frag) (I : BoxI S) (Wx : WX) (m : MX S (List D)) : TI := fun σ H R => ∃ G env s ts, ER K I G env s ts σ H ∧
  match m env s with
  | .ok xs env' s' => ∀ J p H', ER K I G env' s' (p ++ ts) σ H' → Wk K I G ts p J xs → R J H'
  | .ex e env' s' => ∀ dx H', ERX K I G e dx env' s' ts σ H' → Wx (.ref e.C) (some dx) σ H'
  | .bad => False
theorem PIimp {X : Cx} {tg e : Expr} {t t' : TI} (h : PI X tg e t) (w : ∀ σ H R, t' σ H R → t σ H R) : PI X tg e t' := ⟨fun pins s σ H R I q => h.run pins s σ H R I (w _ _ _ q)⟩
section
variable {S : Type}
def mIL (ma : MX S W) : MX S (List D) := ma.bind fun w => fun env s => match w with
  | .v (.lst ds) => .ok ds env s
  | .t (.lst ds) => .ok ds env s
  | _ => .bad
def mIT (ma : MX S W) : MX S (List D) := ma.bind fun w => fun env s => match w with
  | .v (.tup ds) => .ok ds env s
  | .t (.tup ds) => .ok ds env s
  | _ => .bad
def mIR (ma : MX S W) : MX S (List D) := ma.bind fun w => fun env s => match w with
  | .v (.int n) => if -4611686018427387904 ≤ n ∧ n < 4611686018427387904 then .ok ((List.range n.toNat).map fun i => .int (i : Nat)) env s else .bad
  | _ => .bad
def enumD (ds : List D) : List D := ds.zipIdx.map fun p => .tup [.int (p.2 : Nat), p.1]
def mIE (ma : MX S W) : MX S (List D) := ma.bind fun w => fun env s => match w with
  | .v (.lst ds) => .ok (enumD ds) env s
  | .t (.lst ds) => .ok (enumD ds) env s
  | _ => .bad
def mIZ (ma mb : MX S W) : MX S (List D) := ma.bind fun w => mb.bind fun u => fun env s => match w, u with
  | .v (.lst ds), .v (.lst es) => .ok ((ds.zip es).map fun p => .tup [p.1, p.2]) env s
  | _, _ => .bad
end
section
variable {S : Type} {X : Cx} {I : BoxI S} {Wx : WX} {a b tg : Expr} {pos p : Pos} {ma mb : MX S W}
/-- a list that is walked: at each turn the same -/
theorem wk_list {K : PySem.W.Frag} {G : Gh} {ts : List (V × W)} {v : V} {w : W} {ds : List D} (hw : w = .v (.lst ds) ∨ w = .t (.lst ds)) {a : Addr} (ha : v = .ref a) : Wk K I G ts [(v, w)] (Itl K a) ds := by
  have rd : ∀ env s l σ H, ER K I G env s (l ++ ([(v, w)] ++ ts)) σ H → ∃ ad bv bm xs, ERa K I G ad bv bm env s (l ++ ([(v, w)] ++ ts)) σ H ∧ SqL K H a xs ∧ Reps K (Bv G bm ad env (l ++ ([(v, w)] ++ ts))) H xs ds := by
    rintro env s l σ H ⟨ad, bv, bm, R⟩
    have q : Tp K (Bv G bm ad env (l ++ ([(v, w)] ++ ts))) H v (.lst ds) := R.rd (p := (v, w)) (by simp) (by rcases hw with rfl | rfl <;> rfl)
    obtain ⟨a', xs, e, r, q⟩ := q.lst
    rw [ha] at e; cases e
    exact ⟨ad, bv, bm, xs, R, r, q⟩
  refine ⟨fun q hq => ?_, fun env s l σ H i R hi => ?_, fun env s l σ H i d R hd => ?_⟩
  · obtain rfl := List.mem_singleton.mp hq
    rcases hw with e | e
    · exact .inl ⟨_, e⟩
    · exact .inr ⟨_, e⟩
  · obtain ⟨_, _, _, xs, _, r, q⟩ := rd env s l σ H R
    exact ⟨xs, r, by rw [q.len, hi]; exact Nat.le_refl _⟩
  · obtain ⟨ad, bv, bm, xs, R', r, q⟩ := rd env s l σ H R
    obtain ⟨x, hx, rx⟩ := q.get hd
    refine ⟨⟨xs, x, r, hx⟩, fun y H' ⟨e, hy⟩ => ?_⟩
    subst e
    have e2 := hy xs r
    rw [hx] at e2; cases e2
    exact ⟨ad, bv, bm, R'.pushV rx⟩
theorem wk_tup {K : PySem.W.Frag} {G : Gh} {ts : List (V × W)} {v : V} {w : W} {ds : List D} (hw : w = .v (.tup ds) ∨ w = .t (.tup ds)) {a : Addr} (ha : v = .ref a) : Wk K I G ts [(v, w)] (Itt K a) ds := by
  have rd : ∀ env s l σ H, ER K I G env s (l ++ ([(v, w)] ++ ts)) σ H → ∃ ad bv bm xs, ERa K I G ad bv bm env s (l ++ ([(v, w)] ++ ts)) σ H ∧ SqT K H a xs ∧ Reps K (Bv G bm ad env (l ++ ([(v, w)] ++ ts))) H xs ds := by
    rintro env s l σ H ⟨ad, bv, bm, R⟩
    have q : Tp K (Bv G bm ad env (l ++ ([(v, w)] ++ ts))) H v (.tup ds) := R.rd (p := (v, w)) (by simp) (by rcases hw with rfl | rfl <;> rfl)
    obtain ⟨a', xs, e, r, q⟩ := q.tup
    rw [ha] at e; cases e
    exact ⟨ad, bv, bm, xs, R, r, q⟩
  refine ⟨fun q hq => ?_, fun env s l σ H i R hi => ?_, fun env s l σ H i d R hd => ?_⟩
  · obtain rfl := List.mem_singleton.mp hq
    rcases hw with e | e
    · exact .inl ⟨_, e⟩
    · exact .inr ⟨_, e⟩
  · obtain ⟨_, _, _, xs, _, r, q⟩ := rd env s l σ H R
    exact ⟨xs, r, by rw [q.len, hi]; exact Nat.le_refl _⟩
  · obtain ⟨ad, bv, bm, xs, R', r, q⟩ := rd env s l σ H R
    obtain ⟨x, hx, rx⟩ := q.get hd
    refine ⟨⟨xs, x, r, hx⟩, fun y H' ⟨e, hy⟩ => ?_⟩
    subst e
    have e2 := hy xs r
    rw [hx] at e2; cases e2
    exact ⟨ad, bv, bm, R'.pushV rx⟩
theorem wk_range {K : PySem.W.Frag} {G : Gh} {ts : List (V × W)} {n : Nat} : Wk K I G ts [] (Itr 0 n) ((List.range n).map fun i => .int (i : Nat)) := by
  refine ⟨fun q hq => (nomatch hq), fun env s l σ H i R hi => ?_, fun env s l σ H i d R hd => ?_⟩
  · show n ≤ i
    rw [hi]; simp
  · rw [List.getElem?_map] at hd
    cases e : (List.range n)[i]? with
    | none => rw [e] at hd; cases hd
    | some j =>
      rw [e] at hd
      obtain ⟨h1, h2⟩ := List.getElem?_eq_some_iff.mp e
      rw [List.getElem_range] at h2
      subst h2
      cases hd
      refine ⟨(by show i < n; simpa using h1), fun x H' ⟨e1, e2⟩ => ?_⟩
      subst e1
      subst e2
      obtain ⟨ad, bv, bm, R⟩ := R
      rw [Int.zero_add]
      exact ⟨ad, bv, bm, R.pushV (.int _)⟩
theorem enumD_get {ds : List D} {i : Nat} {d : D} (h : (enumD ds)[i]? = some d) : ∃ e, ds[i]? = some e ∧ d = .tup [.int (i : Nat), e] := by
  unfold enumD at h
  rw [List.getElem?_map, List.getElem?_zipIdx] at h
  cases e : ds[i]? with
  | none => rw [e] at h; cases h
  | some x =>
    rw [e] at h
    simp only [Option.map_some, Option.some.injEq, Nat.zero_add] at h
    exact ⟨x, rfl, h.symm⟩
theorem enumD_len {ds : List D} : (enumD ds).length = ds.length := by simp [enumD]
theorem wk_enum {K : PySem.W.Frag} {G : Gh} {ts : List (V × W)} {v : V} {w : W} {ds : List D} (hw : w = .v (.lst ds) ∨ w = .t (.lst ds)) {a : Addr} (ha : v = .ref a) : Wk K I G ts [(v, w)] (Ite K a) (enumD ds) := by
  have Z := wk_list (I := I) (K := K) (G := G) (ts := ts) hw ha
  refine ⟨Z.nd, fun env s l σ H i R hi => Z.stop env s l σ H i R (by rw [enumD_len] at hi; exact hi), fun env s l σ H i d R hd => ?_⟩
  obtain ⟨e, he, rfl⟩ := enumD_get hd
  obtain ⟨g, y⟩ := Z.go env s l σ H i e R he
  refine ⟨g, fun x H' ⟨T, z, e1, e2, e3, e4⟩ => ?_⟩
  subst e1
  subst e3
  obtain ⟨ad, bv, bm, R2⟩ := y z H ⟨rfl, e4⟩
  have rz : Rep K (Bv G bm ad env ((z, .v e) :: (l ++ ([(v, w)] ++ ts)))) H z e := R2.tm _ List.mem_cons_self
  exact ⟨ad, bv, bm, (R2.newT e2 (.cons (.int _) (.cons rz .nil))).less (.cons_cons _ sl1)⟩
theorem i_list (ha : PE X a (tD X.K I Wx ma)) : PI X tg a (tI X.K I Wx (mIL ma)) := by
  refine PIimp (pi_list ha) fun σ H R0 ⟨G, env, s, ts, R, h⟩ => ?_
  show tD X.K I Wx ma σ H _
  refine ⟨G, env, s, ts, R, ?_⟩
  cases e : ma env s with
  | ex e' env1 s1 =>
    simp only [mIL, MX.bind, Out.bind, e] at h
    exact h
  | bad => simp only [mIL, MX.bind, Out.bind, e] at h
  | ok w env1 s1 =>
    simp only [mIL, MX.bind, Out.bind, e] at h
    intro v H1 R1
    have fin : ∀ ds, (w = .v (.lst ds) ∨ w = .t (.lst ds)) → (∀ J p H', ER X.K I G env1 s1 (p ++ ts) σ H' → Wk X.K I G ts p J ds → R0 J H') → ∃ a, v = .ref a ∧ (∃ xs, SqL X.K H1 a xs) ∧ R0 (Itl X.K a) H1 := fun ds hw k => by
      obtain ⟨ad, bv, bm, R2⟩ := id R1
      have q : Tp X.K (Bv G bm ad env1 ((v, w) :: ts)) H1 v (.lst ds) := R2.rd (p := (v, w)) List.mem_cons_self (by rcases hw with rfl | rfl <;> rfl)
      obtain ⟨a', xs, e, r, q⟩ := q.lst
      exact ⟨a', e, ⟨xs, r⟩, k (Itl X.K a') [(v, w)] H1 R1 (wk_list hw e)⟩
    cases w with
    | v d =>
      cases d with
      | lst ds => exact fin ds (.inl rfl) h
      | _ => exact h.elim
    | t d =>
      cases d with
      | lst ds => exact fin ds (.inr rfl) h
      | _ => exact h.elim
    | _ => exact h.elim
theorem i_tup (ha : PE X a (tD X.K I Wx ma)) : PI X tg a (tI X.K I Wx (mIT ma)) := by
  refine PIimp (pi_tup ha) fun σ H R0 ⟨G, env, s, ts, R, h⟩ => ?_
  show tD X.K I Wx ma σ H _
  refine ⟨G, env, s, ts, R, ?_⟩
  cases e : ma env s with
  | ex e' env1 s1 =>
    simp only [mIT, MX.bind, Out.bind, e] at h
    exact h
  | bad => simp only [mIT, MX.bind, Out.bind, e] at h
  | ok w env1 s1 =>
    simp only [mIT, MX.bind, Out.bind, e] at h
    intro v H1 R1
    have fin : ∀ ds, (w = .v (.tup ds) ∨ w = .t (.tup ds)) → (∀ J p H', ER X.K I G env1 s1 (p ++ ts) σ H' → Wk X.K I G ts p J ds → R0 J H') → ∃ a, v = .ref a ∧ (∃ xs, SqT X.K H1 a xs) ∧ R0 (Itt X.K a) H1 := fun ds hw k => by
      obtain ⟨ad, bv, bm, R2⟩ := id R1
      have q : Tp X.K (Bv G bm ad env1 ((v, w) :: ts)) H1 v (.tup ds) := R2.rd (p := (v, w)) List.mem_cons_self (by rcases hw with rfl | rfl <;> rfl)
      obtain ⟨a', xs, e, r, q⟩ := q.tup
      exact ⟨a', e, ⟨xs, r⟩, k (Itt X.K a') [(v, w)] H1 R1 (wk_tup hw e)⟩
    cases w with
    | v d =>
      cases d with
      | tup ds => exact fin ds (.inl rfl) h
      | _ => exact h.elim
    | t d =>
      cases d with
      | tup ds => exact fin ds (.inr rfl) h
      | _ => exact h.elim
    | _ => exact h.elim
theorem i_range (hg : Gl X "range") (hm : X.mg "range" = none) (ha : PE X a (tD X.K I Wx ma)) (hs : starEach [a] X.env = [(false, eval a X.env)] := by rfl) : PI X tg (.Call (.Name "range" p) [a] [] pos) (tI X.K I Wx (mIR ma)) := by
  refine PIimp (pi_range1 hg hm (pa_cons ha pa_nil hs) hs) fun σ H R0 ⟨G, env, s, ts, R, h⟩ => ?_
  show tD X.K I Wx ma σ H _
  refine ⟨G, env, s, ts, R, ?_⟩
  cases e : ma env s with
  | ex e' env1 s1 =>
    simp only [mIR, MX.bind, Out.bind, e] at h
    exact h
  | bad => simp only [mIR, MX.bind, Out.bind, e] at h
  | ok w env1 s1 =>
    simp only [mIR, MX.bind, Out.bind, e] at h
    intro v H1 R1
    cases w with
    | v d =>
      cases d with
      | int n =>
        simp only at h
        obtain ⟨ad, bv, bm, R2⟩ := id R1
        have q : Rep X.K _ H1 v (.int n) := R2.tm _ List.mem_cons_self
        cases q
        by_cases hn : -4611686018427387904 ≤ n ∧ n < 4611686018427387904
        · rw [if_pos hn] at h
          exact ⟨n, rfl, by omega, by omega, h (Itr 0 n.toNat) [] H1 R1.pop wk_range⟩
        · rw [if_neg hn] at h
          exact h.elim
      | _ => exact h.elim
    | _ => exact h.elim
end
end LM

namespace LM
open PySem L2

section
variable {S : Type} {K : PySem.W.Frag} {I : BoxI S} {G : Gh} {ad : Nat → Addr} {bv : V} {bm : Addr → Prop} {env : List Sl} {s s' : S} {ts ts' : List (V × W)} {σ σ' : St} {H H' : Hp}
/-- a slot that is no list of its own is stored -/
theorem ERa.put2 {x y : Sl} {i : Nat} {v : Option V} (R : ERa K I G ad bv bm env s ts σ H) (ey : env[i]? = some y) (nr : y.isRef = false) (nx : x.isOwn = false) (h : SlR K (Tv bm ad env ts) (Bv G bm ad env ts) bv H (ad i) (some v) x) : ERa K I G ad bv bm (env.set i x) s ts (σ.set i v) H := by
  have R1 := R.forget (v := v) ey nr
  have hi : i < env.length := (List.getElem?_eq_some_iff.mp ey).1
  have go : ∀ a, Ow ad (env.set i x) ts a → Ow ad env ts a := fun a z => z.imp (fun ⟨j, y, e, o, q⟩ => by
    rcases set_get e with ⟨_, rfl, _⟩ | ⟨_, e⟩
    · rw [nx] at o; cases o
    · exact ⟨j, y, e, o, q⟩) fun q => q
  have gt : Gr (Tv bm ad env ts) (Tv bm ad (env.set i x) ts) H H := .sub fun a z => z.imp (fun q => q) (go a)
  have g : Gr (Bv G bm ad env ts) (Bv G bm ad (env.set i x) ts) H H := .sub fun a z => z.imp (fun q => q) fun z => z.imp (fun q => q) (go a)
  refine ⟨by rw [List.length_set, List.length_set]; exact R.len, R.ext, R.dom, R.box, R.bfr, R.bdom, fun j z e o => ?_, R.tow, fun j k z u ej ek oj ok => ?_, fun j z p e o => ?_, R.d3, fun j z e => ?_, fun p hp => ?_⟩
  · rcases set_get e with ⟨_, rfl, _⟩ | ⟨_, e⟩
    · rw [nx] at o; cases o
    · exact R.own j z e o
  · rcases set_get ej with ⟨_, rfl, _⟩ | ⟨_, ej'⟩
    · rw [nx] at oj; cases oj
    rcases set_get ek with ⟨_, rfl, _⟩ | ⟨_, ek'⟩
    · rw [nx] at ok; cases ok
    exact R.d1 j k z u ej' ek' oj ok
  · rcases set_get e with ⟨_, rfl, _⟩ | ⟨_, e⟩
    · rw [nx] at o; cases o
    · exact R.d2 j z p e o
  · rcases set_get e with ⟨rfl, rfl, hl⟩ | ⟨ne, e⟩
    · rw [List.getElem?_set_self (by rw [R.len]; exact hl)]
      exact h.gr gt g fun _ _ q => q
    · rw [List.getElem?_set_ne (Ne.symm ne)]
      exact (R.sl j z e).gr gt g fun _ _ q => q
  · refine (R.tm p hp).gr gt g (fun _ _ _ _ q => q) fun j z _ q r => ?_
    by_cases hj : j = i
    · subst hj
      rw [ey] at q; cases q
      rw [nr] at r; cases r
    · exact ⟨z, by rw [List.getElem?_set_ne (Ne.symm hj)]; exact q, r⟩
/-- the slots read otherwise where nothing is said of them -/
theorem ERa.resl (R : ERa K I G ad bv bm env s ts σ H) (hl : σ'.length = σ.length) (h : ∀ (i : Nat) (x : Sl), env[i]? = some x → x = Sl.no ∨ σ'[i]? = σ[i]?) : ERa K I G ad bv bm env s ts σ' H := by
  refine ⟨by rw [hl]; exact R.len, R.ext, R.dom, R.box, R.bfr, R.bdom, R.own, R.tow, R.d1, R.d2, R.d3, fun i x e => ?_, R.tm⟩
  rcases h i x e with rfl | q
  · exact True.intro
  · rw [q]; exact R.sl i x e
end

/-! ### targets -/
/-- g stores data at the slots idx -/
def tG {S : Type} (K : PySem.W.Frag) (I : BoxI S) (idx : List Nat) (g : D → List Sl → Option (List Sl)) : TG := fun v σ H Q => ∃ G env s ts d, ER K I G env s ((v, .v d) :: ts) σ H ∧
  match g d env with
  | some env' => ∀ σ', ER K I G env' s ts σ' H → (∀ vs : List Nat, (∀ i ∈ idx, i ∈ vs) → wipe σ' vs = wipe σ vs) → Q σ' H
  | none => False
def tGs {S : Type} (K : PySem.W.Frag) (I : BoxI S) (idx : List Nat) (g : List D → List Sl → Option (List Sl)) : TGs := fun xs σ H Q => ∃ G env s ts ds, xs.length = ds.length ∧ ER K I G env s (xs.zip (ds.map W.v) ++ ts) σ H ∧
  match g ds env with
  | some env' => ∀ σ', ER K I G env' s ts σ' H → (∀ vs : List Nat, (∀ i ∈ idx, i ∈ vs) → wipe σ' vs = wipe σ vs) → Q σ' H
  | none => False
def gN (i : Nat) (d : D) (env : List Sl) : Option (List Sl) := match env[i]? with
  | some y => if y.isRef then none else some (env.set i (.val d))
  | none => none
def gT (n : Nat) (g : List D → List Sl → Option (List Sl)) (d : D) (env : List Sl) : Option (List Sl) := match d with
  | .tup ds => if ds.length = n then g ds env else none
  | _ => none
def gsN (ds : List D) (env : List Sl) : Option (List Sl) := match ds with
  | [] => some env
  | _ => none
def gsC (g : D → List Sl → Option (List Sl)) (gs : List D → List Sl → Option (List Sl)) (ds : List D) (env : List Sl) : Option (List Sl) := match ds with
  | d :: ds => (g d env).bind (gs ds)
  | [] => none
theorem PGimp {X : Cx} {e : Expr} {t t' : TG} (h : PG X e t) (w : ∀ v σ H Q, t' v σ H Q → t v σ H Q) : PG X e t' := ⟨fun pins s σ H v u Q I r q => h.run pins s σ H v u Q I r (w _ _ _ _ q)⟩
theorem PGsimp {X : Cx} {e : List Expr} {t t' : TGs} (h : PGs X e t) (w : ∀ v σ H Q, t' v σ H Q → t v σ H Q) : PGs X e t' := ⟨fun pins s σ H v u Q I r q => h.run pins s σ H v u Q I r (w _ _ _ _ q)⟩
theorem wipe_set {σ : St} {i : Nat} {x : Option V} : ∀ {vs : List Nat}, i ∈ vs → wipe (σ.set i x) vs = wipe σ vs
  | v :: vs, h => by
    show (wipe (σ.set i x) vs).set v none = (wipe σ vs).set v none
    by_cases hv : i ∈ vs
    · rw [wipe_set hv]
    · rcases List.mem_cons.mp h with rfl | h
      · have out : ∀ vs : List Nat, i ∉ vs → wipe (σ.set i x) vs = (wipe σ vs).set i x := by
          intro vs
          induction vs with
          | nil => intro _; rfl
          | cons v vs ih =>
            intro h
            show (wipe (σ.set i x) vs).set v none = ((wipe σ vs).set v none).set i x
            rw [ih fun z => h (List.mem_cons_of_mem _ z), List.set_comm _ _ fun z => h (by simp [z])]
        rw [out vs hv, List.set_set]
      · exact absurd h hv
section
variable {S : Type} {X : Cx} {I : BoxI S} {Wx : WX} {a b c : Expr} {es : List Expr} {pos : Pos} {g : D → List Sl → Option (List Sl)} {gs : List D → List Sl → Option (List Sl)} {ix ixs : List Nat}
theorem g_name {i : Nat} {x : Str} (hN : X.N.Nodup) (hi : X.N[i]? = some x) (hx : Loc X.env.scope x) (hf : X.fn x = true ∨ X.env.scope.names.lookup x = some .local := by first | exact .inl rfl | exact .inr rfl | assumption) : PG X (.Name x pos) (tG (S := S) X.K I [i] (gN i)) := by
  refine PGimp (pg_name hN hi hx hf) fun v σ H Q ⟨G, env, s, ts, d, R, h⟩ => ?_
  unfold gN at h
  cases e : env[i]? with
  | none => rw [e] at h; exact h.elim
  | some y =>
    rw [e] at h
    by_cases hr : y.isRef = true
    · simp only [hr] at h; exact h.elim
    · simp only [hr] at h
      obtain ⟨ad, bv, bm, R⟩ := R
      have r : Rep X.K (Bv G bm ad env ((v, .v d) :: ts)) H v d := R.tm _ List.mem_cons_self
      refine h _ ⟨ad, bv, bm, (R.put2 (x := .val d) (v := some v) e (by simpa using hr) rfl ⟨v, rfl, r⟩).pop⟩ fun vs hv => wipe_set (hv i (by simp))
theorem gs_nil : PGs X [] (tGs (S := S) X.K I [] gsN) := by
  refine PGsimp pgs_nil fun v σ H Q ⟨G, env, s, ts, ds, hl, R, h⟩ => ?_
  cases ds with
  | nil =>
    cases v with
    | nil => exact ⟨rfl, h σ R fun _ _ => rfl⟩
    | cons _ _ => simp at hl
  | cons _ _ => exact h.elim
theorem gs_cons (h1 : PG X a (tG (S := S) X.K I ix g)) (h2 : PGs X es (tGs (S := S) X.K I ixs gs)) (hs : (assignEach (a :: es) X.env).map (·.2) = assign a X.env :: (assignEach es X.env).map (·.2) := by rfl) : PGs X (a :: es) (tGs (S := S) X.K I (ix ++ ixs) (gsC g gs)) := by
  refine PGsimp (pgs_cons h1 h2 hs) fun v σ H Q ⟨G, env, s, ts, ds, hl, R, h⟩ => ?_
  cases ds with
  | nil => exact h.elim
  | cons d ds =>
    cases v with
    | nil => simp at hl
    | cons x xs =>
      unfold gsC at h
      cases e : g d env with
      | none => simp only [e] at h; exact h.elim
      | some env1 =>
        simp only [e] at h
        cases e2 : gs ds env1 with
        | none => rw [Option.bind_some, e2] at h; exact h.elim
        | some env2 =>
          rw [Option.bind_some, e2] at h
          refine ⟨x, xs, rfl, G, env, s, xs.zip (ds.map W.v) ++ ts, d, R, ?_⟩
          rw [e]
          intro σ1 R1 w1
          refine ⟨G, env1, s, ts, ds, by simpa using hl, R1, ?_⟩
          rw [e2]
          exact fun σ2 R2 w2 => h σ2 R2 fun vs hv => (w2 vs fun i hi => hv i (List.mem_append_right _ hi)).trans (w1 vs fun i hi => hv i (List.mem_append_left _ hi))
theorem zip_v : ∀ {K : PySem.W.Frag} {B : Addr → Prop} {H : Hp} {xs : List V} {ds : List D}, Reps K B H xs ds → ∀ p ∈ xs.zip (ds.map W.v), ∃ d, p.2 = .v d ∧ Rep K B H p.1 d
  | _, _, _, [], _, _, p, hp => by simp at hp
  | _, _, _, x :: xs, [], h, p, hp => by cases h
  | _, _, _, x :: xs, d :: ds, h, p, hp => by
    cases h with
    | cons h1 h2 =>
      rw [List.map_cons, List.zip_cons_cons] at hp
      rcases List.mem_cons.mp hp with rfl | hp
      · exact ⟨d, rfl, h1⟩
      · exact zip_v h2 p hp
/-- data pushed, many -/
theorem ERa.pushes {K : PySem.W.Frag} {G : Gh} {ad : Nat → Addr} {bv : V} {bm : Addr → Prop} {env : List Sl} {s : S} {σ : St} {H : Hp} : ∀ {l ts : List (V × W)}, ERa K I G ad bv bm env s ts σ H → (∀ p ∈ l, ∃ d, p.2 = .v d ∧ Rep K (Bv G bm ad env ts) H p.1 d) → ERa K I G ad bv bm env s (l ++ ts) σ H
  | [], ts, R, _ => R
  | p :: l, ts, R, h => by
    have R1 := ERa.pushes (l := l) R fun q hq => h q (List.mem_cons_of_mem _ hq)
    obtain ⟨d, e, r⟩ := h p List.mem_cons_self
    obtain ⟨v, w⟩ := p
    have e : w = .v d := e
    subst e
    refine R1.pushV (r.gr (.sub fun a z => z.imp (fun q => q) fun z => z.imp (fun q => q) fun z => z.imp (fun q => q) fun ⟨q, hq, f, e⟩ => ?_))
    rcases List.mem_append.mp hq with hq | hq
    · obtain ⟨d', e', _⟩ := h q (List.mem_cons_of_mem _ hq)
      rw [e'] at f; cases f
    · exact ⟨q, hq, f, e⟩
theorem g_tup {k : Nat} {n : Nat} (hc : X.calm = true) (h : PGs X es (tGs (S := S) X.K I ix gs)) (hn : (assignEach es X.env).length = n := by rfl) (hst : (assignEach es X.env).findIdx? (·.1) = none := by rfl) : PG X (.Tuple es k pos) (tG (S := S) X.K I ix (gT n gs)) := by
  refine PGimp (pg_tup hc h hn hst) fun v σ H Q ⟨G, env, s, ts, d, R, h⟩ => ?_
  cases d with
  | tup ds =>
    obtain ⟨ad, bv, bm, R⟩ := R
    have q : Tp X.K (Bv G bm ad env ((v, .v (.tup ds)) :: ts)) H v (.tup ds) := R.rd (p := (v, .v (.tup ds))) List.mem_cons_self rfl
    obtain ⟨a, xs, e1, r, q⟩ := q.tup
    by_cases hl : ds.length = n
    · simp only [gT, if_pos hl] at h
      refine ⟨a, xs, e1, r, by rw [q.len]; exact hl, G, env, s, ts, ds, q.len, ⟨ad, bv, bm, (R.pop).pushes fun p hp => ?_⟩, ?_⟩
      · obtain ⟨d, e, r⟩ := zip_v q p hp
        exact ⟨d, e, r.gr (.sub fun a z => z.imp (fun q => q) fun z => z.imp (fun q => q) fun z => z.imp (fun q => q) fun ⟨q, hq, f⟩ => ⟨q, List.mem_cons_of_mem _ hq, f⟩)⟩
      · exact h
    · simp only [gT, if_neg hl] at h
  | _ => exact h.elim
end
end LM

namespace LM
open PySem L2

/-! ### list comprehensions -/
def nonref (vs : List Nat) (env : List Sl) : Bool := vs.all fun v => match env[v]? with
  | some y => !y.isRef
  | none => true
def wipeE (env : List Sl) : List Nat → List Sl
  | [] => env
  | v :: vs => (wipeE env vs).set v .no
def Out.bindN {S α β : Type} (o : Out S α) (f : α → MX S β) : Out S β :=
  match o with
  | .ok a env s => f a env s
  | _ => .bad
section
variable {S : Type}
def mCompL (vs : List Nat) (g : D → List Sl → Option (List Sl)) (mt : MX S Bool) (me : MX S W) : List D → List D → MX S W
  | [], acc => fun env s => .ok (.f acc) env s
  | d :: ds, acc => fun env s => match g d env with
    | none => .bad
    | some env1 => (mt env1 s).bindN fun b => if b then fun env s => (me env s).bindN fun w => fun env s => match w.kp with
      | some e => if acc.length < 16777216 ∧ nonref vs env = true then mCompL vs g mt me ds (acc ++ [e]) (wipeE env vs) s else .bad
      | none => .bad
      else fun env s => if nonref vs env = true then mCompL vs g mt me ds acc (wipeE env vs) s else .bad
def mComp (mi : MX S (List D)) (vs : List Nat) (g : D → List Sl → Option (List Sl)) (mt : MX S Bool) (me : MX S W) : MX S W := mi.bind fun xs => fun env s => if nonref vs env = true then mCompL vs g mt me xs [] (wipeE env vs) s else .bad
def mYes : MX S Bool := fun env s => .ok true env s
end
def W0 : WX := fun _ _ _ _ => False
theorem wipe_wipe (σ : St) (vs : List Nat) : wipe (wipe σ vs) vs = wipe σ vs := by
  have h : ∀ us : List Nat, (∀ v ∈ us, v ∈ vs) → wipe (wipe σ us) vs = wipe σ vs := by
    intro us
    induction us with
    | nil => intro _; rfl
    | cons u us ih =>
      intro hu
      show wipe ((wipe σ us).set u none) vs = wipe σ vs
      rw [wipe_set (hu u List.mem_cons_self), ih fun v hv => hu v (List.mem_cons_of_mem _ hv)]
  exact h vs fun _ h => h
theorem wipeE_get {env : List Sl} {i : Nat} {y : Sl} : ∀ {vs : List Nat}, (wipeE env vs)[i]? = some y → (i ∈ vs ∧ y = .no) ∨ (i ∉ vs ∧ env[i]? = some y)
  | [], h => .inr ⟨by simp, h⟩
  | v :: vs, h => by
    rcases set_get (show ((wipeE env vs).set v .no)[i]? = some y from h) with ⟨rfl, rfl, _⟩ | ⟨ne, h⟩
    · exact .inl ⟨by simp, rfl⟩
    · rcases wipeE_get h with ⟨h1, h2⟩ | ⟨h1, h2⟩
      · exact .inl ⟨List.mem_cons_of_mem _ h1, h2⟩
      · exact .inr ⟨by simp [ne, h1], h2⟩
section
variable {S : Type} {K : PySem.W.Frag} {I : BoxI S} {G : Gh} {ad : Nat → Addr} {bv : V} {bm : Addr → Prop} {env : List Sl} {s s' : S} {ts ts' : List (V × W)} {σ σ' : St} {H H' : Hp}
theorem ERa.wipes (R : ERa K I G ad bv bm env s ts σ H) : ∀ {vs : List Nat}, nonref vs env = true → ERa K I G ad bv bm (wipeE env vs) s ts (wipe σ vs) H
  | [], _ => R
  | v :: vs, h => by
    unfold nonref at h
    rw [List.all_cons, Bool.and_eq_true] at h
    have R1 := ERa.wipes R (vs := vs) h.2
    show ERa K I G ad bv bm ((wipeE env vs).set v .no) s ts ((wipe σ vs).set v none) H
    cases e : (wipeE env vs)[v]? with
    | none =>
      have hl : (wipeE env vs).length ≤ v := List.getElem?_eq_none_iff.mp e
      rw [List.set_eq_of_length_le hl, List.set_eq_of_length_le (by rw [R1.len]; exact hl)]
      exact R1
    | some y =>
      refine R1.forget e ?_
      rcases wipeE_get e with ⟨_, rfl⟩ | ⟨_, e'⟩
      · rfl
      · have h1 := h.1
        rw [e'] at h1
        simpa using h1
theorem ER.wipes (R : ER K I G env s ts σ H) {vs : List Nat} (h : nonref vs env = true) : ER K I G (wipeE env vs) s ts (wipe σ vs) H := by
  obtain ⟨ad, bv, bm, R⟩ := R
  exact ⟨ad, bv, bm, R.wipes h⟩
theorem wipe_ne {σ : St} {i : Nat} : ∀ {vs : List Nat}, i ∉ vs → (wipe σ vs)[i]? = σ[i]?
  | [], _ => rfl
  | v :: vs, h => by
    show ((wipe σ vs).set v none)[i]? = σ[i]?
    rw [List.getElem?_set_ne (fun e => h (by simp [e])), wipe_ne fun z => h (List.mem_cons_of_mem _ z)]
theorem wipeE_env {env : List Sl} {vs : List Nat} (h : ∀ v ∈ vs, ∀ y, env[v]? = some y → y = .no) (R : ER K I G env s ts (wipe σ vs) H) : ER K I G env s ts σ H := by
  obtain ⟨ad, bv, bm, R⟩ := R
  refine ⟨ad, bv, bm, R.resl (by rw [wipe_length]) fun i x e => ?_⟩
  by_cases hi : i ∈ vs
  · exact .inl (h i hi x e)
  · exact .inr (wipe_ne hi).symm
theorem wipeE_no {env : List Sl} {vs : List Nat} : ∀ v ∈ vs, ∀ y, (wipeE env vs)[v]? = some y → y = .no := fun v hv y e => by
  rcases wipeE_get e with ⟨_, h⟩ | ⟨h, _⟩
  · exact h
  · exact absurd hv h
end
section
variable {S : Type} {X : Cx} {I : BoxI S} {Wx : WX} {pos : Pos} {me : MX S W} {mt : MX S Bool} {mi : MX S (List D)} {g : D → List Sl → Option (List Sl)} {idx : List Nat}
theorem y_nil : PTs X [] (LM.tB X.K I Wx (mYes (S := S))) := ⟨fun pins s σ H Q J ⟨G, env, s', ts, R, h⟩ => (pts_nil (X := X)).run pins s σ H Q J (h H R)⟩
theorem y_one {c : Expr} (h : PT X c (LM.tB X.K I Wx mt)) : PTs X [c] (LM.tB X.K I Wx mt) := pts_one h
theorem comp_fin {vs : List Nat} (hv : ∀ i ∈ idx, i ∈ vs) {σ : St} {H : Hp} {Q : VK} (h : tD X.K I Wx (mComp mi vs g mt me) σ H Q) :
    tLc (tI X.K I Wx mi) (tG X.K I idx g) (LM.tB X.K I W0 mt) (tD X.K I W0 me) vs σ H Q := by
  obtain ⟨G, env, s, ts, R, h⟩ := h
  refine ⟨G, env, s, ts, R, ?_⟩
  cases e : mi env s with
  | ex e' env1 s1 =>
    simp only [mComp, MX.bind, Out.bind, e] at h
    exact h
  | bad => simp only [mComp, MX.bind, Out.bind, e] at h
  | ok xs env1 s1 =>
    simp only [mComp, MX.bind, Out.bind, e] at h
    intro J p H1 R1 wk L hL
    have h : ZD X.K I Wx G ts σ Q (if nonref vs env1 = true then mCompL vs g mt me xs [] (wipeE env1 vs) s1 else .bad) := h
    by_cases hn : nonref vs env1 = true
    · rw [if_pos hn] at h
      obtain ⟨ad, bv, bm, R2⟩ := R1
      let St0 : List D → Hp → Prop := fun rest H => ∃ env s acc, ER X.K I G env s ((.ref L, .f acc) :: (p ++ ts)) (wipe σ vs) H ∧ (∀ v ∈ vs, ∀ y, env[v]? = some y → y = Sl.no) ∧ ZD X.K I Wx G ts σ Q (mCompL vs g mt me rest acc env s)
      refine ⟨fun i m H => m = xs.length - i ∧ i ≤ xs.length ∧ St0 (xs.drop i) H, ⟨_, rfl, Nat.zero_le _, wipeE env1 vs, s1, [], ?_, wipeE_no, h⟩, ?_⟩
      · exact ⟨ad, bv, bm, (R2.wipes hn).newF hL .nil⟩
      · rintro i m H2 ⟨rfl, hi, env2, s2, acc, R3, no, z⟩
        by_cases hlt : i < xs.length
        · have ed : xs.drop i = xs[i] :: xs.drop (i + 1) := List.drop_eq_getElem_cons hlt
          obtain ⟨g1, y1⟩ := wk.go env2 s2 [(.ref L, .f acc)] (wipe σ vs) H2 i xs[i] R3 (List.getElem?_eq_getElem hlt)
          refine .inr ⟨g1, St0 (xs.drop (i + 1)), fun H' q => ⟨xs.length - (i + 1), by omega, rfl, hlt, q⟩, fun x H' hy => ?_⟩
          rw [ed] at z
          unfold mCompL at z
          refine ⟨G, env2, s2, (.ref L, .f acc) :: (p ++ ts), xs[i], y1 x H' hy, ?_⟩
          cases eg : g xs[i] env2 with
          | none => simp only [eg] at z; exact z.elim
          | some env3 =>
            simp only [eg] at z
            intro σ2 R4 w4
            have ew : wipe σ2 vs = wipe σ vs := (w4 vs hv).trans (wipe_wipe σ vs)
            refine ⟨ew, G, env3, s2, _, R4, ?_⟩
            cases et : mt env3 s2 with
            | ex e' env4 s4 => simp only [et, Out.bindN] at z; exact z.elim
            | bad => simp only [et, Out.bindN] at z; exact z.elim
            | ok b env4 s4 =>
              simp only [et, Out.bindN] at z
              intro H3 R5
              cases b with
              | false =>
                refine iteF ?_
                simp only [Bool.false_eq_true, if_false] at z
                by_cases hn4 : nonref vs env4 = true
                · rw [if_pos hn4] at z
                  have R6 := R5.wipes hn4
                  rw [ew] at R6
                  exact ⟨_, s4, acc, R6, wipeE_no, z⟩
                · rw [if_neg hn4] at z; exact z.elim
              | true =>
                refine iteT ?_
                simp only [if_true] at z
                refine ⟨G, env4, s4, _, R5, ?_⟩
                cases ee : me env4 s4 with
                | ex e' env5 s5 => simp only [ee] at z; exact z.elim
                | bad => simp only [ee] at z; exact z.elim
                | ok w env5 s5 =>
                  simp only [ee] at z
                  intro y H4 R6
                  cases ek : w.kp with
                  | none => simp only [ek] at z; exact z.elim
                  | some e0 =>
                    simp only [ek] at z
                    by_cases hn5 : acc.length < 16777216 ∧ nonref vs env5 = true
                    · rw [if_pos hn5] at z
                      obtain ⟨ad, bv, bm, R7⟩ := R6
                      have ry := R7.keep (p := (y, w)) List.mem_cons_self ek
                      obtain ⟨a', xs', f1, f2, f3⟩ := R7.tm (.ref L, .f acc) (by simp)
                      have fD : L = a' := by injection f1
                      subst fD
                      have sub : ∀ a, Bv G bm ad env5 ((.ref L, .f acc) :: (p ++ ts)) a → Bv G bm ad env5 ((y, w) :: (.ref L, .f acc) :: (p ++ ts)) a := fun a z => z.imp (fun q => q) fun z => z.imp (fun q => q) fun z => z.imp (fun q => q) fun ⟨q, hq, f⟩ => ⟨q, List.mem_cons_of_mem _ hq, f⟩
                      have R8 := R7.pop.wrF (xs' := xs' ++ [y]) (ds' := acc ++ [e0]) ((f3.gr (.sub sub)).app (.one (ry.gr (.sub sub))))
                      refine ⟨xs', f2, by rw [f3.len, sizeLine_eq]; exact hn5.1, ?_⟩
                      have R9 := R8.wipes hn5.2
                      rw [ew] at R9
                      exact ⟨_, s5, _, ⟨ad, bv, bm, R9⟩, wipeE_no, z⟩
                    · rw [if_neg hn5] at z; exact z.elim
        · have ei : i = xs.length := by omega
          subst ei
          rw [List.drop_length] at z
          refine .inl ⟨wk.stop env2 s2 [(.ref L, .f acc)] _ H2 _ R3 rfl, z _ H2 ?_⟩
          exact (wipeE_env no R3).less (.cons_cons _ slA)
    · rw [if_neg hn] at h; exact h.elim
theorem d_comp {elt tg iter : Expr} {ifs : List Expr} {scope : Scope} {own : List (Str × Nat)} (hc : X.calm = true) (hN : X.N.Nodup) (hi : PI X tg iter (tI X.K I Wx mi)) (ok : BlkOk X.N X.env.scope scope own) (hv : ∀ i ∈ idx, i ∈ own.map (·.2))
    (hg : ∀ (s : Shared) (H : Hp) (C : Addr) (cl : List (Str × Addr)) (fp : List Addr), PG (X.blk s H scope (compEnvC scope cl C X.env) fp) tg (tG X.K I idx g)) (ht : ∀ (s : Shared) (H : Hp) (C : Addr) (cl : List (Str × Addr)) (fp : List Addr), PTs (X.blk s H scope (compEnvC scope cl C X.env) fp) ifs (LM.tB X.K I W0 mt))
    (he : ∀ (s : Shared) (H : Hp) (C : Addr) (cl : List (Str × Addr)) (fp : List Addr), PE (X.blk s H scope (compEnvC scope cl C X.env) fp) elt (tD X.K I W0 me)) (hs : ∀ x, foldedSetIterable iter X.env x = pure x := by intro _; rfl) :
    PE X (.ListComp elt [⟨tg, iter, ifs, 0⟩] scope pos) (tD X.K I Wx (mComp mi (own.map (·.2)) g mt me)) :=
  PEimp (pe_lc hc hN hi ok hg ht he hs) fun _ _ _ h => comp_fin hv h
end
end LM

namespace LM
open PySem L2

def Out.bindS {S α : Type} (o : Out S α) (f : α → MS S) : SO S :=
  match o with
  | .ok a env s => f a env s
  | .ex e env s => .ex e env s
  | .bad => .bad
section
variable {S : Type}
def mBad : MS S := fun _ _ => .bad
def mNext : MS S := fun env s => .nx env s
def mBrk : MS S := fun env s => .bk env s
def mCnt : MS S := fun env s => .ct env s
def mSeq (m n : MS S) : MS S := fun env s => match m env s with
  | .nx env s => n env s
  | o => o
def mSet (i : Nat) (me : MX S W) : MS S := fun env s => (me env s).bindS fun w env s => match w with
  | .v d => .nx (env.set i (.val d)) s
  | .t d => .nx (env.set i (.top d)) s
  | .f ds => .nx (env.set i (.own ds)) s
  | _ => .bad
def mExp (me : MX S W) : MS S := fun env s => (me env s).bindS fun _ env s => .nx env s
def mRet (me : MX S W) : MS S := fun env s => (me env s).bindS fun w env s => match w with
  | .f ds => .rf ds env s
  | w => match w.kp with
    | some d => .rt d env s
    | none => .bad
def mRetN : MS S := fun env s => .rt .non env s
def mIf (mc : MX S Bool) (m n : MS S) : MS S := fun env s => (mc env s).bindS fun b env s => if b then m env s else n env s
def mForL (g : D → List Sl → Option (List Sl)) (body : MS S) : List D → MS S
  | [] => fun env s => .nx env s
  | d :: ds => fun env s => match g d env with
    | none => .bad
    | some env => match body env s with
      | .nx env s => mForL g body ds env s
      | .ct env s => mForL g body ds env s
      | .bk env s => .nx env s
      | .rt d env s => .rt d env s
      | .rf d env s => .rf d env s
      | .ex e env s => .ex e env s
      | .bad => .bad
def mFor (mi : MX S (List D)) (g : D → List Sl → Option (List Sl)) (body : MS S) : MS S := fun env s => (mi env s).bindS fun xs env s => mForL g body xs env s
end

def ZS {S : Type} (K : PySem.W.Frag) (I : BoxI S) (Wx : WX) (G : Gh) (ts : List (V × W)) (Dn : Ends) (o : SO S) : Prop :=
  match o with
  | .nx env' s' => ∀ σ' H', ER K I G env' s' ts σ' H' → Dn.nx σ' H'
  | .rt d env' s' => ∀ v σ' H', ER K I G env' s' ((v, .v d) :: ts) σ' H' → Dn.rt v H'
  | .rf d env' s' => ∀ v σ' H', ER K I G env' s' ((v, .f d) :: ts) σ' H' → Dn.rt v H'
  | .bk env' s' => ∀ σ' H', ER K I G env' s' ts σ' H' → Dn.bk σ' H'
  | .ct env' s' => ∀ σ' H', ER K I G env' s' ts σ' H' → Dn.ct σ' H'
  | .ex e env' s' => ∀ dx σ' H', ERX K I G e dx env' s' ts σ' H' → Wx (.ref e.C) (some dx) σ' H'
  | .bad => False
section
variable {S : Type} {X : Cx} {I : BoxI S} {Wx : WX} {e : Expr} {st : Stmt} {sts : List Stmt} {pos : Pos} {me : MX S W} {mc : MX S Bool} {mi : MX S (List D)} {m n : MS S} {g : D → List Sl → Option (List Sl)} {idx : List Nat}
theorem tD_bindS {f : W → MS S} {G : Gh} {env : List Sl} {s : S} {ts : List (V × W)} {σ : St} {H : Hp} {Q : VK} {Dn : Ends} (R : ER X.K I G env s ts σ H) (h : ZS X.K I Wx G ts Dn ((me env s).bindS f))
    (hok : ∀ w env' s' v H', ER X.K I G env' s' ((v, w) :: ts) σ H' → ZS X.K I Wx G ts Dn (f w env' s') → Q v H') : tD X.K I Wx me σ H Q := by
  refine ⟨G, env, s, ts, R, ?_⟩
  cases e : me env s with
  | ok w env' s' => rw [e] at h; exact fun v H' R' => hok w env' s' v H' R' h
  | ex x env' s' => rw [e] at h; exact fun dx H' R' => h dx σ H' R'
  | bad => rw [e] at h; exact h
theorem tB_bindS {f : Bool → MS S} {G : Gh} {env : List Sl} {s : S} {ts : List (V × W)} {σ : St} {H : Hp} {Q : Bool → Hp → Prop} {Dn : Ends} (R : ER X.K I G env s ts σ H) (h : ZS X.K I Wx G ts Dn ((mc env s).bindS f))
    (hok : ∀ w env' s' H', ER X.K I G env' s' ts σ H' → ZS X.K I Wx G ts Dn (f w env' s') → Q w H') : LM.tB X.K I Wx mc σ H Q := by
  refine ⟨G, env, s, ts, R, ?_⟩
  cases e : mc env s with
  | ok w env' s' => rw [e] at h; exact fun H' R' => hok w env' s' H' R' h
  | ex x env' s' => rw [e] at h; exact fun dx H' R' => h dx σ H' R'
  | bad => rw [e] at h; exact h
theorem s_bad : PS X st (tS X.K I Wx (mBad (S := S))) := ⟨fun _ _ _ _ _ _ ⟨_, _, _, _, _, _, h⟩ => h.elim⟩
theorem s_pass : PS X (.Pass pos) (tS X.K I Wx (mNext (S := S))) := PSimp ps_pass fun Dn σ H ⟨G, env, s, ts, R, cl, h⟩ => h σ H R
theorem s_break : PS X (.Break pos) (tS X.K I Wx (mBrk (S := S))) := PSimp ps_break fun Dn σ H ⟨G, env, s, ts, R, cl, h⟩ => h σ H R
theorem s_continue : PS X (.Continue pos) (tS X.K I Wx (mCnt (S := S))) := PSimp ps_continue fun Dn σ H ⟨G, env, s, ts, R, cl, h⟩ => h σ H R
theorem b_nil : PSs X [] (tS X.K I Wx (mNext (S := S))) := PSsimp pss_nil fun Dn σ H ⟨G, env, s, ts, R, cl, h⟩ => h σ H R
theorem b_one (h : PS X st (tS X.K I Wx m)) : PSs X [st] (tS X.K I Wx m) := pss_one h
theorem b_cons (h1 : PS X st (tS X.K I Wx m)) (h2 : PSs X sts (tS X.K I Wx n)) : PSs X (st :: sts) (tS X.K I Wx (mSeq m n)) := by
  refine PSsimp (pss_cons h1 h2) fun Dn σ H ⟨G, env, s, ts, R, cl, h⟩ => ?_
  refine ⟨G, env, s, ts, R, cl, ?_⟩
  unfold mSeq at h
  cases e : m env s with
  | nx env1 s1 =>
    simp only [e] at h
    exact fun σ' H' R' => ⟨G, env1, s1, ts, R', cl, h⟩
  | rt d env1 s1 => simp only [e] at h; exact h
  | rf d env1 s1 => simp only [e] at h; exact h
  | bk env1 s1 => simp only [e] at h; exact h
  | ct env1 s1 => simp only [e] at h; exact h
  | ex x env1 s1 => simp only [e] at h; exact h
  | bad => simp only [e] at h
theorem s_set {i : Nat} {x : Str} {pos' : Pos} (hN : X.N.Nodup) (hi : X.N[i]? = some x) (hx : Loc X.env.scope x) (he : PE X e (tD X.K I Wx me)) (hs : swapsWith e (some (.Name x pos')) pos.line X.env = pure false := by rfl)
    (hf : X.fn x = true ∨ X.env.scope.names.lookup x = some .local := by first | exact .inl rfl | exact .inr rfl | assumption) : PS X (.Assign [.Name x pos'] e pos) (tS X.K I Wx (mSet i me)) := by
  refine PSimp (ps_set hN hi hx he hs hf) fun Dn σ H ⟨G, env, s, ts, R, cl, h⟩ => ?_
  refine tD_bindS (Dn := Dn) R h fun w env' s' v H' ⟨ad, bv, bm, R'⟩ z => ?_
  cases w with
  | v d => exact z _ _ ⟨ad, bv, bm, R'.putV cl⟩
  | t d => exact z _ _ ⟨ad, bv, bm, R'.putT cl⟩
  | f ds =>
    obtain ⟨ad', R2⟩ := R'.putF (i := i) cl
    exact z _ _ ⟨ad', bv, bm, R2⟩
  | _ => exact z.elim
theorem s_expr (he : PE X e (tD X.K I Wx me)) (hs : swapsWith e none pos.line X.env = pure false := by rfl) : PS X (.Expr e pos) (tS X.K I Wx (mExp me)) := by
  refine PSimp (ps_expr he hs) fun Dn σ H ⟨G, env, s, ts, R, cl, h⟩ => ?_
  exact tD_bindS (Dn := Dn) R h fun w env' s' v H' R' z => z σ H' R'.pop
theorem s_ret (he : PE X e (tD X.K I Wx me)) : PS X (.Return (some e) pos) (tS X.K I Wx (mRet me)) := by
  refine PSimp (ps_ret he) fun Dn σ H ⟨G, env, s, ts, R, cl, h⟩ => ?_
  refine tD_bindS (Dn := Dn) R h fun w env' s' v H' ⟨ad, bv, bm, R'⟩ z => ?_
  have go : ∀ d, w.kp = some d → ZS X.K I Wx G ts Dn (.rt d env' s') → Dn.rt v H' := fun d q z => z v σ H' ⟨ad, bv, bm, (R'.pushV (R'.keep (p := (v, w)) List.mem_cons_self q)).less (.cons_cons _ sl1)⟩
  cases w with
  | f ds => exact z v σ H' ⟨ad, bv, bm, R'⟩
  | v d => exact go d rfl z
  | t d =>
    cases q : (W.t d).kp with
    | none => simp only [q] at z; exact z.elim
    | some d' => simp only [q] at z; exact go d' q z
  | l i => exact z.elim
  | b => exact z.elim
theorem s_retN : PS X (.Return none pos) (tS X.K I Wx (mRetN (S := S))) :=
  PSimp ps_retN fun Dn σ H ⟨G, env, s, ts, ⟨ad, bv, bm, R⟩, cl, h⟩ => h .non σ H ⟨ad, bv, bm, R.pushV .non⟩
theorem s_if {c : Expr} {a b : List Stmt} (hc : PT X c (LM.tB X.K I Wx mc)) (ha : PSs X a (tS X.K I Wx m)) (hb : PSs X b (tS X.K I Wx n)) : PS X (.If c a b pos) (tS X.K I Wx (mIf mc m n)) := by
  refine PSimp (ps_if hc ha hb) fun Dn σ H ⟨G, env, s, ts, R, cl, h⟩ => ?_
  refine tB_bindS (Dn := Dn) R h fun b env' s' H' R' z => ?_
  cases b with
  | true => exact iteT ⟨G, env', s', ts, R', cl, z⟩
  | false => exact iteF ⟨G, env', s', ts, R', cl, z⟩
theorem s_for {tg iter : Expr} {body : List Stmt} (hp : PassesOwn (model X.prog X.w) X.A X.env X.xe) (hc : X.calm = true) (hi : PI X tg iter (tI X.K I Wx mi)) (hg : PG X tg (tG X.K I idx g)) (hb : PSs X body (tS X.K I Wx m))
    (hs : ∀ x, foldedSetIterable iter X.env x = pure x := by intro _; rfl) : PS X (.For tg iter body [] pos) (tS X.K I Wx (mFor mi g m)) := by
  refine PSimp (ps_for hp hc hi hg hb hs) fun Dn σ H ⟨G, env, s, ts, R, cl, h⟩ => ?_
  refine ⟨G, env, s, ts, R, ?_⟩
  unfold mFor at h
  cases e : mi env s with
  | ex x env1 s1 => rw [e] at h; exact fun dx H' R' => h dx σ H' R'
  | bad => rw [e] at h; exact h
  | ok xs env1 s1 =>
    rw [e] at h
    intro J p H1 R1 wk
    have h : ZS X.K I Wx G ts Dn (mForL g m xs env1 s1) := h
    have clp : Cl (p ++ ts) := fun q hq => (List.mem_append.mp hq).elim (wk.nd q) (cl q)
    let St0 : List D → St → Hp → Prop := fun rest σ H => ∃ env s, ER X.K I G env s (p ++ ts) σ H ∧ ZS X.K I Wx G ts Dn (mForL g m rest env s)
    refine ⟨fun i k σ H => k = xs.length - i ∧ i ≤ xs.length ∧ St0 (xs.drop i) σ H, ⟨_, rfl, Nat.zero_le _, env1, s1, R1, h⟩, ?_⟩
    rintro i k σ2 H2 ⟨rfl, hi, env2, s2, R3, z⟩
    by_cases hlt : i < xs.length
    · have ed : xs.drop i = xs[i] :: xs.drop (i + 1) := List.drop_eq_getElem_cons hlt
      obtain ⟨g1, y1⟩ := wk.go env2 s2 [] σ2 H2 i xs[i] R3 (List.getElem?_eq_getElem hlt)
      refine .inr ⟨g1, St0 (xs.drop (i + 1)), fun σ' H' q => ⟨xs.length - (i + 1), by omega, rfl, hlt, q⟩, fun x H' hy => ?_⟩
      rw [ed] at z
      unfold mForL at z
      refine ⟨G, env2, s2, p ++ ts, xs[i], y1 x H' hy, ?_⟩
      cases eg : g xs[i] env2 with
      | none => simp only [eg] at z; exact z.elim
      | some env3 =>
        simp only [eg] at z
        intro σ3 R4 _
        refine ⟨G, env3, s2, p ++ ts, R4, clp, ?_⟩
        cases eb : m env3 s2 with
        | nx env4 s4 => simp only [eb] at z; exact fun σ' H' R5 => ⟨env4, s4, R5, z⟩
        | ct env4 s4 => simp only [eb] at z; exact fun σ' H' R5 => ⟨env4, s4, R5, z⟩
        | bk env4 s4 => simp only [eb] at z; exact fun σ' H' R5 => z σ' H' R5.pops
        | rt d env4 s4 => simp only [eb] at z; exact fun v σ' H' R5 => z v σ' H' (R5.less (.cons_cons _ slA))
        | rf d env4 s4 => simp only [eb] at z; exact fun v σ' H' R5 => z v σ' H' (R5.less (.cons_cons _ slA))
        | ex x env4 s4 => simp only [eb] at z; exact fun dx σ' H' R5 => z dx σ' H' (R5.less slA)
        | bad => simp only [eb] at z; exact z.elim
    · have ei : i = xs.length := by omega
      subst ei
      rw [List.drop_length] at z
      exact .inl ⟨wk.stop env2 s2 [] _ H2 _ R3 rfl, z σ2 H2 R3.pops⟩
end

/-! ### a def's body -/
def envA : List Md → List D → List Sl
  | .v :: m, d :: ds => .val d :: envA m ds
  | .t :: m, d :: ds => .top d :: envA m ds
  | .b :: m, ds => .box :: envA m ds
  | _, _ => []
def env0 (md : List Md) (n : Nat) (ds : List D) : List Sl := envA md ds ++ List.replicate n .no
def SO.fo {S : Type} : SO S → FO S D
  | .rt d _ s => .ok d s
  | .rf ds _ s => .ok (.lst ds) s
  | .nx _ s => .ok .non s
  | .ex e _ s => .ex e s
  | _ => .bad
/-- .. where nothing is raised -/
def SO.fo0 {S : Type} : SO S → FO S D
  | .rt d _ s => .ok d s
  | .rf ds _ s => .ok (.lst ds) s
  | .nx _ s => .ok .non s
  | _ => .bad
theorem envA_len {K : PySem.W.Frag} {bm B : Addr → Prop} {H : Hp} {bv : V} : ∀ {md : List Md} {vs : List V} {ds : List D}, ArgsR K bm B H bv md vs ds → (envA md ds).length = vs.length
  | _, _, _, .nil => rfl
  | _, _, _, .v _ h => by show _ + 1 = _ + 1; rw [envA_len h]
  | _, _, _, .t _ h => by show _ + 1 = _ + 1; rw [envA_len h]
  | _, _, _, .b h => by show _ + 1 = _ + 1; rw [envA_len h]
theorem envA_sl {K : PySem.W.Frag} {bm B T : Addr → Prop} {H : Hp} {bv : V} (hT : ∀ a, T a → bm a) {ad : Nat → Addr} : ∀ {md : List Md} {vs : List V} {ds : List D} {i : Nat} {x : Sl}, ArgsR K bm B H bv md vs ds → (envA md ds)[i]? = some x →
    x.isOwn = false ∧ SlR K T B bv H (ad i) ((vs.map some)[i]?) x
  | _, _, _, _, _, .nil, e => by simp [envA] at e
  | _, _, _, 0, x, .v r h, e => by
    have e : some (Sl.val _) = some x := e
    cases e
    exact ⟨rfl, _, rfl, r⟩
  | _, _, _, 0, x, .t r h, e => by
    have e : some (Sl.top _) = some x := e
    cases e
    exact ⟨rfl, _, rfl, r.gr (.sub hT) (.sub fun _ z => z)⟩
  | _, _, _, 0, x, .b h, e => by
    have e : some Sl.box = some x := e
    cases e
    exact ⟨rfl, rfl⟩
  | _, _, _, i + 1, x, .v r h, e => by
    obtain ⟨h1, h2⟩ := envA_sl hT (ad := fun j => ad (j + 1)) (i := i) h e
    exact ⟨h1, h2⟩
  | _, _, _, i + 1, x, .t r h, e => by
    obtain ⟨h1, h2⟩ := envA_sl hT (ad := fun j => ad (j + 1)) (i := i) h e
    exact ⟨h1, h2⟩
  | _, _, _, i + 1, x, .b h, e => by
    obtain ⟨h1, h2⟩ := envA_sl hT (ad := fun j => ad (j + 1)) (i := i) h e
    exact ⟨h1, h2⟩
/-- the entry of a def -/
theorem er_start {S : Type} {K : PySem.W.Frag} {I : BoxI S} {B bm : Addr → Prop} {bv : V} {s : S} {H : Hp} {md : List Md} {vs : List V} {ds : List D} {N : List Str} (hl : vs.length ≤ N.length) (hmB : ∀ a, bm a → B a) (hB : ∀ a, B a → H a ≠ none) (rb : I.rel s bv bm H) (ar : ArgsR K bm B H bv md vs ds) :
    ER K I ⟨B, bm, H, bv⟩ (env0 md (N.length - vs.length) ds) s [] (start N vs) H := by
  have noOw : ∀ (i : Nat) (x : Sl), (env0 md (N.length - vs.length) ds)[i]? = some x → x.isOwn = false ∧ ∀ (T B' : Addr → Prop), (∀ a, T a → bm a) → SlR K T B bv H 0 ((start N vs)[i]?) x := by
    intro i x e
    unfold env0 at e
    unfold L2.start
    by_cases hi : i < (envA md ds).length
    · rw [List.getElem?_append_left hi] at e
      rw [List.getElem?_append_left (by rw [List.length_map, ← envA_len ar]; exact hi)]
      exact ⟨(envA_sl (T := bm) (fun _ z => z) (ad := fun _ => 0) ar e).1, fun T B' hT => (envA_sl hT (ad := fun _ => 0) ar e).2⟩
    · rw [List.getElem?_append_right (by omega)] at e
      rw [List.getElem?_replicate] at e
      split at e
      · cases e
        exact ⟨rfl, fun _ _ _ => True.intro⟩
      · cases e
  have nO : ∀ a, ¬ Ow (fun _ => 0) (env0 md (N.length - vs.length) ds) [] a := fun a z => by
    rcases z with ⟨i, x, e, o, _⟩ | ⟨p, hp, _⟩
    · rw [(noOw i x e).1] at o; cases o
    · cases hp
  refine ⟨fun _ => 0, bv, bm, ?_, fun a o e _ => e, fun a e => e, rb, ⟨fun a z => .inl z, fun _ => ⟨rfl, rfl⟩⟩, hB, fun i x e o => ?_, fun p hp => (nomatch hp), fun i j x y e _ o => ?_, fun i x p e o hp => (nomatch hp), .nil, fun i x e => ?_, fun p hp => (nomatch hp)⟩
  · unfold L2.start env0
    rw [List.length_append, List.length_append, List.length_map, List.length_replicate, List.length_replicate, envA_len ar]
  · rw [(noOw i x e).1] at o; cases o
  · rw [(noOw i x e).1] at o; cases o
  · have q := (noOw i x e).2 (Tv bm (fun _ => 0) (env0 md (N.length - vs.length) ds) []) B fun a z => z.elim (fun z => z) fun z => (nO a z).elim
    exact q.gr (.sub fun _ z => z) (.sub fun a z => z.elim (fun z => z) fun z => z.elim (hmB a) fun z => (nO a z).elim) fun _ _ z => z
theorem er_end {S : Type} {K : PySem.W.Frag} {I : BoxI S} (hI : I.fix = true) {B bm : Addr → Prop} {bv v : V} {s : S} {H H' : Hp} {env : List Sl} {σ : St} {d : D} (R : ER K I ⟨B, bm, H, bv⟩ env s [(v, .v d)] σ H') : Ext bm H H' ∧ I.rel s bv bm H' ∧ Rep K B H' v d := by
  obtain ⟨ad, bv', bm', R⟩ := R
  obtain ⟨rfl, rfl⟩ : bv' = bv ∧ bm' = bm := R.bfr.2 hI
  have r : Rep K _ H' v d := R.tm _ List.mem_cons_self
  exact ⟨⟨R.ext, R.dom⟩, R.box, r.gr (.sub fun a z => .inl z)⟩
section
variable {S : Type} {P : Program} {w : World} {K : PySem.W.Frag} {mg : Str → Option Value} {base : Heap} {I : BoxI S}
/-- THE RULE for a def that lets nothing out -/
theorem fn_ok0 {x qual : Str} {st : Stmt} {f : Addr} {fd : FuncData} {N ps : List Str} {k : Nat} {md : List Md} {m : MS S} (F : Fun K x qual st f fd) (Sc : FnScope N ps (defScope st)) (hl : md.length = ps.length) (hI : I.fix = true)
    (hbody : ∀ (cdv : Value) (A : Around) (outer : List Env) (s : Shared) (H : Hp) (E : XK), Room k (A.deeper (PyProof.Rows.envOfC qual (defScope st) s.heap.objs.size f cdv)) →
      PSs (cxOf CX0 P w K mg base N qual (defScope st) f cdv A outer s H E).nox (defBody st) (tS K I W0 m)) : FnOk P w K mg base CX0 (k + 1) f fd ps (spD I K md fun ds s => (m (env0 md (N.length - ps.length) ds) s).fo0) := by
  have hN : ps.length ≤ N.length := by have := congrArg List.length Sc.pre; rw [List.length_take] at this; omega
  refine F.ok Sc (fun vs H Q E ⟨_, _, _, _, _, _, _, _, ar, _⟩ => by rw [ar.len, hl]) fun cdv A outer s H vs Q E hr ⟨B, bm, bv, ds, s0, hmB, hB, rb, ar, z⟩ => ?_
  have hv : vs.length = ps.length := by rw [ar.len, hl]
  refine ⟨_, hbody cdv A outer s H E hr, ⟨B, bm, H, bv⟩, env0 md (N.length - ps.length) ds, s0, [], ?_, Cl.nil, ?_⟩
  · rw [← hv]; exact er_start (by omega) hmB hB rb ar
  · cases e : m (env0 md (N.length - ps.length) ds) s0 with
    | rt d env1 s1 =>
      simp only [e, SO.fo0] at z
      exact fun v σ' H' R => let ⟨h1, h2, h3⟩ := er_end hI R; z v H' h1 h2 h3
    | rf d env1 s1 =>
      simp only [e, SO.fo0] at z
      intro v σ' H' ⟨ad, bv', bm', R⟩
      obtain ⟨h1, h2, h3⟩ := er_end hI ⟨ad, bv', bm', R.fzF⟩
      exact z v H' h1 h2 h3
    | nx env1 s1 =>
      simp only [e, SO.fo0] at z
      intro σ' H' ⟨ad, bv', bm', R⟩
      obtain ⟨h1, h2, h3⟩ := er_end hI ⟨ad, bv', bm', R.pushV .non⟩
      exact z .non H' h1 h2 h3
    | bk env1 s1 => simp only [e, SO.fo0] at z
    | ct env1 s1 => simp only [e, SO.fo0] at z
    | ex x env1 s1 => simp only [e, SO.fo0] at z
    | bad => simp only [e, SO.fo0] at z
end
end LM

namespace LM
open PySem L2

mutual
def D.py : D → PyData
  | .non => .none
  | .bl b => .bool b
  | .int i => .int i
  | .str x => .str x
  | .tup ds => .tuple (pys ds)
  | .lst ds => .list (pys ds)
  | .ins _ _ _ => .none
def pys : List D → List PyData
  | [] => []
  | d :: ds => d.py :: pys ds
end
/-! data without instances, so deep at most -/
mutual
def D.ok (n : Nat) : D → Bool
  | .ins _ _ _ => false
  | .tup ds => decide (0 < n) && oks (n - 1) ds
  | .lst ds => decide (0 < n) && oks (n - 1) ds
  | _ => true
def oks (n : Nat) : List D → Bool
  | [] => true
  | d :: ds => d.ok n && oks n ds
end
mutual
theorem ok_plain : ∀ (d : D) (n : Nat), d.ok n = true → d.py.plain = true ∧ d.py.depth ≤ n
  | .non, _, _ => ⟨rfl, by simp [D.py, PyData.depth]⟩
  | .bl _, _, _ => ⟨rfl, by simp [D.py, PyData.depth]⟩
  | .int _, _, _ => ⟨rfl, by simp [D.py, PyData.depth]⟩
  | .str _, _, _ => ⟨rfl, by simp [D.py, PyData.depth]⟩
  | .tup ds, n, h => by
    simp only [D.ok, Bool.and_eq_true, decide_eq_true_eq] at h
    obtain ⟨h1, h2⟩ := oks_plain ds (n - 1) h.2
    exact ⟨by simp only [D.py, PyData.plain]; exact h1, by simp only [D.py, PyData.depth]; omega⟩
  | .lst ds, n, h => by
    simp only [D.ok, Bool.and_eq_true, decide_eq_true_eq] at h
    obtain ⟨h1, h2⟩ := oks_plain ds (n - 1) h.2
    exact ⟨by simp only [D.py, PyData.plain]; exact h1, by simp only [D.py, PyData.depth]; omega⟩
  | .ins _ _ _, _, h => by simp [D.ok] at h
theorem oks_plain : ∀ (ds : List D) (n : Nat), oks n ds = true → PyData.plainAll (pys ds) = true ∧ PyData.depthAll (pys ds) ≤ n
  | [], _, _ => ⟨rfl, by simp [pys, PyData.depthAll]⟩
  | d :: ds, n, h => by
    simp only [oks, Bool.and_eq_true] at h
    obtain ⟨h1, h2⟩ := ok_plain d n h.1
    obtain ⟨h3, h4⟩ := oks_plain ds n h.2
    exact ⟨by simp only [pys, PyData.plainAll, h1, h3, Bool.and_self], by simp only [pys, PyData.depthAll]; omega⟩
end
section
variable {K : PySem.W.Frag} {B : Addr → Prop} {H : Hp}
mutual
theorem dp_of : ∀ (d : D) (n : Nat) (v : V), d.ok n = true → Rep K B H v d → Dp K H v d.py
  | .non, _, _, _, h => by cases h; exact .non
  | .bl _, _, _, _, h => by cases h; exact .bl _
  | .int _, _, _, _, h => by cases h; exact .int _
  | .str _, _, _, _, h => by cases h; exact .str _
  | .tup ds, n, _, k, h => by
    simp only [D.ok, Bool.and_eq_true] at k
    cases h with
    | tup _ r q => exact .tup (.inl r) (dps_of ds _ _ k.2 q)
    | wtup r q => exact .tup (.inr r) (dps_of ds _ _ k.2 q)
  | .lst ds, n, _, k, h => by
    simp only [D.ok, Bool.and_eq_true] at k
    cases h with
    | lst _ r q => exact .lst (.inl r) (dps_of ds _ _ k.2 q)
    | wlst r q => exact .lst r.sq (dps_of ds _ _ k.2 q)
  | .ins _ _ _, _, _, k, _ => by simp [D.ok] at k
theorem dps_of : ∀ (ds : List D) (n : Nat) (vs : List V), oks n ds = true → Reps K B H vs ds → DpAll K H vs (pys ds)
  | [], _, _, _, h => by cases h; exact .nil
  | d :: ds, n, _, k, h => by
    simp only [oks, Bool.and_eq_true] at k
    cases h with
    | cons h1 h2 => exact .cons (dp_of d n _ k.1 h1) (dps_of ds n _ k.2 h2)
end
theorem Top.dp {T : Addr → Prop} {v : V} {d : D} {n : Nat} (h : Top K T B H v d) (k : d.ok n = true) : Dp K H v d.py := by
  rcases h with h | ⟨a, xs, ds, rfl, rfl, _, r, q⟩
  · exact dp_of d n v k h
  · simp only [D.ok, Bool.and_eq_true] at k
    exact .lst (.inl r) (dps_of ds _ _ k.2 q)
end

/-! ### == and in, of data -/
def rEqP (neg : Bool) (K : PySem.W.Frag) : R2 := fun x y H Q => ∃ d e, Dp K H x d ∧ Dp K H y e ∧ d.plain = true ∧ e.plain = true ∧ min d.depth e.depth ≤ 60 ∧ Q (.bl (if neg then !PyData.eqv d e else PyData.eqv d e)) H
def rInP (neg : Bool) (K : PySem.W.Frag) : R2 := fun x y H Q => ∃ p xs es d, y = .ref p ∧ (SqL K H p xs ∨ SqT K H p xs) ∧ DpAll K H xs es ∧ Dp K H x d ∧ PyData.plainAll es = true ∧ d.plain = true ∧ d.depth ≤ 60 ∧ Q (.bl (if neg then !es.any (fun y => PyData.eqv y d) else es.any fun y => PyData.eqv y d)) H
section
variable {X : Cx}
theorem op_eqP (hu : X.A.units + 64 < cLine) : OpR X (compareOp .Eq) (rEqP false X.K) := by
  intro pins s σ H x y v u Q I rx ry ⟨d, e, hd, he, sd, se, hm, q⟩
  obtain ⟨as, r1⟩ := Dp.reads I d x v hd rx
  obtain ⟨bs, r2⟩ := Dp.reads I e y u he ry
  exact SeqAt.eq_plain r1 r2 sd se (by omega) ⟨.bl _, H, I, rfl, q⟩
theorem op_neP (hu : X.A.units + 64 < cLine) : OpR X (compareOp .NotEq) (rEqP true X.K) := by
  intro pins s σ H x y v u Q I rx ry ⟨d, e, hd, he, sd, se, hm, q⟩
  obtain ⟨as, r1⟩ := Dp.reads I d x v hd rx
  obtain ⟨bs, r2⟩ := Dp.reads I e y u he ry
  exact SeqAt.ne_plain r1 r2 sd se (by omega) ⟨.bl _, H, I, rfl, q⟩
theorem op_inP (hu : X.A.units + 64 < cLine) : OpR X (compareOp .In) (rInP false X.K) := by
  intro pins s σ H x y v u Q I rx ry ⟨p, xs, es, d, e, hp, ha, hd, sa, sd, hm, q⟩
  subst e
  obtain ⟨bs, r2⟩ := Dp.reads I d x v hd rx
  rcases hp with hp | hp
  · obtain ⟨as, r1⟩ := Dp.reads I (.list es) (.ref p) u (.lst hp ha) ry
    exact SeqAt.in_list_data r1 r2 sa sd (by omega) ⟨.bl _, H, I, rfl, q⟩
  · obtain ⟨as, r1⟩ := Dp.reads I (.tuple es) (.ref p) u (.tup hp ha) ry
    exact SeqAt.in_tuple_data r1 r2 sa sd (by omega) ⟨.bl _, H, I, rfl, q⟩
theorem op_ninP (hu : X.A.units + 64 < cLine) : OpR X (compareOp .NotIn) (rInP true X.K) := by
  intro pins s σ H x y v u Q I rx ry ⟨p, xs, es, d, e, hp, ha, hd, sa, sd, hm, q⟩
  subst e
  obtain ⟨bs, r2⟩ := Dp.reads I d x v hd rx
  rcases hp with hp | hp
  · obtain ⟨as, r1⟩ := Dp.reads I (.list es) (.ref p) u (.lst hp ha) ry
    exact SeqAt.notIn_list_data r1 r2 sa sd (by omega) ⟨.bl _, H, I, rfl, q⟩
  · obtain ⟨as, r1⟩ := Dp.reads I (.tuple es) (.ref p) u (.tup hp ha) ry
    exact SeqAt.notIn_tuple_data r1 r2 sa sd (by omega) ⟨.bl _, H, I, rfl, q⟩
end
def rb (b : Bool) : Option Rs := some (.v (.bl b))
def ri (i : Int) : Option Rs := some (.v (.int i))
def fEq (d e : D) : Option Rs := if d.ok 60 && e.ok 60 then rb (PyData.eqv d.py e.py) else none
def fNe (d e : D) : Option Rs := if d.ok 60 && e.ok 60 then rb (!PyData.eqv d.py e.py) else none
def D.items : D → Option (List D)
  | .tup ds => some ds
  | .lst ds => some ds
  | _ => none
def inD (d : D) (ds : List D) : Bool := (pys ds).any fun y => PyData.eqv y d.py
def fIn (d e : D) : Option Rs := match e.items with
  | some ds => if d.ok 60 && oks 60 ds then rb (inD d ds) else none
  | none => none
def fNin (d e : D) : Option Rs := match e.items with
  | some ds => if d.ok 60 && oks 60 ds then rb (!inD d ds) else none
  | none => none
theorem fin_bl {K : PySem.W.Frag} {B : Addr → Prop} {H : Hp} {Q : VK} {b : Bool} {res : Rs} (e : rb b = some res) (q : FinQ K B H Q res) : Q (.bl b) H := by
  cases e; exact q _ _ (fun _ _ h => h) (.bl _)
theorem fin_int {K : PySem.W.Frag} {B : Addr → Prop} {H : Hp} {Q : VK} {b : Int} {res : Rs} (e : ri b = some res) (q : FinQ K B H Q res) : Q (.int b) H := by
  cases e; exact q _ _ (fun _ _ h => h) (.int _)
theorem fin_v {K : PySem.W.Frag} {B : Addr → Prop} {H : Hp} {Q : VK} {v : V} {d : D} {res : Rs} (e : some (Rs.v d) = some res) (q : FinQ K B H Q res) (r : Rep K B H v d) : Q v H := by
  cases e; exact q _ _ (fun _ _ h => h) r
section
variable {K : PySem.W.Frag}
theorem do_eq : DOp K (rEqP false K) fEq := by
  intro B H x y d e res Q hx hy _ h q
  unfold fEq at h
  split at h
  · rename_i hk
    rw [Bool.and_eq_true] at hk
    obtain ⟨h1, h2⟩ := ok_plain d 60 hk.1
    obtain ⟨h3, h4⟩ := ok_plain e 60 hk.2
    exact ⟨_, _, hx.dp hk.1, hy.dp hk.2, h1, h3, by omega, fin_bl h q⟩
  · cases h
theorem do_ne : DOp K (rEqP true K) fNe := by
  intro B H x y d e res Q hx hy _ h q
  unfold fNe at h
  split at h
  · rename_i hk
    rw [Bool.and_eq_true] at hk
    obtain ⟨h1, h2⟩ := ok_plain d 60 hk.1
    obtain ⟨h3, h4⟩ := ok_plain e 60 hk.2
    exact ⟨_, _, hx.dp hk.1, hy.dp hk.2, h1, h3, by omega, fin_bl h q⟩
  · cases h
theorem items_of {B : Addr → Prop} {H : Hp} {y : V} {e : D} {ds : List D} (hy : Tp K B H y e) (h : e.items = some ds) : ∃ p xs, y = .ref p ∧ (SqL K H p xs ∨ SqT K H p xs) ∧ Reps K B H xs ds := by
  cases e with
  | tup es =>
    cases h
    obtain ⟨a, xs, e, r, q⟩ := hy.tup
    exact ⟨a, xs, e, .inr r, q⟩
  | lst es =>
    cases h
    obtain ⟨a, xs, e, r, q⟩ := hy.lst
    exact ⟨a, xs, e, .inl r, q⟩
  | _ => cases h
theorem do_in : DOp K (rInP false K) fIn := by
  intro B H x y d e res Q hx hy _ h q
  unfold fIn at h
  cases e1 : e.items with
  | none => rw [e1] at h; cases h
  | some ds =>
    rw [e1] at h
    simp only at h
    split at h
    · rename_i hk
      rw [Bool.and_eq_true] at hk
      obtain ⟨p, xs, e2, hs, r⟩ := items_of hy e1
      obtain ⟨h1, h2⟩ := ok_plain d 60 hk.1
      obtain ⟨h3, h4⟩ := oks_plain ds 60 hk.2
      exact ⟨p, xs, _, _, e2, hs, dps_of ds 60 xs hk.2 r, hx.dp hk.1, h3, h1, h2, fin_bl h q⟩
    · cases h
theorem do_nin : DOp K (rInP true K) fNin := by
  intro B H x y d e res Q hx hy _ h q
  unfold fNin at h
  cases e1 : e.items with
  | none => rw [e1] at h; cases h
  | some ds =>
    rw [e1] at h
    simp only at h
    split at h
    · rename_i hk
      rw [Bool.and_eq_true] at hk
      obtain ⟨p, xs, e2, hs, r⟩ := items_of hy e1
      obtain ⟨h1, h2⟩ := ok_plain d 60 hk.1
      obtain ⟨h3, h4⟩ := oks_plain ds 60 hk.2
      exact ⟨p, xs, _, _, e2, hs, dps_of ds 60 xs hk.2 r, hx.dp hk.1, h3, h1, h2, fin_bl h q⟩
    · cases h
end
end LM

namespace LM
open PySem L2

/-! ### whole numbers -/
def fI (g : Int → Int → Int) : D → D → Option Rs
  | .int i, .int j => ri (g i j)
  | _, _ => none
def fC (g : Int → Int → Bool) : D → D → Option Rs
  | .int i, .int j => rb (g i j)
  | _, _ => none
def fAdd : D → D → Option Rs := fI fun i j => i + j
def fSub : D → D → Option Rs := fI fun i j => i - j
def fMul : D → D → Option Rs
  | .int i, .int j => if (-(18446744073709551616) < i ∧ i < 18446744073709551616) ∨ (-(18446744073709551616) < j ∧ j < 18446744073709551616) then ri (i * j) else none
  | _, _ => none
def fMod : D → D → Option Rs
  | .int i, .int j => if 0 < j then ri (i % j) else none
  | _, _ => none
def fDiv : D → D → Option Rs
  | .int i, .int j => if 0 < j ∧ j < 1073741824 then ri (i / j) else none
  | _, _ => none
def fPow : D → D → Option Rs
  | .int i, .int j => if 0 ≤ j ∧ j ≤ 1000000 ∧ i.natAbs < 18446744073709551616 then ri (i ^ j.toNat) else none
  | _, _ => none
section
variable {K : PySem.W.Frag} {X : Cx}
theorem do_I {g : Int → Int → Int} : DOp K (rI0 fun i j => .int (g i j)) (fI g) := by
  intro B H x y d e res Q hx hy _ h q
  cases d <;> cases e <;> try (cases h; done)
  exact ⟨_, _, hx.int, hy.int, fin_int h q⟩
theorem do_C {g : Int → Int → Bool} : DOp K (rI0 fun i j => .bl (g i j)) (fC g) := by
  intro B H x y d e res Q hx hy _ h q
  cases d <;> cases e <;> try (cases h; done)
  exact ⟨_, _, hx.int, hy.int, fin_bl h q⟩
theorem do_mul : DOp K (rI CMul fun i j => .int (i * j)) fMul := by
  intro B H x y d e res Q hx hy _ h q
  cases d <;> cases e <;> try (cases h; done)
  simp only [fMul] at h
  split at h
  · rename_i hc; exact ⟨_, _, hx.int, hy.int, hc, fin_int h q⟩
  · cases h
theorem do_mod : DOp K (rI (fun _ j => 0 < j) fun i j => .int (i % j)) fMod := by
  intro B H x y d e res Q hx hy _ h q
  cases d <;> cases e <;> try (cases h; done)
  simp only [fMod] at h
  split at h
  · rename_i hc; exact ⟨_, _, hx.int, hy.int, hc, fin_int h q⟩
  · cases h
theorem do_div : DOp K (rI CDiv fun i j => .int (i / j)) fDiv := by
  intro B H x y d e res Q hx hy _ h q
  cases d <;> cases e <;> try (cases h; done)
  simp only [fDiv] at h
  split at h
  · rename_i hc; exact ⟨_, _, hx.int, hy.int, hc, fin_int h q⟩
  · cases h
theorem do_pow : DOp K (rI CPow fun i j => .int (i ^ j.toNat)) fPow := by
  intro B H x y d e res Q hx hy _ h q
  cases d <;> cases e <;> try (cases h; done)
  simp only [fPow] at h
  split at h
  · rename_i hc; exact ⟨_, _, hx.int, hy.int, hc, fin_int h q⟩
  · cases h
/-! ### texts, lists, tuples -/
def fAddS : D → D → Option Rs
  | .str x, .str y => if x.length + y.length ≤ 16777216 then some (.v (.str (x ++ y))) else none
  | _, _ => none
theorem do_addS : DOp K (fun x y H Q => ∃ i j, x = .str i ∧ y = .str j ∧ i.length + j.length ≤ sizeLine ∧ Q (.str (i ++ j)) H) fAddS := by
  intro B H x y d e res Q hx hy _ h q
  cases d <;> cases e <;> try (cases h; done)
  simp only [fAddS] at h
  split at h
  · rename_i hc; exact ⟨_, _, hx.str, hy.str, by rw [sizeLine_eq]; exact hc, fin_v h q (.str _)⟩
  · cases h
def fCat : D → D → Option Rs
  | .lst xs, .lst ys => if xs.length + ys.length ≤ 16777216 then some (.f (xs ++ ys)) else none
  | _, _ => none
def fIx : D → D → Option Rs
  | .lst xs, .int i => (atI xs i).map .v
  | .tup xs, .int i => (atI xs i).map .v
  | .str z, .int i => if z.length ≤ 16777216 then (atI z.cps.toList i).map fun c => .v (.str ⟨#[c]⟩) else none
  | _, _ => none
theorem atI_reps {B : Addr → Prop} {H : Hp} {xs : List V} {ds : List D} {i : Int} {d : D} (h : Reps K B H xs ds) (e : atI ds i = some d) : ∃ v, atI xs i = some v ∧ Rep K B H v d := by
  unfold atI at e ⊢
  rw [h.len]
  cases q : ixN ds.length i with
  | none => rw [q] at e; cases e
  | some j =>
    rw [q] at e
    obtain ⟨v, h1, h2⟩ := h.get (i := j) e
    exact ⟨v, h1, h2⟩
theorem do_ix : DOp K (rIx K) fIx := by
  intro B H x y d e res Q hx hy _ h q
  cases d <;> cases e <;> try (cases h; done)
  · rename_i z i
    have e0 := hy.int
    subst e0
    have e1 := hx.str
    subst e1
    simp only [fIx] at h
    split at h
    · rename_i hc
      cases e2 : atI z.cps.toList i with
      | none => rw [e2] at h; cases h
      | some c =>
        rw [e2] at h
        exact .inr (.inr ⟨z, i, c, rfl, rfl, by rw [sizeLine_eq]; exact hc, e2, fin_v h q (.str _)⟩)
    · cases h
  · rename_i ds i
    have e0 := hy.int
    subst e0
    obtain ⟨a, xs, e1, r, qq⟩ := hx.tup
    subst e1
    simp only [fIx] at h
    cases e2 : atI ds i with
    | none => rw [e2] at h; cases h
    | some c =>
      rw [e2] at h
      obtain ⟨v, h1, h2⟩ := atI_reps qq e2
      exact .inr (.inl ⟨a, xs, i, v, rfl, rfl, r, h1, fin_v h q h2⟩)
  · rename_i ds i
    have e0 := hy.int
    subst e0
    obtain ⟨a, xs, e1, r, qq⟩ := hx.lst
    subst e1
    simp only [fIx] at h
    cases e2 : atI ds i with
    | none => rw [e2] at h; cases h
    | some c =>
      rw [e2] at h
      obtain ⟨v, h1, h2⟩ := atI_reps qq e2
      exact .inl ⟨a, xs, i, v, rfl, rfl, r, h1, fin_v h q h2⟩
def cutD (ds : List D) (lo hi : Option Int) : List D := (ds.drop (HT.sIx ds.length 0 lo)).take (HT.sIx ds.length ds.length hi - HT.sIx ds.length 0 lo)
def fSlL (d : D) (lo hi : Option Int) : Option Rs := match d with
  | .lst ds => some (.f (cutD ds lo hi))
  | _ => none
theorem ds_list : DSl K (rSlL K) fSlL := by
  intro B H x d lo hi res Q hx _ h q
  cases d with
  | lst ds =>
    obtain ⟨a, xs, e1, r, qq⟩ := hx.lst
    simp only [fSlL] at h
    cases h
    refine ⟨a, xs, e1, r, fun p hp => q p (cutV xs lo hi) hp ?_⟩
    unfold cutV cutD
    rw [qq.len]
    exact (qq.drop _).take _
  | _ => cases h
/-- is None -/
def D.isN : D → Bool
  | .non => true
  | _ => false
def fIsN (d e : D) : Option Rs := if e.isN then rb d.isN else none
def fNotN (d e : D) : Option Rs := if e.isN then rb (!d.isN) else none
theorem isN_iff {B : Addr → Prop} {H : Hp} {x : V} {d : D} (h : Tp K B H x d) : decide (x = .non) = d.isN := by
  rcases h with h | ⟨a, xs, ds, rfl, rfl, _⟩
  · cases h <;> simp [D.isN]
  · simp [D.isN]
theorem isN_eq {e : D} (h : e.isN = true) : e = .non := by cases e <;> first | rfl | cases h
theorem do_isN : DOp K (fun x y H Q => y = .non ∧ Q (.bl (decide (x = .non))) H) fIsN := by
  intro B H x y d e res Q hx hy _ h q
  unfold fIsN at h
  split at h
  · rename_i he
    rw [isN_eq he] at hy
    exact ⟨hy.non, by rw [isN_iff hx]; exact fin_bl h q⟩
  · cases h
theorem do_notN : DOp K (fun x y H Q => y = .non ∧ Q (.bl (!decide (x = .non))) H) fNotN := by
  intro B H x y d e res Q hx hy _ h q
  unfold fNotN at h
  split at h
  · rename_i he
    rw [isN_eq he] at hy
    exact ⟨hy.non, by rw [isN_iff hx]; exact fin_bl h q⟩
  · cases h
/-- a sign in a text -/
def fInS : D → D → Option Rs
  | .str x, .str z => if x.length = 1 then rb (decide (x.cps.getD 0 0 ∈ z.cps.toList)) else none
  | _, _ => none
theorem one_sign {x : Str} (h : x.length = 1) : x = ⟨#[x.cps.getD 0 0]⟩ := by
  obtain ⟨⟨l⟩⟩ := x
  have h : l.length = 1 := h
  match l, h with
  | [c], _ => rfl
theorem do_inS : DOp K (fun x y H Q => ∃ (c : Nat) (z : Str), x = .str ⟨#[c]⟩ ∧ y = .str z ∧ Q (.bl (decide (c ∈ z.cps.toList))) H) fInS := by
  intro B H x y d e res Q hx hy _ h q
  cases d <;> cases e <;> try (cases h; done)
  simp only [fInS] at h
  split at h
  · rename_i hc
    exact ⟨_, _, by rw [hx.str]; congr 1; exact one_sign hc, hy.str, fin_bl h q⟩
  · cases h
def fNinS : D → D → Option Rs
  | .str x, .str z => if x.length = 1 then rb (!decide (x.cps.getD 0 0 ∈ z.cps.toList)) else none
  | _, _ => none
theorem do_ninS : DOp K (fun x y H Q => ∃ (c : Nat) (z : Str), x = .str ⟨#[c]⟩ ∧ y = .str z ∧ Q (.bl (!decide (c ∈ z.cps.toList))) H) fNinS := by
  intro B H x y d e res Q hx hy _ h q
  cases d <;> cases e <;> try (cases h; done)
  simp only [fNinS] at h
  split at h
  · rename_i hc
    exact ⟨_, _, by rw [hx.str]; congr 1; exact one_sign hc, hy.str, fin_bl h q⟩
  · cases h
end
end LM

namespace LM
open PySem L2

theorem tps1 {K : PySem.W.Frag} {B : Addr → Prop} {H : Hp} {vs : List V} {d : D} (h : Tps K B H vs [d]) : ∃ v, vs = [v] ∧ Tp K B H v d := by
  cases h with
  | cons h1 h2 => cases h2; exact ⟨_, rfl, h1⟩
theorem tps2 {K : PySem.W.Frag} {B : Addr → Prop} {H : Hp} {vs : List V} {d e : D} (h : Tps K B H vs [d, e]) : ∃ v u, vs = [v, u] ∧ Tp K B H v d ∧ Tp K B H u e := by
  cases h with
  | cons h1 h2 =>
    obtain ⟨u, rfl, h3⟩ := tps1 h2
    exact ⟨_, _, rfl, h1, h3⟩
section
variable {K : PySem.W.Frag} {X : Cx}
def cLen : List D → Option Rs
  | [.str x] => if x.length ≤ 16777216 then ri x.length else none
  | [.lst ds] => ri ds.length
  | [.tup ds] => ri ds.length
  | _ => none
theorem dc_len : DCall K (fun xs H Q => ∃ x n, xs = [x] ∧ LenV K x H n ∧ Q (.int n) H) cLen := by
  intro B H vs ds res Q h _ e q
  unfold cLen at e
  split at e
  · obtain ⟨v, rfl, hv⟩ := tps1 h
    split at e
    · rename_i x hx
      rw [hv.str]
      exact ⟨_, x.length, rfl, ⟨by rw [sizeLine_eq]; exact hx, rfl⟩, fin_int e q⟩
    · cases e
  · obtain ⟨v, rfl, hv⟩ := tps1 h
    obtain ⟨a, xs, rfl, r, qq⟩ := hv.lst
    exact ⟨_, _, rfl, .inl ⟨xs, r, rfl⟩, by rw [qq.len]; exact fin_int e q⟩
  · obtain ⟨v, rfl, hv⟩ := tps1 h
    obtain ⟨a, xs, rfl, r, qq⟩ := hv.tup
    exact ⟨_, _, rfl, .inr ⟨xs, r, rfl⟩, by rw [qq.len]; exact fin_int e q⟩
  · cases e
def cList : List D → Option Rs
  | [.lst ds] => some (.f ds)
  | [.tup ds] => some (.f ds)
  | _ => none
theorem dc_list : DCall K (fun xs H Q => ∃ p ys, xs = [.ref p] ∧ (SqL K H p ys ∨ SqT K H p ys) ∧ ∀ l, H l = none → Q (.ref l) (upd H l (.lst ys))) cList := by
  intro B H vs ds res Q h _ e q
  unfold cList at e
  split at e
  · obtain ⟨v, rfl, hv⟩ := tps1 h
    obtain ⟨a, xs, rfl, r, qq⟩ := hv.lst
    cases e
    exact ⟨_, _, rfl, .inl r, fun l hl => q l xs hl qq⟩
  · obtain ⟨v, rfl, hv⟩ := tps1 h
    obtain ⟨a, xs, rfl, r, qq⟩ := hv.tup
    cases e
    exact ⟨_, _, rfl, .inr r, fun l hl => q l xs hl qq⟩
  · cases e
/-- tuple(xs): a new one of a list; the same of a tuple -/
def cTup : List D → Option Rs
  | [.lst ds] => some (.v (.tup ds))
  | [.tup ds] => some (.v (.tup ds))
  | _ => none
theorem dc_tup : DCall K (fun xs H Q => ∃ p ys, xs = [.ref p] ∧ ((SqL K H p ys ∧ ∀ l, H l = none → Q (.ref l) (upd H l (.tup ys))) ∨ (SqT K H p ys ∧ Q (.ref p) H))) cTup := by
  intro B H vs ds res Q h hB e q
  unfold cTup at e
  split at e
  · obtain ⟨v, rfl, hv⟩ := tps1 h
    obtain ⟨a, xs, rfl, r, qq⟩ := hv.lst
    cases e
    exact ⟨_, _, rfl, .inl ⟨r, fun l hl => q _ _ (same_upd hl) (.tup (fun z => hB _ z hl) (.inl upd_same) (qq.gr (.same (same_upd hl))))⟩⟩
  · obtain ⟨v, rfl, hv⟩ := tps1 h
    rcases id hv with hr | ⟨_, _, _, _, e2, _⟩
    · obtain ⟨a, xs, rfl, r, qq⟩ := hv.tup
      exact ⟨_, _, rfl, .inr ⟨r, fin_v e q hr⟩⟩
    · cases e2
  · cases e
def cAbs : List D → Option Rs
  | [.int i] => ri (if i < 0 then -i else i)
  | _ => none
theorem dc_abs : DCall K (fun xs H Q => ∃ i, xs = [.int i] ∧ Q (.int (if i < 0 then -i else i)) H) cAbs := by
  intro B H vs ds res Q h _ e q
  unfold cAbs at e
  split at e
  · obtain ⟨v, rfl, hv⟩ := tps1 h
    rw [hv.int]
    exact ⟨_, rfl, fin_int e q⟩
  · cases e
def cInt : List D → Option Rs
  | [.int i] => ri i
  | [.bl k] => ri (if k then 1 else 0)
  | _ => none
theorem dc_int : DCall K (fun xs H Q => (∃ i, xs = [.int i] ∧ Q (.int i) H) ∨ ∃ k, xs = [.bl k] ∧ Q (.int (if k then 1 else 0)) H) cInt := by
  intro B H vs ds res Q h _ e q
  unfold cInt at e
  split at e
  · obtain ⟨v, rfl, hv⟩ := tps1 h
    rw [hv.int]
    exact .inl ⟨_, rfl, fin_int e q⟩
  · obtain ⟨v, rfl, hv⟩ := tps1 h
    rw [hv.bl]
    exact .inr ⟨_, rfl, fin_int e q⟩
  · cases e
def cMax : List D → Option Rs
  | [.int i, .int j] => ri (if j > i then j else i)
  | _ => none
def cMin : List D → Option Rs
  | [.int i, .int j] => ri (if j < i then j else i)
  | _ => none
theorem dc_max : DCall K (fun xs H Q => ∃ i j, xs = [.int i, .int j] ∧ Q (.int (if j > i then j else i)) H) cMax := by
  intro B H vs ds res Q h _ e q
  unfold cMax at e
  split at e
  · obtain ⟨v, u, rfl, hv, hu⟩ := tps2 h
    rw [hv.int, hu.int]
    exact ⟨_, _, rfl, fin_int e q⟩
  · cases e
theorem dc_min : DCall K (fun xs H Q => ∃ i j, xs = [.int i, .int j] ∧ Q (.int (if j < i then j else i)) H) cMin := by
  intro B H vs ds res Q h _ e q
  unfold cMin at e
  split at e
  · obtain ⟨v, u, rfl, hv, hu⟩ := tps2 h
    rw [hv.int, hu.int]
    exact ⟨_, _, rfl, fin_int e q⟩
  · cases e
/-- all(xs), any(xs) of a list of bools -/
def bools : List D → Option (List Bool)
  | [] => some []
  | .bl b :: ds => (bools ds).map (b :: ·)
  | _ => none
theorem bools_reps {B : Addr → Prop} {H : Hp} : ∀ {ds : List D} {xs : List V} {bs : List Bool}, Reps K B H xs ds → bools ds = some bs → xs = bs.map V.bl
  | [], _, _, h, e => by cases h; cases e; rfl
  | .bl b :: ds, _, bs, h, e => by
    cases h with
    | cons h1 h2 =>
      cases h1
      cases q : bools ds with
      | none => simp only [bools, q] at e; cases e
      | some cs =>
        simp only [bools, q, Option.map_some, Option.some.injEq] at e
        subst e
        rw [List.map_cons, bools_reps h2 q]
  | .non :: _, _, _, _, e => by cases e
  | .int _ :: _, _, _, _, e => by cases e
  | .str _ :: _, _, _, _, e => by cases e
  | .tup _ :: _, _, _, _, e => by cases e
  | .lst _ :: _, _, _, _, e => by cases e
  | .ins _ _ _ :: _, _, _, _, e => by cases e
def cAll : List D → Option Rs
  | [.lst ds] => (bools ds).bind fun bs => rb (bs.all id)
  | _ => none
def cAny : List D → Option Rs
  | [.lst ds] => (bools ds).bind fun bs => rb (bs.any id)
  | _ => none
theorem dc_all : DCall K (rAll K) cAll := by
  intro B H vs ds res Q h _ e q
  unfold cAll at e
  split at e
  · rename_i ds
    obtain ⟨v, rfl, hv⟩ := tps1 h
    obtain ⟨a, xs, rfl, r, qq⟩ := hv.lst
    cases e2 : bools ds with
    | none => rw [e2] at e; cases e
    | some bs =>
      rw [e2] at e
      exact ⟨a, bs, rfl, by rw [← bools_reps qq e2]; exact r, fin_bl e q⟩
  · cases e
theorem dc_any : DCall K (rAny K) cAny := by
  intro B H vs ds res Q h _ e q
  unfold cAny at e
  split at e
  · rename_i ds
    obtain ⟨v, rfl, hv⟩ := tps1 h
    obtain ⟨a, xs, rfl, r, qq⟩ := hv.lst
    cases e2 : bools ds with
    | none => rw [e2] at e; cases e
    | some bs =>
      rw [e2] at e
      exact ⟨a, bs, rfl, by rw [← bools_reps qq e2]; exact r, fin_bl e q⟩
  · cases e
/-- repr(x) -/
def rRepr (K : PySem.W.Frag) : List V → Hp → VK → Prop := fun xs H Q => ∃ x d, xs = [x] ∧ Dp K H x d ∧ d.plain = true ∧ d.depth ≤ 60 ∧ d.showable = true ∧ d.shown.length ≤ sizeLine ∧ Q (.str d.shown) H
theorem plain_noDict : ∀ d : PyData, d.plain = true → d.hasDict = false := by
  have all : ∀ n, ∀ d : PyData, d.depth ≤ n → d.plain = true → d.hasDict = false := by
    intro n
    induction n with
    | zero =>
      intro d hd hp
      cases d <;> first | rfl | (simp [PyData.depth] at hd) | (simp [PyData.plain] at hp)
    | succ n ih =>
      have lists : ∀ xs : List PyData, PyData.depthAll xs ≤ n → PyData.plainAll xs = true → PyData.hasDictAll xs = false := by
        intro xs
        induction xs with
        | nil => intro _ _; rfl
        | cons x xs ihx =>
          intro h1 h2
          simp only [PyData.depthAll] at h1
          simp only [PyData.plainAll, Bool.and_eq_true] at h2
          simp only [PyData.hasDictAll, ih x (by omega) h2.1, ihx (by omega) h2.2, Bool.or_self]
      intro d hd hp
      cases d with
      | list xs =>
        simp only [PyData.depth] at hd
        simp only [PyData.plain] at hp
        simp only [PyData.hasDict]
        exact lists xs (by omega) hp
      | tuple xs =>
        simp only [PyData.depth] at hd
        simp only [PyData.plain] at hp
        simp only [PyData.hasDict]
        exact lists xs (by omega) hp
      | dict _ => simp [PyData.plain] at hp
      | _ => rfl
  exact fun d h => all d.depth d (Nat.le_refl _) h
theorem call_repr (hg : X.A.guards = some []) (hu : X.A.units + 64 < cLine) : CallR X (.builtin "repr") (rRepr X.K) := by
  intro pins s σ H xs us Q I r ⟨x, d, e, hd, hp, hdep, hs, hz, q⟩
  subst e
  obtain ⟨u, rfl, rx⟩ := vals1 r
  obtain ⟨as, r1⟩ := Dp.reads I d x u hd rx
  have fin : ∀ a : Addr, u = .ref a → wpAny (model X.prog X.w) X.A (call (.builtin "repr") [u]) (EP X pins σ Q) X.xe s := fun a e => by
    subst e
    exact repr_of_reads' r1 hs (PyData.noDict_hsm (plain_noDict d hp)) hg (by omega) (fun _ _ e => e) (fun h' u tk hk => ⟨.str d.shown, H, I.kept hk, ⟨_, rfl⟩, q⟩) hz
  cases d with
  | list ds =>
    cases hd
    exact fin _ rx
  | tuple ds =>
    cases hd
    exact fin _ rx
  | int i =>
    cases hd
    obtain ⟨t, e⟩ := (show ∃ t, u = Value.int i t from rx)
    subst e
    exact PySem.P.repr_of_int (by simpa [PyData.showable] using hs) ⟨.str _, H, I.tok _, ⟨_, rfl⟩, q⟩
  | none =>
    cases hd
    cases rx
    exact PySem.P.repr_of_none ⟨.str _, H, I.tok _, ⟨_, rfl⟩, q⟩
  | bool b =>
    cases hd
    cases rx
    exact PySem.P.repr_of_bool ⟨.str _, H, I.tok _, ⟨_, rfl⟩, by cases b <;> exact q⟩
  | str x =>
    cases hd
    obtain ⟨t, e⟩ := (show ∃ t, u = Value.str x t from rx)
    subst e
    exact PySem.P.repr_of_str ⟨.str _, H, I.tok _, ⟨_, rfl⟩, q⟩ hz
  | dict _ => cases hd
def showOk (d : D) : Bool := d.ok 60 && d.py.showable && decide (d.py.shown.length ≤ 16777216)
def cRepr : List D → Option Rs
  | [d] => if showOk d then some (.v (.str d.py.shown)) else none
  | _ => none
theorem dc_repr : DCall K (rRepr K) cRepr := by
  intro B H vs ds res Q h _ e q
  unfold cRepr at e
  split at e
  · rename_i d
    obtain ⟨v, rfl, hv⟩ := tps1 h
    split at e
    · rename_i hk
      unfold showOk at hk
      simp only [Bool.and_eq_true, decide_eq_true_eq] at hk
      obtain ⟨⟨h1, h2⟩, h3⟩ := hk
      obtain ⟨g1, g2⟩ := ok_plain d 60 h1
      refine ⟨v, d.py, rfl, hv.dp h1, g1, g2, h2, by rw [sizeLine_eq]; exact h3, fin_v e q (.str _)⟩
    · cases e
  · cases e

/-! ### lists that are changed -/
def gApp : List D → List D → Option (D × List D)
  | ds, [d] => some (.non, ds ++ [d])
  | _, _ => none
theorem dm_app : DMut K rAppend gApp := by
  intro B H a xs ds vs es res ds' Q hH rx rv e hl q
  unfold gApp at e
  split at e
  · cases e
    cases rv with
    | cons r1 r2 =>
      cases r2
      refine ⟨a, xs, _, rfl, rfl, hH, ?_, q _ _ (rx.app (.one r1)) .non⟩
      rw [rx.len, sizeLine_eq]
      simp at hl
      omega
  · cases e
def gPopAt : List D → List D → Option (D × List D)
  | ds, [.int i] => if 0 ≤ i ∧ i < 4611686018427387904 then (ds[i.toNat]?).map fun d => (d, ds.eraseIdx i.toNat) else none
  | _, _ => none
theorem dm_popAt : DMut K rPopAt gPopAt := by
  intro B H a xs ds vs es res ds' Q hH rx rv e hl q
  unfold gPopAt at e
  split at e
  · rename_i i
    split at e
    · rename_i hi
      cases e1 : ds[i.toNat]? with
      | none => rw [e1] at e; cases e
      | some d =>
        rw [e1] at e
        cases e
        cases rv with
        | cons r1 r2 =>
          cases r2
          cases r1
          obtain ⟨v, h1, h2⟩ := rx.get e1
          have hlt : i.toNat < xs.length := (List.getElem?_eq_some_iff.mp h1).1
          exact ⟨a, xs, i, i.toNat, v, rfl, rfl, hH, by omega, by omega, seqIndex_of hi.1 (by omega), h1, q _ _ (rx.erase _) h2⟩
    · cases e
  · cases e
end
end LM

namespace LM
open PySem L2

/-! ### isinstance -/
def D.ty : D → Option String
  | .non => some "NoneType"
  | .bl _ => some "bool"
  | .int _ => some "int"
  | .str _ => some "str"
  | .tup _ => some "tuple"
  | .lst _ => some "list"
  | .ins _ _ _ => none
def isB (t c : String) : Bool := t == c || (t == "bool" && c == "int")
theorem kitB_all : ∀ t ∈ ["NoneType", "bool", "int", "str", "tuple", "list"], ∀ c ∈ ["int", "str", "bool", "list", "tuple"], kitB t c = some (isB t c) := by decide +kernel
theorem ty_mem {d : D} {t : String} (h : d.ty = some t) : t ∈ ["NoneType", "bool", "int", "str", "tuple", "list"] := by
  cases d <;> cases h <;> simp
theorem tyx_of {K : PySem.W.Frag} {B : Addr → Prop} {H : Hp} {v : V} {d : D} {t : String} (h : Tp K B H v d) (e : d.ty = some t) : TyX K H v (.type t) := by
  rcases h with h | ⟨a, xs, ds, rfl, rfl, _, r, _⟩
  · cases h with
    | non => cases e; exact .base .non
    | bl b => cases e; exact .base (.bl b)
    | int i => cases e; exact .base (.int i)
    | str x => cases e; exact .base (.str x)
    | tup _ r _ =>
      cases e
      rcases r with r | ⟨o, r⟩
      · exact .base (.tup r)
      · exact .fTuple r
    | wtup r _ =>
      cases e
      obtain ⟨o, its, n, h1, h2, _⟩ := r
      exact .kTuple h1 h2
    | lst _ r _ =>
      cases e
      rcases r with r | ⟨o, r⟩
      · exact .base (.lst r)
      · exact .base (.frz r)
    | wlst r _ =>
      cases e
      obtain ⟨its, n, h1, _⟩ := r
      exact .kList h1 rfl
    | ins => cases e
  · cases e
    rcases r with r | ⟨o, r⟩
    · exact .base (.lst r)
    · exact .base (.frz r)
/-- what is asked of the classes: an answer for each data -/
def IsF (K : PySem.W.Frag) (us : List Value) (f : D → Option Bool) : Prop := ∀ B H v d b, Tp K B H v d → f d = some b → ∃ t, TyX K H v t ∧ PySem.W.kitAny K t us = some b
def isF (cs : List String) (d : D) : Option Bool := d.ty.map fun t => cs.any (isB t)
theorem isF_ok {K : PySem.W.Frag} {cs : List String} (h : ∀ c ∈ cs, c ∈ ["int", "str", "bool", "list", "tuple"]) : IsF K (cs.map Value.type) (isF cs) := by
  intro B H v d b hv e
  cases q : d.ty with
  | none => simp [isF, q] at e
  | some t =>
    simp only [isF, q, Option.map_some, Option.some.injEq] at e
    refine ⟨.type t, tyx_of hv q, ?_⟩
    have ht := ty_mem q
    clear q hv
    induction cs generalizing b with
    | nil => subst e; rfl
    | cons c cs ih =>
      have k := kit_ty (K := K) (kitB_all t ht c (h c List.mem_cons_self))
      rw [List.any_cons] at e
      refine kitAny_cons k (fun z => ?_) fun z => by rw [← e, z]; rfl
      rw [z, Bool.false_or] at e
      exact ih (fun c hc => h c (List.mem_cons_of_mem _ hc)) _ e
/-- the classes, as they stand in the text -/
structure ClsA (X : Cx) (e : Expr) (us : List Value) (t : TE) : Prop where
  pe : PE X e t
  rd : ∀ σ H Q, (∀ v H', (∀ a o, H a = some o → H' a = some o) → ((∃ u, us = [u] ∧ ClsV v u) ∨ ∃ tp cs, v = .ref tp ∧ H' tp = some (.tup cs) ∧ Paired ClsV cs us) → Q v H') → t σ H Q
structure ClsAs (X : Cx) (es : List Expr) (us : List Value) (t : TA) : Prop where
  pa : PA X es t
  rd : ∀ σ H Q, (∀ vs, Paired ClsV vs us → Q vs H) → t σ H Q
section
variable {S : Type} {X : Cx} {I : BoxI S} {Wx : WX} {a b : Expr} {es : List Expr} {pos p : Pos} {ma : MX S W}
theorem k_blt {x : Str} {n : String} (hg : Gl X x) (hm : X.mg x = none) (hv : bootBuiltins x = some (.type n)) (hn : x ≠ "__name__" := by decide) (hd : (x == ("__debug__" : Str)) = false := by decide) : ClsA X (.Name x pos) [.type n] (tC (.ty n)) :=
  ⟨pe_bltn (v := .ty n) hg hm hv rfl hn hd, fun σ H Q h => h _ H (fun _ _ e => e) (.inl ⟨_, rfl, .ty n⟩)⟩
theorem k_nil : ClsAs X [] [] tNil := ⟨pa_nil, fun σ H Q h => h [] .nil⟩
theorem k_cons {x : Str} {n : String} {us : List Value} {t : TA} (hg : Gl X x) (hm : X.mg x = none) (hv : bootBuiltins x = some (.type n)) (h : ClsAs X es us t) (hn : x ≠ "__name__" := by decide) (hd : (x == ("__debug__" : Str)) = false := by decide) (hs : starEach (.Name x pos :: es) X.env = (false, eval (.Name x pos) X.env) :: starEach es X.env := by rfl) :
    ClsAs X (.Name x pos :: es) (.type n :: us) (tCons (tC (.ty n)) t) :=
  ⟨pa_cons (pe_bltn (v := .ty n) hg hm hv rfl hn hd) h.pa hs, fun σ H Q k => h.rd σ H _ fun vs r => k _ (.cons (.ty n) r)⟩
theorem k_tup {us : List Value} {t : TA} {x1} (h : ClsAs X es us t) (hl : us.length ≤ 16777216 := by decide) : ClsA X (.Tuple es x1 pos) us (tTup t) :=
  ⟨pe_tup h.pa, fun σ H Q k => h.rd σ H _ fun vs r => ⟨by rw [Paired.length r, sizeLine_eq]; exact hl, fun q hq => k _ _ (same_upd hq) (.inr ⟨q, vs, rfl, upd_same, r⟩)⟩⟩
def mIsi (f : D → Option Bool) (ma : MX S W) : MX S W := ma.bind fun w => fun env s => match w.rd env with
  | some d => match f d with
    | some b => .ok (.v (.bl b)) env s
    | none => .bad
  | none => .bad
theorem kitOne_of {K : PySem.W.Frag} {t u : Value} {b : Bool} (h : PySem.W.kitAny K t [u] = some b) : PySem.W.kitOne K t u = some b := by
  unfold PySem.W.kitAny at h
  cases q : PySem.W.kitOne K t u with
  | none => rw [q] at h; cases h
  | some c =>
    rw [q] at h
    cases c with
    | true => exact h
    | false => exact h
theorem d_isi {us : List Value} {t : TE} {f : D → Option Bool} (hg : Gl X "isinstance") (hm : X.mg "isinstance" = none) (hv : bootBuiltins "isinstance" = some (.builtin "isinstance")) (ha : PE X a (tD X.K I Wx ma)) (hc : ClsA X b us t) (hf : IsF X.K us f)
    (h1 : starEach [a, b] X.env = (false, eval a X.env) :: starEach [b] X.env := by rfl) (h2 : starEach [b] X.env = (false, eval b X.env) :: starEach [] X.env := by rfl) (hpl : (backTo pos (starEach [b] X.env)).any (·.1) = false := by rfl) :
    PE X (.Call (.Name "isinstance" p) [a, b] [] pos) (tD X.K I Wx (mIsi f ma)) := by
  refine PEimp (pe_callB (CallR.or call_isi call_isiT) hg hm hv (pa_cons ha (pa_cons hc.pe pa_nil h2) h1) (by decide) (by decide) h1 hpl) fun σ H Q ⟨G, env, s, ts, R, h⟩ => ?_
  refine tD_bind (Z := ZD X.K I Wx G ts σ Q) R h (fun _ _ _ z => z) (fun z => z) fun w env1 s1 x H1 _ R1 z1 => ?_
  refine hc.rd σ H1 _ fun v H2 hs hcl => ?_
  obtain ⟨ad, bv, bm, R2⟩ := R1
  have R3 := R2.same hs
  cases e1 : w.rd env1 with
  | none => simp only [e1] at z1; exact z1.elim
  | some d =>
    simp only [e1] at z1
    cases e2 : f d with
    | none => simp only [e2] at z1; exact z1.elim
    | some k =>
      simp only [e2] at z1
      obtain ⟨ty, h3, h4⟩ := hf _ H2 x d k (R3.rd (p := (x, w)) List.mem_cons_self e1) e2
      have fin : Q (.bl k) H2 := z1 _ H2 ⟨ad, bv, bm, (R3.pushV (.bl k)).less (.cons_cons _ sl1)⟩
      rcases hcl with ⟨u, rfl, hcv⟩ | ⟨tp, cs, rfl, e3, hp⟩
      · exact .inl ⟨x, v, ty, u, k, rfl, hcv, h3, kitOne_of h4, fin⟩
      · exact .inr ⟨x, tp, cs, ty, us, k, rfl, e3, hp, h3, h4, fin⟩
end
end LM

namespace PySem
open Sem (wp)
set_option maxHeartbeats 1000000 in
/-- enumerate of whatever begins -/
theorem enum_newB1 {v : Value} {o : Obj} {Hh : Heap → Prop} (B : Begins v o Hh) :
    Meets (Builtin.«enumerate.__new__» ⟨[.type "enumerate", v], []⟩) (fun _ R s => Hh s.heap ∧
      R (.ok (.ret (.ref (s.heap.push o).objs.size))) { s with heap := (s.heap.push o).push { cls := .type "enumerate", data := .fields #[.none, .bool false, .ref s.heap.objs.size, rawInt 0, .none, .none] } }) :=
  .of_wp fun prog w A R s hh => by
    obtain ⟨hp, gg, dd, tk, os⟩ := s
    obtain ⟨hh1, hh2⟩ := hh
    have hsub := sub_enumerate
    have step1 : ∀ {A' : Around} {E : Value → Shared → Prop} {Q : Value → Shared → Prop}, Q (.ref hp.objs.size) ⟨hp.push o, gg, dd, tk, os⟩ → wpAny (model prog w) A' (pyIter v) Q E ⟨hp, gg, dd, tk, os⟩ :=
      fun q => B.iter prog w _ _ ⟨hp, gg, dd, tk, os⟩ _ hh1 q
    wp_walk using step1
    refine wpAny_stack_any fun _ => wpAny_pure ?_
    split
    · rename_i c _ _ _ _ _
      cases (c == Value.type "enumerate") <;>
      · wp_walk using step1
        exact ⟨_, rfl, hh2⟩
    · wp_walk using step1
      exact ⟨_, rfl, hh2⟩
section
variable {prog : Program} {w : World} {A : Around} {E : Value → Shared → Prop} {s : Shared}
theorem enum_begins1 {v : Value} {o : Obj} {Hh : Heap → Prop} {Q : Value → Shared → Prop} (B : Begins v o Hh) (h1 : Hh s.heap)
    (h : ∀ h', IsEnum h' (s.heap.objs.size + 1) s.heap.objs.size 0 .none → h'.get? s.heap.objs.size = some o → (∀ b ob, s.heap.get? b = some ob → h'.get? b = some ob) → Q (.ref (s.heap.objs.size + 1)) { s with heap := h' }) :
    wpAny (model prog w) A (call (.type "enumerate") [v]) Q E s := by
  refine callType_new F.called_enumerate (by decide) (F.typeCall_enumerate_1 _) (F.newCall_enumerate_1 _) (fun ob => F.args_object_init_2 ob _) F.entry_enumerate_new (enum_newB1 B) ⟨h1, ?_⟩
  have size1 : (s.heap.push o).objs.size = s.heap.objs.size + 1 := Heap.size_push ..
  show _ ∧ _
  rw [size1]
  have he : IsEnum ((s.heap.push o).push { cls := .type "enumerate", data := .fields #[.none, .bool false, .ref s.heap.objs.size, rawInt 0, .none, .none] }) (s.heap.objs.size + 1) s.heap.objs.size 0 .none := by
    have got := Heap.get?_push_size (s.heap.push o) (o := { cls := .type "enumerate", data := .fields #[.none, .bool false, .ref s.heap.objs.size, rawInt 0, .none, .none] }) rfl
    rw [size1] at got
    exact got
  exact ⟨⟨_, he, rfl⟩, h _ he (Heap.get?_push_of_some _ (Heap.get?_push_size _ B.free)) fun b ob q => Heap.get?_push_of_some _ (Heap.get?_push_of_some _ q)⟩
end
end PySem
namespace L2
open PySem PySem.Spec PyProof.Rows
/-- enumerate of a tuple, the pairs new -/
def Itu (K : PySem.W.Frag) (a : Addr) : It :=
  ⟨fun i H => ∃ (xs : List V) (x : V), SqT K H a xs ∧ xs[i]? = some x, fun i H v H' => ∃ T x, v = .ref T ∧ H T = none ∧ H' = upd H T (.tup [.int (i : Nat), x]) ∧ ∀ xs, SqT K H a xs → xs[i]? = some x, fun i H => ∃ xs : List V, SqT K H a xs ∧ xs.length = i⟩
theorem turn_enumT {P : Program} {w : World} {K : PySem.W.Frag} {elts : List Expr} {kk : Nat} {tpos : Pos} (a e it : Addr) :
    Turn P w K (.Tuple elts kk tpos) (Itu K a) [e, it] e (fun i h => (∃ old, IsEnum h e it ((i : Nat) : Int) old) ∧ h.IsTupleIter it a i ∧ e ≠ it ∧ a ≠ it ∧ a ≠ e) where
  mem := by simp
  obj := fun i h st b hb => by
    obtain ⟨⟨old, he⟩, ⟨o, ho, hc, hd⟩, _⟩ := st
    rcases (show b = e ∨ b = it by simpa using hb) with rfl | rfl
    · exact ⟨_, he, fun v q => nomatch q⟩
    · exact ⟨o, ho, fun v q => by rw [hd] at q; cases q⟩
  keep := fun i h h' st k => let ⟨⟨old, he⟩, hi, n1, n2, n3⟩ := st; ⟨⟨old, k e (by simp) _ he⟩, hi.at fun o q => k it (by simp) o q, n1, n2, n3⟩
  item := by
    intro X hP hw hK hc i pins s σ H E I hf st hg
    subst hP hw hK
    obtain ⟨⟨old, he⟩, hit, n1, n2, n3⟩ := st
    obtain ⟨xs, x, hq, hx⟩ := hg
    obtain ⟨its, rv, p, hz⟩ := I.tuple hq
    have hlen := rv.length
    have hlt : i < its.toArray.size := by
      have := (List.getElem?_eq_some_iff.mp hx).1
      simp only [List.size_toArray]; omega
    have hel : e < s.heap.objs.size := Heap.lt_size he
    have hil : it < s.heap.objs.size := by obtain ⟨_, q, _⟩ := hit; exact Heap.lt_size q
    refine wpAny_pyNext_enum_itemD (Draws.tuple (A := X.A.in1) (I.ok.hd hc) it a n2 its.toArray) he ⟨hit, p⟩ hlt n1 (by simp [n1, Ne.symm n3]) fun u h' tk hu ho st' hT hsz hk => ?_
    have ru : RelV x u := by
      obtain ⟨u', hu', r'⟩ := rv.get hx
      have e2 : its[i]? = some u := by simpa using hu
      rw [e2] at hu'; cases hu'
      exact r'
    refine ⟨_, rfl, wpAny_letOwnedTupleGo_enum (s := { s with heap := h', toks := tk + 1 }) ho fun h'' he' sb => ?_⟩
    have hT2 : h''.get? s.heap.objs.size = some { cls := .type "tuple", data := .seq #[.int i tk, u] } := (sb.2 _ (Nat.ne_of_gt hel)).trans hT
    have new : ObjOk X.prog X.w (upd H s.heap.objs.size (.tup [.int (i : Nat), x])) h'' s.heap.objs.size (.tup [.int (i : Nat), x]) :=
      ⟨by show 2 ≤ sizeLine; decide, [.int i tk, u], .cons ⟨_, rfl⟩ (.cons ru .nil), ⟨_, hT2, rfl, _, rfl⟩⟩
    have I1 : Inv X pins σ (upd H s.heap.objs.size (.tup [.int (i : Nat), x])) { s with heap := h'', toks := tk + 1 } :=
      I.turnedNew (ch := [e, it]) (fun b ob hb q => (sb.2 b (fun z => hb (by simp [z]))).trans (hk b ob (fun z => hb (by simp [z])) (fun z => hb (by simp [z])) q)) hf (Nat.le_refl _) new
    refine ⟨.ref s.heap.objs.size, _, I1, rfl, ⟨_, x, rfl, I.hok.fresh (Nat.le_refl _), rfl, fun ys hy => by rw [I.tuple_inj hy hq]; exact hx⟩, ⟨⟨u, ?_⟩, st'.1.at fun o q => (sb.2 it (Ne.symm n1)).trans q, n1, n2, n3⟩, fun b hb => ?_⟩
    · rw [show ((i + 1 : Nat) : Int) = (i : Int) + 1 by omega]; exact he'
    · have hb' : b < s.heap.objs.size := by
        rcases (show b = e ∨ b = it by simpa using hb) with rfl | rfl
        · exact hel
        · exact hil
      rw [upd_ne (Nat.ne_of_lt hb')]
      exact (hf b hb).1
  done := by
    intro X hP hw hK hc i pins s σ H E I hf st hg
    subst hP hw hK
    obtain ⟨⟨old, he⟩, hit, n1, n2, n3⟩ := st
    obtain ⟨xs, hq, hx⟩ := hg
    obtain ⟨its, rv, p, hz⟩ := I.tuple hq
    obtain ⟨f0, f1, f2, f3, f4, f5⟩ := hf it (by simp)
    have hl := rv.length
    have ei : its.toArray.size = i := by simp only [List.size_toArray]; omega
    exact wpAny_pyNext_enum_endD (Draws.tuple (A := X.A.in1) (I.ok.hd hc) it a n2 its.toArray) he ⟨by rw [ei]; exact hit, p⟩ fun h' eb => ⟨rfl, I.turned (t' := s.toks) (fun b o hb q => eb b o hb q) f0 f1 f3 f4 f5⟩
  self := fun A i s Q E st h => let ⟨⟨_, he⟩, _⟩ := st; wpAny_pyIter_enum he h
def iEnumG (K : PySem.W.Frag) (ta : TA) : TI := fun σ H R => ta σ H fun vs H1 => (∃ a xs, vs = [.ref a] ∧ SqL K H1 a xs ∧ R (Ite K a) H1) ∨ ∃ a xs, vs = [.ref a] ∧ SqT K H1 a xs ∧ R (Itu K a) H1
theorem pi_enumG {X : Cx} {e : Expr} {ta : TA} {p pos tpos : Pos} {elts : List Expr} {kk : Nat} (hg : Gl X "enumerate") (hm : X.mg "enumerate" = none) (ha : PA X [e] ta) (hs : starEach [e] X.env = [(false, eval e X.env)] := by rfl) :
    PI X (.Tuple elts kk tpos) (.Call (.Name "enumerate" p) [e] [] pos) (iEnumG X.K ta) := by
  refine ⟨fun pins s σ H R I h => ?_⟩
  refine Call_ (ld_blt I hg hm boot_enumerate (PyProof.Rows.callWith_type1 (thn (ha.run pos pins s σ H _ I h) fun us s1 ⟨vs, H1, I1, r1, q1⟩ => ?_) hs rfl))
  have fp : ∀ b ∈ [s1.heap.objs.size + 1, s1.heap.objs.size], FpOk X pins H1 b := fun b hb => by
    have hle : s1.heap.objs.size ≤ b := by
      rcases (show b = s1.heap.objs.size + 1 ∨ b = s1.heap.objs.size by simpa using hb) with z | z <;> omega
    exact I1.fpOk hle (I1.hok.fresh hle)
  rcases q1 with ⟨a, xs, ex, hq, q⟩ | ⟨a, xs, ex, hq, q⟩
  · subst ex
    obtain ⟨u, rfl, r⟩ := vals1 r1
    cases r
    obtain ⟨its, rv, p', hz⟩ := I1.list hq
    refine enum_begins1 (begins_list a its.toArray) p'.isList fun h' he hit hk => wpAny_pyIter_enum he ?_
    have I2 : Inv X pins σ H1 { s1 with heap := h' } := I1.kept (t' := s1.toks) hk
    exact ⟨s1.heap.objs.size + 1, [s1.heap.objs.size + 1, s1.heap.objs.size], _, _, H1, rfl, I2, turn_enum a (s1.heap.objs.size + 1) s1.heap.objs.size, ⟨⟨.none, he⟩, ⟨_, hit, rfl, rfl⟩, Nat.succ_ne_self _⟩, fp, q⟩
  · subst ex
    obtain ⟨u, rfl, r⟩ := vals1 r1
    cases r
    obtain ⟨its, rv, p', hz⟩ := I1.tuple hq
    have hal : a < s1.heap.objs.size := by obtain ⟨o, e, _⟩ := p'; exact Heap.lt_size e
    refine enum_begins1 (begins_tuple a its.toArray) p' fun h' he hit hk => wpAny_pyIter_enum he ?_
    have I2 : Inv X pins σ H1 { s1 with heap := h' } := I1.kept (t' := s1.toks) hk
    exact ⟨s1.heap.objs.size + 1, [s1.heap.objs.size + 1, s1.heap.objs.size], _, _, H1, rfl, I2, turn_enumT a (s1.heap.objs.size + 1) s1.heap.objs.size, ⟨⟨.none, he⟩, ⟨_, hit, rfl, rfl⟩, Nat.succ_ne_self _, Nat.ne_of_lt hal, Nat.ne_of_lt (Nat.lt_succ_of_lt hal)⟩, fp, q⟩
end L2
namespace LM
open PySem L2
section
variable {S : Type} {X : Cx} {I : BoxI S} {Wx : WX} {a b tg : Expr} {pos p : Pos} {ma mb : MX S W}
theorem wk_enumT {K : PySem.W.Frag} {G : Gh} {ts : List (V × W)} {v : V} {w : W} {ds : List D} (hw : w = .v (.tup ds) ∨ w = .t (.tup ds)) {a : Addr} (ha : v = .ref a) : Wk K I G ts [(v, w)] (Itu K a) (enumD ds) := by
  have Z := wk_tup (I := I) (K := K) (G := G) (ts := ts) hw ha
  refine ⟨Z.nd, fun env s l σ H i R hi => ?_, fun env s l σ H i d R hd => ?_⟩
  · obtain ⟨ad, bv, bm, R⟩ := R
    have q : Tp K (Bv G bm ad env (l ++ ([(v, w)] ++ ts))) H v (.tup ds) := R.rd (p := (v, w)) (by simp) (by rcases hw with rfl | rfl <;> rfl)
    obtain ⟨a', xs, e, r, q⟩ := q.tup
    rw [ha] at e; cases e
    exact ⟨xs, r, by rw [q.len, hi, enumD_len]⟩
  · obtain ⟨e, he, rfl⟩ := enumD_get hd
    obtain ⟨g, y⟩ := Z.go env s l σ H i e R he
    refine ⟨g, fun x H' ⟨T, z, e1, e2, e3, e4⟩ => ?_⟩
    subst e1
    subst e3
    obtain ⟨ad, bv, bm, R2⟩ := y z H ⟨rfl, e4⟩
    have rz : Rep K (Bv G bm ad env ((z, .v e) :: (l ++ ([(v, w)] ++ ts)))) H z e := R2.tm _ List.mem_cons_self
    exact ⟨ad, bv, bm, (R2.newT e2 (.cons (.int _) (.cons rz .nil))).less (.cons_cons _ sl1)⟩
/-- enumerate of a list or a tuple; also of a list of one's own, which is not changed meanwhile -/
def mIEn (ma : MX S W) : MX S (List D) := ma.bind fun w => fun env s => match w with
  | .v (.lst ds) => .ok (enumD ds) env s
  | .t (.lst ds) => .ok (enumD ds) env s
  | .v (.tup ds) => .ok (enumD ds) env s
  | .t (.tup ds) => .ok (enumD ds) env s
  | _ => .bad
theorem i_enum {elts : List Expr} {kk : Nat} {tpos : Pos} (hg : Gl X "enumerate") (hm : X.mg "enumerate" = none) (ha : PE X a (tD X.K I Wx ma)) (hs : starEach [a] X.env = [(false, eval a X.env)] := by rfl) : PI X (.Tuple elts kk tpos) (.Call (.Name "enumerate" p) [a] [] pos) (tI X.K I Wx (mIEn ma)) := by
  refine PIimp (pi_enumG hg hm (pa_cons ha pa_nil hs) hs) fun σ H R0 ⟨G, env, s, ts, R, h⟩ => ?_
  show tD X.K I Wx ma σ H _
  refine ⟨G, env, s, ts, R, ?_⟩
  cases e : ma env s with
  | ex e' env1 s1 =>
    simp only [mIEn, MX.bind, Out.bind, e] at h
    exact h
  | bad => simp only [mIEn, MX.bind, Out.bind, e] at h
  | ok w env1 s1 =>
    simp only [mIEn, MX.bind, Out.bind, e] at h
    intro v H1 R1
    obtain ⟨ad, bv, bm, R2⟩ := id R1
    have finL : ∀ ds, (w = .v (.lst ds) ∨ w = .t (.lst ds)) → (∀ J p H', ER X.K I G env1 s1 (p ++ ts) σ H' → Wk X.K I G ts p J (enumD ds) → R0 J H') → ∃ a xs, [v] = [V.ref a] ∧ SqL X.K H1 a xs ∧ R0 (Ite X.K a) H1 := fun ds hw k => by
      have q : Tp X.K (Bv G bm ad env1 ((v, w) :: ts)) H1 v (.lst ds) := R2.rd (p := (v, w)) List.mem_cons_self (by rcases hw with rfl | rfl <;> rfl)
      obtain ⟨a', xs, e, r, q⟩ := q.lst
      exact ⟨a', xs, by rw [e], r, k (Ite X.K a') [(v, w)] H1 R1 (wk_enum hw e)⟩
    have finT : ∀ ds, (w = .v (.tup ds) ∨ w = .t (.tup ds)) → (∀ J p H', ER X.K I G env1 s1 (p ++ ts) σ H' → Wk X.K I G ts p J (enumD ds) → R0 J H') → ∃ a xs, [v] = [V.ref a] ∧ SqT X.K H1 a xs ∧ R0 (Itu X.K a) H1 := fun ds hw k => by
      have q : Tp X.K (Bv G bm ad env1 ((v, w) :: ts)) H1 v (.tup ds) := R2.rd (p := (v, w)) List.mem_cons_self (by rcases hw with rfl | rfl <;> rfl)
      obtain ⟨a', xs, e, r, q⟩ := q.tup
      exact ⟨a', xs, by rw [e], r, k (Itu X.K a') [(v, w)] H1 R1 (wk_enumT hw e)⟩
    cases w with
    | v d =>
      cases d with
      | lst ds => exact .inl (finL ds (.inl rfl) h)
      | tup ds => exact .inr (finT ds (.inl rfl) h)
      | _ => exact h.elim
    | t d =>
      cases d with
      | lst ds => exact .inl (finL ds (.inr rfl) h)
      | tup ds => exact .inr (finT ds (.inr rfl) h)
      | _ => exact h.elim
    | _ => exact h.elim
end
end LM

namespace LM
open PySem L2

/-! ### a new instance's attributes -/
section
variable {S : Type} {K : PySem.W.Frag} {I : BoxI S} {G : Gh} {ad : Nat → Addr} {bv : V} {bm : Addr → Prop} {env : List Sl} {s s' : S} {ts ts' : List (V × W)} {σ : St} {H H' : Hp}
/-- what a slot owns is written -/
theorem ERa.wrO {x y : Sl} {o : HO} {i : Nat} (R : ERa K I G ad bv bm env s ts σ H) (e : env[i]? = some x) (ox : x.isOwn = true) (oy : y.isOwn = true) (h : ∀ B', Gr (Bv G bm ad env ts) B' H (upd H (ad i) o) → ∀ T', SlR K T' B' bv (upd H (ad i) o) (ad i) σ[i]? y) :
    ERa K I G ad bv bm (env.set i y) s ts σ (upd H (ad i) o) := by
  have oi : Ow ad env ts (ad i) := .inl ⟨i, _, e, ox, rfl⟩
  have ry : y.isRef = true := by cases y <;> first | rfl | cases oy
  have go : ∀ a, Ow ad (env.set i y) ts a → Ow ad env ts a := fun a z => z.imp (fun ⟨j, u, e', o, q⟩ => by
    rcases set_get e' with ⟨rfl, rfl, _⟩ | ⟨_, e'⟩
    · exact ⟨j, _, e, ox, q⟩
    · exact ⟨j, u, e', o, q⟩) fun q => q
  have kp : ∀ a u, H a = some u → a ≠ ad i → upd H (ad i) o a = some u := fun a u q n => by rw [upd_ne n]; exact q
  have gt : Gr (Tv bm ad env ts) (Tv bm ad (env.set i y) ts) H (upd H (ad i) o) := ⟨fun a u q n => kp a u q fun z => n (.inr (z ▸ oi)), fun a z => .inl (z.imp (fun q => q) (go a))⟩
  have g : Gr (Bv G bm ad env ts) (Bv G bm ad (env.set i y) ts) H (upd H (ad i) o) := ⟨fun a u q n => kp a u q fun z => n (.inr (.inr (z ▸ oi))), fun a z => .inl (z.imp (fun q => q) fun z => z.imp (fun q => q) (go a))⟩
  obtain ⟨h0, hb⟩ := R.own i _ e ox
  refine ⟨by rw [List.length_set]; exact R.len, fun a u q n => kp a u (R.ext a u q n) fun z => (by rw [z, h0] at q; cases q), fun a q => ?_, I.frame R.box fun a m => upd_ne fun z => hb (z ▸ m), R.bfr, R.bdom, fun j u e' o => ?_, R.tow, fun j k u z ej ek oj ok => ?_, fun j u p e' o => ?_, R.d3, fun j u e' => ?_, fun p hp => ?_⟩
  · by_cases n : a = ad i
    · rw [n]; exact h0
    · rw [upd_ne n] at q; exact R.dom a q
  · rcases set_get e' with ⟨rfl, rfl, _⟩ | ⟨_, e'⟩
    · exact ⟨h0, hb⟩
    · exact R.own j u e' o
  · rcases set_get ej with ⟨rfl, rfl, _⟩ | ⟨_, ej'⟩
    · rcases set_get ek with ⟨rfl, rfl, _⟩ | ⟨_, ek'⟩
      · exact fun _ => rfl
      · exact R.d1 j k _ z e ek' ox ok
    · rcases set_get ek with ⟨rfl, rfl, _⟩ | ⟨_, ek'⟩
      · exact R.d1 j k u _ ej' e oj ox
      · exact R.d1 j k u z ej' ek' oj ok
  · rcases set_get e' with ⟨rfl, rfl, _⟩ | ⟨_, e'⟩
    · exact R.d2 j _ p e ox
    · exact R.d2 j u p e' o
  · rcases set_get e' with ⟨rfl, rfl, hl⟩ | ⟨ne, e'⟩
    · exact h _ g _
    · exact (R.sl j u e').gr gt g fun ho v q => kp _ _ q fun z => ne (R.d1 j i _ _ e' e ho ox z)
  · refine (R.tm p hp).gr gt g (fun f a u ea q => kp _ _ q fun z => R.d2 i _ p e ox hp f (by rw [ea, z])) fun j u _ q r => ?_
    by_cases hj : j = i
    · subst hj
      exact ⟨y, List.getElem?_set_self (List.getElem?_eq_some_iff.mp q).1, ry⟩
    · exact ⟨u, by rw [List.getElem?_set_ne (Ne.symm hj)]; exact q, r⟩
end
theorem putF_new : ∀ {fs : List (Str × V)} {f : Str} {v : V}, (fs.map (·.1)).contains f = false → putF f v fs = fs ++ [(f, v)]
  | [], _, _, _ => rfl
  | (g, x) :: fs, f, v, h => by
    rw [List.map_cons, List.contains_cons, Bool.or_eq_false_iff] at h
    have ne : ¬ g = f := fun z => by
      have := h.1
      rw [z] at this
      simp at this
    show (if g = f then (g, v) :: fs else (g, x) :: putF f v fs) = _
    rw [if_neg ne, putF_new h.2]
    rfl
def mFldSet {S : Type} (C : Addr) (f : Str) (mo me : MX S W) : MS S := fun env s => (me env s).bindS fun w env s => (mo env s).bindS fun u env s => match w.kp, u with
  | some d, .l i => match env[i]? with
    | some (.slf x C' ns ds) => if C' = C ∧ ns.contains f = false ∧ ns.length < 900 then .nx (env.set i (.slf x C' (ns ++ [f]) (ds ++ [d]))) s else .bad
    | _ => .bad
  | _, _ => .bad
section
variable {S : Type} {X : Cx} {I : BoxI S} {Wx : WX} {o e : Expr} {pos pos' : Pos} {mo me : MX S W} {f : Str} {C : Addr}
theorem s_fld (ho : PE X o (tD X.K I Wx mo)) (he : PE X e (tD X.K I Wx me)) (c : Cls X.K C) (n : NoAttr X.K C f) (hs : swapsWith e (some (.Attribute o f pos')) pos.line X.env = pure false := by rfl) : PS X (.Assign [.Attribute o f pos'] e pos) (tS X.K I Wx (mFldSet C f mo me)) := by
  refine PSimp (ps_fld ho he hs) fun Dn σ H ⟨G, env, s, ts, R, cl, h⟩ => ?_
  refine tD_bindS (Dn := Dn) R h fun w env1 s1 y H1 R1 z1 => ?_
  refine ⟨G, env1, s1, (y, w) :: ts, R1, ?_⟩
  cases eo : mo env1 s1 with
  | ex x env2 s2 => rw [eo] at z1; exact fun dx H' q => z1 dx σ H' (q.less sl1)
  | bad => rw [eo] at z1; exact z1
  | ok u env2 s2 =>
    rw [eo] at z1
    intro x H2 ⟨ad, bv, bm, R2⟩
    dsimp only [Out.bindS] at z1
    cases ek : w.kp with
    | none => simp only [ek] at z1; exact z1.elim
    | some d =>
      cases u with
      | l i =>
        simp only [ek] at z1
        cases ei : env2[i]? with
        | none => simp only [ei] at z1; exact z1.elim
        | some sl =>
          cases sl with
          | slf a C' ns ds =>
            simp only [ei] at z1
            by_cases hc : C' = C ∧ ns.contains f = false ∧ ns.length < 900
            · rw [if_pos hc] at z1
              obtain ⟨rfl, h2, h3⟩ := hc
              obtain ⟨fa, fσ, dx, fs, q1, q2, q3⟩ := R2.sl i _ ei
              obtain ⟨e1, _⟩ : x = .ref (ad i) ∧ ∃ y, env2[i]? = some y ∧ y.isRef = true := R2.tm (x, .l i) List.mem_cons_self
              have ry := R2.keep (p := (y, w)) (.tail _ List.mem_cons_self) ek
              refine ⟨ad i, C', dx, fs, e1, q1, c, n, by rw [q2] at h3; simp at h3; omega, z1 σ _ ⟨ad, bv, bm, (R2.wrO (y := .slf a C' (ns ++ [f]) (ds ++ [d])) ei rfl rfl fun B' g T' => ?_).less sl2⟩⟩
              refine ⟨fa, fσ, dx, _, upd_same, ?_, ?_⟩
              · rw [putF_new (by rw [← q2]; exact h2), List.map_append, q2]; rfl
              · have q4 : Reps X.K B' (upd H2 (ad i) (.ins C' dx (putF f y fs))) (fs.map (·.2) ++ [y]) (ds ++ [d]) := (q3.gr g).app (.one (ry.gr g))
                rw [putF_new (by rw [← q2]; exact h2)] at q4 ⊢
                rw [List.map_append]
                exact q4
            · rw [if_neg hc] at z1; exact z1.elim
          | _ => simp only [ei] at z1; exact z1.elim
      | _ => simp only [ek] at z1; exact z1.elim
end
def envI (x C : Addr) (md : List Md) (n : Nat) (ds : List D) : List Sl := .slf x C [] [] :: env0 md n ds
def SO.foI (y C : Addr) : SO Unit → FO Unit (List Str × List D)
  | .nx (.slf y' C' ns ds :: _) _ => if y' = y ∧ C' = C then .ok (ns, ds) () else .bad
  | _ => .bad
section
variable {P : Program} {w : World} {K : PySem.W.Frag} {mg : Str → Option Value} {base : Heap}
theorem envA_noB {K : PySem.W.Frag} {B T : Addr → Prop} {H : Hp} {md : List Md} {vs : List V} {ds : List D} (ar : ArgsR K (fun _ => False) B H .non md vs ds) (N : Nat) : ∀ (i : Nat) (x : Sl), (env0 md N ds)[i]? = some x → x.isOwn = false ∧ ∀ (T B' : Addr → Prop) (a : Addr), (∀ a, T a → False) → (∀ a, B' a → B a) → SlR K T B' .non H a ((vs.map some ++ List.replicate N none)[i]?) x := by
  intro i x e
  unfold env0 at e
  by_cases hi : i < (envA md ds).length
  · rw [List.getElem?_append_left hi] at e
    rw [List.getElem?_append_left (by rw [List.length_map, ← envA_len ar]; exact hi)]
    refine ⟨(envA_sl (T := fun _ => False) (fun _ z => z) (ad := fun _ => 0) ar e).1, fun T B' a hT hB => ?_⟩
    exact ((envA_sl (T := T) hT (ad := fun _ => a) ar e).2).gr (.sub fun _ z => z) (.sub hB) fun _ _ z => z
  · rw [List.getElem?_append_right (by omega)] at e
    rw [List.getElem?_replicate] at e
    split at e
    · cases e
      exact ⟨rfl, fun _ _ _ _ _ => True.intro⟩
    · cases e
/-- THE RULE for an __init__ that lets nothing out -/
theorem fn_okI {x qual : Str} {st : Stmt} {f C : Addr} {fd : FuncData} {N ps : List Str} {k : Nat} {md : List Md} {m : MS Unit} {g : List D → FO Unit (List Str × List D)} (F : Fun K x qual st f fd) (Sc : FnScope N ps (defScope st)) (hl : md.length + 1 = ps.length)
    (hg : ∀ y ds, (m (envI y C md (N.length - ps.length) ds) ()).foI y C = g ds)
    (hbody : ∀ (cdv : Value) (A : Around) (outer : List Env) (s : Shared) (H : Hp) (E : XK), Room k (A.deeper (PyProof.Rows.envOfC qual (defScope st) s.heap.objs.size f cdv)) →
      PSs (cxOf CX0 P w K mg base N qual (defScope st) f cdv A outer s H E).nox (defBody st) (tS K boxNil W0 m)) : FnOk P w K mg base CX0 (k + 1) f fd ps (spI K C md g) := by
  have hN : ps.length ≤ N.length := by have := congrArg List.length Sc.pre; rw [List.length_take] at this; omega
  refine F.ok Sc (fun vs H Q E ⟨_, _, _, _, _, _, e, _, _, _, _, _, ar, _⟩ => by rw [e, List.length_cons, ar.len, hl]) fun cdv A outer s H vs Q E hr ⟨y, dx, H1, B, rest, ds, ev, n1, n2, n3, eH, hB, ar, z⟩ => ?_
  subst ev eH
  have hv : rest.length = md.length := ar.len
  rw [← hg y ds] at z
  have sm : ∀ a o, H1 a = some o → upd (upd H1 dx (.own y)) y (.ins C dx []) a = some o := fun a o e => by
    rw [upd_ne (ne_of_none e n1), upd_ne (ne_of_none e n2)]; exact e
  refine ⟨_, hbody cdv A outer s _ E hr, ⟨B, fun _ => False, H1, .non⟩, envI y C md (N.length - ps.length) ds, (), [], ?_, Cl.nil, ?_⟩
  · have hgo := envA_noB (T := fun _ => False) ar (N.length - ps.length)
    have own0 : ∀ (i : Nat) (u : Sl), (envI y C md (N.length - ps.length) ds)[i]? = some u → u.isOwn = true → i = 0 := fun i u e o => by
      cases i with
      | zero => rfl
      | succ i => rw [(hgo i u e).1] at o; cases o
    have est : L2.start N (.ref y :: rest) = some (.ref y) :: (rest.map some ++ List.replicate (N.length - ps.length) none) := by
      unfold L2.start
      rw [List.map_cons, List.cons_append, List.length_cons, hv, hl]
    have nO : ∀ a, Ow (fun _ => y) (envI y C md (N.length - ps.length) ds) [] a → a = y := fun a z => by
      rcases z with ⟨i, u, e, o, q⟩ | ⟨p, hp, _⟩
      · exact q.symm
      · cases hp
    have subB : ∀ a, Bv ⟨B, fun _ => False, H1, .non⟩ (fun _ => False) (fun _ => y) (envI y C md (N.length - ps.length) ds) [] a → B a ∨ H1 a = none := fun a z => z.imp (fun q => q) fun z => z.elim (fun z => z.elim) fun z => (nO a z) ▸ n1
    have subT : ∀ a, Tv (fun _ => False) (fun _ => y) (envI y C md (N.length - ps.length) ds) [] a → False ∨ H1 a = none := fun a z => z.imp (fun q => q) fun z => (nO a z) ▸ n1
    refine ⟨fun _ => y, .non, fun _ => False, ?_, fun a o e _ => sm a o e, fun a e => ?_, fun _ h => h, ⟨fun a z => z.elim, fun _ => ⟨rfl, rfl⟩⟩, hB, fun i u e o => ⟨n1, fun z => z⟩, fun p hp => (nomatch hp), fun i j u v ei ej oi oj _ => by rw [own0 i u ei oi, own0 j v ej oj], fun i u p e o hp => (nomatch hp), .nil, fun i u e => ?_, fun p hp => (nomatch hp)⟩
    · rw [est]
      unfold envI env0
      rw [List.length_cons, List.length_cons, List.length_append, List.length_append, List.length_map, List.length_replicate, List.length_replicate, envA_len ar]
    · show H1 a = none
      cases q : H1 a with
      | none => rfl
      | some o => rw [sm a o q] at e; cases e
    · rw [est]
      cases i with
      | zero =>
        have e : some (Sl.slf y C [] []) = some u := e
        cases e
        exact ⟨rfl, rfl, dx, [], upd_same, rfl, .nil⟩
      | succ i =>
        have q := (hgo i u e).2 (fun _ => False) B y (fun _ z => z) fun _ z => z
        exact q.gr ⟨fun a o e _ => sm a o e, subT⟩ ⟨fun a o e _ => sm a o e, subB⟩ fun ho _ _ => by rw [(hgo i u e).1] at ho; cases ho
  · cases e : m (envI y C md (N.length - ps.length) ds) () with
    | nx env1 s1 =>
      cases env1 with
      | nil => simp only [e, SO.foI] at z
      | cons sl env1 =>
        cases sl with
        | slf y' C' ns es =>
          simp only [e, SO.foI] at z
          by_cases hc : y' = y ∧ C' = C
          · rw [if_pos hc] at z
            obtain ⟨rfl, rfl⟩ := hc
            intro σ' H' ⟨ad, bv, bm, R⟩
            obtain ⟨fa, fσ, dx', fs, q1, q2, q3⟩ := R.sl 0 _ rfl
            rw [fa] at q1
            refine z H' (fun a o e => R.ext a o e fun z => z) ⟨dx', fs, q1, q2, q3.gr (.sub fun a h => ?_)⟩
            rcases h with h | h
            · exact .inl h
            · exact .inr (.inr (.inl ⟨0, _, rfl, rfl, fa.trans h.symm⟩))
          · rw [if_neg hc] at z; exact z.elim
        | _ => simp only [e, SO.foI] at z
    | _ => simp only [e, SO.foI] at z
end
end LM

namespace LM
open PySem L2

/-! ### the box: a list of three whole numbers -/
structure Bx where
  g : Int
  m : Int
  n : Int
def Bx.at (s : Bx) : Nat → Int
  | 0 => s.g
  | 1 => s.m
  | _ => s.n
def Bx.put (s : Bx) (j : Nat) (z : Int) : Bx := match j with
  | 0 => { s with g := z }
  | 1 => { s with m := z }
  | _ => { s with n := z }
def Bx.l (s : Bx) : List V := [.int s.g, .int s.m, .int s.n]
def boxR (s : Bx) (bv : V) (bm : Addr → Prop) (H : Hp) : Prop := ∃ p, bv = .ref p ∧ (∀ a, bm a ↔ a = p) ∧ H p = some (.lst s.l)
def boxL : BoxI Bx where
  rel := boxR
  frame := fun ⟨p, e, m, h⟩ k => ⟨p, e, m, (k p ((m p).mpr rfl)).trans h⟩
  dom := fun ⟨p, e, m, h⟩ k => by rw [(m _).mp k, h]; exact fun z => by cases z
  fix := true
def boxW : BoxI (Option Bx) where
  rel := fun s bv bm H => match s with
    | none => ∀ a, ¬ bm a
    | some s => boxR s bv bm H
  frame := fun {s bv bm H H'} h k => by
    cases s with
    | none => exact h
    | some s => exact boxL.frame h k
  dom := fun {s bv bm H a} h k => by
    cases s with
    | none => exact absurd k (h a)
    | some s => exact boxL.dom h k
  fix := false
def lensW : Lens (Option Bx) Bx := ⟨fun s => s, fun _ t => some t⟩
theorem lensW_ok : LensOk boxW boxL lensW := ⟨fun {s t bv bm H} e h => by cases (show s = some t from e); exact h, fun _ _ h => h⟩
def lensL : Lens Bx Bx := ⟨some, fun _ t => t⟩
theorem lensL_ok : LensOk boxL boxL lensL := ⟨fun e h => by cases e; exact h, fun _ _ h => h⟩
def mBGet (i j : Nat) : MX Bx W := fun env s => match env[i]? with
  | some .box => .ok (.v (.int (s.at j))) env s
  | _ => .bad
def mBSet (i j : Nat) (me : MX Bx W) : MS Bx := fun env s => (me env s).bindS fun w env s => match w, env[i]? with
  | .v (.int z), some .box => .nx env (s.put j z)
  | _, _ => .bad
section
variable {X : Cx} {Wx : WX} {e : Expr} {pos pos' p1 p2 : Pos} {me : MX Bx W}
theorem at_l (s : Bx) {j : Nat} (hj : j < 3) : atI s.l (j : Int) = some (.int (s.at j)) := by
  match j, hj with
  | 0, _ => rfl
  | 1, _ => rfl
  | 2, _ => rfl
theorem d_bget {i j : Nat} {x : Str} {k} (hj : j < 3) (hN : X.N[i]? = some x := by rfl) (hv : Vis X.env.scope x := by first | exact Or.inl rfl | exact Or.inr (Or.inl rfl) | exact Or.inr (Or.inr rfl)) (hd : (x == ("__debug__" : Str)) = false := by decide) (hcd : (x == ("__classdict__" : Str)) = false := by decide) :
    PE X (.Subscript (.Name x p1) (.Constant (.int (j : Nat)) k p2) pos) (tD X.K boxL Wx (mBGet i j)) := by
  refine PEimp (pe_ix ix_list (pe_var (i := i) hN hv hd hcd) pe_int (fun _ _ => rfl)) fun σ H Q ⟨G, env, s, ts, ⟨ad, bv, bm, R⟩, h⟩ => ?_
  unfold mBGet at h
  cases q : env[i]? with
  | none => simp only [q] at h
  | some y =>
    cases y with
    | box =>
      simp only [q] at h
      obtain ⟨p, eb, mb, hp⟩ := R.box
      have e1 : σ[i]? = some (some bv) := R.sl i _ q
      exact ⟨bv, e1, p, s.l, j, .int (s.at j), eb, rfl, .of hp, at_l s hj, h _ H ⟨ad, bv, bm, R.pushV (.int _)⟩⟩
    | _ => simp only [q] at h
theorem s_bset {i j : Nat} {x : Str} {k} (hj : j < 3) (he : PE X e (tD X.K boxL Wx me)) (hN : X.N[i]? = some x := by rfl) (hv : Vis X.env.scope x := by first | exact Or.inl rfl | exact Or.inr (Or.inl rfl) | exact Or.inr (Or.inr rfl)) (hd : (x == ("__debug__" : Str)) = false := by decide) (hcd : (x == ("__classdict__" : Str)) = false := by decide)
    (hs : swapsWithSole [.Subscript (.Name x p1) (.Constant (.int (j : Nat)) k p2) pos'] e pos.line X.env = pure false := by rfl) (hw : swappedStores [.Subscript (.Name x p1) (.Constant (.int (j : Nat)) k p2) pos'] e X.env = pure none := by rfl) :
    PS X (.Assign [.Subscript (.Name x p1) (.Constant (.int (j : Nat)) k p2) pos'] e pos) (tS X.K boxL Wx (mBSet i j me)) := by
  refine PSimp (ps_asg he (pg_sub (pe_var (i := i) hN hv hd hcd) pe_int set_list) hs hw) fun Dn σ H ⟨G, env, s, ts, R, cl, h⟩ => ?_
  refine tD_bindS (Dn := Dn) R h fun w env1 s1 v H1 ⟨ad, bv, bm, R1⟩ z => ?_
  cases w with
  | v d =>
    cases d with
    | int y =>
      cases q : env1[i]? with
      | none => simp only [q] at z; exact z.elim
      | some u =>
        cases u with
        | box =>
          simp only [q] at z
          have rv : Rep X.K _ H1 v (.int y) := R1.tm _ List.mem_cons_self
          cases rv
          obtain ⟨p, eb, mb, hp⟩ := R1.box
          have e1 : σ[i]? = some (some bv) := R1.sl i _ q
          have el : (s1.l.set j (.int y)) = (s1.put j y).l := by
            match j, hj with
            | 0, _ => rfl
            | 1, _ => rfl
            | 2, _ => rfl
          refine ⟨bv, e1, p, s1.l, j, j, eb, rfl, hp, ?_, ?_⟩
          · unfold ixN
            rw [if_pos (by omega), if_pos (by show (j : Int) < ((3 : Nat) : Int); omega)]
            simp
          · rw [el]
            refine z σ _ ⟨ad, bv, bm, (R1.pop).grow (fun a o e n => ?_) (fun a e => ?_) ⟨p, eb, mb, upd_same⟩⟩
            · rw [upd_ne fun z => n ((mb a).mpr z)]; exact e
            · by_cases na : a = p
              · rw [na, upd_same] at e; cases e
              · rw [upd_ne na] at e; exact e
        | _ => simp only [q] at z; exact z.elim
    | _ => exact z.elim
  | _ => exact z.elim
end

/-! ### a def that hands back a new list -/
def spF (K : PySem.W.Frag) (md : List Md) (m : List D → FO Unit (List D)) : Sp := fun vs H Q E => ∃ (B : Addr → Prop) (ds : List D),
  (∀ a, B a → H a ≠ none) ∧ ArgsR K (fun _ => False) B H .non md vs ds ∧
  match m ds with
  | .ok es _ => ∀ a xs H', (∀ b o, H b = some o → H' b = some o) → H a = none → H' a = some (.lst xs) → Reps K (fun b => B b ∨ b = a) H' xs es → Q (.ref a) H'
  | _ => False
def SO.foF {S : Type} : SO S → FO S (List D)
  | .rf ds _ s => .ok ds s
  | _ => .bad
section
variable {P : Program} {w : World} {K : PySem.W.Frag} {mg : Str → Option Value} {base : Heap}
theorem fn_okF {x qual : Str} {st : Stmt} {f : Addr} {fd : FuncData} {N ps : List Str} {k : Nat} {md : List Md} {m : MS Unit} (F : Fun K x qual st f fd) (Sc : FnScope N ps (defScope st)) (hl : md.length = ps.length)
    (hbody : ∀ (cdv : Value) (A : Around) (outer : List Env) (s : Shared) (H : Hp) (E : XK), Room k (A.deeper (PyProof.Rows.envOfC qual (defScope st) s.heap.objs.size f cdv)) →
      PSs (cxOf CX0 P w K mg base N qual (defScope st) f cdv A outer s H E).nox (defBody st) (tS K boxNil W0 m)) : FnOk P w K mg base CX0 (k + 1) f fd ps (spF K md fun ds => (m (env0 md (N.length - ps.length) ds) ()).foF) := by
  have hN : ps.length ≤ N.length := by have := congrArg List.length Sc.pre; rw [List.length_take] at this; omega
  refine F.ok Sc (fun vs H Q E ⟨_, _, _, ar, _⟩ => by rw [ar.len, hl]) fun cdv A outer s H vs Q E hr ⟨B, ds, hB, ar, z⟩ => ?_
  have hv : vs.length = ps.length := by rw [ar.len, hl]
  refine ⟨_, hbody cdv A outer s H E hr, ⟨B, fun _ => False, H, .non⟩, env0 md (N.length - ps.length) ds, (), [], ?_, Cl.nil, ?_⟩
  · rw [← hv]; exact er_start (by omega) (fun _ h => h.elim) hB (fun _ h => h) ar
  · cases e : m (env0 md (N.length - ps.length) ds) () with
    | rf es env1 s1 =>
      simp only [e, SO.foF] at z
      intro v σ' H' ⟨ad, bv, bm, R⟩
      obtain ⟨a, xs, e1, e2, r⟩ := R.tm _ List.mem_cons_self
      obtain rfl : v = .ref a := e1
      obtain ⟨h0, _⟩ := R.tow _ List.mem_cons_self rfl a rfl
      refine z a xs H' (fun b o q => R.ext b o q fun z => z) h0 e2 (r.gr (.sub fun b h => ?_))
      rcases h with h | h
      · exact .inl h
      · exact .inr (.inr (.inr ⟨_, List.mem_cons_self, rfl, by rw [h]⟩))
    | rt d env1 s1 => simp only [e, SO.foF] at z
    | nx env1 s1 => simp only [e, SO.foF] at z
    | bk env1 s1 => simp only [e, SO.foF] at z
    | ct env1 s1 => simp only [e, SO.foF] at z
    | ex x env1 s1 => simp only [e, SO.foF] at z
    | bad => simp only [e, SO.foF] at z
end
def Sl.noBox : Sl → Bool
  | .box => false
  | _ => true
/-- box = f(..), f hands back a new list -/
def mNewBox (i : Nat) (md : List Md) (f : List D → FO Unit (List D)) (ms : MX (Option Bx) (List W)) : MS (Option Bx) := fun env s => (ms env s).bindS fun ws env s => match bindA env md ws with
  | some ds => match f ds with
    | .ok [.int g, .int m, .int n] _ => if (env.set i .no).all Sl.noBox then .nx (env.set i .box) (some ⟨g, m, n⟩) else .bad
    | _ => .bad
  | none => .bad
section
variable {X : Cx} {Wx : WX} {CX : CXT} {a : Expr} {es : List Expr} {pos p pos' pc : Pos} {ms : MX (Option Bx) (List W)} {md : List Md} {k : Nat} {fa : Addr} {fd : FuncData} {ps : List Str} {x y : Str}
theorem ERa.newbox {K : PySem.W.Frag} {G : Gh} {ad : Nat → Addr} {bv : V} {bm : Addr → Prop} {env : List Sl} {s : Option Bx} {ts : List (V × W)} {σ : St} {H H' : Hp} {i : Nat} {b : Addr} {t : Bx} (R : ERa K boxW G ad bv bm env s ts σ H) (cl : Cl ts)
    (hs : ∀ a o, H a = some o → H' a = some o) (hn : H b = none) (hb : H' b = some (.lst t.l)) (ha : (env.set i Sl.no).all Sl.noBox = true) :
    ERa K boxW G ad (.ref b) (fun a => a = b) (env.set i .box) (some t) ts (σ.set i (some (.ref b))) H' := by
  have R1 := R.putNo (i := i) (v := some (.ref b)) cl
  have hall : ∀ (j : Nat) (x : Sl), (env.set i Sl.no)[j]? = some x → x ≠ Sl.box := fun j x e z => by
    have := List.all_eq_true.mp ha x (List.mem_of_getElem? e)
    rw [z] at this; cases this
  have get : ∀ (j : Nat) (x : Sl), (env.set i Sl.box)[j]? = some x → (j = i ∧ x = Sl.box) ∨ (j ≠ i ∧ (env.set i Sl.no)[j]? = some x) := fun j x e => by
    rcases set_get e with ⟨h1, h2, _⟩ | ⟨h1, h2⟩
    · exact .inl ⟨h1, h2⟩
    · exact .inr ⟨h1, by rw [List.getElem?_set_ne (Ne.symm h1)]; exact h2⟩
  have go : ∀ a, Ow ad (env.set i .box) ts a → Ow ad (env.set i .no) ts a := fun a z => z.imp (fun ⟨j, x, e, o, q⟩ => by
    rcases get j x e with ⟨_, rfl⟩ | ⟨_, e⟩
    · cases o
    · exact ⟨j, x, e, o, q⟩) fun q => q
  have dm : ∀ a, H' a = none → H a = none := fun a e => by cases q : H a with | none => rfl | some o => rw [hs a o q] at e; cases e
  have gt : Gr (Tv bm ad (env.set i .no) ts) (Tv (fun a => a = b) ad (env.set i .box) ts) H H' := ⟨fun a o e _ => hs a o e, fun a z => z.elim (fun z => .inr (z ▸ hn)) fun z => .inl (.inr (go a z))⟩
  have g : Gr (Bv G bm ad (env.set i .no) ts) (Bv G (fun a => a = b) ad (env.set i .box) ts) H H' := ⟨fun a o e _ => hs a o e, fun a z => z.elim (fun z => .inl (.inl z)) fun z => z.elim (fun z => .inr (z ▸ hn)) fun z => .inl (.inr (.inr (go a z)))⟩
  refine ⟨by rw [List.length_set, List.length_set]; exact R.len, fun a o e n => hs a o (R.ext a o e n), fun a e => R.dom a (dm a e), ⟨b, rfl, fun a => Iff.rfl, hb⟩, ⟨fun a z => .inr (R.dom a (z ▸ hn)), fun z => nomatch z⟩, R.bdom, fun j x e o => ?_, fun p hp f => (by rw [cl.nf hp] at f; cases f), fun j l x u ej el oj ol => ?_, fun j x p e o hp f => (by rw [cl.nf hp] at f; cases f), R.d3, fun j x e => ?_, fun p hp => ?_⟩
  · rcases get j x e with ⟨_, rfl⟩ | ⟨_, e⟩
    · cases o
    · refine ⟨(R1.own j x e o).1, fun z => ?_⟩
      exact R1.tdom (.inr (.inl ⟨j, x, e, o, z⟩)) hn
  · rcases get j x ej with ⟨_, rfl⟩ | ⟨_, ej'⟩
    · cases oj
    rcases get l u el with ⟨_, rfl⟩ | ⟨_, el'⟩
    · cases ol
    exact R1.d1 j l x u ej' el' oj ol
  · rcases set_get e with ⟨rfl, rfl, hl⟩ | ⟨ne, _⟩
    · show (σ.set j (some (.ref b)))[j]? = some (some (.ref b))
      rw [List.getElem?_set_self (by rw [R.len]; exact hl)]
    · rcases get j x e with ⟨h, _⟩ | ⟨_, e'⟩
      · exact absurd h ne
      · have q := (R1.sl j x e').gr gt g fun _ u q => hs _ _ q
        cases x with
        | box => exact absurd rfl (hall j _ e')
        | _ => exact q
  · have q := R1.tm p hp
    rcases cl p hp with ⟨d, e⟩ | ⟨d, e⟩
    · rw [e] at q ⊢; exact Rep.gr g _ _ q
    · rw [e] at q ⊢; exact Top.gr gt g q
theorem s_newbox {i : Nat} {f : List D → FO Unit (List D)} (F : FnOk X.prog X.w X.K X.mg X.base CX k fa fd ps (spF X.K md f)) (hr : Room k X.A) (hg : Gl X x) (hm : X.mg x = some (.ref fa)) (hk : PySem.W.keepIn X.K (.ref fa) = true) (hb : Binds X.K fd ps [])
    (hx : ∀ σ, PassesAt CX X σ (WE W0 σ)) (ha : PA X (a :: es) (tDs X.K boxW Wx ms)) (hN : X.N.Nodup) (hi : X.N[i]? = some y) (hy : Loc X.env.scope y) (hmd : md.any Md.isB = false := by rfl) (hdb : (x == ("__debug__" : Str)) = false := by decide) (he : starEach (a :: es) X.env = (false, eval a X.env) :: starEach es X.env := by rfl)
    (hpl : (backTo pc (starEach es X.env)).any (·.1) = false := by rfl) (hs : swapsWith (.Call (.Name x p) (a :: es) [] pc) (some (.Name y pos')) pos.line X.env = pure false := by rfl)
    (hf : X.fn y = true ∨ X.env.scope.names.lookup y = some .local := by first | exact .inl rfl | exact .inr rfl | assumption) :
    PS X (.Assign [.Name y pos'] (.Call (.Name x p) (a :: es) [] pc) pos) (tS X.K boxW Wx (mNewBox i md f ms)) := by
  refine PSimp (ps_set hN hi hy (pe_callSD (E := fun σ => WE W0 σ) F hr hg hm hk hb .nil hx ha hdb he hpl) hs hf) fun Dn σ H ⟨G, env, s, ts, R, cl, h⟩ => ?_
  refine ⟨G, env, s, ts, R, ?_⟩
  unfold mNewBox at h
  cases e : ms env s with
  | ex e' env1 s1 => rw [e] at h; exact fun dx H' q => h dx σ H' q
  | bad => rw [e] at h; exact h
  | ok ws env1 s1 =>
    rw [e] at h
    intro vs H1 hl ⟨ad, bv, bm, R1⟩
    rw [List.append_nil]
    dsimp only [Out.bindS] at h
    cases e2 : bindA env1 md ws with
    | none => simp only [e2] at h
    | some ds =>
      simp only [e2] at h
      refine ⟨_, ds, fun a => R1.avdom, (argsB R1 hl zip_in e2).pure hmd, ?_⟩
      cases e3 : f ds with
      | ex _ _ => simp only [e3] at h
      | bad => simp only [e3] at h
      | ok es u =>
        simp only [e3] at h
        intro b xs H2 same hn hb2 r
        have R2 := R1.pops
        match es, h with
        | [.int g, .int m, .int n], h =>
          dsimp only at h
          by_cases hc : (env1.set i Sl.no).all Sl.noBox = true
          · rw [if_pos hc] at h
            have ex : xs = [.int g, .int m, .int n] := by
              cases r with
              | cons r1 r =>
                cases r with
                | cons r2 r =>
                  cases r with
                  | cons r3 r =>
                    cases r; cases r1; cases r2; cases r3
                    rfl
            subst ex
            exact h _ _ ⟨ad, .ref b, _, R2.newbox (t := ⟨g, m, n⟩) cl same hn hb2 hc⟩
          · rw [if_neg hc] at h; exact h.elim
end
end LM

namespace LM
open PySem PySem.Spec PyProof.Rows L2

/-! ### the law's own call, whose around is known -/
theorem body_run {P : Program} {w : World} {K : PySem.W.Frag} {mg : Str → Option Value} {base : Heap} {k : Nat} {x qual : Str} {st : Stmt} {f : Addr} {fd : FuncData} {N ps : List Str} {A : Around} {outer : List Env} {sh : Shared} {Hh : Hp} {args : Args} {us : List Value} {vs : List V} {Q : VK}
    (F : Fun K x qual st f fd) (Sc : FnScope N ps (defScope st)) (room : Room (k + 1) A) (en : Env0 P w K mg base A outer sh Hh) (bnd : BindsTo sh fd args (ps.zip us)) (rel : Vals vs us) (hlen : vs.length = ps.length)
    (hbody : ∀ (cdv : Value) (E : XK), Room k (A.deeper (envOfC qual (defScope st) sh.heap.objs.size f cdv)) →
      ∃ t, PSs (cxOf CX0 P w K mg base N qual (defScope st) f cdv A outer sh Hh E).nox (defBody st) t ∧ t { nx := fun _ H' => Q .non H', rt := Q } (L2.start N vs) Hh) :
    codeAny (model P w) A (.call (.ref f) args) (CR CX0 outer P w Hh sh Q E0) sh := by
  obtain ⟨oc, od, kV, doc, pm, an, cdv, ct, osl, rfl, lk, hcd⟩ := F.ex
  have inK : K.In sh.heap := en.mod.kin.keeps fun b o e => (en.bs b o e).1
  have nolim : sh.heap.NoLimit := en.mod.nolimit.keeps fun b o e => (en.bs b o e).1
  have kinds : ∀ y ∈ ps.zip us, (defScope st).names.lookup y.1 = some .local ∨ ((defScope st).names.lookup y.1 = some .cell ∧ ((cellsFrom (sh.heap.objs.size + 1) (defScope st).names []).lookup y.1).isSome = true) := by
    rintro ⟨n, v⟩ hy
    rcases Sc.par n (List.of_mem_zip hy).1 with q | q
    · exact .inl q
    · exact .inr ⟨q, PySem.W.cellsFrom_some _ _ _ (.inl q)⟩
  refine codeAny_call_function room.depth (inK _ _ lk) rfl Sc.co Sc.gen rfl (PySem.W.codeRec_of inK hcd) (bnd _ _ _ _ ?_)
  refine wpAny_newFunctionEnv_cells Sc.kind kinds fun env ee sh1 call1 => ?_
  subst ee
  refine ⟨nolim.keeps call1.toInCall.keep, codeAny_func ?_⟩
  obtain ⟨t, runs, reads⟩ := hbody cdv E0 (room.deeper _)
  have J0 := inv_start (CX := CX0) (E := E0) Sc room.hd en hlen rel call1
  refine wpAny_mono (runs.nox.run [] sh1 (L2.start N vs) Hh _ J0 reads) (fun fl sh2 hs => ?_) fun e sh2 hs => hs
  have fin : ∀ {σ' : L2.St} {H' : Hp} {v : V} {u : Value}, Inv (cxOf CX0 P w K mg base N qual (defScope st) f cdv A outer sh Hh E0) [] σ' H' sh2 → RelV v u → Q v H' → CE outer P w Hh sh Q u sh2 := by
    intro σ' H' v u J rv q
    exact ⟨v, H', J.os, J.bare, J.base, J.hok, rv, q⟩
  cases fl with
  | next =>
    obtain ⟨σ', H', J, q⟩ := hs
    exact fin (v := V.non) (u := Value.none) J rfl q
  | ret u =>
    obtain ⟨v, σ', H', J, rv, q⟩ := hs
    exact fin J rv q
  | brk =>
    obtain ⟨_, _, _, q⟩ := hs
    exact False.elim q
  | cont =>
    obtain ⟨_, _, _, q⟩ := hs
    exact False.elim q
/-- what the law's body is to do: from the script's data it hands back True -/
def LawOk (m : MS (Option Bx)) (n : Nat) : Prop := ∀ ns : List Int, ns.length ≤ 63 → ∃ env s, m (env0 [.v] n [.lst (ns.map D.int)]) none = .rt (.bl true) env s
theorem reps_ints {K : PySem.W.Frag} {B : Addr → Prop} {Hh : Hp} : ∀ ns : List Int, Reps K B Hh (ns.map V.int) (ns.map D.int)
  | [] => .nil
  | n :: ns => .cons (.int n) (reps_ints ns)
theorem law_go {P : Program} {w : World} {K : PySem.W.Frag} {mg mb : Str → Option Value} {k : Nat} {fa a : Addr} {fd : FuncData} {qual : Str} {st : Stmt} {N : List Str} {x : Str} {m : MS (Option Bx)} {sh : Shared} {vs : List Value} {ns : List Int}
    (inK : K.In sh.heap) (hns : sh.heap.Ns mainGlobals mg) (hbl : sh.heap.Ns builtinsNs mb) (hbb : ∀ x : Str, x ≠ "__name__" → mb x = bootBuiltins x) (nolim : sh.heap.NoLimit) (hgens : sh.gens = #[])
    (ha : sh.heap.get? a = some { cls := .type "list", data := .seq vs.toArray }) (hi : IntsAre vs ns) (hl : ns.length ≤ 63) (room : Room (k + 1) callerA) (F : Fun K qual qual st fa fd) (Sc : FnScope N [x] (defScope st)) (bnd : ∀ (s : Shared) (u : Value), BindsTo s fd ⟨[u], []⟩ [(x, u)])
    (hbody : ∀ (base : Heap) (cdv : Value) (s : Shared) (H : Hp) (E : XK), K.In base → base.Ns mainGlobals mg → Room k (callerA.deeper (envOfC qual (defScope st) s.heap.objs.size fa cdv)) →
      PSs (cxOf CX0 P w K mg base N qual (defScope st) fa cdv callerA [] s H E).nox (defBody st) (tS K boxW W0 m)) (ok : LawOk m (N.length - 1)) :
    codeAny (model P w) callerA (.call (.ref fa) ⟨[.ref a], []⟩) (fun r s' => r = .ok (.ret (.bool true)) ∧ OldK sh.heap s'.heap ∧ s'.os = sh.os ∧ AllBare s'.gens) sh := by
  have rel := vals_ints hi
  have lenV := hi.length
  have h63 : ns.length ≤ sizeLine := by rw [sizeLine_eq]; omega
  have hN : 1 ≤ N.length := by have := congrArg List.length Sc.pre; rw [List.length_take] at this; simp at this; omega
  have main : ∀ H : Hp, Only H → (Rd H a (.lst (ns.map V.int)) ∨ WrL K a (ns.map V.int)) → HOk P w H sh.heap → (∀ b, H b ≠ none → b = a) → (H a ≠ none → K.lookup a = none) →
      codeAny (model P w) callerA (.call (.ref fa) ⟨[.ref a], []⟩) (fun r s' => r = .ok (.ret (.bool true)) ∧ OldK sh.heap s'.heap ∧ s'.os = sh.os ∧ AllBare s'.gens) sh := by
    intro H only seq hok onlyA notK
    have noDict : ∀ {b : Addr} {o : Obj} {es : Array DictEntry} {ep : Nat}, sh.heap.get? b = some o → o.data = .dict es ep → H b = none := by
      intro b o es ep e d
      cases q : H b with
      | none => rfl
      | some u =>
        obtain rfl : b = a := onlyA b (by rw [q]; simp)
        rw [ha] at e; cases e
        cases (show Data.seq vs.toArray _ = Data.dict es ep from d)
    have nsK : ∀ {b : Addr} {m : Str → Option Value}, sh.heap.Ns b m → (hidT sh.heap H).Ns b m := by
      rintro b m ⟨o, es, ep, e, d, r⟩
      exact ⟨o, es, ep, hidT_get e (noDict e d), d, r⟩
    have inB : K.In (hidT sh.heap H) := fun b o e => hidT_get (inK b o e) (by
      cases q : H b with
      | none => rfl
      | some u =>
        obtain rfl : b = a := onlyA b (by rw [q]; simp)
        rw [notK (by rw [q]; simp)] at e; cases e)
    have mod : Mod K mg (hidT sh.heap H) := ⟨inB, nsK hns, ⟨mb, nsK hbl, hbb⟩, let ⟨mc, h1, h2⟩ := nolim; ⟨mc, nsK h1, h2⟩⟩
    have en : Env0 P w K mg (hidT sh.heap H) callerA [] sh H := ⟨rfl, mod, fun b o e => of_hidT e, Nat.le_of_eq (hidT_size _ _), trivial, fun b hb => (nomatch hb), hok, .of_eq hgens⟩
    obtain ⟨env1, s1, res⟩ := ok ns hl
    refine codeAny_mono (body_run (Q := fun v _ => v = .bl true) (vs := [.ref a]) (us := [.ref a]) (ps := [x]) F Sc room en (bnd sh (.ref a)) (.cons rfl .nil) rfl fun cdv E r => ?_) fun r s' h => ?_
    · refine ⟨_, hbody _ cdv sh H E inB (nsK hns) r, ⟨fun _ => False, fun _ => False, H, .non⟩, env0 [.v] (N.length - 1) [.lst (ns.map D.int)], none, [], ?_, Cl.nil, ?_⟩
      · have hs : ArgsR K (fun _ => False) (fun _ => False) H .non [.v] [.ref a] [.lst (ns.map D.int)] := by
          refine .v ?_ .nil
          rcases seq with seq | seq
          · exact .lst (fun z => z) seq (reps_ints ns)
          · exact .wlst seq (reps_ints ns)
        exact er_start (I := boxW) (s := none) (bm := fun _ => False) (bv := .non) (N := N) (vs := [.ref a]) hN (fun _ h => h) (fun _ h => h.elim) (fun _ h => h) hs
      · rw [res]
        intro v σ' H' ⟨ad, bv, bm, R⟩
        have q : Rep K _ H' v (.bl true) := R.tm _ List.mem_cons_self
        cases q
        rfl
    · cases r with
      | error e => exact False.elim h
      | ok fl =>
        cases fl with
        | next => exact False.elim h
        | brk => exact False.elim h
        | cont => exact False.elim h
        | ret u =>
          obtain ⟨v, H', os, bare, un, hok', r', q⟩ := h
          obtain rfl : v = .bl true := q
          obtain rfl : u = Value.bool true := r'
          refine ⟨rfl, OldK.of_keep fun b o e => ?_, os, bare⟩
          cases q : H b with
          | none => exact un.keep b o e q (fun z => nomatch z) (fun z => nomatch z)
          | some u =>
            rcases only b with z | ⟨ob, xs, z⟩
            · rw [q] at z; cases z
            · obtain ⟨e1, _⟩ := hok b _ z
              obtain ⟨e2, _⟩ := hok' b _ (un.frzs b ob _ z)
              rw [e] at e1; cases e1
              exact e2
  cases hk : K.lookup a with
  | some o =>
    have e := inK a o hk
    rw [ha] at e
    cases e
    exact main (fun _ => none) (fun _ => .inl rfl) (.inr ⟨vs.toArray, _, hk, by rw [List.size_toArray, lenV]; exact h63, by simpa using rel⟩) (fun b u z => nomatch (show (none : Option HO) = some u from z)) (fun b z => absurd rfl z) fun z => absurd rfl z
  | none =>
    have at_ : ∀ {b : Addr} {u : HO}, (if b = a then some (HO.frz { cls := .type "list", data := .seq vs.toArray } (.lst (ns.map V.int))) else none) = some u → b = a ∧ u = HO.frz { cls := .type "list", data := .seq vs.toArray } (.lst (ns.map V.int)) := by
      intro b u z
      by_cases hb : b = a
      · rw [if_pos hb] at z; cases z; exact ⟨hb, rfl⟩
      · rw [if_neg hb] at z; cases z
    refine main (fun b => if b = a then some (.frz { cls := .type "list", data := .seq vs.toArray } (.lst (ns.map V.int))) else none) (fun b => ?_) (.inl (.inr ⟨{ cls := .type "list", data := .seq vs.toArray }, if_pos rfl⟩)) (fun b u z => ?_) (fun b z => ?_) fun _ => hk
    · by_cases hb : b = a
      · exact .inr ⟨_, _, if_pos hb⟩
      · exact .inl (if_neg hb)
    · obtain ⟨rfl, rfl⟩ := at_ z
      exact ⟨ha, by rw [List.length_map]; exact h63, vs, _, rel, ha⟩
    · by_cases hb : b = a
      · exact hb
      · exact absurd (if_neg hb) z
/-- THE END: the goal that the head leaves -/
theorem walk_law {l : PySem.W.OpenLaw} {k : Nat} {q : Program} {loose : List Str} {XP : (Str → Option Value) → Heap → Prop} {YP : World → Heap → Prop} {d : DefRec} {K : Params → PySem.W.Frag} {st : Stmt} {N : List Str} {x : Str}
    (hn : l.most = some 63) (hdf : d.params.defaults = []) (room : Room (k + 1) callerA) (hY : ∀ (w : World) (h : Heap), YP w h → (K w.params).In h) (Sc : FnScope N [x] (defScope st))
    (F : ∀ (w : World) (mg : Str → Option Value) (fa : Addr) (h : Heap), (K w.params).In h → h.Ns mainGlobals mg → mg d.name = some (.ref fa) →
      ∃ (fd : FuncData) (m : MS (Option Bx)) (qual : Str), Fun (K w.params) qual qual st fa fd ∧ (∀ (s : Shared) (u : Value), BindsTo s fd ⟨[u], []⟩ [(x, u)]) ∧ LawOk m (N.length - 1) ∧
        ∀ (base : Heap) (cdv : Value) (s : Shared) (H : Hp) (E : XK), (K w.params).In base → base.Ns mainGlobals mg → Room k (callerA.deeper (envOfC qual (defScope st) s.heap.objs.size fa cdv)) →
          PSs (cxOf CX0 l.prog w (K w.params) mg base N qual (defScope st) fa cdv callerA [] s H E).nox (defBody st) (tS (K w.params) boxW W0 m)) :
    PySem.W.WalkO q loose XP YP l.row.toRowW d [] (fun f vs => PySem.call f vs) := by
  refine Att.attach_call hn hdf fun w s0 s1 mg mb fa o pm cd doc a vs ns G Y ho hd hcd hmg hobj hints hlen hg => ?_
  have inK := hY w _ Y
  obtain ⟨fd, m, qual, Ff, bnd, ok, hbody⟩ := F w mg fa _ inK G.T.g hmg
  exact law_go inK G.T.g G.T.b G.T.builtins G.T.nolimit hg hobj hints hlen room Ff Sc bnd hbody ok
end LM

namespace LM
open PySem L2
section
variable {S : Type} {X : Cx} {I : BoxI S} {Wx : WX} {a b c : Expr} {pos : Pos} {ma mb mc : MX S W}
theorem chain_red {op op' : CmpOp} {r r' : R2} {f g : D → D → Option Rs} (df : DOp X.K r f) (dg : DOp X.K r' g) {σ : L2.St} {H : Hp} {Q : VK} (h : tD X.K I Wx (mChain f g ma mb mc) σ H Q) : L2.tChain r r' (tD X.K I Wx ma) (tD X.K I Wx mb) (tD X.K I Wx mc) σ H Q := by
  obtain ⟨G, env, s, ts, R, h⟩ := h
  refine tD_bind (Z := ZD X.K I Wx G ts σ Q) R h (fun _ _ _ z => z) (fun z => z) fun w env1 s1 x H1 _ R1 z1 => ?_
  refine tD_bind (Z := ZD X.K I Wx G ts σ Q) R1 z1 (fun _ _ _ z dx H' q => z dx H' (q.less sl1)) (fun z => z) fun u env2 s2 y H2 _ R2 z2 => ?_
  cases e1 : w.rd env2 with
  | none => simp only [e1] at z2; exact z2.elim
  | some d =>
    cases e2 : u.rd env2 with
    | none => simp only [e1, e2] at z2; exact z2.elim
    | some e =>
      simp only [e1, e2] at z2
      obtain ⟨ad, bv, bm, R3⟩ := id R2
      cases e3 : f d e with
      | none => simp only [e3] at z2; exact z2.elim
      | some res =>
        simp only [e3] at z2
        refine df _ H2 x y d e res _ (R3.rd (p := (x, w)) (.tail _ List.mem_cons_self) e1) (R3.rd (p := (y, u)) List.mem_cons_self e2) (fun a => R3.avdom) e3 ?_
        cases res with
        | f ds => exact z2.elim
        | v k =>
          cases k with
          | bl k =>
            intro v H3 hs rep
            cases rep
            refine ⟨k, rfl, ?_⟩
            have R4 := R3.same hs
            cases k with
            | false => exact iteF (z2 _ H3 ⟨ad, bv, bm, (R4.less sl2).pushV (.bl _)⟩)
            | true =>
              refine iteT (tD_bind (Z := ZD X.K I Wx G ts σ Q) ⟨ad, bv, bm, R4⟩ z2 (fun _ _ _ z dx H' q => z dx H' (q.less sl2)) (fun z => z) fun h env5 s5 t H5 _ R5 z5 => ?_)
              exact op_fin dg (R5.less (.cons_cons _ (.cons_cons _ sl1))) z5
          | _ => exact z2.elim
theorem t_chain {op op' : CmpOp} {r r' : R2} {f g : D → D → Option Rs} (ho : OpR X (compareOp op) r) (df : DOp X.K r f) (ho' : OpR X (compareOp op') r') (dg : DOp X.K r' g) (ha : PE X a (tD X.K I Wx ma)) (hb : PE X b (tD X.K I Wx mb)) (hc : PE X c (tD X.K I Wx mc))
    (hm : lastMarks [op, op'] [b, c] = false := by with_unfolding_all rfl) : PT X (.Compare a [op, op'] [b, c] pos) (LM.tB X.K I Wx (mTest (mChain f g ma mb mc))) := by
  refine PTimp (pt_chain ho ho' ha hb hc hm) fun σ H Q ⟨G, env, s, ts, R, h⟩ => ?_
  exact chain_red (op := op) (op' := op') df dg (test_of R h)
theorem pass0At {X : Cx} (σ : L2.St) {E : XK} : PassesAt CX0 X σ E := fun _ _ _ _ _ _ h => h.elim
/-- list + list -/
def rCatG (K : PySem.W.Frag) : R2 := fun x y H Q => ∃ l b xs zs, x = .ref l ∧ y = .ref b ∧ (Rd H l (.lst xs) ∨ WrL K l xs) ∧ (Rd H b (.lst zs) ∨ WrL K b zs) ∧ xs.length + zs.length ≤ sizeLine ∧ ∀ p, H p = none → Q (.ref p) (upd H p (.lst (xs ++ zs)))
theorem lst_obj {X : Cx} {pins : List (Addr × Obj)} {σ : L2.St} {H : Hp} {s : Shared} {l : Addr} {xs : List V} (J : Inv X pins σ H s) (h : Rd H l (.lst xs) ∨ WrL X.K l xs) : ∃ (its : List Value) (n : Nat), Vals xs its ∧ s.heap.get? l = some { cls := .type "list", data := .seq its.toArray n } := by
  rcases h with h | ⟨its, n, e, _, r⟩
  · obtain ⟨z, its, n, r, e⟩ := h.ok J.hok
    exact ⟨its, n, r, e⟩
  · refine ⟨its.toList, n, r, ?_⟩
    have := J.kIn l _ e
    simpa using this
theorem op_catG {X : Cx} : OpR X (binaryOp .Add) (rCatG X.K) := by
  intro pins s σ H x y v u Q J rx ry ⟨l, b, xs, zs, e1, e2, hH, hB, hz, q⟩
  subst e1 e2
  cases rx
  cases ry
  obtain ⟨its, n, r, e⟩ := lst_obj J hH
  obtain ⟨its2, n2, r2, e2⟩ := lst_obj J hB
  have l1 := r.length
  have l2 := r2.length
  refine PySem.P.add_list e e2 ?_ (by rw [List.size_toArray, List.size_toArray]; omega)
  rw [show its.toArray ++ its2.toArray = (its ++ its2).toArray by simp]
  exact ⟨.ref _, _, J.lnew (t' := s.toks) (r.append r2) (by rw [List.length_append]; omega), rfl, q _ J.fresh⟩
theorem Top.lstG {K : PySem.W.Frag} {T B : Addr → Prop} {H : Hp} {v : V} {ds : List D} (h : Top K T B H v (.lst ds)) : ∃ a xs, v = .ref a ∧ (Rd H a (.lst xs) ∨ WrL K a xs) ∧ Reps K B H xs ds := by
  rcases h with h | ⟨a, xs, es, rfl, e, _, r, q⟩
  · cases h with
    | lst n r q => exact ⟨_, _, rfl, .inl r, q⟩
    | wlst r q => exact ⟨_, _, rfl, .inr r, q⟩
  · cases e
    exact ⟨a, xs, rfl, .inl r, q⟩
theorem do_cat {K : PySem.W.Frag} : DOp K (rCatG K) fCat := by
  intro B H x y d e res Q hx hy _ h q
  cases d <;> cases e <;> try (cases h; done)
  rename_i ds es
  simp only [fCat] at h
  split at h
  · rename_i hl
    cases h
    obtain ⟨l, xs, e1, r1, q1⟩ := hx.lstG
    obtain ⟨b, zs, e2, r2, q2⟩ := hy.lstG
    exact ⟨l, b, xs, zs, e1, e2, r1, r2, by rw [q1.len, q2.len, sizeLine_eq]; exact hl, fun p hp => q p _ hp (q1.app q2)⟩
  · cases h
end
end LM

namespace LM
open PySem L2

/-! ### two names at once -/
def W.sl : W → Option Sl
  | .v d => some (.val d)
  | .t d => some (.top d)
  | .f ds => some (.own ds)
  | _ => none
def Nl (ts : List (V × W)) : Prop := ∀ p ∈ ts, ∀ i, p.2 ≠ .l i
section
variable {S : Type} {K : PySem.W.Frag} {I : BoxI S} {G : Gh} {ad : Nat → Addr} {bv : V} {bm : Addr → Prop} {env : List Sl} {s s' : S} {ts ts' : List (V × W)} {σ : St} {H H' : Hp}
theorem ERa.putNl {x : Sl} {i : Nat} {v : Option V} (R : ERa K I G ad bv bm env s ts σ H) (cl : Nl ts) (nx : x.isOwn = false) (h : SlR K (Tv bm ad env ts) (Bv G bm ad env ts) bv H (ad i) (some v) x) : ERa K I G ad bv bm (env.set i x) s ts (σ.set i v) H := by
  have go : ∀ a, Ow ad (env.set i x) ts a → Ow ad env ts a := fun a z => z.imp (fun ⟨j, y, e, o, q⟩ => by
    rcases set_get e with ⟨_, rfl, _⟩ | ⟨_, e⟩
    · rw [nx] at o; cases o
    · exact ⟨j, y, e, o, q⟩) fun q => q
  have gt : Gr (Tv bm ad env ts) (Tv bm ad (env.set i x) ts) H H := .sub fun a z => z.imp (fun q => q) (go a)
  have g : Gr (Bv G bm ad env ts) (Bv G bm ad (env.set i x) ts) H H := .sub fun a z => z.imp (fun q => q) fun z => z.imp (fun q => q) (go a)
  refine ⟨by rw [List.length_set, List.length_set]; exact R.len, R.ext, R.dom, R.box, R.bfr, R.bdom, fun j y e o => ?_, R.tow, fun j k y z ej ek oj ok => ?_, fun j y p e o => ?_, R.d3, fun j y e => ?_, fun p hp => ?_⟩
  · rcases set_get e with ⟨_, rfl, _⟩ | ⟨_, e⟩
    · rw [nx] at o; cases o
    · exact R.own j y e o
  · rcases set_get ej with ⟨_, rfl, _⟩ | ⟨_, ej⟩
    · rw [nx] at oj; cases oj
    rcases set_get ek with ⟨_, rfl, _⟩ | ⟨_, ek⟩
    · rw [nx] at ok; cases ok
    exact R.d1 j k y z ej ek oj ok
  · rcases set_get e with ⟨_, rfl, _⟩ | ⟨_, e⟩
    · rw [nx] at o; cases o
    · exact R.d2 j y p e o
  · rcases set_get e with ⟨rfl, rfl, hl⟩ | ⟨ne, e⟩
    · rw [List.getElem?_set_self (by rw [R.len]; exact hl)]
      exact h.gr gt g fun _ _ q => q
    · rw [List.getElem?_set_ne (Ne.symm ne)]
      exact (R.sl j y e).gr gt g fun _ _ q => q
  · exact (R.tm p hp).gr gt g (fun _ _ _ _ q => q) fun j y e _ _ => absurd e (cl p hp j)
theorem ERa.putFNl {ds : List D} {i : Nat} {v : V} (R : ERa K I G ad bv bm env s ((v, .f ds) :: ts) σ H) (cl : Nl ts) : ∃ ad', ERa K I G ad' bv bm (env.set i (.own ds)) s ts (σ.set i (some v)) H := by
  obtain ⟨a, xs, e, e1, r⟩ := R.tm _ List.mem_cons_self
  obtain rfl : v = .ref a := e
  obtain ⟨h0, hb⟩ := R.tow _ List.mem_cons_self rfl a rfl
  refine ⟨fun j => if j = i then a else ad j, ?_⟩
  have go : ∀ b, Ow (fun j => if j = i then a else ad j) (env.set i (.own ds)) ts b → Ow ad env ((.ref a, .f ds) :: ts) b := fun b z => by
    rcases z with ⟨j, y, e, o, q⟩ | ⟨p, hp, q⟩
    · rcases set_get e with ⟨rfl, rfl, _⟩ | ⟨ne, e⟩
      · exact .inr ⟨_, List.mem_cons_self, rfl, by rw [← q]; simp⟩
      · exact .inl ⟨j, y, e, o, by rw [← q]; simp [ne]⟩
    · exact .inr ⟨p, List.mem_cons_of_mem _ hp, q⟩
  have gt : Gr (Tv bm ad env ((.ref a, .f ds) :: ts)) (Tv bm (fun j => if j = i then a else ad j) (env.set i (.own ds)) ts) H H := .sub fun b z => z.imp (fun q => q) (go b)
  have g : Gr (Bv G bm ad env ((.ref a, .f ds) :: ts)) (Bv G bm (fun j => if j = i then a else ad j) (env.set i (.own ds)) ts) H H := .sub fun b z => z.imp (fun q => q) fun z => z.imp (fun q => q) (go b)
  refine ⟨by rw [List.length_set, List.length_set]; exact R.len, R.ext, R.dom, R.box, R.bfr, R.bdom, fun j y e o => ?_, fun p hp => R.tow p (List.mem_cons_of_mem _ hp), fun j k y z ej ek oj ok q => ?_, fun j y p e o hp f => ?_, (List.pairwise_cons.mp R.d3).2, fun j y e => ?_, fun p hp => ?_⟩
  · rcases set_get e with ⟨rfl, rfl, _⟩ | ⟨ne, e⟩
    · simp only [if_pos]; exact ⟨h0, hb⟩
    · simp only [if_neg ne]; exact R.own j y e o
  · rcases set_get ej with ⟨rfl, rfl, _⟩ | ⟨nj, ej'⟩
    · rcases set_get ek with ⟨rfl, rfl, _⟩ | ⟨nk, ek'⟩
      · rfl
      · simp only [if_pos, if_neg nk] at q
        exact absurd (by rw [q]) (R.d2 k z _ ek' ok List.mem_cons_self rfl)
    · rcases set_get ek with ⟨rfl, rfl, _⟩ | ⟨nk, ek'⟩
      · simp only [if_pos, if_neg nj] at q
        exact absurd (by rw [q]) (R.d2 j y _ ej' oj List.mem_cons_self rfl)
      · simp only [if_neg nj, if_neg nk] at q
        exact R.d1 j k y z ej' ek' oj ok q
  · rcases set_get e with ⟨rfl, rfl, _⟩ | ⟨ne, e⟩
    · simp only [if_pos]
      exact fun z => (List.pairwise_cons.mp R.d3).1 p hp rfl f z.symm
    · simp only [if_neg ne]
      exact R.d2 j y p e o (List.mem_cons_of_mem _ hp) f
  · rcases set_get e with ⟨rfl, rfl, hl⟩ | ⟨ne, e⟩
    · rw [List.getElem?_set_self (by rw [R.len]; exact hl)]
      exact ⟨by simp, xs, by simpa using e1, r.gr g⟩
    · rw [List.getElem?_set_ne (Ne.symm ne)]
      simp only [if_neg ne]
      exact (R.sl j y e).gr gt g fun _ _ q => q
  · have q := R.tm p (List.mem_cons_of_mem _ hp)
    obtain ⟨v, w⟩ := p
    cases w with
    | v d => exact Rep.gr g _ _ q
    | t d => exact Top.gr gt g q
    | l j => exact absurd rfl (cl _ hp j)
    | f es => obtain ⟨b, ys, e2, e3, r2⟩ := q; exact ⟨b, ys, e2, e3, r2.gr g⟩
    | b => exact q
theorem ERa.putW {w : W} {x : Sl} {i : Nat} {v : V} (R : ERa K I G ad bv bm env s ((v, w) :: ts) σ H) (cl : Nl ts) (e : w.sl = some x) : ∃ ad', ERa K I G ad' bv bm (env.set i x) s ts (σ.set i (some v)) H := by
  have cons : ∀ {u : W}, (∀ j, u ≠ .l j) → Nl ((v, u) :: ts) := fun h p hp => by
    rcases List.mem_cons.mp hp with rfl | hp
    · exact h
    · exact cl p hp
  cases w with
  | v d =>
    cases e
    have r : Rep K (Bv G bm ad env ((v, .v d) :: ts)) H v d := R.tm _ List.mem_cons_self
    exact ⟨ad, (R.putNl (x := .val d) (cons fun j z => by cases z) rfl ⟨v, rfl, r⟩).pop⟩
  | t d =>
    cases e
    have r : Top K (Tv bm ad env ((v, .t d) :: ts)) (Bv G bm ad env ((v, .t d) :: ts)) H v d := R.tm _ List.mem_cons_self
    exact ⟨ad, (R.putNl (x := .top d) (cons fun j z => by cases z) rfl ⟨v, rfl, r⟩).pop⟩
  | f ds => cases e; exact R.putFNl cl
  | _ => cases e
theorem Cl.toNl (c : Cl ts) : Nl ts := fun p hp i => c.nl hp i
theorem W.sl_nl {w : W} {x : Sl} (e : w.sl = some x) (i : Nat) : w ≠ .l i := fun z => by subst z; cases e
end
theorem pass0W {X : Cx} (σ : L2.St) : PassesAt CX0 X σ (WE W0 σ) := pass0At σ
def mPar {S : Type} (i j : Nat) (m n : MX S W) : MS S := fun env s => (m env s).bindS fun w env s => (n env s).bindS fun u env s => match w.sl, u.sl with
  | some x, some y => .nx ((env.set i x).set j y) s
  | _, _ => .bad
def mIS {S : Type} (ma : MX S W) : MX S (List D) := ma.bind fun w => fun env s => match w with
  | .v (.str x) => .ok (x.cps.toList.map fun c => .str ⟨#[c]⟩) env s
  | _ => .bad
section
variable {S : Type} {X : Cx} {I : BoxI S} {Wx : WX} {a b tg : Expr} {pos px py pt pt2 : Pos} {ma mb : MX S W} {kt k2 : Nat}
theorem s_par {i j : Nat} {x y : Str} (hc : X.calm = true) (hN : X.N.Nodup) (hi : X.N[i]? = some x) (hj : X.N[j]? = some y) (hij : i ≠ j)
    (hx : X.env.scope.names.lookup x = some .local) (hy : X.env.scope.names.lookup y = some .local) (ha : PE X a (tD X.K I Wx ma)) (hb : PE X b (tD X.K I Wx mb))
    (hw : swappedStores [.Tuple [.Name x px, .Name y py] kt pt] (.Tuple [a, b] k2 pt2) X.env = pure (some [x, y]) := by rfl)
    (hs : swapsWithSole [.Tuple [.Name x px, .Name y py] kt pt] (.Tuple [a, b] k2 pt2) pos.line X.env = pure false := by rfl)
    (h1 : starEach [a, b] X.env = (false, eval a X.env) :: starEach [b] X.env := by rfl) (h2 : starEach [b] X.env = (false, eval b X.env) :: starEach [] X.env := by rfl) :
    PS X (.Assign [.Tuple [.Name x px, .Name y py] kt pt] (.Tuple [a, b] k2 pt2) pos) (tS X.K I Wx (mPar i j ma mb)) := by
  refine PSimp (ps_par hc hN hi hj hij hx hy (a_cons ha (a_cons hb a_nil h2) h1) hw hs) fun Dn σ H ⟨G, env, s, ts, R, cl, h⟩ => ?_
  refine ⟨G, env, s, ts, R, ?_⟩
  have h : ZS X.K I Wx G ts Dn (mPar i j ma mb env s) := h
  simp only [mPar, Out.bindS] at h
  simp only [mCons, mNil, MX.bind, Out.bind]
  cases e : ma env s with
  | bad => simp only [e] at h; exact h.elim
  | ex x env' s' => simp only [e] at h ⊢; exact fun dx H' R' => h dx σ H' R'
  | ok w env1 s1 =>
    simp only [e] at h ⊢
    cases e2 : mb env1 s1 with
    | bad => simp only [e2] at h; exact h.elim
    | ex x env' s' => simp only [e2] at h ⊢; exact fun dx H' R' => h dx σ H' R'
    | ok u env2 s2 =>
      simp only [e2] at h ⊢
      intro vs H1 hl R1
      obtain ⟨v1, v2, rfl⟩ : ∃ v1 v2, vs = [v1, v2] := by
        match vs, hl with
        | [v1, v2], _ => exact ⟨_, _, rfl⟩
      refine ⟨v1, v2, rfl, ?_⟩
      obtain ⟨ad, bv, bm, R2⟩ := R1
      cases f1 : w.sl with
      | none => simp only [f1] at h; exact h.elim
      | some x1 =>
        cases f2 : u.sl with
        | none => simp only [f1, f2] at h; exact h.elim
        | some y1 =>
          simp only [f1, f2] at h
          have R2 : ERa X.K I G ad bv bm env2 s2 ((v1, w) :: (v2, u) :: ts) σ H1 := R2
          obtain ⟨ad1, R3⟩ := R2.putW (i := i) (fun p hp k => by
            rcases List.mem_cons.mp hp with rfl | hp
            · exact W.sl_nl f2 k
            · exact cl.toNl p hp k) f1
          obtain ⟨ad2, R4⟩ := R3.putW (i := j) cl.toNl f2
          exact h _ _ ⟨ad2, bv, bm, R4⟩
theorem s_doc {x : Str} {k : Nat} {pos' : Pos} : PS X (.Expr (.Constant (.str x) k pos) pos') (tS X.K I Wx (mNext (S := S))) := PSimp ps_doc fun Dn σ H ⟨G, env, s, ts, R, cl, h⟩ => h σ H R
theorem wk_str {K : PySem.W.Frag} {G : Gh} {ts : List (V × W)} {x : Str} : Wk K I G ts [] (Its x) (x.cps.toList.map fun c => .str ⟨#[c]⟩) := by
  refine ⟨fun q hq => (nomatch hq), fun env s l σ H i R hi => ?_, fun env s l σ H i d R hd => ?_⟩
  · show x.cps.size ≤ i
    rw [hi]; simp
  · rw [List.getElem?_map] at hd
    cases e : x.cps.toList[i]? with
    | none => rw [e] at hd; cases hd
    | some c =>
      rw [e] at hd
      cases hd
      have hi : i < x.cps.size := by
        have := (List.getElem?_eq_some_iff.mp e).1
        simpa using this
      refine ⟨hi, fun v H' ⟨e1, c', e2, e3⟩ => ?_⟩
      subst e1 e3
      have ec : c' = c := by
        rw [← Array.getElem?_toList, e] at e2
        exact (Option.some.inj e2).symm
      subst ec
      obtain ⟨ad, bv, bm, R⟩ := R
      exact ⟨ad, bv, bm, R.pushV (.str _)⟩
theorem i_str (ha : PE X a (tD X.K I Wx ma)) : PI X tg a (tI X.K I Wx (mIS ma)) := by
  refine PIimp (pi_str ha) fun σ H R0 ⟨G, env, s, ts, R, h⟩ => ?_
  show tD X.K I Wx ma σ H _
  refine ⟨G, env, s, ts, R, ?_⟩
  cases e : ma env s with
  | ex e' env1 s1 =>
    simp only [mIS, MX.bind, Out.bind, e] at h
    exact h
  | bad => simp only [mIS, MX.bind, Out.bind, e] at h
  | ok w env1 s1 =>
    simp only [mIS, MX.bind, Out.bind, e] at h
    intro v H1 R1
    cases w with
    | v d =>
      cases d with
      | str x =>
        simp only at h
        obtain ⟨ad, bv, bm, R2⟩ := id R1
        have q : Rep X.K _ H1 v (.str x) := R2.tm _ List.mem_cons_self
        cases q
        exact ⟨x, rfl, h (Its x) [] H1 R1.pop wk_str⟩
      | _ => exact h.elim
    | _ => exact h.elim
end
end LM

namespace LM
open PySem L2
theorem W.rd_v (env : List Sl) (d : D) : W.rd env (.v d) = some d := rfl
theorem W.rd_t (env : List Sl) (d : D) : W.rd env (.t d) = some d := rfl
theorem W.rd_f (env : List Sl) (ds : List D) : W.rd env (.f ds) = some (.lst ds) := rfl
theorem W.rd_l (env : List Sl) (i : Nat) : W.rd env (.l i) = match env[i]? with
    | some (.own ds) => some (.lst ds)
    | some (.fz ds) => some (.lst ds)
    | _ => none := rfl
theorem W.kp_v (d : D) : W.kp (.v d) = some d := rfl
theorem Rs.w_v (d : D) : Rs.w (.v d) = .v d := rfl
theorem Rs.w_f (ds : List D) : Rs.w (.f ds) = .f ds := rfl
theorem resO_some {S : Type} (env : List Sl) (s : S) (r : Rs) : resO env s (some r) = .ok r.w env s := rfl
end LM

namespace LM
open PySem L2
/-! ### the mirrors, step by step -/
section
variable {S : Type} {env e1 e2 : List Sl} {s s1 s2 : S} {m n : MS S} {me : MX S W} {mc : MX S Bool} {mi : MX S (List D)} {ms : MX S (List W)} {d : D} {ds : List D} {i : Nat} {g : D → List Sl → Option (List Sl)} {body : MS S}
theorem seq_nx (h : m env s = .nx e1 s1) : mSeq m n env s = n e1 s1 := by simp [mSeq, h]
theorem seq_rt (h : m env s = .rt d e1 s1) : mSeq m n env s = .rt d e1 s1 := by simp [mSeq, h]
theorem set_v (h : me env s = .ok (.v d) e1 s1) : mSet i me env s = .nx (e1.set i (.val d)) s1 := by simp [mSet, Out.bindS, h]
theorem set_f (h : me env s = .ok (.f ds) e1 s1) : mSet i me env s = .nx (e1.set i (.own ds)) s1 := by simp [mSet, Out.bindS, h]
theorem ret_v (h : me env s = .ok (.v d) e1 s1) : mRet me env s = .rt d e1 s1 := by simp [mRet, Out.bindS, h, W.kp]
theorem ret_f (h : me env s = .ok (.f ds) e1 s1) : mRet me env s = .rf ds e1 s1 := by simp [mRet, Out.bindS, h]
theorem if_t (h : mc env s = .ok true e1 s1) : mIf mc m n env s = m e1 s1 := by simp [mIf, Out.bindS, h]
theorem if_f (h : mc env s = .ok false e1 s1) : mIf mc m n env s = n e1 s1 := by simp [mIf, Out.bindS, h]
theorem exp_w {w : W} (h : me env s = .ok w e1 s1) : mExp me env s = .nx e1 s1 := by simp [mExp, Out.bindS, h]
theorem for_x {xs : List D} (h : mi env s = .ok xs e1 s1) : mFor mi g body env s = mForL g body xs e1 s1 := by simp [mFor, Out.bindS, h]
/-- what each turn keeps, the walk keeps -/
theorem forL_inv {L : List D} (P : List Sl → S → Prop) (step : ∀ d ∈ L, ∀ env s, P env s → ∃ e1 e2 s2, g d env = some e1 ∧ body e1 s = .nx e2 s2 ∧ P e2 s2) : ∀ env s, P env s → ∃ e1 s1, mForL g body L env s = .nx e1 s1 ∧ P e1 s1 := by
  induction L with
  | nil => exact fun env s h => ⟨env, s, rfl, h⟩
  | cons d L ih =>
    intro env s h
    obtain ⟨a, b, s2, h1, h2, h3⟩ := step d List.mem_cons_self env s h
    obtain ⟨c, s3, h4, h5⟩ := ih (fun d hd => step d (List.mem_cons_of_mem _ hd)) b s2 h3
    exact ⟨c, s3, by simp only [mForL, h1, h2]; exact h4, h5⟩
/-- .. with the turns that are left -/
theorem forL_cnt {L : List D} (P : Nat → List Sl → S → Prop) (step : ∀ k, ∀ d ∈ L, ∀ env s, P (k + 1) env s → ∃ e1 e2 s2, g d env = some e1 ∧ body e1 s = .nx e2 s2 ∧ P k e2 s2) : ∀ k env s, P (k + L.length) env s → ∃ e1 s1, mForL g body L env s = .nx e1 s1 ∧ P k e1 s1 := by
  induction L with
  | nil => exact fun k env s h => ⟨env, s, rfl, h⟩
  | cons d L ih =>
    intro k env s h
    obtain ⟨a, b, s2, h1, h2, h3⟩ := step (k + L.length) d List.mem_cons_self env s (by rw [List.length_cons] at h; exact h)
    obtain ⟨c, s3, h4, h5⟩ := ih (fun k d hd => step k d (List.mem_cons_of_mem _ hd)) k b s2 h3
    exact ⟨c, s3, by simp only [mForL, h1, h2]; exact h4, h5⟩
theorem comp_inv {vs : List Nat} {mt : MX S Bool} {P : S → Prop} {Q : D → Prop} {L : List D} (e0 : List Sl)
    (step : ∀ d ∈ L, ∀ s, P s → ∃ e1 e2 e3 s2 s3 w x, g d e0 = some e1 ∧ mt e1 s = .ok true e2 s2 ∧ me e2 s2 = .ok w e3 s3 ∧ w.kp = some x ∧ nonref vs e3 = true ∧ wipeE e3 vs = e0 ∧ P s3 ∧ Q x) :
    ∀ acc s, P s → acc.length + L.length ≤ 16777216 → ∃ ys s1, mCompL vs g mt me L acc e0 s = .ok (.f (acc ++ ys)) e0 s1 ∧ ys.length = L.length ∧ (∀ y ∈ ys, Q y) ∧ P s1 := by
  induction L with
  | nil => exact fun acc s h _ => ⟨[], s, by rw [List.append_nil]; rfl, rfl, fun _ h => (nomatch h), h⟩
  | cons d L ih =>
    intro acc s h hl
    obtain ⟨e1, e2, e3, s2, s3, w, x, h1, h2, h3, h4, h5, h6, h7, h8⟩ := step d List.mem_cons_self s h
    rw [List.length_cons] at hl
    obtain ⟨ys, s4, h9, h10, h11, h12⟩ := ih (fun d hd => step d (List.mem_cons_of_mem _ hd)) (acc ++ [x]) s3 h7 (by rw [List.length_append, List.length_singleton]; omega)
    refine ⟨x :: ys, s4, ?_, by rw [List.length_cons, List.length_cons, h10], fun y hy => ?_, h12⟩
    · simp only [mCompL, h1, h2, Out.bindN, if_true, h3, h4, h5, h6]
      rw [if_pos ⟨by omega, trivial⟩, h9]
      simp
    · rcases List.mem_cons.mp hy with rfl | hy
      · exact h8
      · exact h11 y hy
/-- a comprehension that reads alone -/
theorem comp_map {vs : List Nat} {mt : MX S Bool} {f : D → D} {L : List D} (e0 : List Sl) (s : S)
    (step : ∀ d ∈ L, ∃ e1 e2 e3 w, g d e0 = some e1 ∧ mt e1 s = .ok true e2 s ∧ me e2 s = .ok w e3 s ∧ w.kp = some (f d) ∧ nonref vs e3 = true ∧ wipeE e3 vs = e0) :
    ∀ acc, acc.length + L.length ≤ 16777216 → mCompL vs g mt me L acc e0 s = .ok (.f (acc ++ L.map f)) e0 s := by
  induction L with
  | nil => exact fun acc _ => by rw [List.map_nil, List.append_nil]; rfl
  | cons d L ih =>
    intro acc hl
    obtain ⟨e1, e2, e3, w, h1, h2, h3, h4, h5, h6⟩ := step d List.mem_cons_self
    rw [List.length_cons] at hl
    simp only [mCompL, h1, h2, Out.bindN, if_true, h3, h4, h5, h6]
    rw [if_pos ⟨by omega, trivial⟩, ih (fun d hd => step d (List.mem_cons_of_mem _ hd)) (acc ++ [f d]) (by rw [List.length_append, List.length_singleton]; omega)]
    simp
theorem comp_x {S : Type} {env e1 : List Sl} {s s1 : S} {mi : MX S (List D)} {vs : List Nat} {g : D → List Sl → Option (List Sl)} {mt : MX S Bool} {me : MX S W} {xs : List D} (h : mi env s = .ok xs e1 s1) (hn : nonref vs e1 = true) : mComp mi vs g mt me env s = mCompL vs g mt me xs [] (wipeE e1 vs) s1 := by
  simp only [mComp, MX.bind, h, Out.bind, if_pos hn]
theorem ir_int {S : Type} {env e1 : List Sl} {s s1 : S} {ma : MX S W} {n : Int} (h : ma env s = .ok (.v (.int n)) e1 s1) (c1 : -4611686018427387904 ≤ n) (c2 : n < 4611686018427387904) : mIR ma env s = .ok ((List.range n.toNat).map fun i => .int (i : Nat)) e1 s1 := by
  simp only [mIR, MX.bind, h, Out.bind, c1, c2, and_self, if_true]
theorem ir_nat {S : Type} {env e1 : List Sl} {s s1 : S} {ma : MX S W} {n : Nat} (h : ma env s = .ok (.v (.int (n : Int))) e1 s1) (c : n < 4611686018427387904) : mIR ma env s = .ok ((List.range n).map fun i => .int (i : Nat)) e1 s1 := by
  have e := ir_int h (by omega) (by omega)
  rw [Int.toNat_natCast] at e
  exact e
theorem pop_int {ds : List D} {i : Int} (c1 : 0 ≤ i) (c2 : i < 4611686018427387904) : gPopAt ds [.int i] = (ds[i.toNat]?).map fun d => (d, ds.eraseIdx i.toNat) := by
  simp only [gPopAt, c1, c2, and_self, if_true]
theorem pop_nat {ds : List D} {j : Nat} (hj : j < ds.length) (hl : ds.length < 4611686018427387904) : gPopAt ds [.int (j : Int)] = some (ds[j], ds.eraseIdx j) := by
  have e := pop_int (ds := ds) (i := (j : Int)) (by omega) (by omega)
  rw [Int.toNat_natCast, List.getElem?_eq_getElem hj] at e
  exact e
theorem mut_l {S : Type} {env e1 e2 : List Sl} {s s1 s2 : S} {g : List D → List D → Option (D × List D)} {ma : MX S W} {ms : MX S (List W)} {i : Nat} {ds0 ds ds' es : List D} {ws : List W} {res : D} (ha : ma env s = .ok (.l i) e1 s1) (h1 : e1[i]? = some (.own ds0)) (hm : ms e1 s1 = .ok ws e2 s2) (hk : ws.mapM W.kp = some es) (h2 : e2[i]? = some (.own ds))
    (hg : g ds es = some (res, ds')) (hl : ds'.length ≤ 16777216) : mMut g ma ms env s = .ok (.v res) (e2.set i (.own ds')) s2 := by
  simp only [mMut, MX.bind, Out.bind, ha, h1, hm, hk, h2, hg, if_pos hl]
theorem cons_w {S : Type} {env e1 e2 : List Sl} {s s1 s2 : S} {ma : MX S W} {ms : MX S (List W)} {w : W} {ws : List W} (ha : ma env s = .ok w e1 s1) (hm : ms e1 s1 = .ok ws e2 s2) : mCons ma ms env s = .ok (w :: ws) e2 s2 := by
  simp only [mCons, MX.bind, Out.bind, ha, hm]
theorem callB_w {S T : Type} {env e1 : List Sl} {s s1 : S} {L : Lens S T} {md : List Md} {f : List D → T → FO T D} {ms : MX S (List W)} {ws : List W} {ds : List D} {t t' : T} {d : D} (hm : ms env s = .ok ws e1 s1) (hb : bindA e1 md ws = some ds) (hg : L.get s1 = some t) (hf : f ds t = .ok d t') : mCallB L md f ms env s = .ok (.v d) e1 (L.put s1 t') := by
  simp only [mCallB, MX.bind, Out.bind, hm, hb, hg, hf, FO.outL]
theorem callP_w {S : Type} {env e1 : List Sl} {s s1 : S} {md : List Md} {f : List D → Unit → FO Unit D} {ms : MX S (List W)} {ws : List W} {ds : List D} {d : D} (hm : ms env s = .ok ws e1 s1) (hb : bindA e1 md ws = some ds) (hf : f ds () = .ok d ()) : mCallP md f ms env s = .ok (.v d) e1 s1 := by
  simp only [mCallP, MX.bind, Out.bind, hm, hb, hf, FO.outP]
theorem make_w {S : Type} {env e1 : List Sl} {s s1 : S} {C : Addr} {md : List Md} {f : List D → FO Unit (List Str × List D)} {ms : MX S (List W)} {ws : List W} {ds : List D} {p : List Str × List D} (hm : ms env s = .ok ws e1 s1) (hb : bindA e1 md ws = some ds) (hf : f ds = .ok p ()) : mMakeP C md f ms env s = .ok (.v (.ins C p.1 p.2)) e1 s1 := by
  simp only [mMakeP, MX.bind, Out.bind, hm, hb, hf, FO.outP]
theorem meth_w {S : Type} {env e1 e2 : List Sl} {s s1 s2 : S} {C : Addr} {m : Str} {md : List Md} {f : List D → Unit → FO Unit D} {ma : MX S W} {ms : MX S (List W)} {ws : List W} {ds : List D} {d : D} {ns : List Str} {es : List D} (ha : ma env s = .ok (.v (.ins C ns es)) e1 s1) (hn : ns.contains m = false) (hm : ms e1 s1 = .ok ws e2 s2) (hb : bindA e2 md ws = some ds) (hf : f (.ins C ns es :: ds) () = .ok d ()) : mMethP C m md f ma ms env s = .ok (.v d) e2 s2 := by
  simp only [mMethP, MX.bind, Out.bind, ha, hn, and_self, if_true, hm, hb, hf, FO.outP]
theorem op_w {S : Type} {env e1 e2 : List Sl} {s s1 s2 : S} {f : D → D → Option Rs} {ma mb : MX S W} {a b : W} {d e : D} {r : Rs} (ha : ma env s = .ok a e1 s1) (hb : mb e1 s1 = .ok b e2 s2) (h1 : a.rd e2 = some d) (h2 : b.rd e2 = some e) (hf : f d e = some r) : mOp f ma mb env s = .ok r.w e2 s2 := by
  simp only [mOp, MX.bind, Out.bind, ha, hb, h1, h2, hf, resO]
theorem cb_w {S : Type} {env e1 : List Sl} {s s1 : S} {f : List D → Option Rs} {ms : MX S (List W)} {ws : List W} {ds : List D} {r : Rs} (hm : ms env s = .ok ws e1 s1) (h : ws.mapM (W.rd e1) = some ds) (hf : f ds = some r) : mCB f ms env s = .ok r.w e1 s1 := by
  simp only [mCB, MX.bind, Out.bind, hm, h, hf, resO]
theorem test_w {S : Type} {env e1 : List Sl} {s s1 : S} {ma : MX S W} {b : Bool} (h : ma env s = .ok (.v (.bl b)) e1 s1) : mTest ma env s = .ok b e1 s1 := by
  simp only [mTest, MX.bind, Out.bind, h]
theorem not_w {S : Type} {env e1 : List Sl} {s s1 : S} {mc : MX S Bool} {b : Bool} (h : mc env s = .ok b e1 s1) : mNotT mc env s = .ok (!b) e1 s1 := by
  simp only [mNotT, MX.bind, Out.bind, h]
theorem or_f {S : Type} {env e1 : List Sl} {s s1 : S} {mc md : MX S Bool} (h : mc env s = .ok false e1 s1) : mOrT mc md env s = md e1 s1 := by
  simp only [mOrT, MX.bind, Out.bind, h, Bool.false_eq_true, if_false]
theorem par_w {S : Type} {env e1 e2 : List Sl} {s s1 s2 : S} {i j : Nat} {ma mb : MX S W} {a b : W} {x y : Sl} (ha : ma env s = .ok a e1 s1) (hb : mb e1 s1 = .ok b e2 s2) (h1 : a.sl = some x) (h2 : b.sl = some y) : mPar i j ma mb env s = .nx ((e2.set i x).set j y) s2 := by
  simp only [mPar, Out.bindS, ha, hb, h1, h2]
theorem sl_w {S : Type} {env e1 e2 e3 : List Sl} {s s1 s2 s3 : S} {f : D → Option Int → Option Int → Option Rs} {ma : MX S W} {ml mh : MX S (Option Int)} {a : W} {l h : Option Int} {d : D} {r : Rs} (ha : ma env s = .ok a e1 s1) (hl : ml e1 s1 = .ok l e2 s2) (hh : mh e2 s2 = .ok h e3 s3) (hr : a.rd e3 = some d) (hf : f d l h = some r) : mSl f ma ml mh env s = .ok r.w e3 s3 := by
  simp only [mSl, MX.bind, Out.bind, ha, hl, hh, hr, hf, resO]
theorem cut_nat {ds : List D} {k : Nat} (h : k ≤ ds.length) : cutD ds none (some (k : Int)) = ds.take k := by
  unfold cutD
  rw [HT.sIx_none, HT.sIx_nat, List.drop_zero, Nat.min_eq_left h, Nat.sub_zero]
theorem cat_ok {xs ys : List D} (h : xs.length + ys.length ≤ 16777216) : fCat (.lst xs) (.lst ys) = some (.f (xs ++ ys)) := by simp only [fCat, if_pos h]
theorem tup_w {S : Type} {env e1 : List Sl} {s s1 : S} {ms : MX S (List W)} {ws : List W} {ds : List D} (hm : ms env s = .ok ws e1 s1) (hk : ws.mapM W.kp = some ds) (hl : ds.length ≤ 16777216) : mTup ms env s = .ok (.v (.tup ds)) e1 s1 := by
  simp only [mTup, MX.bind, Out.bind, hm, hk, if_pos hl]
theorem ff_w {S : Type} {env e1 : List Sl} {s s1 : S} {ma : MX S W} {ds : List D} (h : ma env s = .ok (.f ds) e1 s1) : mFf ma env s = .ok (.v (.lst ds)) e1 s1 := by
  simp only [mFf, MX.bind, Out.bind, h]
theorem at_nat {α : Type} (l : List α) (i : Nat) : atI l (i : Int) = l[i]? := by
  unfold atI ixN
  rw [if_pos (Int.natCast_nonneg i)]
  by_cases h : i < l.length
  · rw [if_pos (by omega)]
    rfl
  · rw [if_neg (by omega), List.getElem?_eq_none (by omega)]
    rfl
end
end LM

namespace LM
open PySem L2
/-! ### f'..' -/
section
variable {S : Type}
def mFmt (ma : MX S W) : MX S W := ma.bind fun w => fun env s => match w with
  | .v (.str y) => if y.length ≤ 16777216 then .ok (.v (.str y)) env s else .bad
  | .v (.int i) => if i.natAbs.log2 < 1920 then .ok (.v (.str (toString i))) env s else .bad
  | _ => .bad
def mJs : List (MX S W) → Str → MX S W
  | [], acc => fun env s => .ok (.v (.str acc)) env s
  | m :: ms, acc => m.bind fun w => match w with
    | .v (.str y) => if (acc ++ y).length ≤ 16777216 then mJs ms (acc ++ y) else fun _ _ => .bad
    | _ => fun _ _ => .bad
variable {X : Cx} {I : BoxI S} {Wx : WX} {e : Expr} {pos : Pos} {ma : MX S W}
theorem d_fmt (he : PE X e (tD X.K I Wx ma)) : PE X (.FormattedValue e (-1) none pos) (tD X.K I Wx (mFmt ma)) := by
  refine PEimp (pe_fmt he) fun σ H Q ⟨G, env, s, ts, R, h⟩ => ?_
  refine tD_bind (Z := ZD X.K I Wx G ts σ Q) R h (fun _ _ _ z => z) (fun z => z) fun w env1 s1 x H1 _ R1 z1 => ?_
  obtain ⟨ad, bv, bm, R2⟩ := id R1
  cases w with
  | v d =>
    cases d with
    | str y =>
      have q : Rep X.K _ H1 x (.str y) := R2.tm _ List.mem_cons_self
      cases q
      by_cases hc : y.length ≤ 16777216
      · simp only [if_pos hc] at z1
        exact .inl ⟨y, rfl, by rw [sizeLine_eq]; exact hc, z1 _ H1 R1⟩
      · simp only [if_neg hc] at z1
        exact z1.elim
    | int i =>
      have q : Rep X.K _ H1 x (.int i) := R2.tm _ List.mem_cons_self
      cases q
      by_cases hc : i.natAbs.log2 < 1920
      · simp only [if_pos hc] at z1
        exact .inr ⟨i, rfl, hc, z1 _ H1 ⟨ad, bv, bm, R2.pop.pushV (.str _)⟩⟩
      · simp only [if_neg hc] at z1
        exact z1.elim
    | _ => exact z1.elim
  | _ => exact z1.elim
theorem js_run : ∀ (ms : List (MX S W)) (acc : Str) (σ : St) (H : Hp) (Q : VK), tD X.K I Wx (mJs ms acc) σ H Q → tJs (ms.map (tD X.K I Wx)) acc σ H fun out H1 => Q (.str out) H1
  | [], acc, σ, H, Q, ⟨G, env, s, ts, ⟨ad, bv, bm, R⟩, h⟩ => h _ H ⟨ad, bv, bm, R.pushV (.str _)⟩
  | m :: ms, acc, σ, H, Q, ⟨G, env, s, ts, R, h⟩ => by
    show tD X.K I Wx m σ H _
    refine tD_bind (Z := ZD X.K I Wx G ts σ Q) R h (fun _ _ _ z => z) (fun z => z) fun w env1 s1 x H1 _ R1 z1 => ?_
    obtain ⟨ad, bv, bm, R2⟩ := id R1
    cases w with
    | v d =>
      cases d with
      | str y =>
        have q : Rep X.K _ H1 x (.str y) := R2.tm _ List.mem_cons_self
        cases q
        by_cases hc : (acc ++ y).length ≤ 16777216
        · simp only [if_pos hc] at z1
          exact ⟨y, rfl, by rw [sizeLine_eq]; exact hc, js_run ms (acc ++ y) σ H1 Q ⟨G, env1, s1, ts, R1.pop, z1⟩⟩
        · simp only [if_neg hc] at z1
          exact z1.elim
      | _ => exact z1.elim
    | _ => exact z1.elim
/-- the parts of f'..' -/
structure JsP (X : Cx) (I : BoxI S) (Wx : WX) (es : List Expr) (ms : List (MX S W)) : Prop where
  pj : PJ X es (ms.map (tD X.K I Wx))
theorem j_nil : JsP X I Wx [] [] := ⟨.nil⟩
theorem j_cons {es : List Expr} {ms : List (MX S W)} (h : PE X e (tD X.K I Wx ma)) (r : JsP X I Wx es ms) : JsP X I Wx (e :: es) (ma :: ms) := ⟨.cons h r.pj⟩
theorem d_js {v1 v2 : Expr} {rest : List Expr} {ms : List (MX S W)} (h : JsP X I Wx (v1 :: v2 :: rest) ms) : PE X (.JoinedStr (v1 :: v2 :: rest) pos) (tD X.K I Wx (mJs ms Str.empty)) :=
  PEimp (pe_joined h.pj) fun σ H Q q => js_run ms Str.empty σ H Q q
end
end LM

namespace LM
open PySem L2
/-! ### what a text can be asked -/
def DSm (K : PySem.W.Frag) (r : V → List V → Hp → VK → Prop) (f : Str → List D → Option Rs) : Prop :=
  ∀ B H x vs ds res Q, Tps K B H vs ds → (∀ a, B a → H a ≠ none) → f x ds = some res → FinQ K B H Q res → r (.str x) vs H Q
def mSm {S : Type} (f : Str → List D → Option Rs) (ma : MX S W) (ms : MX S (List W)) : MX S W := ma.bind fun w => match w with
  | .v (.str x) => ms.bind fun ws => fun env s => match ws.mapM (W.rd env) with
    | some ds => resO env s (f x ds)
    | none => .bad
  | _ => fun _ _ => .bad
section
variable {S : Type} {X : Cx} {I : BoxI S} {Wx : WX} {o e : Expr} {es : List Expr} {pos apos cpos : Pos} {ma : MX S W} {ms : MX S (List W)} {name : Str} {id : String} {r : V → List V → Hp → VK → Prop} {f : Str → List D → Option Rs}
theorem sm_fin (df : DSm X.K r f) {σ : St} {H : Hp} {Q : VK} (h : tD X.K I Wx (mSm f ma ms) σ H Q) : tBM X.K "str" r (tD X.K I Wx ma) (tDs X.K I Wx ms) σ H Q := by
  obtain ⟨G, env, s, ts, R, h⟩ := h
  refine tD_bind (Z := ZD X.K I Wx G ts σ Q) R h (fun _ _ _ z => z) (fun z => z) fun w env1 s1 x H1 _ R1 z1 => ?_
  cases w with
  | v d =>
    cases d with
    | str y =>
      obtain ⟨ad, bv, bm, R2⟩ := id R1
      have q : Rep X.K _ H1 x (.str y) := R2.tm _ List.mem_cons_self
      cases q
      refine ⟨rfl, ?_⟩
      refine tDs_bind (Z := ZD X.K I Wx G ts σ Q) R1 z1 (fun _ _ _ z dx H' q => z dx H' (q.less sl1)) (fun z => z) fun ws env2 s2 vs H2 _ l R3 z2 => ?_
      obtain ⟨ad', bv', bm', R4⟩ := R3
      cases e1 : ws.mapM (W.rd env2) with
      | none => simp only [e1] at z2; exact z2.elim
      | some ds =>
        simp only [e1] at z2
        cases e3 : f y ds with
        | none => simp only [e3] at z2; exact z2.elim
        | some res =>
          simp only [e3] at z2
          exact df _ H2 y vs ds res Q (R4.rds l zip_in e1) (fun a => R4.avdom) e3 (fin_of R4 res fun v H' R5 => z2 v H' (R5.less (.cons_cons _ sl1)))
    | _ => exact z1.elim
  | _ => exact z1.elim
theorem d_sm (slot : Slot "str" name id) (hty : typeOf (.builtin id) = pure (.type "method_descriptor")) (hm : MtR X id r) (df : DSm X.K r f) (ho : PE X o (tD X.K I Wx ma)) (ha : PA X (e :: es) (tDs X.K I Wx ms))
    (hbase : attributeBase o name X.env (eval o X.env) = eval o X.env := by rfl)
    (hfew : ((backTo cpos (starEach (e :: es) X.env)).all (fun x => !x.1) && (backToKw cpos (keywordEach [] X.env)).all (fun x => x.1.isSome)
      && decide ((e :: es).length + ([] : List Keyword).length + (if ([] : List Keyword).isEmpty then 0 else 1) < 30)) = true := by rfl)
    (hline : (apos.endLine == cpos.line) = true := by rfl) (hs : starEach (e :: es) X.env = (false, eval e X.env) :: starEach es X.env := by rfl) (hplain : (backTo cpos (starEach es X.env)).any (·.1) = false := by rfl) :
    PE X (.Call (.Attribute o name apos) (e :: es) [] cpos) (tD X.K I Wx (mSm f ma ms)) :=
  PEimp (pe_bm PySem.F.plainAttrs_str slot hty hm ho ha hbase hfew hline hs hplain) fun _ _ _ h => sm_fin df h
end
/-- texts of data -/
def strsD : List D → Option (List Str)
  | [] => some []
  | .str x :: ds => (strsD ds).map (x :: ·)
  | _ => none
theorem strs_reps {K : PySem.W.Frag} {B : Addr → Prop} {H : Hp} : ∀ {ds : List D} {xs : List V} {ys : List Str}, Reps K B H xs ds → strsD ds = some ys → xs = ys.map V.str
  | [], _, _, h, e => by cases h; cases e; rfl
  | .str b :: ds, _, ys, h, e => by
    cases h with
    | cons h1 h2 =>
      cases h1
      cases q : strsD ds with
      | none => simp only [strsD, q] at e; cases e
      | some cs =>
        simp only [strsD, q, Option.map_some, Option.some.injEq] at e
        subst e
        rw [List.map_cons, strs_reps h2 q]
  | .non :: _, _, _, _, e => by cases e
  | .int _ :: _, _, _, _, e => by cases e
  | .bl _ :: _, _, _, _, e => by cases e
  | .tup _ :: _, _, _, _, e => by cases e
  | .lst _ :: _, _, _, _, e => by cases e
  | .ins _ _ _ :: _, _, _, _, e => by cases e
theorem reps_strs {K : PySem.W.Frag} {B : Addr → Prop} {H : Hp} : ∀ ys : List Str, Reps K B H (ys.map V.str) (ys.map D.str)
  | [] => .nil
  | y :: ys => .cons (.str y) (reps_strs ys)
def jSplit (a : Str) : List D → Option Rs
  | [.str b] => if (b.length == 0) = false ∧ a.length + 2 ≤ 16777216 then some (.f ((Txt.split a b).map .str)) else none
  | _ => none
theorem dj_split {K : PySem.W.Frag} : DSm K (fun x xs H Q => ∃ a b, x = .str a ∧ xs = [.str b] ∧ (b.length == 0) = false ∧ a.length + 2 ≤ sizeLine ∧ rNewStrs (Txt.split a b) H Q) jSplit := by
  intro B H x vs ds res Q h _ e q
  unfold jSplit at e
  split at e
  · rename_i b
    obtain ⟨v, rfl, hv⟩ := tps1 h
    split at e
    · rename_i hc
      cases e
      exact ⟨x, b, rfl, by rw [hv.str], hc.1, by rw [sizeLine_eq]; exact hc.2, fun p hp => q p _ hp (reps_strs _)⟩
    · cases e
  · cases e
def jPart (a : Str) : List D → Option Rs
  | [.str b] => if (b.length == 0) = false ∧ a.length ≤ 16777216 then some (.v (.tup [.str (Txt.partition a b).1, .str (Txt.partition a b).2.1, .str (Txt.partition a b).2.2])) else none
  | _ => none
theorem dj_part {K : PySem.W.Frag} : DSm K (fun x xs H Q => ∃ a b, x = .str a ∧ xs = [.str b] ∧ (b.length == 0) = false ∧ a.length ≤ sizeLine ∧ ∀ p, H p = none → Q (.ref p) (upd H p (.tup [.str (Txt.partition a b).1, .str (Txt.partition a b).2.1, .str (Txt.partition a b).2.2]))) jPart := by
  intro B H x vs ds res Q h hB e q
  unfold jPart at e
  split at e
  · rename_i b
    obtain ⟨v, rfl, hv⟩ := tps1 h
    split at e
    · rename_i hc
      cases e
      exact ⟨x, b, rfl, by rw [hv.str], hc.1, by rw [sizeLine_eq]; exact hc.2, fun p hp => q _ _ (same_upd hp) (.tup (fun z => hB p z hp) (.inl upd_same) (.cons (.str _) (.cons (.str _) (.cons (.str _) .nil))))⟩
    · cases e
  · cases e
def jJoin (a : Str) : List D → Option Rs
  | [.lst ds] => (strsD ds).bind fun ys => if (ys.map (·.length)).sum + ys.length * a.length ≤ 16777216 then some (.v (.str (Txt.join a ys))) else none
  | [.tup ds] => (strsD ds).bind fun ys => if (ys.map (·.length)).sum + ys.length * a.length ≤ 16777216 then some (.v (.str (Txt.join a ys))) else none
  | _ => none
theorem dj_join {K : PySem.W.Frag} : DSm K (fun x xs H Q => ∃ a p, ∃ ys : List Str, x = .str a ∧ xs = [.ref p] ∧ (SqL K H p (ys.map V.str) ∨ SqT K H p (ys.map V.str)) ∧ (ys.map (·.length)).sum + ys.length * a.length ≤ 16777216 ∧ Q (.str (Txt.join a ys)) H) jJoin := by
  intro B H x vs ds res Q h _ e q
  unfold jJoin at e
  split at e
  · rename_i ds
    obtain ⟨v, rfl, hv⟩ := tps1 h
    obtain ⟨p, xs, rfl, r, qq⟩ := hv.lst
    cases e2 : strsD ds with
    | none => rw [e2] at e; cases e
    | some ys =>
      rw [e2, Option.bind_some] at e
      split at e
      · rename_i hc
        cases e
        exact ⟨x, p, ys, rfl, rfl, .inl (by rw [← strs_reps qq e2]; exact r), hc, q _ _ (fun _ _ h => h) (.str _)⟩
      · cases e
  · rename_i ds
    obtain ⟨v, rfl, hv⟩ := tps1 h
    obtain ⟨p, xs, rfl, r, qq⟩ := hv.tup
    cases e2 : strsD ds with
    | none => rw [e2] at e; cases e
    | some ys =>
      rw [e2, Option.bind_some] at e
      split at e
      · rename_i hc
        cases e
        exact ⟨x, p, ys, rfl, rfl, .inr (by rw [← strs_reps qq e2]; exact r), hc, q _ _ (fun _ _ h => h) (.str _)⟩
      · cases e
  · cases e
end LM

namespace LM
open PySem L2
/-! ### truth -/
def truD : D → Option Bool
  | .non => some false
  | .bl b => some b
  | .int i => some (i != 0)
  | .str y => if y.length ≤ 16777216 then some ((y.length : Int) != 0) else none
  | .tup ds => some (!ds.isEmpty)
  | .lst ds => some (!ds.isEmpty)
  | .ins _ _ _ => none
theorem empty_len {α β : Type} {xs : List α} {ds : List β} (h : xs.length = ds.length) : (!xs.isEmpty) = !ds.isEmpty := by
  cases xs <;> cases ds <;> first | rfl | (simp at h)
theorem tru_of {K : PySem.W.Frag} {B : Addr → Prop} {H : Hp} {v : V} {d : D} {k : Bool} (h : Tp K B H v d) (e : truD d = some k) : TruV K v H k := by
  cases d with
  | non =>
    cases e
    rcases h with h | ⟨_, _, _, _, z, _⟩
    · cases h; rfl
    · cases z
  | bl b =>
    cases e
    rcases h with h | ⟨_, _, _, _, z, _⟩
    · cases h; rfl
    · cases z
  | int i => cases e; rw [h.int]; rfl
  | str y =>
    rw [h.str]
    simp only [truD] at e
    split at e
    · rename_i hc
      cases e
      exact ⟨by rw [sizeLine_eq]; exact hc, rfl⟩
    · cases e
  | tup ds =>
    cases e
    obtain ⟨p, xs, rfl, r, q⟩ := h.tup
    exact .inr (.inl ⟨xs, r, by rw [empty_len q.len]⟩)
  | lst ds =>
    cases e
    obtain ⟨p, xs, rfl, r, q⟩ := h.lst
    exact .inl ⟨xs, r, by rw [empty_len q.len]⟩
  | ins C ns ds => cases e
section
variable {S : Type}
def mTru (ma : MX S W) : MX S Bool := ma.bind fun w => fun env s => match w.rd env with
  | some d => match truD d with
    | some k => .ok k env s
    | none => .bad
  | none => .bad
def mOrX (ma mb : MX S W) : MX S W := ma.bind fun w => fun env s => match w.rd env with
  | some d => match truD d with
    | some true => .ok w env s
    | some false => mb env s
    | none => .bad
  | none => .bad
def mAndX (ma mb : MX S W) : MX S W := ma.bind fun w => fun env s => match w.rd env with
  | some d => match truD d with
    | some true => mb env s
    | some false => .ok w env s
    | none => .bad
  | none => .bad
variable {X : Cx} {I : BoxI S} {Wx : WX} {a b e : Expr} {es : List Expr} {pos : Pos} {ma mb : MX S W}
theorem x_or (ha : PE X a (tD X.K I Wx ma)) (hb : PE X (.BoolOp .Or (b :: es) pos) (tD X.K I Wx mb)) : PE X (.BoolOp .Or (a :: b :: es) pos) (tD X.K I Wx (mOrX ma mb)) := by
  refine PEimp (pe_orT ha hb) fun σ H Q ⟨G, env, s, ts, R, h⟩ => ?_
  refine tD_bind (Z := ZD X.K I Wx G ts σ Q) R h (fun _ _ _ z => z) (fun z => z) fun w env1 s1 x H1 _ R1 z1 => ?_
  obtain ⟨ad, bv, bm, R2⟩ := id R1
  cases e1 : w.rd env1 with
  | none => simp only [e1] at z1; exact z1.elim
  | some d =>
    have q : Tp X.K _ H1 x d := R2.rd (p := (x, w)) List.mem_cons_self e1
    cases e2 : truD d with
    | none => simp only [e1, e2] at z1; exact z1.elim
    | some k =>
      refine ⟨k, tru_of q e2, ?_⟩
      cases k with
      | true => simp only [e1, e2] at z1; rw [if_pos rfl]; exact z1 _ H1 R1
      | false => simp only [e1, e2] at z1; rw [if_neg (by decide)]; exact tD_of R1.pop z1
theorem x_and (ha : PE X a (tD X.K I Wx ma)) (hb : PE X (.BoolOp .And (b :: es) pos) (tD X.K I Wx mb)) : PE X (.BoolOp .And (a :: b :: es) pos) (tD X.K I Wx (mAndX ma mb)) := by
  refine PEimp (pe_andT ha hb) fun σ H Q ⟨G, env, s, ts, R, h⟩ => ?_
  refine tD_bind (Z := ZD X.K I Wx G ts σ Q) R h (fun _ _ _ z => z) (fun z => z) fun w env1 s1 x H1 _ R1 z1 => ?_
  obtain ⟨ad, bv, bm, R2⟩ := id R1
  cases e1 : w.rd env1 with
  | none => simp only [e1] at z1; exact z1.elim
  | some d =>
    have q : Tp X.K _ H1 x d := R2.rd (p := (x, w)) List.mem_cons_self e1
    cases e2 : truD d with
    | none => simp only [e1, e2] at z1; exact z1.elim
    | some k =>
      refine ⟨k, tru_of q e2, ?_⟩
      cases k with
      | true => simp only [e1, e2] at z1; rw [if_pos rfl]; exact tD_of R1.pop z1
      | false => simp only [e1, e2] at z1; rw [if_neg (by decide)]; exact z1 _ H1 R1
theorem t_tru (ha : PE X a (tD X.K I Wx ma)) (he : ∀ whole, isTrue a X.env whole = (do let v ← whole; standAt a.pos; holding [v] (truthy v)) := by intro _; rfl) : PT X a (LM.tB X.K I Wx (mTru ma)) := by
  refine PTimp (pt_truth ha he) fun σ H Q ⟨G, env, s, ts, R, h⟩ => ?_
  refine tD_bind (Z := ZB X.K I Wx G ts σ Q) R h (fun _ _ _ z => z) (fun z => z) fun w env1 s1 x H1 _ R1 z1 => ?_
  obtain ⟨ad, bv, bm, R2⟩ := id R1
  cases e1 : w.rd env1 with
  | none => simp only [e1] at z1; exact z1.elim
  | some d =>
    have q : Tp X.K _ H1 x d := R2.rd (p := (x, w)) List.mem_cons_self e1
    cases e2 : truD d with
    | none => simp only [e1, e2] at z1; exact z1.elim
    | some k =>
      simp only [e1, e2] at z1
      exact ⟨k, tru_of q e2, z1 H1 R1.pop⟩
end
end LM

/-! errors of own classes with one field: made -/
namespace LM
open PySem PySem.W PySem.Calls PyProof.Rows PySem.HandSPX
def xA (p : Str) (p1 p2 : Pos) : Arguments := { posonlyargs := [], args := [{ arg := "self", annotation := none, pos := p1 }, { arg := p, annotation := none, pos := p2 }], vararg := none, kwonlyargs := [], kw_defaults := [], kwarg := none, defaults := [] }
def xB (p : Str) (q1 q2 q3 q4 : Pos) : List Stmt := [.Assign [.Attribute (.Name "self" q1) p q2] (.Name p q3) q4]
def xS (p : Str) : Scope := { kind := .function, names := [(PySem.Str.ofString "self", .local), (p, .local)], isGenerator := false, isCoroutine := false, more := [] }
/-- what the written part says of the error's class x, at C, and of its __init__, at fI; its field and parameter: p -/
structure XTx (K : Frag) (mg : Str → Option Value) (x q p : Str) (C fI : Addr) (B newId initId : String) (bm : List Value) : Prop where
  gC : mg x = some (.ref C)
  sf : StoreFacts B bm "object.__setattr__" "object"
  bf : ExcBaseFacts B newId initId bm
  ci : excInitIn K C bm newId = true
  ov : excOver K C bm = true
  tk : takerIn K C p = some none
  hdC : hasDictIn K C = true
  sa : findIn K (.ref C) "__setattr__" = some (some (.builtin "object.__setattr__"))
  ga : findIn K (.ref C) "__getattribute__" = some (some (.builtin "BaseException.__getattribute__"))
  gg : findIn K (.ref C) "__getattr__" = some none
  noN : findIn K (.ref C) p = some none
  iC : findIn K (.ref C) "__init__" = some (some (.ref fI))
  tC : typeIn K (.ref fI) = some (.type "function")
  kC : keepIn K (.ref C) = true
  exC : subIn K (.ref C) (.type "BaseException") = some true
  tyC : typeIn K (.ref C) = some (.type "type")
  fn : ∃ (oc : Value) (od : Option Addr) (doc pm : Value) (an : Option Addr) (cdv ct : Value) (osl : Array (Option Value)) (p1 p2 q1 q2 q3 q4 : Pos),
    K.lookup fI = some ⟨oc, od, .func (fnOf "__init__" q (xA p p1 p2) (xB p q1 q2 q3 q4) (xS p) .none .none doc pm an cdv ct), osl⟩ ∧ codeIn K cdv q = true
/-- what __init__ leaves of a fresh error at x -/
structure XIn (h h' : Heap) (x C dx t1 : Addr) (p : Str) (v : Value) : Prop where
  keep : ∀ b o, b ≠ x → h.get? b = some o → h'.get? b = some o
  obj : h'.get? x = some { cls := .ref C, dict := some dx, data := .fields #[.ref t1, .none, .none, .none, .bool false, .none] }
  dbig : h.objs.size ≤ dx
  dne : dx ≠ x
  ns : h'.Ns1 dx (fun y => if y = p then some v else none)
structure XMd (h h' : Heap) (e C d : Addr) (p : Str) (v : Value) : Prop where
  keep : ∀ b o, h.get? b = some o → h'.get? b = some o
  new : h.objs.size ≤ e
  obj : ∃ oe vs, h'.get? e = some oe ∧ oe.cls = .ref C ∧ oe.dict = some d ∧ oe.data = .fields vs ∧ vs[1]? = some .none
  dbig : h.objs.size ≤ d
  dne : d ≠ e
  ns : h'.Ns1 d (fun y => if y = p then some v else none)
section
variable {prog : Program} {w : World} {A : Around} {E : Value → Shared → Prop} {R : Result → Shared → Prop} {s : Shared} {K : Frag} {mg : Str → Option Value} {C fI : Addr} {x q p : Str} {B newId initId : String} {bm : List Value}
theorem osaX {hp : Heap} {g : Array GenState} {d : Drawn} {t : Nat} {os : OsState} {tk : Tok} {v : Value} {x : Addr} {t0 : Addr} (SF : StoreFacts B bm "object.__setattr__" "object") (ov : excOver K C bm = true) (tkr : takerIn K C p = some none) (hh : hasDictIn K C = true)
    (X : K.In hp) (hx : hp.get? x = some (excO C t0)) (hq : ∀ h' tk' dx, (∀ b o, b ≠ x → hp.get? b = some o → h'.get? b = some o) → hp.objs.size ≤ dx → dx ≠ x → h'.get? x = some { cls := .ref C, dict := some dx, data := .fields #[.ref t0, .none, .none, .none, .bool false, .none] } →
      h'.Ns1 dx (fun y => if y = p then some v else none) → R (.ok (.ret .none)) ⟨h', g, d, tk', os⟩) :
    codeAny (model prog w) A (.call (.builtin "object.__setattr__") ⟨[.ref x, .str p tk, v], []⟩) R ⟨hp, g, d, t, os⟩ := by
  have hxs : x ≠ hp.objs.size := Nat.ne_of_lt (Heap.lt_size hx)
  refine osa_openX (od := none) (ox := excO C t0) SF X ⟨hx, rfl, rfl, trivial⟩ ov tkr fun b => ?_
  obtain ⟨cd, hc, hd'⟩ := any_some hh
  refine wpAny_bind (wpAny_pure (wpAny_bind (instanceDict_exc (t := t0) (c2 := .none) hx (looks_clsIn X hc) hd' ?_)))
  have hnd : ((hp.push (dictOf [] 0)).update x fun o => { o with dict := some hp.objs.size }).Ns hp.objs.size (fun _ => none) :=
    ⟨_, #[], _, (Heap.get?_update_ne _ _ _ _ hxs.symm).trans (Heap.get?_push_at rfl rfl), rfl, fun e he => absurd he (by simp), fun _ => rfl⟩
  refine HandSPX.store_in_new hnd fun h' tk' hn' hs => ?_
  have hx1 : (hp.push (dictOf [] 0)).get? x = some (excO C t0) := Heap.get?_push_of_some _ hx
  refine hq h' tk' hp.objs.size (fun b o hb ho => ?_) (Nat.le_refl _) hxs.symm ?_ hn'
  · have e1 := hs.2 b (Nat.ne_of_lt (Heap.lt_size ho))
    exact e1.trans ((Heap.get?_update_ne _ _ _ _ hb).trans (Heap.get?_push_of_some _ ho))
  · exact (hs.2 x hxs).trans (Heap.get?_update_self _ hx1 rfl)
theorem ld_loc {M : Model} {s : Shared} {name : Str} {scope : Scope} {L a : Addr} {cd : Value} {m : Str → Option Value} {x : Str} {pos : Pos} {v : Value} {Q : Value → Shared → Prop} {A : Around} {E : Value → Shared → Prop} (hn : s.heap.Ns L m) (hv : m x = some v) (h : Q v s)
    (hk : scope.kind = .function) (hl : (envOfC name scope L a cd).kindOf x = some .local) (hd : (x == ("__debug__" : Str)) = false) : wpAny M A (eval (.Name x pos) (envOfC name scope L a cd)) Q E s := wpAny_Name (wpAny_loadName_local hk hl hn hv h) hd
/-- a word that may be such a parameter -/
structure PWord (p : Str) : Prop where
  s : (p == ("self" : Str)) = false
  d : (p == ("__debug__" : Str)) = false
  b : ∀ (q : Str) (p1 p2 q1 q2 q3 q4 : Pos) (doc pm : Value) (an : Option Addr) (cdv ct u v : Value), bindArgs (fnOf "__init__" q (xA p p1 p2) (xB p q1 q2 q3 q4) (xS p) .none .none doc pm an cdv ct) ⟨[u, v], []⟩ = pure [(("self" : Str), u), (p, v)]
theorem pword_at : PWord "at" := ⟨by decide, by decide, fun _ _ _ _ _ _ _ _ _ _ _ _ _ _ => rfl⟩
theorem pword_word : PWord "word" := ⟨by decide, by decide, fun _ _ _ _ _ _ _ _ _ _ _ _ _ _ => rfl⟩
theorem pword_name : PWord "name" := ⟨by decide, by decide, fun _ _ _ _ _ _ _ _ _ _ _ _ _ _ => rfl⟩
theorem xinit_ok (T : XTx K mg x q p C fI B newId initId bm) (W : PWord p) {x t0 : Addr} {v : Value} (X : K.In s.heap) (hlim : s.heap.NoLimit) (hx : s.heap.get? x = some (excO C t0)) (hnx : K.lookup x = none) (hroom : A.depth < recursionLimit)
    (hq : ∀ h' tk dx, XIn s.heap h' x C dx t0 p v → R (.ok (.ret .none)) { s with heap := h', toks := tk }) :
    codeAny (model prog w) A (.call (.ref fI) ⟨[.ref x, v], []⟩) R s := by
  obtain ⟨oc, od, doc, pm, an, cdv, ct, osl, p1, p2, q1, q2, q3, q4, ho, hcd⟩ := T.fn
  have e1 : (p == ("self" : Str)) = false := W.s
  have e2 : (("self" : Str) == p) = false := by
    rw [Bool.eq_false_iff] at e1 ⊢
    exact fun z => e1 (by rw [beq_iff_eq] at z ⊢; exact z.symm)
  have lk : List.lookup p [(("self" : Str), NameKind.local), (p, NameKind.local)] = some NameKind.local := by rw [List.lookup, e1]; simp [List.lookup]
  have ks : ∀ {q : Str} {L a : Addr} {cd : Value}, (envOfC q (xS p) L a cd).kindOf ("self" : Str) = some .local := by intros; simp [Env.kindOf, envOfC, xS]
  have kp : ∀ {q : Str} {L a : Addr} {cd : Value}, (envOfC q (xS p) L a cd).kindOf p = some .local := by
    intros
    exact lk
  have ne : ("self" : Str) ≠ p := fun z => by rw [← z] at e1; cases (show ((("self" : Str) == ("self" : Str)) = false) from e1)
  refine Att.call_fn (binds := [("self", .ref x), (p, v)]) X hlim ho hcd hroom (BindsTo.of_eq ?_) ?_ (fun s₁ IC => ?_) rfl rfl rfl
  · exact W.b _ _ _ _ _ _ _ _ _ _ _ _ _ _
  · simp [xS, lk]
  obtain ⟨h₁, tk₁, rfl⟩ := IC.toInCall.same
  have k : ∀ b o, s.heap.get? b = some o → h₁.get? b = some o := IC.toInCall.keep
  have hn := IC.toInCall.ns
  have hxL : s.heap.objs.size ≠ x := Nat.ne_of_gt (Heap.lt_size hx)
  have X₁ : K.In h₁ := X.keeps k
  have hx₁ := k _ _ hx
  show wpAny _ _ (execs _ _) _ _ _
  refine wpAny_execs_cons (plainObj_wpAny_Assign_Attribute ?_)
  refine ld_loc (v := v) hn ?_ (ld_loc (v := .ref x) hn ?_ ?_ rfl ?_ (by decide)) rfl ?_ W.d
  · simp only [bindL, ks, kp, if_true]
  · simp only [bindL, ks, kp, if_true, ne, if_false]
  · refine set_plain X₁ (ox := excO C t0) (od := none) ⟨hx₁, rfl, rfl, trivial⟩ T.sa ?_
    refine osaX T.sf T.ov T.tk T.hdC X₁ hx₁ fun h₃ tk₃ dx k₃ dn dne hx₃ hn₃ => ?_
    show wpAny _ _ (execs _ _) _ _ _
    have z : s.heap.objs.size < h₁.objs.size := hn.lt
    exact wpAny_execs_nil (hq h₃ tk₃ dx ⟨fun b o hb e => k₃ b o hb (k b o e), hx₃, Nat.le_of_lt (Nat.lt_of_lt_of_le z dn), dne, hn₃⟩)
  · exact ks
  · exact kp
theorem one_line (v : Value) : [v].length ≤ sizeLine := by
  rw [sizeLine_eq]
  exact (by decide : 1 ≤ 16777216)
theorem xmade_ok (T : XTx K mg x q p C fI B newId initId bm) (W : PWord p) {v : Value} (X : K.In s.heap) (hlim : s.heap.NoLimit) (hroom : A.depth + 1 < recursionLimit)
    (hq : ∀ h' tk e d, XMd s.heap h' e C d p v → R (.ok (.ret (.ref e))) { s with heap := h', toks := tk }) :
    codeAny (model prog w) A (.call (.ref C) ⟨[v], []⟩) R s := by
  obtain ⟨nm, N, qn, bs, bm', hdct, sn, sub, ab, col, dd, k0, k1, k2, k3, k5, hC, hT⟩ := excInit_of X T.ci
  obtain ⟨hp, g, dr, tk, os⟩ := s
  have k : ∀ b o, hp.get? b = some o → ((hp.push (kdv_tup [v])).push (excO C hp.objs.size)).get? b = some o := fun b o e => Heap.get?_push_of_some _ (Heap.get?_push_of_some _ e)
  have hget : ((hp.push (kdv_tup [v])).push (excO C hp.objs.size)).get? (hp.objs.size + 1) = some (excO C hp.objs.size) := by heap_get
  have hnx : K.lookup (hp.objs.size + 1) = none := by
    cases e : K.lookup (hp.objs.size + 1) with
    | none => rfl
    | some o =>
      have z : hp.get? (hp.objs.size + 1) = some o := X _ _ e
      exact absurd (Nat.lt_of_succ_lt (Heap.lt_size z)) (Nat.lt_irrefl _)
  refine HandSPX.call_own T.bf hT hC (looks_findIn X T.iC) (fun self => bind_fn X self T.tC) (one_line v) ?_
  refine xinit_ok (s := ⟨(hp.push (kdv_tup [v])).push (excO C hp.objs.size), g, dr, tk, os⟩) T W (X.keeps k) (hlim.keeps k) hget hnx ?_ fun h' tk' dx ⟨k', hx, dn, dne, hns⟩ => ?_
  · show A.depth + 1 < recursionLimit
    exact hroom
  · have old : ∀ b o, hp.get? b = some o → h'.get? b = some o := fun b o e => k' b o (Nat.ne_of_lt (Nat.lt_succ_of_lt (Heap.lt_size e))) (k b o e)
    have z : hp.objs.size + 1 + 1 ≤ dx := by
      first
        | (simpa only [Heap.size_push] using dn)
        | exact dn
        | (have q := dn; rw [Heap.size_push, Heap.size_push] at q; exact q)
    exact ⟨rfl, hq h' tk' (hp.objs.size + 1) dx ⟨old, Nat.le_succ _, ⟨_, _, hx, rfl, rfl, rfl, rfl⟩, Nat.le_trans (Nat.le_trans (Nat.le_succ _) (Nat.le_succ _)) z, dne, hns⟩⟩
end
end LM
namespace LM
open PySem PySem.Spec PyProof.Rows L2
theorem relO_x {p : Str} {v : V} {v' : Value} (r : RelV v v') (f : Str) : RelO (List.lookup f [(p, v)]) (if f = p then some v' else none) := by
  by_cases hw : f = p
  · subst hw
    rw [if_pos rfl]
    have q : List.lookup f [(f, v)] = some v := by simp [List.lookup]
    rw [q]
    exact r
  · rw [if_neg hw]
    have qw : (f == p) = false := by simpa using hw
    have q2 : List.lookup f [(p, v)] = none := by simp [List.lookup, qw]
    rw [q2]
    trivial
section
variable {X : Cx} {C fI : Addr} {x q f : Str} {B newId initId : String} {bm : List Value}
/-- X(e) -/
def tMkX (C : Addr) (f : Str) (ta : TA) : L2.St → Hp → XK → Prop := fun σ H Q => ta σ H fun vs H1 => ∃ v, vs = [v] ∧ ∀ d, H1 d = none → Q (.ref C) (some d) (upd H1 d (.xd [(f, v)]))
theorem pmk_x {a : Expr} {ta : TA} {p pos : Pos} (T : XTx X.K X.mg x q f C fI B newId initId bm) (W : PWord f) (hr : Room 0 X.A) (ha : PA X [a] ta) (hg : Gl X x := by rfl) (hdb : (x == ("__debug__" : Str)) = false := by decide)
    (he : starEach (a :: []) X.env = (false, eval a X.env) :: starEach [] X.env := by rfl) (hpl : (backTo pos (starEach [] X.env)).any (·.1) = false := by rfl) :
    PMk X (.Call (.Name x p) [a] [] pos) (tMkX C f ta) := by
  intro pins s σ H Q I h
  refine wpAny_Call_Name_kw (ld_glob I hg T.gC ?_ hdb)
  refine PySem.W.callWith_K (h₀ := X.base) I.ok.mod.kin T.kC (thn (ha.run pos pins s σ H _ I h) fun us s1 hh => ?_) he hpl
  obtain ⟨vs, H1, I1, r1, v, ev, q1⟩ := hh
  subst ev
  refine ⟨I1.kIn, ?_⟩
  cases r1 with
  | cons rv rn =>
    rename_i v' us'
    cases rn
    show wpAny _ _ (call (.ref C) [v']) _ _ _
    have hlim := I1.nolimit
    obtain ⟨hp, g, dr, tk, os⟩ := s1
    refine wpAny_call (xmade_ok T W I1.kIn hlim (by have := hr.dp; omega) fun h' tk' e d M => ?_)
    show MkP X pins σ Q (.ref e) ⟨h', g, dr, tk', os⟩
    obtain ⟨oe, fv, hoe, hc, hd, hdat, h1⟩ := M.obj
    have hns := M.ns
    obtain ⟨G', g1, g2⟩ := restrict h' fun b => decide (b ≠ e)
    have gk : ∀ b, b ≠ e → G'.get? b = h'.get? b := fun b hb => g1 b (decide_eq_true hb)
    have ge : G'.get? e = none := g2 e (by simp)
    have old : ∀ b o, hp.get? b = some o → G'.get? b = some o := fun b o q => (gk b (Nat.ne_of_lt (Nat.lt_of_lt_of_le (Heap.lt_size q) M.new))).trans (M.keep b o q)
    have ob : ObjOk X.prog X.w (upd H1 d (.xd [(f, v)])) G' d (.xd [(f, v)]) :=
      ⟨_, hns.at (fun o q => (gk d M.dne).trans q), fun f => relO_x rv f⟩
    have J : Inv X pins σ (upd H1 d (.xd [(f, v)])) ⟨G', g, dr, tk', os⟩ := I1.laid (t' := tk') old M.dbig ob
    refine ⟨e, oe, fv, ⟨G', g, dr, tk', os⟩, _, .ref C, some d, rfl, J, fun b o q => ?_, ge, hoe, ⟨hc, hd⟩, hdat, h1, ?_, rfl, I1.bare, raises_own T.exC T.tyC, q1 d (I1.hok.fresh M.dbig)⟩
    · by_cases hb : b = e
      · have q' : G'.get? b = some o := q
        rw [hb, ge] at q'; cases q'
      · exact (gk b hb).symm.trans q
    · rw [upd_ne (Ne.symm M.dne)]
      exact I1.hok.fresh M.new
end
end LM

/-! what is raised, and defs that let it out -/
namespace LM
open PySem L2
/-- what a def wishes of what it lets out -/
def wE (E : XK) : WX := fun c d _ H => E c d H
def mRaise {S : Type} (C : Addr) (f : Str) (me : MX S W) : MS S := fun env s => (me env s).bindS fun w env s => match w.kp with
  | some d => .ex ⟨C, [f], [d]⟩ env s
  | none => .bad
section
variable {S : Type} {X : Cx} {I : BoxI S} {Wx : WX} {a : Expr} {p pos pos2 : Pos} {me : MX S W} {C fI : Addr} {x q f : Str} {B newId initId : String} {bmo : List Value}
theorem s_raise (hc : X.calm = true) (tk : Takes X Wx) (T : XTx X.K X.mg x q f C fI B newId initId bmo) (W : PWord f) (hr : Room 0 X.A) (he : PE X a (tD X.K I Wx me)) (hg : Gl X x := by rfl) (hdb : (x == ("__debug__" : Str)) = false := by decide)
    (hs : starEach (a :: []) X.env = (false, eval a X.env) :: starEach [] X.env := by rfl) (hpl : (backTo pos (starEach [] X.env)).any (·.1) = false := by rfl) :
    PS X (.Raise (some (.Call (.Name x p) [a] [] pos)) none pos2) (tS X.K I Wx (mRaise C f me)) := by
  refine PSimp (L2.ps_raise hc tk (pmk_x T W hr (a_cons (ms := mNil) he a_nil hs) hg hdb hs hpl)) fun Dn σ H ⟨G, env, s, ts, R, cl, h⟩ => ?_
  show tDs X.K I Wx (mCons me mNil) σ H _
  refine ⟨G, env, s, ts, R, ?_⟩
  cases e : me env s with
  | bad => simp only [mRaise, e, Out.bindS] at h
  | ex e' env1 s1 =>
    simp only [mRaise, e, Out.bindS] at h
    simp only [mCons, MX.bind, e, Out.bind]
    exact fun dx H' R' => h dx σ H' R'
  | ok w env1 s1 =>
    simp only [mRaise, e, Out.bindS] at h
    simp only [mCons, MX.bind, e, Out.bind, mNil]
    intro vs H' hl R1
    match vs, hl with
    | [v], _ =>
      refine ⟨v, rfl, fun dx n => ?_⟩
      cases e1 : w.kp with
      | none => simp only [e1] at h
      | some d =>
        simp only [e1] at h
        obtain ⟨ad, bv, bm, R2⟩ := R1
        have rep := R2.keep (p := (v, w)) List.mem_cons_self e1
        have R3 := R2.same (H' := upd H' dx (.xd [(f, v)])) (same_upd n)
        refine h dx σ _ (ERX.less (ts := [(v, w)] ++ ts) ⟨ad, bv, bm, R3, R2.dom _ n, [(f, v)], upd_same, rfl, .cons (rep.gr (.same (same_upd n))) .nil⟩ slA)
end
/-! ### defs -/
theorem erx_end {S : Type} {K : PySem.W.Frag} {I : BoxI S} (hI : I.fix = true) {B bm : Addr → Prop} {bv : V} {s : S} {H H' : Hp} {env : List Sl} {σ : L2.St} {e : Ex} {dx : Addr} (R : ERX K I ⟨B, bm, H, bv⟩ e dx env s [] σ H') :
    Ext bm H H' ∧ I.rel s bv bm H' ∧ H dx = none ∧ ∃ fs, H' dx = some (.xd fs) ∧ e.ns = fs.map (·.1) ∧ Reps K B H' (fs.map (·.2)) e.ds := by
  obtain ⟨ad, bv', bm', R, n, fs, e1, e2, r⟩ := R
  obtain ⟨rfl, rfl⟩ : bv' = bv ∧ bm' = bm := R.bfr.2 hI
  exact ⟨⟨R.ext, R.dom⟩, R.box, n, fs, e1, e2, r.gr (.sub fun a z => .inl z)⟩
def SO.foX {S : Type} : SO S → FO S D
  | .rt d _ s => .ok d s
  | .rf ds _ s => .ok (.lst ds) s
  | .nx _ s => .ok .non s
  | .ex e _ s => .ex e s
  | _ => .bad
section
variable {S : Type} {P : Program} {w : World} {K : PySem.W.Frag} {mg : Str → Option Value} {base : Heap} {I : BoxI S}
theorem fn_okX0 {x qual : Str} {st : Stmt} {f : Addr} {fd : FuncData} {N ps : List Str} {k : Nat} {md : List Md} {m : MS S} (F : Fun K x qual st f fd) (Sc : FnScope N ps (defScope st)) (hl : md.length = ps.length) (hI : I.fix = true)
    (hbody : ∀ (cdv : Value) (A : Around) (outer : List Env) (s : Shared) (H : Hp) (E : XK), Room k (A.deeper (PyProof.Rows.envOfC qual (defScope st) s.heap.objs.size f cdv)) →
      PSs (cxOf (L2.CX P w) P w K mg base N qual (defScope st) f cdv A outer s H E) (defBody st) (tS K I (wE E) m)) : FnOk P w K mg base (L2.CX P w) (k + 1) f fd ps (spD I K md fun ds s => (m (env0 md (N.length - ps.length) ds) s).foX) := by
  have hN : ps.length ≤ N.length := by have := congrArg List.length Sc.pre; rw [List.length_take] at this; omega
  refine F.okX Sc (fun vs H Q E ⟨_, _, _, _, _, _, _, _, ar, _⟩ => by rw [ar.len, hl]) fun cdv A outer s H vs Q E hr ⟨B, bm, bv, ds, s0, hmB, hB, rb, ar, z⟩ => ?_
  have hv : vs.length = ps.length := by rw [ar.len, hl]
  refine ⟨_, hbody cdv A outer s H E hr, ⟨B, bm, H, bv⟩, env0 md (N.length - ps.length) ds, s0, [], ?_, Cl.nil, ?_⟩
  · rw [← hv]; exact er_start (by omega) hmB hB rb ar
  · cases e : m (env0 md (N.length - ps.length) ds) s0 with
    | rt d env1 s1 =>
      simp only [e, SO.foX] at z
      exact fun v σ' H' R => let ⟨h1, h2, h3⟩ := er_end hI R; z v H' h1 h2 h3
    | rf d env1 s1 =>
      simp only [e, SO.foX] at z
      intro v σ' H' ⟨ad, bv', bm', R⟩
      obtain ⟨h1, h2, h3⟩ := er_end hI ⟨ad, bv', bm', R.fzF⟩
      exact z v H' h1 h2 h3
    | nx env1 s1 =>
      simp only [e, SO.foX] at z
      intro σ' H' ⟨ad, bv', bm', R⟩
      obtain ⟨h1, h2, h3⟩ := er_end hI ⟨ad, bv', bm', R.pushV .non⟩
      exact z .non H' h1 h2 h3
    | ex x env1 s1 =>
      simp only [e, SO.foX] at z
      intro dx σ' H' R
      obtain ⟨h1, h2, h3, h4⟩ := erx_end hI R
      exact z dx H' h1 h2 h3 h4
    | bk env1 s1 => simp only [e, SO.foX] at z
    | ct env1 s1 => simp only [e, SO.foX] at z
    | bad => simp only [e, SO.foX] at z
end
def SO.foJ (y C : Addr) : SO Unit → FO Unit (List Str × List D)
  | .nx (.slf y' C' ns ds :: _) _ => if y' = y ∧ C' = C then .ok (ns, ds) () else .bad
  | .ex e _ _ => .ex e ()
  | _ => .bad
section
variable {P : Program} {w : World} {K : PySem.W.Frag} {mg : Str → Option Value} {base : Heap}
/-- .. that may let something out -/
theorem fn_okXI {x qual : Str} {st : Stmt} {f C : Addr} {fd : FuncData} {N ps : List Str} {k : Nat} {md : List Md} {m : MS Unit} {g : List D → FO Unit (List Str × List D)} (F : Fun K x qual st f fd) (Sc : FnScope N ps (defScope st)) (hl : md.length + 1 = ps.length)
    (hg : ∀ y ds, (m (envI y C md (N.length - ps.length) ds) ()).foJ y C = g ds)
    (hbody : ∀ (cdv : Value) (A : Around) (outer : List Env) (s : Shared) (H : Hp) (E : XK), Room k (A.deeper (PyProof.Rows.envOfC qual (defScope st) s.heap.objs.size f cdv)) →
      PSs (cxOf (L2.CX P w) P w K mg base N qual (defScope st) f cdv A outer s H E) (defBody st) (tS K boxNil (wE E) m)) : FnOk P w K mg base (L2.CX P w) (k + 1) f fd ps (spI K C md g) := by
  have hN : ps.length ≤ N.length := by have := congrArg List.length Sc.pre; rw [List.length_take] at this; omega
  refine F.okX Sc (fun vs H Q E ⟨_, _, _, _, _, _, e, _, _, _, _, _, ar, _⟩ => by rw [e, List.length_cons, ar.len, hl]) fun cdv A outer s H vs Q E hr ⟨y, dx, H1, B, rest, ds, ev, n1, n2, n3, eH, hB, ar, z⟩ => ?_
  subst ev eH
  have hv : rest.length = md.length := ar.len
  rw [← hg y ds] at z
  have sm : ∀ a o, H1 a = some o → upd (upd H1 dx (.own y)) y (.ins C dx []) a = some o := fun a o e => by
    rw [upd_ne (ne_of_none e n1), upd_ne (ne_of_none e n2)]; exact e
  refine ⟨_, hbody cdv A outer s _ E hr, ⟨B, fun _ => False, H1, .non⟩, envI y C md (N.length - ps.length) ds, (), [], ?_, Cl.nil, ?_⟩
  · have hgo := envA_noB (T := fun _ => False) ar (N.length - ps.length)
    have own0 : ∀ (i : Nat) (u : Sl), (envI y C md (N.length - ps.length) ds)[i]? = some u → u.isOwn = true → i = 0 := fun i u e o => by
      cases i with
      | zero => rfl
      | succ i => rw [(hgo i u e).1] at o; cases o
    have est : L2.start N (.ref y :: rest) = some (.ref y) :: (rest.map some ++ List.replicate (N.length - ps.length) none) := by
      unfold L2.start
      rw [List.map_cons, List.cons_append, List.length_cons, hv, hl]
    have nO : ∀ a, Ow (fun _ => y) (envI y C md (N.length - ps.length) ds) [] a → a = y := fun a z => by
      rcases z with ⟨i, u, e, o, q⟩ | ⟨p, hp, _⟩
      · exact q.symm
      · cases hp
    have subB : ∀ a, Bv ⟨B, fun _ => False, H1, .non⟩ (fun _ => False) (fun _ => y) (envI y C md (N.length - ps.length) ds) [] a → B a ∨ H1 a = none := fun a z => z.imp (fun q => q) fun z => z.elim (fun z => z.elim) fun z => (nO a z) ▸ n1
    have subT : ∀ a, Tv (fun _ => False) (fun _ => y) (envI y C md (N.length - ps.length) ds) [] a → False ∨ H1 a = none := fun a z => z.imp (fun q => q) fun z => (nO a z) ▸ n1
    refine ⟨fun _ => y, .non, fun _ => False, ?_, fun a o e _ => sm a o e, fun a e => ?_, fun _ h => h, ⟨fun a z => z.elim, fun _ => ⟨rfl, rfl⟩⟩, hB, fun i u e o => ⟨n1, fun z => z⟩, fun p hp => (nomatch hp), fun i j u v ei ej oi oj _ => by rw [own0 i u ei oi, own0 j v ej oj], fun i u p e o hp => (nomatch hp), .nil, fun i u e => ?_, fun p hp => (nomatch hp)⟩
    · rw [est]
      unfold envI env0
      rw [List.length_cons, List.length_cons, List.length_append, List.length_append, List.length_map, List.length_replicate, List.length_replicate, envA_len ar]
    · show H1 a = none
      cases q : H1 a with
      | none => rfl
      | some o => rw [sm a o q] at e; cases e
    · rw [est]
      cases i with
      | zero =>
        have e : some (Sl.slf y C [] []) = some u := e
        cases e
        exact ⟨rfl, rfl, dx, [], upd_same, rfl, .nil⟩
      | succ i =>
        have q := (hgo i u e).2 (fun _ => False) B y (fun _ z => z) fun _ z => z
        exact q.gr ⟨fun a o e _ => sm a o e, subT⟩ ⟨fun a o e _ => sm a o e, subB⟩ fun ho _ _ => by rw [(hgo i u e).1] at ho; cases ho
  · cases e : m (envI y C md (N.length - ps.length) ds) () with
    | nx env1 s1 =>
      cases env1 with
      | nil => simp only [e, SO.foJ] at z
      | cons sl env1 =>
        cases sl with
        | slf y' C' ns es =>
          simp only [e, SO.foJ] at z
          by_cases hc : y' = y ∧ C' = C
          · rw [if_pos hc] at z
            obtain ⟨rfl, rfl⟩ := hc
            intro σ' H' ⟨ad, bv, bm, R⟩
            obtain ⟨fa, fσ, dx', fs, q1, q2, q3⟩ := R.sl 0 _ rfl
            rw [fa] at q1
            refine z H' (fun a o e => R.ext a o e fun z => z) ⟨dx', fs, q1, q2, q3.gr (.sub fun a h => ?_)⟩
            rcases h with h | h
            · exact .inl h
            · exact .inr (.inr (.inl ⟨0, _, rfl, rfl, fa.trans h.symm⟩))
          · rw [if_neg hc] at z; exact z.elim
        | _ => simp only [e, SO.foJ] at z
    | ex x env1 s1 =>
      simp only [e, SO.foJ] at z
      intro dx' σ' H' ⟨ad, bv', bm', R, n, fs, e1, e2, r⟩
      exact z dx' H' (fun a o e => R.ext a o e fun z => z) n ⟨fs, e1, e2, r.gr (.sub fun a z => .inl z)⟩
    | _ => simp only [e, SO.foJ] at z
end
end LM

/-! calls whose wish reads the slots -/
namespace LM
open PySem PySem.Spec PyProof.Rows L2
section
variable {X : Cx} {CX : CXT} {k : Nat} {f C : Addr} {fd : FuncData} {ps : List Str} {sp : Sp} {x m : Str} {p pos apos : Pos} {e o : Expr} {es : List Expr} {ta : TE} {t : TA}
def tMakeS (C : Addr) (sp : Sp) (E : L2.St → XK) (t : TA) : TE := fun σ H Q => t σ H fun vs H1 => ∀ x dx, H1 x = none → H1 dx = none → dx ≠ x →
  sp (.ref x :: vs) (upd (upd H1 dx (.own x)) x (.ins C dx [])) (fun v H2 => v = .non ∧ Q (.ref x) H2) (E σ)
theorem run_makeS {pins : List (Addr × Obj)} {σ : L2.St} {H : Hp} {s : Shared} {Q : VK} {us : List Value} {vs : List V} {E : XK} (M : Mk X.K C f) (F : FnOk X.prog X.w X.K X.mg X.base CX k f fd ps sp) (hr : Room (k + 1) X.A) (hb : Binds X.K fd ps [])
    (hx : PassesAt CX X σ E) (I : Inv X pins σ H s) (r : Vals vs us)
    (h : ∀ x dx, H x = none → H dx = none → dx ≠ x → sp (.ref x :: vs) (upd (upd H dx (.own x)) x (.ins C dx [])) (fun v H2 => v = .non ∧ Q (.ref x) H2) E) :
    wpAny (model X.prog X.w) X.A (call (.ref C) us) (EP X pins σ Q) X.xe s := by
  generalize ha : s.heap.objs.size = a
  have q0 := h (a + 1) a (I.hok.fresh (by rw [ha]; exact Nat.le_succ a)) (I.hok.fresh (by rw [ha]; exact Nat.le_refl a)) (Nat.ne_of_lt (Nat.lt_succ_self a))
  have J := Inv.made (C := C) I
  rw [ha] at J
  have r2 : Vals (V.ref (a + 1) :: vs) (Value.ref (a + 1) :: us) := .cons rfl r
  have hl : (Value.ref (a + 1) :: us).length = ps.length := by rw [← r2.length, F.len _ _ _ _ q0]
  have bnd := hb _ (Value.ref (a + 1) :: us) J.kIn (by rw [List.append_nil]; exact hl)
  rw [List.append_nil] at bnd
  have go := F.run _ X.stack _ _ ⟨Value.ref (a + 1) :: us, []⟩ (Value.ref (a + 1) :: us) _ _ E (hr.make C us []) (J.env0.make C us []) bnd r2 q0
  refine wpAny_call (make_map (f := f) I.kIn M.makes M.init (beq_iff_eq.mp M.fn) ?_)
  rw [ha]
  refine codeAny_mono go fun r s' z => ?_
  rcases r with er | fl
  · exact hx pins _ _ er s' J z
  · cases fl with
    | ret u =>
      obtain ⟨v, H', J', rv, ev, q3⟩ := J.after z
      subst ev
      exact ⟨rv, ⟨V.ref (a + 1), H', J', rfl, q3⟩⟩
    | _ => exact False.elim z
theorem pe_makeS {E : L2.St → XK} (M : Mk X.K C f) (F : FnOk X.prog X.w X.K X.mg X.base CX k f fd ps sp) (hr : Room (k + 1) X.A) (hg : Gl X x) (hm : X.mg x = some (.ref C)) (hb : Binds X.K fd ps []) (hx : ∀ σ, PassesAt CX X σ (E σ))
    (ha : PA X (e :: es) t) (hdb : (x == ("__debug__" : Str)) = false := by decide) (he : starEach (e :: es) X.env = (false, eval e X.env) :: starEach es X.env := by rfl) (hpl : (backTo pos (starEach es X.env)).any (·.1) = false := by rfl) :
    PE X (.Call (.Name x p) (e :: es) [] pos) (tMakeS C sp E t) := ⟨fun pins s σ H Q I h =>
  wpAny_Call_Name_kw (ld_glob I hg hm (PySem.W.callWith_K (h₀ := X.base) I.ok.mod.kin M.kp (thn (ha.run pos pins s σ H _ I h) fun us s1 ⟨vs, H1, I1, r, q⟩ => ⟨I1.kIn, run_makeS M F hr hb (hx σ) I1 r q⟩) he hpl) hdb)⟩
def tMethS (C : Addr) (m : Str) (sp : Sp) (E : L2.St → XK) (ta : TE) (t : TA) : TE := fun σ H Q => tMeth C m sp [] (E σ) ta t σ H Q
theorem pe_methS {pl : Sem Bool} {E : L2.St → XK} (he : PE X o ta) (c : Cls X.K C) (hm : Meth X.K C m f) (F : FnOk X.prog X.w X.K X.mg X.base CX k f fd ps sp) (hr : Room k X.A) (hb : Binds X.K fd ps []) (hx : ∀ σ, PassesAt CX X σ (E σ)) (ha : PA X (e :: es) t)
    (hst : starEach (e :: es) X.env = (false, eval e X.env) :: starEach es X.env := by rfl) (hpl : (backTo pos (starEach es X.env)).any (·.1) = false := by rfl)
    (ht : eval (.Call (.Attribute o m apos) (e :: es) [] pos) X.env = (do
      let ov ← eval o X.env
      standAt apos.atName
      let (f, first) ← holding [ov] (getMethod ov m pl)
      callWith pos f first (backTo pos (starEach (e :: es) X.env)) (backToKw pos (keywordEach [] X.env))) := by rfl) : PE X (.Call (.Attribute o m apos) (e :: es) [] pos) (tMethS C m sp E ta t) := by
  refine ⟨fun pins s σ H Q I h => PySem.W.methodCall_KW (pl := pl) (thn (he.run pins s σ H _ I h) fun u s1 ⟨x, H1, I1, rx, a, dx, fs, ex, ea, l, q⟩ => ?_) ht⟩
  subst ex
  obtain rfl : u = Value.ref a := rx
  refine getmeth_ok I1 ea c hm l (PySem.W.callWith_K (first := [.ref a]) (h₀ := X.base) I.ok.mod.kin hm.kp (thn (ha.run pos pins s1 σ H1 _ I1 q) fun us s2 ⟨vs, H2, I2, r, q2⟩ => ⟨I2.kIn, ?_⟩) hst hpl)
  exact run_fnSD (E := E) (us := .ref a :: us) (vs := .ref a :: vs) F hr hb .nil (hx σ) I2 (.cons rfl r) q2
end
section
variable {S : Type} {X : Cx} {I : BoxI S} {Wx : WX} {CX : CXT} {a o : Expr} {es : List Expr} {pos p apos : Pos} {ma : MX S W} {ms : MX S (List W)} {md : List Md} {k : Nat} {fa C : Addr} {fd : FuncData} {ps : List Str} {x m : Str}
theorem d_makeX {f : List D → FO Unit (List Str × List D)} (M : Mk X.K C fa) (F : FnOk X.prog X.w X.K X.mg X.base CX k fa fd ps (spI X.K C md f)) (hr : Room (k + 1) X.A) (hg : Gl X x) (hm : X.mg x = some (.ref C)) (hb : Binds X.K fd ps [])
    (hx : ∀ σ, PassesAt CX X σ (WE Wx σ)) (ha : PA X (a :: es) (tDs X.K I Wx ms)) (hmd : md.any Md.isB = false := by rfl) (hdb : (x == ("__debug__" : Str)) = false := by decide) (he : starEach (a :: es) X.env = (false, eval a X.env) :: starEach es X.env := by rfl)
    (hpl : (backTo pos (starEach es X.env)).any (·.1) = false := by rfl) : PE X (.Call (.Name x p) (a :: es) [] pos) (tD X.K I Wx (mMakeP C md f ms)) := by
  refine PEimp (pe_makeS (E := fun σ => WE Wx σ) M F hr hg hm hb hx ha hdb he hpl) fun σ H Q ⟨G, env, s, ts, R, h⟩ => ?_
  refine tDs_bind (Z := ZD X.K I Wx G ts σ Q) R h (fun _ _ _ z => z) (fun z => z) fun ws env1 s1 vs H1 _ l R1 z1 => ?_
  obtain ⟨ad, bv, bm, R2⟩ := R1
  intro y dx n1 n2 n3
  exact make_fin R2 l zip_in (fun c d H' h => h) hmd z1 n1 n2 n3
theorem d_methX {f : List D → Unit → FO Unit D} {pl : Sem Bool} (ho : PE X o (tD X.K I Wx ma)) (c : Cls X.K C) (hm : Meth X.K C m fa) (F : FnOk X.prog X.w X.K X.mg X.base CX k fa fd ps (spD boxNil X.K (.v :: md) f)) (hr : Room k X.A) (hb : Binds X.K fd ps [])
    (hx : ∀ σ, PassesAt CX X σ (WE Wx σ)) (ha : PA X (a :: es) (tDs X.K I Wx ms)) (hmd : md.any Md.isB = false := by rfl)
    (hst : starEach (a :: es) X.env = (false, eval a X.env) :: starEach es X.env := by rfl) (hpl : (backTo pos (starEach es X.env)).any (·.1) = false := by rfl)
    (ht : eval (.Call (.Attribute o m apos) (a :: es) [] pos) X.env = (do
      let ov ← eval o X.env
      standAt apos.atName
      let (f, first) ← holding [ov] (getMethod ov m pl)
      callWith pos f first (backTo pos (starEach (a :: es) X.env)) (backToKw pos (keywordEach [] X.env))) := by rfl) : PE X (.Call (.Attribute o m apos) (a :: es) [] pos) (tD X.K I Wx (mMethP C m md f ma ms)) :=
  PEimp (pe_methS (E := fun σ => WE Wx σ) ho c hm F hr hb hx ha hst hpl ht) fun σ H Q ⟨G, env, s, ts, R, h⟩ => meth_fin (E := WE Wx σ) R h (fun _ _ _ h => h) hmd
end
end LM

/-! try, except X as e -/
namespace LM
open PySem L2
section
variable {K : PySem.W.Frag} {B : Addr → Prop} {H : Hp} {dx : Addr} {fs : List (Str × V)}
theorem rd_nx {a : Addr} {u : HO} (h : H dx = some (.xd fs)) (hu : ∀ fs, u ≠ .xd fs) (r : Rd H a u) : a ≠ dx := fun z => by
  subst z
  rcases r with r | ⟨o, r⟩
  · rw [h] at r; exact hu _ (Option.some.inj r).symm
  · rw [h] at r; cases r
mutual
theorem Rep.nx (h : H dx = some (.xd fs)) : ∀ (d : D) (v : V), Rep K B H v d → Rep K (fun a => B a ∨ a = dx) H v d
  | .non, _, r => by cases r; exact .non
  | .bl _, _, r => by cases r; exact .bl _
  | .int _, _, r => by cases r; exact .int _
  | .str _, _, r => by cases r; exact .str _
  | .tup ds, _, r => by
    cases r with
    | tup n r q => exact .tup (fun z => z.elim n (rd_nx h (fun _ z => by cases z) r)) r (Reps.nx h ds _ q)
    | wtup r q => exact .wtup r (Reps.nx h ds _ q)
  | .lst ds, _, r => by
    cases r with
    | lst n r q => exact .lst (fun z => z.elim n (rd_nx h (fun _ z => by cases z) r)) r (Reps.nx h ds _ q)
    | wlst r q => exact .wlst r (Reps.nx h ds _ q)
  | .ins C ns ds, _, r => by
    cases r with
    | ins n r e q => exact .ins (fun z => z.elim n (rd_nx h (fun _ z => by cases z) (.inl r))) r e (Reps.nx h ds _ q)
theorem Reps.nx (h : H dx = some (.xd fs)) : ∀ (ds : List D) (vs : List V), Reps K B H vs ds → Reps K (fun a => B a ∨ a = dx) H vs ds
  | [], _, r => by cases r; exact .nil
  | d :: ds, _, r => by
    cases r with
    | cons h1 h2 => exact .cons (Rep.nx h d _ h1) (Reps.nx h ds _ h2)
end
theorem Top.nx {T : Addr → Prop} (h : H dx = some (.xd fs)) {v : V} {d : D} (r : Top K T B H v d) : Top K (fun a => T a ∨ a = dx) (fun a => B a ∨ a = dx) H v d := by
  rcases r with r | ⟨a, xs, ds, e1, e2, n, r, q⟩
  · exact .inl (r.nx h)
  · exact .inr ⟨a, xs, ds, e1, e2, fun z => z.elim n (rd_nx h (fun _ z => by cases z) r), r, q.nx h⟩
end
/-- an error in hand: at a, its class C, its dict dx -/
def excI (K : PySem.W.Frag) (a dx C : Addr) : BoxI Ex where
  rel := fun e bv bm H => bv = .ref a ∧ (∀ x, bm x ↔ x = dx) ∧ e.C = C ∧ ∃ fs, H dx = some (.xd fs) ∧ e.ns = fs.map (·.1) ∧ Reps K (fun _ => False) (fun _ => none) (fs.map (·.2)) e.ds
  frame := by
    rintro s bv bm H H' ⟨h1, h2, h3, fs, h4, h5, h6⟩ h
    exact ⟨h1, h2, h3, fs, (h dx ((h2 dx).mpr rfl)).trans h4, h5, h6⟩
  dom := fun ⟨_, h2, _, fs, h4, _⟩ m => by
    rw [(h2 _).mp m, h4]; exact fun z => by cases z
  fix := true
/-- data that lie in no heap -/
theorem reps_flat {K : PySem.W.Frag} {B : Addr → Prop} {H : Hp} : ∀ {ds : List D} {vs : List V}, ds.all D.flat = true → Reps K B H vs ds → Reps K (fun _ => False) (fun _ => none) vs ds
  | [], _, _, h => by cases h; exact .nil
  | d :: ds, _, f, h => by
    rw [List.all_cons, Bool.and_eq_true] at f
    cases h with
    | cons h1 h2 =>
      refine .cons ?_ (reps_flat f.2 h2)
      cases d with
      | non => cases h1; exact .non
      | bl b => cases h1; exact .bl _
      | int i => cases h1; exact .int _
      | str x => cases h1; exact .str _
      | _ => cases f.1
theorem rep_lift {K : PySem.W.Frag} {B : Addr → Prop} {H : Hp} {v : V} {d : D} (h : Rep K (fun _ => False) (fun _ => none) v d) : Rep K B H v d := h.gr ⟨fun _ _ e => (nomatch (show (none : Option HO) = _ from e)), fun _ _ => .inr rfl⟩
section
variable {K : PySem.W.Frag} {G : Gh} {env : List Sl} {s : Unit} {ts : List (V × W)} {σ : St} {H : Hp} {e : Ex} {a dx : Addr} {i : Nat}
/-- into the suite -/
theorem erx_in (R : ERX K boxNil G e dx env s ts σ H) (cl : Cl ts) (nb : env.all Sl.noBox = true) (fl : e.ds.all D.flat = true) (ni : ∀ x, env[i]? = some x → x.isRef = false) :
    ER K (excI K a dx e.C) ⟨G.B, fun x => x = dx, G.H0, .ref a⟩ (env.set i .box) e ts (σ.set i (some (.ref a))) H := by
  obtain ⟨ad, bv, bm, R, n, fs, e1, e2, r⟩ := R
  have b0 : ∀ a, ¬ bm a := R.box
  have gM : bm = G.M := (R.bfr.2 rfl).2
  have xn : ∀ {j : Nat} {x : Sl}, env[j]? = some x → x.isOwn = true → ad j ≠ dx := fun {j x} ej o z => by
    have q := R.sl j x ej
    cases x with
    | own ds => obtain ⟨_, xs, q, _⟩ := q; rw [z, e1] at q; cases q
    | slf y C ns ds => obtain ⟨_, _, dx', fs', q, _⟩ := q; rw [z, e1] at q; cases q
    | _ => cases o
  have go : ∀ b, Ow ad (env.set i .box) ts b → Ow ad env ts b := fun b z => z.imp (fun ⟨j, y, ej, o, q⟩ => by
    rcases set_get ej with ⟨_, rfl, _⟩ | ⟨_, ej⟩
    · cases o
    · exact ⟨j, y, ej, o, q⟩) fun q => q
  have gb : Gr (fun b => Bv G bm ad env ts b ∨ b = dx) (Bv ⟨G.B, fun x => x = dx, G.H0, .ref a⟩ (fun x => x = dx) ad (env.set i .box) ts) H H := .sub fun b z => by
    rcases z with z | z | z
    · exact .inl (.inl z)
    · exact .inr z
    · exact .inl (.inr (.inr (go b z)))
  have gt : Gr (fun b => Tv bm ad env ts b ∨ b = dx) (Tv (fun x => x = dx) ad (env.set i .box) ts) H H := .sub fun b z => by
    rcases z with z | z
    · exact .inr z
    · exact .inl (.inr (go b z))
  refine ⟨ad, .ref a, fun x => x = dx, ?_, fun b o q m => R.ext b o q fun z => b0 b (gM ▸ z), R.dom, ⟨rfl, fun _ => Iff.rfl, rfl, fs, e1, e2, reps_flat fl r⟩, ⟨fun b z => .inl z, fun _ => ⟨rfl, rfl⟩⟩, R.bdom, fun j x ej o => ?_, fun p hp f => ?_, fun j k x y ej ek oj ok => ?_, fun j x p ej o hp f => ?_, R.d3, fun j x ej => ?_, fun p hp => ?_⟩
  · rw [List.length_set, List.length_set]; exact R.len
  · rcases set_get ej with ⟨_, rfl, _⟩ | ⟨_, ej⟩
    · cases o
    · exact ⟨(R.own j x ej o).1, xn ej o⟩
  · rw [cl.nf hp] at f; cases f
  · rcases set_get ej with ⟨_, rfl, _⟩ | ⟨_, ej⟩
    · cases oj
    rcases set_get ek with ⟨_, rfl, _⟩ | ⟨_, ek⟩
    · cases ok
    exact R.d1 j k x y ej ek oj ok
  · rw [cl.nf hp] at f; cases f
  · rcases set_get ej with ⟨rfl, rfl, hl⟩ | ⟨ne, ej⟩
    · rw [List.getElem?_set_self (by rw [R.len]; exact hl)]
      exact rfl
    · rw [List.getElem?_set_ne (Ne.symm ne)]
      have q := R.sl j x ej
      have nbx : x.noBox = true := List.all_eq_true.mp nb x (List.mem_of_getElem? ej)
      cases x with
      | no => exact q
      | val d => obtain ⟨v, q1, q2⟩ := q; exact ⟨v, q1, (q2.nx e1).gr gb⟩
      | top d => obtain ⟨v, q1, q2⟩ := q; exact ⟨v, q1, (q2.nx e1).gr gt gb⟩
      | own ds => obtain ⟨q1, xs, q2, q3⟩ := q; exact ⟨q1, xs, q2, (q3.nx e1).gr gb⟩
      | fz ds => obtain ⟨q1, q2⟩ := q; exact ⟨q1, (q2.nx e1).gr gb⟩
      | slf y C ns ds => obtain ⟨q1, q2, dx', fs', q3, q4, q5⟩ := q; exact ⟨q1, q2, dx', fs', q3, q4, (q5.nx e1).gr gb⟩
      | box => cases nbx
  · have q := R.tm p hp
    obtain ⟨v, w⟩ := p
    rcases cl _ hp with ⟨d, ew⟩ | ⟨d, ew⟩
    · have ew : w = .v d := ew
      subst ew
      exact (Rep.nx e1 d v q).gr gb
    · have ew : w = .t d := ew
      subst ew
      exact (Top.nx e1 q).gr gt gb
/-- out of the suite -/
theorem erx_out {C : Addr} {v0 : Option V} (n : G.H0 dx = none) (gM : ∀ x, ¬ G.M x) (R : ER K (excI K a dx C) ⟨G.B, fun x => x = dx, G.H0, .ref a⟩ env e ts σ H) (cl : Cl ts) (nb : (env.set i .no).all Sl.noBox = true) (ni : ∀ x, env[i]? = some x → x.isRef = false) :
    ER K boxNil G (env.set i .no) () ts (σ.set i v0) H := by
  obtain ⟨ad, bv, bm, R⟩ := R
  obtain ⟨_, b0, _, fs, e1, _⟩ := R.box
  obtain ⟨rfl, gm⟩ := R.bfr.2 rfl
  have go : ∀ b, Ow ad (env.set i .no) ts b → Ow ad env ts b := fun b z => z.imp (fun ⟨j, y, ej, o, q⟩ => by
    rcases set_get ej with ⟨_, rfl, _⟩ | ⟨_, ej⟩
    · cases o
    · exact ⟨j, y, ej, o, q⟩) fun q => q
  have gb : Gr (Bv ⟨G.B, fun x => x = dx, G.H0, .ref a⟩ bm ad env ts) (Bv G G.M ad (env.set i .no) ts) H H := .sub fun b z => by
    rcases z with z | z | z
    · exact .inl z
    · exact absurd z (gM b)
    · exact .inr (.inr (go b z))
  have gt : Gr (Tv bm ad env ts) (Tv G.M ad (env.set i .no) ts) H H := .sub fun b z => by
    rcases z with z | z
    · exact absurd z (gM b)
    · exact .inr (go b z)
  refine ⟨ad, G.bv, G.M, ?_, fun b o q m => ?_, R.dom, gM, ⟨fun b z => .inl z, fun _ => ⟨rfl, rfl⟩⟩, R.bdom, fun j x ej o => ?_, fun p hp f => ?_, fun j k x y ej ek oj ok => ?_, fun j x p ej o hp f => ?_, R.d3, fun j x ej => ?_, fun p hp => ?_⟩
  · rw [List.length_set, List.length_set]; exact R.len
  · refine R.ext b o q ?_
    intro z
    have z : b = dx := z
    rw [z, n] at q; cases q
  · rcases set_get ej with ⟨_, rfl, _⟩ | ⟨_, ej⟩
    · cases o
    · exact ⟨(R.own j x ej o).1, gM _⟩
  · rw [cl.nf hp] at f; cases f
  · rcases set_get ej with ⟨_, rfl, _⟩ | ⟨_, ej⟩
    · cases oj
    rcases set_get ek with ⟨_, rfl, _⟩ | ⟨_, ek⟩
    · cases ok
    exact R.d1 j k x y ej ek oj ok
  · rw [cl.nf hp] at f; cases f
  · rcases set_get ej with ⟨rfl, rfl, hl⟩ | ⟨ne, ej⟩
    · exact True.intro
    · rw [List.getElem?_set_ne (Ne.symm ne)]
      have q := R.sl j x ej
      have nbx : x.noBox = true := List.all_eq_true.mp nb x (List.mem_of_getElem? (i := j) (by rw [List.getElem?_set_ne (Ne.symm ne)]; exact ej))
      cases x with
      | no => exact q
      | val d => obtain ⟨v, q1, q2⟩ := q; exact ⟨v, q1, q2.gr gb⟩
      | top d => obtain ⟨v, q1, q2⟩ := q; exact ⟨v, q1, q2.gr gt gb⟩
      | own ds => obtain ⟨q1, xs, q2, q3⟩ := q; exact ⟨q1, xs, q2, q3.gr gb⟩
      | fz ds => obtain ⟨q1, q2⟩ := q; exact ⟨q1, q2.gr gb⟩
      | slf y C ns ds => obtain ⟨q1, q2, dx', fs', q3, q4, q5⟩ := q; exact ⟨q1, q2, dx', fs', q3, q4, q5.gr gb⟩
      | box => cases nbx
  · have q := R.tm p hp
    obtain ⟨v, w⟩ := p
    rcases cl _ hp with ⟨d, ew⟩ | ⟨d, ew⟩
    · have ew : w = .v d := ew
      subst ew
      exact Rep.gr gb d v q
    · have ew : w = .t d := ew
      subst ew
      exact Top.gr gt gb q
end
end LM

/-! try, except X as e: the rule -/
namespace LM
open PySem L2
def noRefAt (env : List Sl) (i : Nat) : Bool := match env[i]? with
  | some x => !x.isRef
  | none => true
theorem noRefAt_ok {env : List Sl} {i : Nat} (h : noRefAt env i = true) : ∀ x, env[i]? = some x → x.isRef = false := fun x e => by
  unfold noRefAt at h
  rw [e] at h
  simpa using h
/-- behind the suite: the name is gone -/
def tryOut (i : Nat) (o : SO Ex) : SO Unit := match o with
  | .nx env _ => if (env.set i .no).all Sl.noBox && noRefAt env i then .nx (env.set i .no) () else .bad
  | .rt d env _ => if (env.set i .no).all Sl.noBox && noRefAt env i then .rt d (env.set i .no) () else .bad
  | _ => .bad
def mTryAs (sub : Addr → Option Bool) (i : Nat) (mb : MS Unit) (mh : MS Ex) : MS Unit := fun env s => match mb env s with
  | .ex e env' s' => match sub e.C with
    | some true => if env'.all Sl.noBox && e.ds.all D.flat && noRefAt env' i then tryOut i (mh (env'.set i .box) e) else .bad
    | some false => .ex e env' s'
    | none => .bad
  | o => o
section
variable {X : Cx} {Wx : WX} {x n : Str} {Cc : Addr} {i : Nat} {body suite : List Stmt} {b₀ : Stmt} {np pos pos' : Pos} {mb : MS Unit} {mh : MS Ex} {sub : Addr → Option Bool}
theorem s_try_as (hs : X.stack = X.env :: X.outer) (hf : X.env.frame = some X.env.locals) (hN : X.N.Nodup) (hi : X.N[i]? = some n) (hln : X.env.kindOf n = some .local) (hc : Names X x (.ref Cc)) (tk : Takes X Wx)
    (hsub : ∀ C b, sub C = some b → PySem.W.exmOne X.K (.ref C) (.ref Cc) = some b)
    (hb : ∀ (W : WX) (pn : List (Addr × Obj)) (xe : Value → Shared → Prop), Takes (X.tr pn xe) W → PassesOwn (model X.prog X.w) X.A X.env xe → PSs (X.tr pn xe) body (tS X.K boxNil W mb))
    (hsu : ∀ (a : Addr) (oe : Obj) (C dx : Addr) (pn : List (Addr × Obj)), Zc (.ref C) (some dx) oe → (∃ vs, oe.data = .fields vs) → PSs (X.suite a ((a, oe) :: pn)) (b₀ :: suite) (tS X.K (excI X.K a dx C) W0 mh)) :
    PS X (.Try body [.ExceptHandler (some (.Name x np)) (some n) (b₀ :: suite) pos'] [] [] pos) (tS X.K boxNil Wx (mTryAs sub i mb mh)) := by
  refine PSimp (L2.ps_try_as (ts := fun a cls d => fun Dn σ H => ∃ C dx, cls = .ref C ∧ d = some dx ∧ tS X.K (excI X.K a dx C) W0 mh Dn σ H) hs hf hN hi hln hc tk hb
    (fun a oe cls d pn hz hv => ⟨fun pins s σ H Dn J ⟨C, dx, e1, e2, h⟩ => (hsu a oe C dx pn (by rw [← e1, ← e2]; exact hz) hv).run pins s σ H Dn J h⟩)) fun Dn σ H ⟨G, env, s, ts, R, cl, h⟩ => ?_
  refine ⟨G, env, s, ts, R, cl, ?_⟩
  unfold mTryAs at h
  cases e : mb env s with
  | nx env1 s1 => rw [e] at h; exact h
  | rt d env1 s1 => rw [e] at h; exact h
  | rf d env1 s1 => rw [e] at h; exact h
  | bk env1 s1 => rw [e] at h; exact h
  | ct env1 s1 => rw [e] at h; exact h
  | bad => rw [e] at h; exact h
  | ex x env1 s1 =>
    simp only [e] at h
    intro dx σ' H' R'
    cases e1 : sub x.C with
    | none => simp only [e1] at h
    | some b =>
      cases b with
      | false =>
        simp only [e1] at h
        exact ⟨false, hsub _ _ e1, fun z => absurd z Bool.false_ne_true, fun _ => h dx σ' H' R'⟩
      | true =>
        simp only [e1] at h
        refine ⟨true, hsub _ _ e1, fun _ a na => ?_, fun z => absurd z.symm Bool.false_ne_true⟩
        by_cases hc : (env1.all Sl.noBox && x.ds.all D.flat && noRefAt env1 i) = true
        · simp only [if_pos hc] at h
          simp only [Bool.and_eq_true] at hc
          obtain ⟨⟨h1, h2⟩, h3⟩ := hc
          have gM : ∀ x, ¬ G.M x := by
            obtain ⟨ad, bv, bm, R2, _⟩ := id R'
            have e5 : bm = G.M := (R2.bfr.2 rfl).2
            exact fun x z => R2.box x (by rw [e5]; exact z)
          have nG : G.H0 dx = none := by obtain ⟨_, _, _, _, q, _⟩ := R'; exact q
          refine ⟨x.C, dx, rfl, rfl, _, _, _, ts, erx_in R' cl h1 h2 (noRefAt_ok h3), cl, ?_⟩
          cases e4 : mh (env1.set i .box) x with
          | nx env2 s2 =>
            simp only [e4, tryOut] at h
            intro σ2 H2 R2
            by_cases hc : ((env2.set i .no).all Sl.noBox && noRefAt env2 i) = true
            · simp only [if_pos hc] at h
              rw [Bool.and_eq_true] at hc
              exact h _ H2 (erx_out nG gM R2 cl hc.1 (noRefAt_ok hc.2))
            · simp only [if_neg hc] at h
          | rt d env2 s2 =>
            simp only [e4, tryOut] at h
            intro v σ2 H2 R2
            by_cases hc : ((env2.set i .no).all Sl.noBox && noRefAt env2 i) = true
            · simp only [if_pos hc] at h
              rw [Bool.and_eq_true] at hc
              exact h v (σ2.set i none) H2 (erx_out nG gM R2 cl.cons hc.1 (noRefAt_ok hc.2))
            · simp only [if_neg hc] at h
          | rf d env2 s2 => simp only [e4, tryOut] at h
          | bk env2 s2 => simp only [e4, tryOut] at h
          | ct env2 s2 => simp only [e4, tryOut] at h
          | ex y env2 s2 => simp only [e4, tryOut] at h
          | bad => simp only [e4, tryOut] at h
        · simp only [if_neg hc] at h
end
/-! ### in the suite -/
/-- e.f -/
def mXf (okC : Addr → Bool) (f : Str) (m : MX Ex W) : MX Ex W := m.bind fun w => fun env e => match w with
  | .b => match (e.ns.zip e.ds).lookup f with
    | some d => if okC e.C then .ok (.v d) env e else .bad
    | none => .bad
  | _ => .bad
/-- isinstance(e, ..) -/
def mIsE (f : Addr → Option Bool) (m : MX Ex W) : MX Ex W := m.bind fun w => fun env e => match w with
  | .b => match f e.C with
    | some b => .ok (.v (.bl b)) env e
    | none => .bad
  | _ => .bad
/-- what an error's class says to isinstance and to e.f -/
structure XIs (K : PySem.W.Frag) (C : Addr) : Prop where
  ga : PySem.W.findIn K (.ref C) "__getattribute__" = some (some (.builtin "BaseException.__getattribute__"))
  gg : PySem.W.findIn K (.ref C) "__getattr__" = some none
  exC : PySem.W.subIn K (.ref C) (.type "BaseException") = some true
  hdC : PySem.W.hasDictIn K C = true
  ha : PySem.W.findIn K (.ref C) "__class__" = some (some (.builtin "object.__class__"))
  hn : PySem.W.specialIn K (.builtin "object.__class__") "__get__" = some (some (.builtin "getset_descriptor.__get__"))
  ht : PySem.W.takesIn K (.builtin "object.__class__") = some true
  hm : PySem.W.mroIn K C (.type "object") = some true
/-- the error in hand lies so -/
theorem exc_at {X : Cx} {a D dx : Addr} {oe : Obj} {pn pins : List (Addr × Obj)} {σ : L2.St} {H : Hp} {s : Shared} {fs : List (Str × V)} (hz : Zc (.ref D) (some dx) oe) (hf : ∃ vs, oe.data = .fields vs) (I : Inv (X.suite a ((a, oe) :: pn)) pins σ H s) (ed : H dx = some (.xd fs)) :
    ∃ (od : Obj) (mA : Str → Option Value), PySem.W.InstAt s.heap a oe D (some od) ∧ (∀ n, PySem.W.lookIn n od = some (mA n)) ∧ ∀ f, RelO (fs.lookup f) (mA f) := by
  obtain ⟨hget, _⟩ := I.pin (a, oe) (List.mem_append.mpr (.inl List.mem_cons_self))
  obtain ⟨mA, hns, hr⟩ : ∃ mA, s.heap.Ns1 dx mA ∧ ∀ f, RelO (fs.lookup f) (mA f) := I.hok dx _ ed
  obtain ⟨od, ho, hl⟩ := lookIn_ns hns
  obtain ⟨vs, hv⟩ := hf
  exact ⟨od, mA, ⟨hget, hz.1, by unfold PySem.W.notCls; rw [hv] <;> rfl, by rw [hz.2]; exact ho⟩, fun n => hl n, hr⟩
section
variable {X : Cx} {Wx : WX} {a C dx : Addr} {oe : Obj} {pn : List (Addr × Obj)} {e : Expr} {m : MX Ex W} {f : Str} {pos p : Pos} {okC : Addr → Bool}
theorem d_xf (hk : ∀ C, okC C = true → XIs X.K C ∧ PySem.W.findIn X.K (.ref C) f = some none) (hz : Zc (.ref C) (some dx) oe) (hf : ∃ vs, oe.data = .fields vs) (he : PE (X.suite a ((a, oe) :: pn)) e (tD X.K (excI X.K a dx C) Wx m))
    (hb : attributeBase e f X.env (eval e X.env) = eval e X.env := by rfl) : PE (X.suite a ((a, oe) :: pn)) (.Attribute e f pos) (tD X.K (excI X.K a dx C) Wx (mXf okC f m)) := by
  refine ⟨fun pins s σ H Q I ⟨G, env, t, ts, R, h⟩ => attr_of hb (thn (he.run pins s σ H (fun x H1 => x = .ref a ∧ ∃ fs v, okC C = true ∧ H1 dx = some (.xd fs) ∧ fs.lookup f = some v ∧ Q v H1) I ?_) fun u s1 ⟨x, H1, I1, rx, ex, fs, v, ok, ed, l, q⟩ => ?_)⟩
  · refine tD_bind (Z := ZD X.K (excI X.K a dx C) Wx G ts σ Q) R h (fun _ _ _ z => z) (fun z => z) fun w env1 t1 x H1 _ R1 z1 => ?_
    cases w with
    | b =>
      obtain ⟨ad, bv, bm, R2⟩ := id R1
      obtain ⟨b1, b2, b3, fs, b4, b5, b6⟩ := R2.box
      have ex : x = bv := R2.tm _ List.mem_cons_self
      cases e1 : (t1.ns.zip t1.ds).lookup f with
      | none => simp only [e1] at z1; exact z1.elim
      | some d =>
        simp only [e1] at z1
        by_cases hc : okC t1.C = true
        · simp only [if_pos hc] at z1
          rw [b5] at e1
          obtain ⟨v, e4, r4⟩ := fld_get b6 e1
          refine ⟨by rw [ex, b1], fs, v, by rw [← b3]; exact hc, b4, e4, z1 v H1 ⟨ad, bv, bm, (R2.pushV (rep_lift r4)).less (.cons_cons _ sl1)⟩⟩
        · simp only [if_neg hc] at z1; exact z1.elim
    | _ => exact z1.elim
  · subst ex
    obtain rfl : u = Value.ref a := rx
    obtain ⟨T, hno⟩ := hk C ok
    obtain ⟨od, mA, J, hl, hr⟩ := exc_at hz hf I1 ed
    obtain ⟨y, hy, ry⟩ := RelO.some_of (v := v) (o := mA f) (by rw [← l]; exact hr f)
    exact HandSPX.exc_get I1.kIn J T.ga T.gg T.exC (PySem.W.findObj_own T.hdC hno rfl (by rw [hl, hy])) (handed_of ry) ⟨v, H1, I1.tok _, ry, q⟩
theorem k_own {X : Cx} {x : Str} {D : Addr} (hg : Gl X x) (hm : X.mg x = some (.ref D)) (hd : (x == ("__debug__" : Str)) = false := by decide) : ClsA X (.Name x pos) [.ref D] (tC (.ref D)) :=
  ⟨pe_glob hg hm rfl hd, fun σ H Q h => h _ H (fun _ _ e => e) (.inl ⟨_, rfl, .own D⟩)⟩
def rIsX (K : PySem.W.Frag) (D a dx : Addr) : List V → Hp → VK → Prop := fun xs H Q => ∃ (c : V) (cv : Value) (b : Bool) (fs : List (Str × V)), xs = [.ref a, c] ∧ XIs K D ∧ H dx = some (.xd fs) ∧ ClsV c cv ∧ PySem.W.kitOne K (.ref D) cv = some b ∧ Q (.bl b) H
theorem call_isX (hz : Zc (.ref C) (some dx) oe) (hf : ∃ vs, oe.data = .fields vs) : CallR (X.suite a ((a, oe) :: pn)) (.builtin "isinstance") (rIsX X.K C a dx) := by
  intro pins s σ H xs us Q I r ⟨c, cv, b, fs, exs, T, ed, hcv, e, q⟩
  subst exs
  match r with
  | .cons rx (.cons rt .nil) =>
    cases rx
    have ec := hcv.eq rt
    subst ec
    obtain ⟨od, mA, J, hl, hr⟩ := exc_at hz hf I ed
    obtain ⟨cd, hcd, _⟩ := PySem.W.any_some T.hdC
    exact PySem.W.kia_one (PySem.W.kitx_exc (by rw [hcd]; rfl) T.ga T.gg T.exC T.ha T.hn T.ht T.hm) I.kIn J e (fun z => nomatch z) fun tk => ⟨.bl b, H, I.kept (t' := tk) fun _ _ z => z, rfl, q⟩
theorem d_isE {g : Addr → Option Bool} {cv : Value} {tc : TE} {c : Expr} (hk : ∀ C b, g C = some b → XIs X.K C ∧ PySem.W.kitOne X.K (.ref C) cv = some b) (hz : Zc (.ref C) (some dx) oe) (hf : ∃ vs, oe.data = .fields vs) (hg : Gl X "isinstance") (hm : X.mg "isinstance" = none) (hv : bootBuiltins "isinstance" = some (.builtin "isinstance"))
    (he : PE (X.suite a ((a, oe) :: pn)) e (tD X.K (excI X.K a dx C) Wx m)) (hc : ClsA (X.suite a ((a, oe) :: pn)) c [cv] tc) (tc0 : ∀ σ H Q, (∀ v, ClsV v cv → Q v H) → tc σ H Q)
    (h1 : starEach [e, c] X.env = (false, eval e X.env) :: starEach [c] X.env := by rfl) (h2 : starEach [c] X.env = (false, eval c X.env) :: starEach [] X.env := by rfl) (hpl : (backTo pos (starEach [c] X.env)).any (·.1) = false := by rfl) :
    PE (X.suite a ((a, oe) :: pn)) (.Call (.Name "isinstance" p) [e, c] [] pos) (tD X.K (excI X.K a dx C) Wx (mIsE g m)) := by
  refine PEimp (pe_callB (X := X.suite a ((a, oe) :: pn)) (call_isX hz hf) hg hm hv (pa_cons he (pa_cons hc.pe pa_nil h2) h1) (by decide) (by decide) h1 hpl) fun σ H Q ⟨G, env, t, ts, R, h⟩ => ?_
  refine tD_bind (Z := ZD X.K (excI X.K a dx C) Wx G ts σ Q) R h (fun _ _ _ z => z) (fun z => z) fun w env1 t1 x H1 _ R1 z1 => ?_
  refine tc0 σ H1 _ fun v hcv => ?_
  cases w with
  | b =>
    obtain ⟨ad, bv, bm, R2⟩ := id R1
    obtain ⟨b1, b2, b3, fs, b4, b5, b6⟩ := R2.box
    have ex : x = bv := R2.tm _ List.mem_cons_self
    cases e1 : g t1.C with
    | none => simp only [e1] at z1; exact z1.elim
    | some b =>
      simp only [e1] at z1
      obtain ⟨T, k⟩ := hk _ _ e1
      rw [b3] at T k
      exact ⟨v, cv, b, fs, by rw [ex, b1], T, b4, hcv, k, z1 _ H1 ⟨ad, bv, bm, (R2.pushV (.bl b)).less (.cons_cons _ sl1)⟩⟩
  | _ => exact z1.elim
end
end LM

/-! len(o), o[i] by own defs -/
namespace LM
open PySem PySem.Spec PyProof.Rows L2
/-- a def that the class has for a special name -/
structure Spc (K : PySem.W.Frag) (C : Addr) (n : Str) (f : Addr) : Prop where
  at_ : PySem.W.findIn K (.ref C) n = some (some (.ref f))
  fn : PySem.W.typeIn K (.ref f) = some (.type "function")
section
variable {X : Cx} {k : Nat} {f C : Addr} {fd : FuncData} {ps : List Str} {sp : Sp}
theorem run_in1 {pins : List (Addr × Obj)} {σ : L2.St} {H : Hp} {s : Shared} {Q : VK} {us : List Value} {vs : List V} {Er : Value → Shared → Prop} (F : FnOk X.prog X.w X.K X.mg X.base CX0 k f fd ps sp) (hr : Room (k + 1) X.A) (hb : Binds X.K fd ps [])
    (I : Inv X pins σ H s) (r : Vals vs us) (h : sp vs H Q E0) : wpAny (model X.prog X.w) X.A.in1 (call (.ref f) us) (EP X pins σ Q) Er s := by
  have hl : us.length = ps.length := by rw [← r.length]; exact F.len _ _ _ _ h
  have bnd := hb s us I.kIn (by rw [List.append_nil]; exact hl)
  rw [List.append_nil] at bnd
  refine wpAny_call (codeAny_mono (F.run X.A.in1 X.stack s H ⟨us, []⟩ us vs Q E0 hr.in1 I.env0.in1 bnd r h) fun r s' hq => ?_)
  rcases r with er | fl
  · exact (show False from hq).elim
  · cases fl with
    | ret u => exact I.after hq
    | _ => exact False.elim hq
theorem call_lenO (S : Spc X.K C "__len__" f) (F : FnOk X.prog X.w X.K X.mg X.base CX0 k f fd ps sp) (hr : Room (k + 1) X.A) (hb : Binds X.K fd ps []) :
    CallR X (.builtin "len") (fun xs H Q => ∃ a dx fs, xs = [.ref a] ∧ H a = some (.ins C dx fs) ∧ sp [.ref a] H (fun v H' => ∃ n : Int, v = .int n ∧ 0 ≤ n ∧ n < 9223372036854775808 ∧ Q (.int n) H') E0) := by
  intro pins s σ H xs us Q I r ⟨a, dx, fs, exs, ea, h⟩
  subst exs
  match r with
  | .cons ru .nil =>
    cases ru
    obtain ⟨mA, O, _⟩ := ins_get I.hok ea
    obtain ⟨od, J, _⟩ := O.look
    have go := run_in1 (Er := X.xe) (vs := [.ref a]) (us := [.ref a]) F hr hb I (.cons rfl .nil) h
    refine Calls.call_function_entry kind_len plain_len entry_len (args_len1 (.ref a)) ?_
    unfold Builtin.«len»
    refine wpAny_bind (m := oneArg "len" _) (wpAny_pure (wpAny_bind (m := callSpecial? (.ref a) (PySem.Str.ofString "__len__")) (PySem.W.special_fn I.kIn J S.at_ S.fn (wpAny_mono go (fun v s' hv => ?_) fun _ _ z => z))))
    obtain ⟨y, H', I', ry, n, ey, h0, h1, q⟩ := hv
    subst ey
    obtain ⟨tk, etk⟩ : ∃ tk, v = .int n tk := ry
    subst etk
    refine wpAny_bind (wpAny_holding (wpAny_pure (wpAny_bind (wpAny_letGo ?_))))
    show wpAny _ _ (if n < 0 then _ else _) _ _ _
    rw [if_neg (Int.not_lt.mpr h0)]
    show wpAny _ _ (if n ≥ 2 ^ 63 then _ else _) _ _ _
    rw [if_neg (Int.not_le.mpr (show n < 2 ^ 63 from h1))]
    exact wpAny_bind (wpAny_mkInt (wpAny_pure ⟨_, rfl, ⟨.int n, H', I'.tok _, ⟨_, rfl⟩, q⟩⟩))
theorem run_in1X {CX : CXT} {E : XK} {pins : List (Addr × Obj)} {σ : L2.St} {H : Hp} {s : Shared} {Q : VK} {us : List Value} {vs : List V} (F : FnOk X.prog X.w X.K X.mg X.base CX k f fd ps sp) (hr : Room (k + 1) X.A) (hb : Binds X.K fd ps []) (hx : PassesAt CX X σ E)
    (I : Inv X pins σ H s) (r : Vals vs us) (h : sp vs H Q E) : wpAny (model X.prog X.w) X.A.in1 (call (.ref f) us) (EP X pins σ Q) X.xe s := by
  have hl : us.length = ps.length := by rw [← r.length]; exact F.len _ _ _ _ h
  have bnd := hb s us I.kIn (by rw [List.append_nil]; exact hl)
  rw [List.append_nil] at bnd
  refine wpAny_call (codeAny_mono (F.run X.A.in1 X.stack s H ⟨us, []⟩ us vs Q E hr.in1 I.env0.in1 bnd r h) fun r s' hq => ?_)
  rcases r with er | fl
  · exact hx pins H s er s' I hq
  · cases fl with
    | ret u => exact I.after hq
    | _ => exact False.elim hq
/-- o[i] by an own def -/
theorem tail_own {prog : Program} {w : World} {A : Around} {E : Value → Shared → Prop} {s : Shared} {K : PySem.W.Frag} {x : Addr} {ox : Obj} {od : Option Obj} {value slice : Expr} {i : Value} {Q : Value → Shared → Prop} (Y : K.In s.heap) (J : PySem.W.InstAt s.heap x ox C od) (S : Spc K C "__getitem__" f) (hf : PySem.W.fnIn K f = true)
    (h : wpAny (model prog w) A.in1 (call (.ref f) [.ref x, i]) Q E s) (hsl : subscripted slice true (.ref x) i = runValue (.builtin "lifetime.subscript" ⟨[.ref x, i], []⟩)) : wpAny (model prog w) A (subscriptTail value slice (.ref x) i) Q E s := by
  unfold PySem.W.fnIn at hf
  split at hf
  · rename_i eq
    unfold subscriptTail getitemInPython
    refine wpAny_bind (wpAny_bind (wpAny_bind (J.type.here ((PySem.W.looks_findIn Y S.at_).here (wpAny_bind (wpAny_load (Y _ _ eq) (wpAny_pure ?_)))))))
    dsimp only
    rw [hsl]
    refine wpAny_bind (wpAny_runValue (codeAny_builtin PySem.W.entry_sub ?_))
    unfold Builtin.«lifetime.subscript»
    exact wpAny_bind (PySem.W.special_fn Y J S.at_ S.fn (wpAny_mono h (fun v s' z => wpAny_pure (show wpAny (model prog w) A (letTemporaryGo value (.ref x) v >>= fun _ => pure v) Q E s' from wpAny_bind (wpAny_letTemporaryGo (wpAny_pure z)))) fun _ _ z => z))
  · cases hf
def PlainIxO (b : Expr) : Prop := ∀ v u, subscripted b true v u = runValue (.builtin "lifetime.subscript" ⟨[v, u], []⟩)
theorem pe_getO {CX : CXT} {E : L2.St → XK} {a b : Expr} {ta tb : TE} {pos : Pos} (S : Spc X.K C "__getitem__" f) (hfn : PySem.W.fnIn X.K f = true) (F : FnOk X.prog X.w X.K X.mg X.base CX k f fd ps sp) (hr : Room (k + 1) X.A) (hb : Binds X.K fd ps []) (hx : ∀ σ, PassesAt CX X σ (E σ))
    (ha : PE X a ta) (hi : PE X b tb) (hs : PlainIxO b) : PE X (.Subscript a b pos) (fun σ H Q => ta σ H fun x H1 => tb σ H1 fun y H2 => ∃ o dx fs, x = .ref o ∧ H2 o = some (.ins C dx fs) ∧ sp [x, y] H2 Q (E σ)) := by
  refine ⟨fun pins s σ H Q I h => Subscript_ (binT ha hi I (R := fun x y H2 => ∃ o dx fs, x = .ref o ∧ H2 o = some (.ins C dx fs) ∧ sp [x, y] H2 Q (E σ)) h fun v u s2 x y H2 I2 rx ry ⟨o, dx, fs, ex, eo, q⟩ => ?_)⟩
  subst ex
  obtain rfl : v = Value.ref o := rx
  obtain ⟨mA, O, _⟩ := ins_get I2.hok eo
  obtain ⟨od, J, _⟩ := O.look
  exact tail_own I2.kIn J S hfn (run_in1X (vs := [.ref o, y]) (us := [.ref o, u]) F hr hb (hx σ) I2 (.cons rfl (.cons ry .nil)) q) (hs _ _)
end
/-- len(o) -/
def mLenO {S : Type} (C : Addr) (f : List D → Unit → FO Unit D) (ma : MX S W) : MX S W := ma.bind fun w => fun env s => match w with
  | .v (.ins C' ns es) => if C' = C then (match f [.ins C' ns es] () with
    | .ok (.int n) _ => if 0 ≤ n ∧ n < 9223372036854775808 then .ok (.v (.int n)) env s else .bad
    | _ => .bad) else .bad
  | _ => .bad
/-- o[i] -/
def mGetO {S : Type} (C : Addr) (f : List D → Unit → FO Unit D) (ma mb : MX S W) : MX S W := ma.bind fun w => mb.bind fun u => fun env s => match w with
  | .v (.ins C' ns es) => if C' = C then (match u.kp with
    | some d => (f [.ins C' ns es, d] ()).outP .v env s
    | none => .bad) else .bad
  | _ => .bad
section
variable {S : Type} {X : Cx} {I : BoxI S} {Wx : WX} {CX : CXT} {a b : Expr} {pos p : Pos} {ma mb : MX S W} {k : Nat} {fa C : Addr} {fd : FuncData} {ps : List Str}
theorem d_lenO {f : List D → Unit → FO Unit D} (Sp : Spc X.K C "__len__" fa) (F : FnOk X.prog X.w X.K X.mg X.base CX0 k fa fd ps (spD boxNil X.K [.v] f)) (hr : Room (k + 1) X.A) (hb : Binds X.K fd ps []) (hg : Gl X "len") (hm : X.mg "len" = none) (hv : bootBuiltins "len" = some (.builtin "len")) (ha : PE X a (tD X.K I Wx ma))
    (he : starEach [a] X.env = (false, eval a X.env) :: starEach [] X.env := by rfl) (hpl : (backTo pos (starEach [] X.env)).any (·.1) = false := by rfl) : PE X (.Call (.Name "len" p) [a] [] pos) (tD X.K I Wx (mLenO C f ma)) := by
  refine PEimp (pe_callB (call_lenO Sp F hr hb) hg hm hv (a_cons (ms := mNil) ha a_nil he) (by decide) (by decide) he hpl) fun σ H Q ⟨G, env, s, ts, R, h⟩ => ?_
  refine ⟨G, env, s, ts, R, ?_⟩
  cases e : ma env s with
  | bad => simp only [mLenO, MX.bind, e, Out.bind] at h
  | ex x env1 s1 => simp only [mLenO, MX.bind, e, Out.bind] at h; simp only [mCons, MX.bind, e, Out.bind]; exact h
  | ok w env1 s1 =>
    simp only [mLenO, MX.bind, e, Out.bind] at h
    simp only [mCons, MX.bind, e, Out.bind, mNil]
    intro vs H' hl R1
    match vs, hl with
    | [x], _ =>
      cases w with
      | v d =>
        cases d with
        | ins C' ns es =>
          simp only at h
          by_cases hc : C' = C
          · subst hc
            simp only [if_true] at h
            obtain ⟨ad, bv, bm, R2⟩ := id R1
            have q : Rep X.K _ H' x (.ins C' ns es) := R2.tm _ List.mem_cons_self
            cases q with
            | ins n r e' q =>
              rename_i o dx fs _
              refine ⟨o, dx, fs, rfl, r, ?_⟩
              refine call_finP (Wx := W0) (G := G) (σ := σ) (I := I) (s := s1) (ws := [.v (.ins C' ns es)]) (l := [(.ref o, .v (.ins C' ns es))]) (ts := ts) (env := env1) R2 rfl (fun p hp => List.mem_append_left _ hp) (fun _ _ _ z => z.elim) rfl ?_
              simp only [bindA, W.kp]
              cases e2 : f [.ins C' ns es] () with
              | bad => simp only [e2] at h
              | ex y s2 => simp only [e2] at h
              | ok d2 s2 =>
                cases d2 with
                | int m =>
                  simp only [e2] at h
                  by_cases h2 : 0 ≤ m ∧ m < 9223372036854775808
                  · simp only [if_pos h2] at h
                    intro v H3 R3
                    obtain ⟨ad3, bv3, bm3, R4⟩ := id R3
                    have q3 : Rep X.K _ H3 v (.int m) := R4.tm _ List.mem_cons_self
                    cases q3
                    exact ⟨m, rfl, h2.1, h2.2, h _ H3 R3⟩
                  · simp only [if_neg h2] at h
                | _ => simp only [e2] at h
          · simp only [if_neg hc] at h
        | _ => simp only at h
      | _ => simp only at h
theorem d_getO {f : List D → Unit → FO Unit D} (Sp : Spc X.K C "__getitem__" fa) (hfn : PySem.W.fnIn X.K fa = true) (F : FnOk X.prog X.w X.K X.mg X.base CX k fa fd ps (spD boxNil X.K [.v, .v] f)) (hr : Room (k + 1) X.A) (hb : Binds X.K fd ps []) (hx : ∀ σ, PassesAt CX X σ (WE Wx σ))
    (ha : PE X a (tD X.K I Wx ma)) (hi : PE X b (tD X.K I Wx mb)) (hs : PlainIxO b := by exact fun _ _ => rfl) : PE X (.Subscript a b pos) (tD X.K I Wx (mGetO C f ma mb)) := by
  refine PEimp (pe_getO (E := fun σ => WE Wx σ) Sp hfn F hr hb hx ha hi hs) fun σ H Q ⟨G, env, s, ts, R, h⟩ => ?_
  refine two_of (r := fun x y H2 Q => ∃ o dx fs, x = .ref o ∧ H2 o = some (.ins C dx fs) ∧ spD boxNil X.K [.v, .v] f [x, y] H2 Q (WE Wx σ)) R h fun x y w u env1 s1 H1 R1 z1 => ?_
  cases w with
  | v d =>
    cases d with
    | ins C' ns es =>
      by_cases hc : C' = C
      · subst hc
        simp only [if_true] at z1
        cases e1 : u.kp with
        | none => simp only [e1] at z1; exact z1.elim
        | some d =>
          simp only [e1] at z1
          obtain ⟨ad, bv, bm, R2⟩ := id R1
          have q : Rep X.K _ H1 x (.ins C' ns es) := R2.tm (x, .v (.ins C' ns es)) (.tail _ List.mem_cons_self)
          cases q with
          | ins n r e' q =>
            rename_i o dx fs
            refine ⟨o, dx, fs, rfl, r, ?_⟩
            refine call_finP (Wx := Wx) (G := G) (σ := σ) (I := I) (s := s1) (ws := [.v (.ins C' ns es), u]) (l := [(y, u), (.ref o, .v (.ins C' ns es))]) (ts := ts) (env := env1) R2 rfl (fun p hp => ?_) (fun _ _ _ z => z) rfl ?_
            · simp only [List.zip_cons_cons, List.zip_nil_right, List.mem_cons, List.not_mem_nil, or_false] at hp
              rcases hp with rfl | rfl
              · simp
              · simp
            · simp only [bindA, W.kp]
              have e2 : u.kp = some d := e1
              unfold W.kp at e2
              simp only [e2]
              exact z1
      · simp only [if_neg hc] at z1; exact z1.elim
    | _ => exact z1.elim
  | _ => exact z1.elim
end
end LM

/-! writing into own lists; negative numbers; isinstance of own objects -/
namespace LM
open PySem PySem.Spec PyProof.Rows L2
def gIns : List D → List D → Option (D × List D)
  | ds, [.int i, d] => if 0 ≤ i ∧ i < 4611686018427387904 then some (.non, ds.take i.toNat ++ [d] ++ ds.drop i.toNat) else none
  | _, _ => none
def rIns : V → List V → Hp → VK → Prop := fun x vs H Q => ∃ (l : Addr) (xs : List V) (i : Int) (y : V), x = .ref l ∧ vs = [.int i, y] ∧ H l = some (.lst xs) ∧ xs.length < sizeLine ∧ 0 ≤ i ∧ i < 2 ^ 63 ∧
    Q .non (upd H l (.lst (xs.take i.toNat ++ [y] ++ xs.drop i.toNat)))
theorem dm_ins {K : PySem.W.Frag} : DMut K rIns gIns := by
  intro B H a xs ds vs es res ds' Q hH rx rv e hl q
  unfold gIns at e
  split at e
  · rename_i i d
    split at e
    · rename_i hi
      cases e
      cases rv with
      | cons r1 r2 =>
        cases r2 with
        | cons r2 r3 =>
          cases r3
          cases r1
          refine ⟨a, xs, i, _, rfl, rfl, hH, ?_, hi.1, by omega, q _ _ (((rx.take _).app (.one r2)).app (rx.drop _)) .non⟩
          rw [rx.len, sizeLine_eq]
          have e : (ds.take i.toNat ++ [d] ++ ds.drop i.toNat).length = ds.length + 1 := by
            rw [List.append_assoc, List.length_append, List.length_append, List.length_singleton, List.length_take, List.length_drop]
            omega
          omega
    · cases e
  · cases e
/-! ### found[k] = .. -/
def mIxSet {S : Type} (i : Nat) (mi me : MX S W) : MS S := fun env s => (me env s).bindS fun w env s => match env[i]? with
  | some (.own _) => (mi env s).bindS fun u env s => match w.kp, u, env[i]? with
    | some d, .v (.int k), some (.own ds) => if 0 ≤ k ∧ k < ds.length then .nx (env.set i (.own (ds.set k.toNat d))) s else .bad
    | _, _, _ => .bad
  | _ => .bad
/-- .. the store itself -/
def ixSt (i : Nat) (d : D) (u : W) (env : List Sl) : Option (List Sl) := match u, env[i]? with
  | .v (.int k), some (.own ds) => if 0 ≤ k ∧ k < ds.length then some (env.set i (.own (ds.set k.toNat d))) else none
  | _, _ => none
theorem ixN_of {n : Nat} {k : Int} (h0 : 0 ≤ k) (h1 : k < n) : ixN n k = some k.toNat := by
  unfold ixN
  rw [if_pos h0, if_pos (by omega)]
section
variable {S : Type} {K : PySem.W.Frag} {I : BoxI S} {G : Gh} {env : List Sl} {s : S} {ts l : List (V × W)} {σ : L2.St} {H : Hp} {i : Nat} {vi vo v : V} {w u : W} {d : D}
theorem ix_fin {env' : List Sl} (R : ER K I G env s ((vi, u) :: (vo, .l i) :: (l ++ ts)) σ H) (hv : (v, w) ∈ l) (hk : w.kp = some d) (he : ixSt i d u env = some env') {Q : Hp → Prop} (q : ∀ H', ER K I G env' s (l ++ ts) σ H' → Q H') : rSetL vo vi v H Q := by
  obtain ⟨ad, bv, bm, R⟩ := R
  unfold ixSt at he
  split at he
  · rename_i k ds e1
    split at he
    · rename_i hb
      cases he
      have q1 : Rep K _ H vi (.int k) := R.tm (vi, .v (.int k)) List.mem_cons_self
      cases q1
      obtain ⟨q2, _⟩ : vo = .ref (ad i) ∧ _ := R.tm (vo, .l i) (.tail _ List.mem_cons_self)
      obtain ⟨q3, xs, q4, q5⟩ := R.sl i _ e1
      have rep := R.keep (p := (v, w)) (.tail _ (.tail _ (List.mem_append_left _ hv))) hk
      refine ⟨ad i, xs, k, k.toNat, q2, rfl, q4, ixN_of hb.1 (by rw [q5.len]; exact hb.2), q _ ⟨ad, bv, bm, (R.wrS e1 (q5.set k.toNat rep)).less (.cons _ (.cons _ (List.Sublist.refl _)))⟩⟩
    · cases he
  · cases he
end
section
variable {S : Type} {X : Cx} {I : BoxI S} {Wx : WX} {a b c e o : Expr} {pos p p2 pt pt2 px py : Pos} {ma mb me mi m1 m2 : MX S W} {i : Nat} {x : Str} {kt k2 : Nat}
/-- the target found[c], for a value that lies in l -/
theorem g_ix {l : List (V × W)} (hN : X.N[i]? = some x) (hv : Vis X.env.scope x) (hi : PE X c (tD X.K I Wx mi)) (hd : (x == ("__debug__" : Str)) = false) (hcd : (x == ("__classdict__" : Str)) = false)
    {G : Gh} {env : List Sl} {s : S} {ts : List (V × W)} {σ : L2.St} {H : Hp} {v : V} {w : W} {d : D} {Q : L2.St → Hp → Prop} (R : ER X.K I G env s (l ++ ts) σ H) (hm : (v, w) ∈ l) (hk : w.kp = some d) {ds0 : List D} (h0 : env[i]? = some (.own ds0))
    {env1 env2 : List Sl} {s1 : S} {u : W} (h1 : mi env s = .ok u env1 s1) (h2 : ixSt i d u env1 = some env2) (q : ∀ H', ER X.K I G env2 s1 (l ++ ts) σ H' → Q σ H') :
    gSub (tD X.K I Wx (mVar i)) (tD X.K I Wx mi) rSetL v σ H Q := by
  refine ⟨G, env, s, l ++ ts, R, ?_⟩
  simp only [mVar, h0]
  intro vo H1 R1
  refine ⟨G, env, s, (vo, .l i) :: (l ++ ts), R1, ?_⟩
  simp only [h1]
  intro vi H2 R2
  exact ix_fin R2 hm hk h2 q
theorem s_ixset (hN : X.N[i]? = some x) (hv : Vis X.env.scope x) (he : PE X e (tD X.K I Wx me)) (hi : PE X c (tD X.K I Wx mi)) (hd : (x == ("__debug__" : Str)) = false := by decide) (hcd : (x == ("__classdict__" : Str)) = false := by decide)
    (ha : ∀ v, assign (.Subscript (.Name x px) c p) X.env v = (do
      let ov ← holding [v] (eval (.Name x px) X.env)
      let iv ← holding [v, ov] (eval c X.env)
      standAt p
      holding [v, ov, iv] (setItem ov iv v)
      release [v, ov, iv] []) := by intro _; rfl)
    (hs : swapsWithSole [.Subscript (.Name x px) c p] e pos.line X.env = pure false := by rfl) (hw : swappedStores [.Subscript (.Name x px) c p] e X.env = pure none := by rfl)
    (h1 : (assignEach [.Subscript (.Name x px) c p] X.env).map (·.2) = [assign (.Subscript (.Name x px) c p) X.env] := by rfl) : PS X (.Assign [.Subscript (.Name x px) c p] e pos) (tS X.K I Wx (mIxSet i mi me)) := by
  refine PSimp (ps_asg he (pg_sub (d_var (S := S) (I := I) (Wx := Wx) i hN hv hd hcd) hi set_list ha) hs hw h1) fun Dn σ H ⟨G, env, s, ts, R, cl, h⟩ => ?_
  have h : ZS X.K I Wx G ts Dn (mIxSet i mi me env s) := h
  show tD X.K I Wx me σ H _
  refine ⟨G, env, s, ts, R, ?_⟩
  cases e1 : me env s with
  | bad => simp only [mIxSet, e1, Out.bindS] at h; exact h.elim
  | ex y env1 s1 => simp only [mIxSet, e1, Out.bindS] at h ⊢; exact fun dx H' R' => h dx σ H' R'
  | ok w env1 s1 =>
    simp only [mIxSet, e1, Out.bindS] at h
    intro v H1 R1
    cases e2 : env1[i]? with
    | none => simp only [e2] at h; exact h.elim
    | some y =>
      cases y with
      | own ds0 =>
        simp only [e2] at h
        cases e3 : mi env1 s1 with
        | bad => simp only [e3] at h; exact h.elim
        | ex y env2 s2 =>
          simp only [e3] at h
          refine ⟨G, env1, s1, _, R1, ?_⟩
          simp only [mVar, e2]
          intro vo H2 R2
          refine ⟨G, env1, s1, _, R2, ?_⟩
          simp only [e3]
          exact fun dx H' R' => h dx σ H' ((R'.less sl1).less sl1)
        | ok u env2 s2 =>
          simp only [e3] at h
          cases e4 : w.kp with
          | none => simp only [e4] at h; exact h.elim
          | some d =>
            cases e5 : ixSt i d u env2 with
            | none =>
              exfalso
              simp only [e4] at h
              unfold ixSt at e5
              split at e5
              · rename_i k ds e6
                simp only [e6] at h
                split at e5
                · cases e5
                · rename_i hb
                  rw [if_neg hb] at h
                  exact h.elim
              · rename_i hne
                split at h
                · first
                  | exact hne _ _ rfl (by assumption)
                  | (rename_i e6; exact hne _ _ rfl e6)
                · exact h.elim
            | some env3 =>
              refine g_ix (l := [(v, w)]) hN hv hi hd hcd R1 List.mem_cons_self e4 e2 e3 e5 fun H' R' => ?_
              unfold ixSt at e5
              split at e5
              · rename_i k ds e6
                simp only [e4, e6] at h
                split at e5
                · rename_i hb
                  rw [if_pos hb] at h
                  cases e5
                  exact h σ H' R'.pop
                · cases e5
              · cases e5
      | _ => simp only [e2] at h; exact h.elim
/-- found[c], found[b] = (.., ..) -/
def mSwapIx {S : Type} (i : Nat) (m1 m2 me : MX S W) : MS S := fun env s => (me env s).bindS fun w env s => match w, env[i]? with
  | .v (.tup [d1, d2]), some (.own _) => (m1 env s).bindS fun u env s => match ixSt i d1 u env with
    | some env => (match env[i]? with
      | some (.own _) => (m2 env s).bindS fun u env s => match ixSt i d2 u env with
        | some env => .nx env s
        | none => .bad
      | _ => .bad)
    | none => .bad
  | _, _ => .bad
theorem s_swapix {p3 px2 : Pos} (hc : X.calm = true) (hN : X.N[i]? = some x) (hv : Vis X.env.scope x) (he : PE X e (tD X.K I Wx me)) (hi : PE X c (tD X.K I Wx m1)) (hj : PE X b (tD X.K I Wx m2)) (hd : (x == ("__debug__" : Str)) = false := by decide) (hcd : (x == ("__classdict__" : Str)) = false := by decide)
    (ha : ∀ v, assign (.Subscript (.Name x px) c p) X.env v = (do
      let ov ← holding [v] (eval (.Name x px) X.env)
      let iv ← holding [v, ov] (eval c X.env)
      standAt p
      holding [v, ov, iv] (setItem ov iv v)
      release [v, ov, iv] []) := by intro _; rfl)
    (hb : ∀ v, assign (.Subscript (.Name x px2) b p3) X.env v = (do
      let ov ← holding [v] (eval (.Name x px2) X.env)
      let iv ← holding [v, ov] (eval b X.env)
      standAt p3
      holding [v, ov, iv] (setItem ov iv v)
      release [v, ov, iv] []) := by intro _; rfl)
    (hs : swapsWithSole [.Tuple [.Subscript (.Name x px) c p, .Subscript (.Name x px2) b p3] kt pt] e pos.line X.env = pure false := by rfl) (hw : swappedStores [.Tuple [.Subscript (.Name x px) c p, .Subscript (.Name x px2) b p3] kt pt] e X.env = pure none := by rfl)
    (h1 : (assignEach [.Tuple [.Subscript (.Name x px) c p, .Subscript (.Name x px2) b p3] kt pt] X.env).map (·.2) = [assign (.Tuple [.Subscript (.Name x px) c p, .Subscript (.Name x px2) b p3] kt pt) X.env] := by rfl)
    (g1 : (assignEach [.Subscript (.Name x px) c p, .Subscript (.Name x px2) b p3] X.env).map (·.2) = assign (.Subscript (.Name x px) c p) X.env :: (assignEach [.Subscript (.Name x px2) b p3] X.env).map (·.2) := by rfl)
    (g2 : (assignEach [.Subscript (.Name x px2) b p3] X.env).map (·.2) = assign (.Subscript (.Name x px2) b p3) X.env :: (assignEach [] X.env).map (·.2) := by rfl)
    (hn : (assignEach [.Subscript (.Name x px) c p, .Subscript (.Name x px2) b p3] X.env).length = 2 := by rfl) (hst : (assignEach [.Subscript (.Name x px) c p, .Subscript (.Name x px2) b p3] X.env).findIdx? (·.1) = none := by rfl) :
    PS X (.Assign [.Tuple [.Subscript (.Name x px) c p, .Subscript (.Name x px2) b p3] kt pt] e pos) (tS X.K I Wx (mSwapIx i m1 m2 me)) := by
  refine PSimp (ps_asg he (pg_tup hc (pgs_cons (pg_sub (d_var (S := S) (I := I) (Wx := Wx) i hN hv hd hcd) hi set_list ha) (pgs_cons (pg_sub (d_var (S := S) (I := I) (Wx := Wx) i hN hv hd hcd) hj set_list hb) pgs_nil g2) g1) hn hst) hs hw h1) fun Dn σ H ⟨G, env, s, ts, R, cl, h⟩ => ?_
  have h : ZS X.K I Wx G ts Dn (mSwapIx i m1 m2 me env s) := h
  show tD X.K I Wx me σ H _
  refine ⟨G, env, s, ts, R, ?_⟩
  cases e1 : me env s with
  | bad => simp only [mSwapIx, e1, Out.bindS] at h; exact h.elim
  | ex y env1 s1 => simp only [mSwapIx, e1, Out.bindS] at h ⊢; exact fun dx H' R' => h dx σ H' R'
  | ok w env1 s1 =>
    simp only [mSwapIx, e1, Out.bindS] at h
    intro v H1 R1
    split at h
    · rename_i d1 d2 ds0 e2
      obtain ⟨ad, bv, bm, R2⟩ := id R1
      have q : Tp X.K (Bv G bm ad env1 ((v, .v (.tup [d1, d2])) :: ts)) H1 v (.tup [d1, d2]) := R2.rd (p := (v, .v (.tup [d1, d2]))) List.mem_cons_self rfl
      obtain ⟨a, xs, ea, r, q⟩ := q.tup
      have q2 : ∃ v1 v2, xs = [v1, v2] ∧ Rep X.K (Bv G bm ad env1 ((v, .v (.tup [d1, d2])) :: ts)) H1 v1 d1 ∧ Rep X.K (Bv G bm ad env1 ((v, .v (.tup [d1, d2])) :: ts)) H1 v2 d2 := by
        cases q with
        | cons r1 q =>
          cases q with
          | cons r2 q =>
            cases q
            exact ⟨_, _, rfl, r1, r2⟩
      obtain ⟨v1, v2, ex, r1, r2⟩ := q2
      subst ex
      have R3 : ER X.K I G env1 s1 ([(v1, .v d1), (v2, .v d2)] ++ ts) σ H1 := ⟨ad, bv, bm, (R2.pop).pushes (l := [(v1, .v d1), (v2, .v d2)]) fun p hp => by
        have sub : ∀ {d : D} {v' : V}, Rep X.K (Bv G bm ad env1 ((v, .v (.tup [d1, d2])) :: ts)) H1 v' d → Rep X.K (Bv G bm ad env1 ts) H1 v' d := fun r => r.gr (.sub fun a z => z.imp (fun q => q) fun z => z.imp (fun q => q) fun z => z.imp (fun q => q) fun ⟨q, hq, f⟩ => ⟨q, List.mem_cons_of_mem _ hq, f⟩)
        rcases List.mem_cons.mp hp with rfl | hp
        · exact ⟨d1, rfl, sub r1⟩
        · rcases List.mem_cons.mp hp with rfl | hp
          · exact ⟨d2, rfl, sub r2⟩
          · cases hp⟩
      show gTup X.K 2 (gCons (gSub (tD X.K I Wx (mVar i)) (tD X.K I Wx m1) rSetL) (gCons (gSub (tD X.K I Wx (mVar i)) (tD X.K I Wx m2) rSetL) gNil)) v σ H1 Dn.nx
      refine (fun go : gCons (gSub (tD X.K I Wx (mVar i)) (tD X.K I Wx m1) rSetL) (gCons (gSub (tD X.K I Wx (mVar i)) (tD X.K I Wx m2) rSetL) gNil) [v1, v2] σ H1 Dn.nx => ⟨a, [v1, v2], ea, r, rfl, go⟩) ?_
      refine (fun go2 : gSub (tD X.K I Wx (mVar i)) (tD X.K I Wx m1) rSetL v1 σ H1 (fun σ1 H1 => gCons (gSub (tD X.K I Wx (mVar i)) (tD X.K I Wx m2) rSetL) gNil [v2] σ1 H1 Dn.nx) => ⟨v1, [v2], rfl, go2⟩) ?_
      cases e3 : m1 env1 s1 with
      | bad => simp only [e3] at h; exact h.elim
      | ex y env2 s2 =>
        simp only [e3] at h
        refine ⟨G, env1, s1, _, R3, ?_⟩
        simp only [mVar, e2]
        intro vo H2 R4
        refine ⟨G, env1, s1, _, R4, ?_⟩
        simp only [e3]
        exact fun dx H' R' => h dx σ H' (((R'.less sl1).less sl1).less sl1)
      | ok u env2 s2 =>
        simp only [e3] at h
        cases e4 : ixSt i d1 u env2 with
        | none => simp only [e4] at h; exact h.elim
        | some env3 =>
          simp only [e4] at h
          refine g_ix (l := [(v1, .v d1), (v2, .v d2)]) (w := .v d1) hN hv hi hd hcd R3 List.mem_cons_self rfl e2 e3 e4 fun H' R5 => ?_
          refine (fun go3 : gSub (tD X.K I Wx (mVar i)) (tD X.K I Wx m2) rSetL v2 σ H' (fun σ1 H1 => gNil [] σ1 H1 Dn.nx) => ⟨v2, [], rfl, go3⟩) ?_
          split at h
          · rename_i ds1 e5
            cases e6 : m2 env3 s2 with
            | bad => simp only [e6] at h; exact h.elim
            | ex y env4 s4 =>
              simp only [e6] at h
              refine ⟨G, env3, s2, _, R5, ?_⟩
              simp only [mVar, e5]
              intro vo H2 R4
              refine ⟨G, env3, s2, _, R4, ?_⟩
              simp only [e6]
              exact fun dx H' R' => h dx σ H' (((R'.less sl1).less sl1).less sl1)
            | ok u2 env4 s4 =>
              simp only [e6] at h
              cases e7 : ixSt i d2 u2 env4 with
              | none => simp only [e7] at h; exact h.elim
              | some env5 =>
                simp only [e7] at h
                refine g_ix (l := [(v1, .v d1), (v2, .v d2)]) (w := .v d2) hN hv hj hd hcd R5 (.tail _ List.mem_cons_self) rfl e5 e6 e7 fun H' R6 => ?_
                exact ⟨rfl, h σ H' (R6.less (.cons _ (.cons _ (List.Sublist.refl _))))⟩
          · exact h.elim
    · exact h.elim
/-! ### -i, isinstance of own objects -/
def mNeg {S : Type} (ma : MX S W) : MX S W := ma.bind fun w => fun env s => match w with
  | .v (.int i) => .ok (.v (.int (-i))) env s
  | _ => .bad
theorem d_neg (ha : PE X a (tD X.K I Wx ma)) : PE X (.UnaryOp .USub a pos) (tD X.K I Wx (mNeg ma)) := by
  refine PEimp (pe_un un_neg ha) fun σ H Q ⟨G, env, s, ts, R, h⟩ => ?_
  refine tD_bind (Z := ZD X.K I Wx G ts σ Q) R h (fun _ _ _ z => z) (fun z => z) fun w env1 s1 y H1 _ R1 z1 => ?_
  cases w with
  | v d =>
    cases d with
    | int k =>
      obtain ⟨ad, bv, bm, R2⟩ := id R1
      have q : Rep X.K _ H1 y (.int k) := R2.tm _ List.mem_cons_self
      cases q
      exact ⟨k, rfl, z1 _ H1 ⟨ad, bv, bm, R2.pop.pushV (.int _)⟩⟩
    | _ => exact z1.elim
  | _ => exact z1.elim
end
/-- a class whose objects isinstance asks -/
structure InsT (K : PySem.W.Frag) (C : Addr) : Prop where
  cl : Cls K C
  ha : PySem.W.findIn K (.ref C) "__class__" = some (some (.builtin "object.__class__"))
  hn : PySem.W.specialIn K (.builtin "object.__class__") "__get__" = some (some (.builtin "getset_descriptor.__get__"))
  ht : PySem.W.takesIn K (.builtin "object.__class__") = some true
  hm : PySem.W.mroIn K C (.type "object") = some true
def isFO (f : D → Option Bool) (g : Addr → Option Bool) (d : D) : Option Bool := match d with
  | .ins C _ _ => g C
  | d => f d
theorem isFO_ok {K : PySem.W.Frag} {us : List Value} {f : D → Option Bool} {g : Addr → Option Bool} (hf : IsF K us f) (hg : ∀ C b, g C = some b → InsT K C ∧ PySem.W.kitAny K (.ref C) us = some b) : IsF K us (isFO f g) := by
  intro B H v d b hv e
  cases d with
  | ins C ns ds =>
    obtain ⟨T, k⟩ := hg C b e
    obtain ⟨a, dx, fs, e1, r, _⟩ := Top.ins hv
    subst e1
    exact ⟨.ref C, .base (.ins r T.cl T.ha T.hn T.ht T.hm), k⟩
  | _ => exact hf B H v _ b hv e
end LM

/-! odds and ends for the printed text -/
namespace LM
open PySem PySem.Spec PyProof.Rows L2
theorem passW0 {X : Cx} (σ : L2.St) : PassesAt (L2.CX X.prog X.w) X σ (WE W0 σ) := fun pins H s e s' I c => passL pins σ H s e s' I c
theorem passX {X : Cx} {Wx : WX} (tk : Takes X Wx) (σ : L2.St) : PassesAt (L2.CX X.prog X.w) X σ (WE Wx σ) := passAt tk σ
theorem takesE {X : Cx} {E : XK} (hs : X.stack = X.env :: X.outer) (hf : X.env.frame = some X.env.locals) (hex : X.ex = []) {E₁ : Value → Shared → Prop}
    (hx : X.xe = fun e s' => wpAny (model X.prog X.w) X.A (leaving X.env e) (fun _ s'' => L2.CX X.prog X.w X.outer X.H_0 X.s_0 E e s'') E₁ s') : Takes X (wE E) := takes_of hs hf hex hx
def one (C0 : Addr) (C : Addr) : Option Bool := if C = C0 then some true else none
theorem one_self (C : Addr) : one C C = some true := if_pos rfl
theorem one_ok {K : PySem.W.Frag} {C0 : Addr} (h : PySem.W.exmOne K (.ref C0) (.ref C0) = some true) : ∀ C b, one C0 C = some b → PySem.W.exmOne K (.ref C) (.ref C0) = some b := by
  intro C b e
  unfold one at e
  split at e
  · rename_i z; cases e; rw [z]; exact h
  · cases e
def is1 (C0 : Addr) (b : Bool) (C : Addr) : Option Bool := if C = C0 then some b else none
theorem is1_self (C : Addr) (b : Bool) : is1 C b C = some b := if_pos rfl
theorem is1_ok {K : PySem.W.Frag} {C0 : Addr} {cv : Value} {b : Bool} (x : XIs K C0) (h : PySem.W.kitOne K (.ref C0) cv = some b) : ∀ C b', is1 C0 b C = some b' → XIs K C ∧ PySem.W.kitOne K (.ref C) cv = some b' := by
  intro C b' e
  unfold is1 at e
  split at e
  · rename_i z; cases e; rw [z]; exact ⟨x, h⟩
  · cases e
theorem is1_okA {K : PySem.W.Frag} {C0 : Addr} {us : List Value} {b : Bool} (x : InsT K C0) (h : PySem.W.kitAny K (.ref C0) us = some b) : ∀ C b', is1 C0 b C = some b' → InsT K C ∧ PySem.W.kitAny K (.ref C) us = some b' := by
  intro C b' e
  unfold is1 at e
  split at e
  · rename_i z; cases e; rw [z]; exact ⟨x, h⟩
  · cases e
def at1 (C0 C : Addr) : Bool := decide (C = C0)
theorem at1_self (C : Addr) : at1 C C = true := by simp [at1]
theorem at1_ok {K : PySem.W.Frag} {C0 : Addr} {f : Str} (x : XIs K C0) (h : PySem.W.findIn K (.ref C0) f = some none) : ∀ C, at1 C0 C = true → XIs K C ∧ PySem.W.findIn K (.ref C) f = some none := by
  intro C e
  have z : C = C0 := of_decide_eq_true e
  rw [z]; exact ⟨x, h⟩
theorem tc_own {D : Addr} : ∀ σ H Q, (∀ v, ClsV v (.ref D) → Q v H) → tC (.ref D) σ H Q := fun σ H Q h => h _ (.own D)
theorem tc_ty {n : String} : ∀ σ H Q, (∀ v, ClsV v (.type n) → Q v H) → tC (.ty n) σ H Q := fun σ H Q h => h _ (.ty n)
/-- a def of which nothing is promised -/
theorem fn_none {S : Type} {I : BoxI S} {P : Program} {w : World} {K : PySem.W.Frag} {mg : Str → Option Value} {base : Heap} {CX : CXT} {k : Nat} {fa : Addr} {fd : FuncData} {ps : List Str} {md : List Md} : FnOk P w K mg base CX k fa fd ps (spD I K md fun _ _ => .bad) :=
  ⟨fun vs H Q E ⟨_, _, _, _, _, _, _, _, _, z⟩ => z.elim, fun A outer s H args us vs Q E hr he hb hv ⟨_, _, _, _, _, _, _, _, _, z⟩ => z.elim⟩
section
variable {S : Type} {X : Cx} {I : BoxI S} {Wx : WX} {mi : MX S (List D)} {mt : MX S Bool} {me : MX S W} {g : D → List Sl → Option (List Sl)} {idx : List Nat} {pos py spos : Pos}
theorem s_setcomp {i : Nat} {y : Str} {elt tg iter : Expr} {ifs : List Expr} {scope : Scope} {own : List (Str × Nat)} (hc : X.calm = true) (hN : X.N.Nodup) (hy : X.N[i]? = some y) (hyl : X.env.scope.names.lookup y = some .local) (hk : X.env.scope.kind = .function) (hl : (py.line == pos.line) = true)
    (hsc : (scope.names.any fun (n, k) => n == y && (k == .local || k == .cell)) = false) (hi : PI X tg iter (tI X.K I Wx mi)) (ok : BlkOk X.N X.env.scope scope own) (hv : ∀ i ∈ idx, i ∈ own.map (·.2))
    (hg : ∀ (s : Shared) (H : Hp) (C : Addr) (cl : List (Str × Addr)) (fp : List Addr), PG (X.blk s H scope (compEnvC scope cl C X.env) fp) tg (tG X.K I idx g)) (ht : ∀ (s : Shared) (H : Hp) (C : Addr) (cl : List (Str × Addr)) (fp : List Addr), PTs (X.blk s H scope (compEnvC scope cl C X.env) fp) ifs (LM.tB X.K I W0 mt))
    (he : ∀ (s : Shared) (H : Hp) (C : Addr) (cl : List (Str × Addr)) (fp : List Addr), PE (X.blk s H scope (compEnvC scope cl C X.env) fp) elt (tD X.K I W0 me)) (hs : ∀ x, foldedSetIterable iter X.env x = pure x := by intro _; rfl) :
    PS X (.Assign [.Name y py] (.ListComp elt [⟨tg, iter, ifs, 0⟩] scope pos) spos) (tS X.K I Wx (mSet i (mComp mi (own.map (·.2)) g mt me))) := by
  refine PSimp (ps_setLc hc hN hy hyl (sw_true hk hyl hl hsc) hi ok hg ht he hs) fun Dn σ H ⟨G, env, s, ts, R, cl, h⟩ => comp_fin hv (tD_bindS R h fun w env' s' v H' R' z => ?_)
  obtain ⟨ad, bv, bm, R'⟩ := R'
  cases w with
  | v d => exact z _ _ ⟨ad, bv, bm, R'.putV cl⟩
  | t d => exact z _ _ ⟨ad, bv, bm, R'.putT cl⟩
  | f ds =>
    obtain ⟨ad', R'⟩ := R'.putF cl
    exact z _ _ ⟨ad', bv, bm, R'⟩
  | _ => exact z.elim
end
end LM

namespace LM
open PySem L2
theorem cl_lst (ds : List D) : cLen [.lst ds] = some (.v (.int ds.length)) := rfl
theorem cl_tup (ds : List D) : cLen [.tup ds] = some (.v (.int ds.length)) := rfl
theorem if_s_non : isF ["str"] .non = some false := rfl
theorem if_s_bl (b : Bool) : isF ["str"] (.bl b) = some false := rfl
theorem if_s_int (i : Int) : isF ["str"] (.int i) = some false := rfl
theorem if_s_str (x : Str) : isF ["str"] (.str x) = some true := rfl
theorem if_s_tup (ds : List D) : isF ["str"] (.tup ds) = some false := rfl
theorem if_s_lst (ds : List D) : isF ["str"] (.lst ds) = some false := rfl
theorem if_i_non : isF ["int"] .non = some false := rfl
theorem if_i_bl (b : Bool) : isF ["int"] (.bl b) = some true := rfl
theorem if_i_int (i : Int) : isF ["int"] (.int i) = some true := rfl
theorem if_i_str (x : Str) : isF ["int"] (.str x) = some false := rfl
theorem if_i_tup (ds : List D) : isF ["int"] (.tup ds) = some false := rfl
theorem if_i_lst (ds : List D) : isF ["int"] (.lst ds) = some false := rfl
theorem if_b_non : isF ["bool"] .non = some false := rfl
theorem if_b_bl (b : Bool) : isF ["bool"] (.bl b) = some true := rfl
theorem if_b_int (i : Int) : isF ["bool"] (.int i) = some false := rfl
theorem if_b_str (x : Str) : isF ["bool"] (.str x) = some false := rfl
theorem if_b_tup (ds : List D) : isF ["bool"] (.tup ds) = some false := rfl
theorem if_b_lst (ds : List D) : isF ["bool"] (.lst ds) = some false := rfl
theorem if_t_non : isF ["tuple"] .non = some false := rfl
theorem if_t_bl (b : Bool) : isF ["tuple"] (.bl b) = some false := rfl
theorem if_t_int (i : Int) : isF ["tuple"] (.int i) = some false := rfl
theorem if_t_str (x : Str) : isF ["tuple"] (.str x) = some false := rfl
theorem if_t_tup (ds : List D) : isF ["tuple"] (.tup ds) = some true := rfl
theorem if_t_lst (ds : List D) : isF ["tuple"] (.lst ds) = some false := rfl
theorem if_l_non : isF ["list"] .non = some false := rfl
theorem if_l_bl (b : Bool) : isF ["list"] (.bl b) = some false := rfl
theorem if_l_int (i : Int) : isF ["list"] (.int i) = some false := rfl
theorem if_l_str (x : Str) : isF ["list"] (.str x) = some false := rfl
theorem if_l_tup (ds : List D) : isF ["list"] (.tup ds) = some false := rfl
theorem if_l_lst (ds : List D) : isF ["list"] (.lst ds) = some true := rfl
theorem if_lt2_non : isF ["list", "tuple"] .non = some false := rfl
theorem if_lt2_bl (b : Bool) : isF ["list", "tuple"] (.bl b) = some false := rfl
theorem if_lt2_int (i : Int) : isF ["list", "tuple"] (.int i) = some false := rfl
theorem if_lt2_str (x : Str) : isF ["list", "tuple"] (.str x) = some false := rfl
theorem if_lt2_tup (ds : List D) : isF ["list", "tuple"] (.tup ds) = some true := rfl
theorem if_lt2_lst (ds : List D) : isF ["list", "tuple"] (.lst ds) = some true := rfl
end LM

/-! comprehensions with a test; words of data -/
namespace LM
open PySem L2
section
variable {S : Type} {vs : List Nat} {g : D → List Sl → Option (List Sl)} {mt : MX S Bool} {me : MX S W} {f : D → D} {p : D → Bool}
theorem comp_fm {L : List D} (e0 : List Sl) (s : S)
    (step : ∀ d ∈ L, ∃ e1 e2, g d e0 = some e1 ∧ mt e1 s = .ok (p d) e2 s ∧ (p d = false → nonref vs e2 = true ∧ wipeE e2 vs = e0) ∧ (p d = true → ∃ e3 w, me e2 s = .ok w e3 s ∧ w.kp = some (f d) ∧ nonref vs e3 = true ∧ wipeE e3 vs = e0)) :
    ∀ acc, acc.length + L.length ≤ 16777216 → mCompL vs g mt me L acc e0 s = .ok (.f (acc ++ (L.filter p).map f)) e0 s := by
  induction L with
  | nil => exact fun acc _ => by rw [List.filter_nil, List.map_nil, List.append_nil]; rfl
  | cons d L ih =>
    intro acc hl
    obtain ⟨e1, e2, h1, h2, h3, h4⟩ := step d List.mem_cons_self
    rw [List.length_cons] at hl
    have ih := ih fun d hd => step d (List.mem_cons_of_mem _ hd)
    cases hp : p d with
    | false =>
      obtain ⟨q1, q2⟩ := h3 hp
      rw [hp] at h2
      simp only [mCompL, h1, h2, Out.bindN, Bool.false_eq_true, if_false, q1, if_true, q2]
      rw [ih acc (by omega), List.filter_cons_of_neg (by rw [hp]; decide)]
    | true =>
      obtain ⟨e3, w, q1, q2, q3, q4⟩ := h4 hp
      rw [hp] at h2
      simp only [mCompL, h1, h2, Out.bindN, if_true, q1, q2, q3, q4]
      rw [if_pos ⟨by omega, trivial⟩, ih (acc ++ [f d]) (by rw [List.length_append, List.length_singleton]; omega), List.filter_cons_of_pos hp]
      simp
theorem comp_sub {L : List D} (e0 : List Sl)
    (step : ∀ d ∈ L, ∀ s, ∃ e1 e2 b s', g d e0 = some e1 ∧ mt e1 s = .ok b e2 s' ∧ (b = false → nonref vs e2 = true ∧ wipeE e2 vs = e0) ∧ (b = true → ∃ e3 w s'', me e2 s' = .ok w e3 s'' ∧ w.kp = some (f d) ∧ nonref vs e3 = true ∧ wipeE e3 vs = e0)) :
    ∀ acc s, acc.length + L.length ≤ 16777216 → ∃ (L' : List D) (s1 : S), L'.Sublist L ∧ mCompL vs g mt me L acc e0 s = .ok (.f (acc ++ L'.map f)) e0 s1 := by
  induction L with
  | nil => exact fun acc s _ => ⟨[], s, .slnil, by rw [List.map_nil, List.append_nil]; rfl⟩
  | cons d L ih =>
    intro acc s hl
    obtain ⟨e1, e2, b, s', h1, h2, h3, h4⟩ := step d List.mem_cons_self s
    rw [List.length_cons] at hl
    have ih := ih fun d hd => step d (List.mem_cons_of_mem _ hd)
    cases b with
    | false =>
      obtain ⟨q1, q2⟩ := h3 rfl
      obtain ⟨L', s1, hs, hr⟩ := ih acc s' (by omega)
      refine ⟨L', s1, .cons _ hs, ?_⟩
      simp only [mCompL, h1, h2, Out.bindN, Bool.false_eq_true, if_false, q1, if_true, q2]
      exact hr
    | true =>
      obtain ⟨e3, w, s'', q1, q2, q3, q4⟩ := h4 rfl
      obtain ⟨L', s1, hs, hr⟩ := ih (acc ++ [f d]) s'' (by rw [List.length_append, List.length_singleton]; omega)
      refine ⟨d :: L', s1, .cons_cons _ hs, ?_⟩
      simp only [mCompL, h1, h2, Out.bindN, if_true, q1, q2, q3, q4]
      rw [if_pos ⟨by omega, trivial⟩, hr]
      simp
end
theorem if_no {S : Type} {env e1 : List Sl} {s s1 : S} {mc : MX S Bool} {m : MS S} (h : mc env s = .ok false e1 s1) : mIf mc m mNext env s = .nx e1 s1 := by simp [mIf, Out.bindS, h, mNext]
theorem eqv_nil : ∀ ys : List PyData, PyData.eqv (.list ys) (.list []) = ys.isEmpty
  | [] => by simp [PyData.eqv, PyData.eqvAll]
  | y :: ys => by simp [PyData.eqv, PyData.eqvAll]
theorem isE_pys : ∀ ds : List D, (pys ds).isEmpty = ds.isEmpty
  | [] => rfl
  | _ :: _ => rfl
theorem oks_of {n : Nat} : ∀ {ds : List D}, (∀ d ∈ ds, d.ok n = true) → oks n ds = true
  | [], _ => rfl
  | d :: ds, h => by
    unfold oks
    rw [h d List.mem_cons_self, oks_of fun d hd => h d (List.mem_cons_of_mem _ hd)]
    rfl
theorem ne_int (i j : Int) : fNe (.int i) (.int j) = some (.v (.bl (!decide (i = j)))) := by
  simp [fNe, D.ok, rb, D.py, PyData.eqv, BEq.beq]
theorem eq_int (i j : Int) : fEq (.int i) (.int j) = some (.v (.bl (decide (i = j)))) := by
  simp [fEq, D.ok, rb, D.py, PyData.eqv, BEq.beq]
theorem ne_str (x y : Str) : fNe (.str x) (.str y) = some (.v (.bl (!decide (x = y)))) := by
  simp [fNe, D.ok, rb, D.py, PyData.eqv, BEq.beq]
theorem eq_str (x y : Str) : fEq (.str x) (.str y) = some (.v (.bl (decide (x = y)))) := by
  simp [fEq, D.ok, rb, D.py, PyData.eqv, BEq.beq]
/-- a list and the empty one -/
theorem ne_nil {ds : List D} (h : oks 59 ds = true) : fNe (.lst ds) (.lst []) = some (.v (.bl (!ds.isEmpty))) := by
  have h1 : (D.lst ds).ok 60 = true := by unfold D.ok; rw [h]; rfl
  have h2 : (D.lst []).ok 60 = true := rfl
  unfold fNe
  rw [h1, h2]
  simp only [Bool.and_self, if_true, rb, D.py, pys, eqv_nil, isE_pys]
theorem eq_nil {ds : List D} (h : oks 59 ds = true) : fEq (.lst ds) (.lst []) = some (.v (.bl ds.isEmpty)) := by
  have h1 : (D.lst ds).ok 60 = true := by unfold D.ok; rw [h]; rfl
  have h2 : (D.lst []).ok 60 = true := rfl
  unfold fEq
  rw [h1, h2]
  simp only [Bool.and_self, if_true, rb, D.py, pys, eqv_nil, isE_pys]
end LM

/-! str(o) by an own def -/
namespace LM
open PySem PySem.Spec PyProof.Rows L2
section
variable {X : Cx} {k : Nat} {f C : Addr} {fd : FuncData} {ps : List Str} {sp : Sp}
theorem run_in2 {pins : List (Addr × Obj)} {σ : L2.St} {H : Hp} {s : Shared} {Q : VK} {us : List Value} {vs : List V} {Er : Value → Shared → Prop} (F : FnOk X.prog X.w X.K X.mg X.base CX0 k f fd ps sp) (hr : Room (k + 2) X.A) (hb : Binds X.K fd ps [])
    (I : Inv X pins σ H s) (r : Vals vs us) (h : sp vs H Q E0) : wpAny (model X.prog X.w) X.A.in1.in1 (call (.ref f) us) (EP X pins σ Q) Er s := by
  have hl : us.length = ps.length := by rw [← r.length]; exact F.len _ _ _ _ h
  have bnd := hb s us I.kIn (by rw [List.append_nil]; exact hl)
  rw [List.append_nil] at bnd
  refine wpAny_call (codeAny_mono (F.run X.A.in1.in1 X.stack s H ⟨us, []⟩ us vs Q E0 hr.in1.in1 I.env0.in1.in1 bnd r h) fun r s' hq => ?_)
  rcases r with er | fl
  · exact (show False from hq).elim
  · cases fl with
    | ret u => exact I.after hq
    | _ => exact False.elim hq
theorem call_strO (S : Spc X.K C "__str__" f) (hf : PySem.W.isFn X.K (.ref f) = true) (F : FnOk X.prog X.w X.K X.mg X.base CX0 k f fd ps sp) (hr : Room (k + 2) X.A) (hb : Binds X.K fd ps []) :
    CallR X (.type "str") (fun xs H Q => ∃ a dx fs, xs = [.ref a] ∧ H a = some (.ins C dx fs) ∧ sp [.ref a] H (fun v H' => ∃ y : Str, v = .str y ∧ Q (.str y) H') E0) := by
  intro pins s σ H xs us Q I r ⟨a, dx, fs, exs, ea, h⟩
  subst exs
  match r with
  | .cons ru .nil =>
    cases ru
    obtain ⟨mA, O, _⟩ := ins_get I.hok ea
    obtain ⟨od, J, _⟩ := O.look
    have go := run_in2 (Er := X.xe) (vs := [.ref a]) (us := [.ref a]) F hr hb I (.cons rfl .nil) h
    refine PySem.W.kso_call hr.in1.in1.units0 I.kIn J S.at_ hf (wpAny_mono go (fun v s' hv => ?_) fun _ _ z => z)
    obtain ⟨y, H', I', ry, n, ey, q⟩ := hv
    subst ey
    obtain ⟨tk, etk⟩ : ∃ tk, v = .str n tk := ry
    subst etk
    exact ⟨.str n, H', I', ⟨tk, rfl⟩, q⟩
end
/-- str(o) -/
def mStrO {S : Type} (C : Addr) (f : List D → Unit → FO Unit D) (ma : MX S W) : MX S W := ma.bind fun w => fun env s => match w with
  | .v (.ins C' ns es) => if C' = C then (match f [.ins C' ns es] () with
    | .ok (.str y) _ => .ok (.v (.str y)) env s
    | _ => .bad) else .bad
  | _ => .bad
section
variable {S : Type} {X : Cx} {I : BoxI S} {Wx : WX} {CX : CXT} {a b : Expr} {pos p : Pos} {ma mb : MX S W} {k : Nat} {fa C : Addr} {fd : FuncData} {ps : List Str}
theorem d_strO {f : List D → Unit → FO Unit D} (Sp : Spc X.K C "__str__" fa) (hfn : PySem.W.isFn X.K (.ref fa) = true) (F : FnOk X.prog X.w X.K X.mg X.base CX0 k fa fd ps (spD boxNil X.K [.v] f)) (hr : Room (k + 2) X.A) (hb : Binds X.K fd ps []) (hg : Gl X "str") (hm : X.mg "str" = none) (hv : bootBuiltins "str" = some (.type "str")) (ha : PE X a (tD X.K I Wx ma))
    (he : starEach [a] X.env = (false, eval a X.env) :: starEach [] X.env := by rfl) (hpl : (backTo pos (starEach [] X.env)).any (·.1) = false := by rfl) : PE X (.Call (.Name "str" p) [a] [] pos) (tD X.K I Wx (mStrO C f ma)) := by
  refine PEimp (pe_callTy (call_strO Sp hfn F hr hb) hg hm hv (a_cons (ms := mNil) ha a_nil he) (by decide) (by decide) he hpl) fun σ H Q ⟨G, env, s, ts, R, h⟩ => ?_
  refine ⟨G, env, s, ts, R, ?_⟩
  cases e : ma env s with
  | bad => simp only [mStrO, MX.bind, e, Out.bind] at h
  | ex x env1 s1 => simp only [mStrO, MX.bind, e, Out.bind] at h; simp only [mCons, MX.bind, e, Out.bind]; exact h
  | ok w env1 s1 =>
    simp only [mStrO, MX.bind, e, Out.bind] at h
    simp only [mCons, MX.bind, e, Out.bind, mNil]
    intro vs H' hl R1
    match vs, hl with
    | [x], _ =>
      cases w with
      | v d =>
        cases d with
        | ins C' ns es =>
          simp only at h
          by_cases hc : C' = C
          · subst hc
            simp only [if_true] at h
            obtain ⟨ad, bv, bm, R2⟩ := id R1
            have q : Rep X.K _ H' x (.ins C' ns es) := R2.tm _ List.mem_cons_self
            cases q with
            | ins n r e' q =>
              rename_i o dx fs _
              refine ⟨o, dx, fs, rfl, r, ?_⟩
              refine call_finP (Wx := W0) (G := G) (σ := σ) (I := I) (s := s1) (ws := [.v (.ins C' ns es)]) (l := [(.ref o, .v (.ins C' ns es))]) (ts := ts) (env := env1) R2 rfl (fun p hp => List.mem_append_left _ hp) (fun _ _ _ z => z.elim) rfl ?_
              simp only [bindA, W.kp]
              cases e2 : f [.ins C' ns es] () with
              | bad => simp only [e2] at h
              | ex y s2 => simp only [e2] at h
              | ok d2 s2 =>
                cases d2 with
                | str m =>
                  simp only [e2] at h
                  intro v H3 R3
                  obtain ⟨ad3, bv3, bm3, R4⟩ := id R3
                  have q3 : Rep X.K _ H3 v (.str m) := R4.tm _ List.mem_cons_self
                  cases q3
                  exact ⟨m, rfl, h _ H3 R3⟩
                | _ => simp only [e2] at h
          · simp only [if_neg hc] at h
        | _ => simp only at h
      | _ => simp only at h
end
end LM

/-! classmethods: cls is the box of its def -/
namespace LM
open PySem PySem.Spec PyProof.Rows L2 ClX
/-- the class that a classmethod is handed -/
def boxCls (C : Addr) : BoxI Unit where
  rel := fun _ bv bm _ => bv = .ref C ∧ ∀ a, ¬ bm a
  frame := fun h _ => h
  dom := fun h m => absurd m (h.2 _)
  fix := true
theorem ArgsR.pureB {K : PySem.W.Frag} {bm B : Addr → Prop} {H : Hp} {bv bv' : V} : ∀ {m : List Md} {xs : List V} {ds : List D}, ArgsR K bm B H bv m xs ds → m.any Md.isB = false → ArgsR K (fun _ => False) B H bv' m xs ds
  | _, _, _, .nil, _ => .nil
  | _, _, _, .v r h, e => .v r (h.pureB (by simpa [Md.isB] using e))
  | _, _, _, .t r h, e => .t (r.gr (.sub fun _ z => z.elim) (.sub fun _ z => z)) (h.pureB (by simpa [Md.isB] using e))
  | _, _, _, .b h, e => by simp [Md.isB] at e
section
variable {X : Cx} {CX : CXT} {k : Nat} {f C : Addr} {fd : FuncData} {ps : List Str} {sp : Sp} {x m : Str} {p pos apos : Pos} {e o : Expr} {es : List Expr} {ta : TE} {t : TA}
theorem pe_clsS {i : Nat} {E : L2.St → XK} (hN : X.N[i]? = some x) (hv : Vis X.env.scope x) (M : Mk X.K C f) (F : FnOk X.prog X.w X.K X.mg X.base CX k f fd ps sp) (hr : Room (k + 1) X.A) (hb : Binds X.K fd ps []) (hx : ∀ σ, PassesAt CX X σ (E σ))
    (ha : PA X (e :: es) t) (hdb : (x == ("__debug__" : Str)) = false := by decide) (hcd : (x == ("__classdict__" : Str)) = false := by decide) (he : starEach (e :: es) X.env = (false, eval e X.env) :: starEach es X.env := by rfl) (hpl : (backTo pos (starEach es X.env)).any (·.1) = false := by rfl) :
    PE X (.Call (.Name x p) (e :: es) [] pos) (fun σ H Q => σ[i]? = some (some (.ref C)) ∧ tMakeS C sp E t σ H Q) := ⟨fun pins s σ H Q I ⟨h0, h⟩ => by
  refine wpAny_Call_Name_kw (thn ((pe_var (pos := p) hN hv hdb hcd).run pins s σ H (fun v H1 => v = .ref C ∧ H1 = H) I ⟨_, h0, rfl, rfl⟩) fun u s1 ⟨v, H1, I1, rv, ev, eH⟩ => ?_)
  subst ev; subst eH
  obtain rfl : u = Value.ref C := rv
  exact PySem.W.callWith_K (h₀ := X.base) I.ok.mod.kin M.kp (thn (ha.run pos pins s1 σ H1 _ I1 h) fun us s2 ⟨vs, H2, I2, r, q⟩ => ⟨I2.kIn, run_makeS M F hr hb (hx σ) I2 r q⟩) he hpl⟩
theorem run_cmS {q g : Addr} {pins : List (Addr × Obj)} {σ : L2.St} {H : Hp} {s : Shared} {Q : VK} {us : List Value} {vs : List V} {E : XK} (F : FnOk X.prog X.w X.K X.mg X.base CX k g fd ps sp) (hr : Room k X.A) (hb : Binds X.K fd ps []) (hx : PassesAt CX X σ E) (I : Inv X ((q, PySem.W.methodObj (.ref g) (.ref C)) :: pins) σ H s)
    (r : Vals vs us) (h : sp (.ref C :: vs) H Q E) : wpAny (model X.prog X.w) X.A (call (.ref q) us) (EP X pins σ Q) X.xe s := by
  have r2 : Vals (V.ref C :: vs) (Value.ref C :: us) := .cons rfl r
  have hl : (Value.ref C :: us).length = ps.length := by rw [← r2.length]; exact F.len _ _ _ _ h
  have bnd := hb s (Value.ref C :: us) I.kIn (by rw [List.append_nil]; exact hl)
  rw [List.append_nil] at bnd
  have z : wpAny (model X.prog X.w) X.A (call (.ref q) us) (EP X ((q, PySem.W.methodObj (.ref g) (.ref C)) :: pins) σ Q) X.xe s := by
    refine wpAny_call (PySem.W.method_call (pin_at I) (codeAny_mono (F.run X.A X.stack s H ⟨Value.ref C :: us, []⟩ (Value.ref C :: us) (V.ref C :: vs) Q E hr I.env0 bnd r2 h) fun r s' hq => ?_))
    rcases r with er | fl
    · exact hx _ H s er s' I hq
    · cases fl with
      | ret u => exact I.after hq
      | _ => exact False.elim hq
  exact thn z fun _ _ y => unpinE y
theorem pe_cmethS {g : Addr} {mc : Value} {pl : Sem Bool} {q : Addr} {E : L2.St → XK} (hg : Gl X x) (hm : X.mg x = some (.ref C)) (r : CRead X.K C mc) (c : CMet X.K C mc m q g) (F : FnOk X.prog X.w X.K X.mg X.base CX k g fd ps sp) (hr : Room k X.A) (hb : Binds X.K fd ps []) (hx : ∀ σ, PassesAt CX X σ (E σ)) (ha : PA X (e :: es) t)
    (hdb : (x == ("__debug__" : Str)) = false := by decide)
    (hst : starEach (e :: es) X.env = (false, eval e X.env) :: starEach es X.env := by rfl) (hpl : (backTo pos (starEach es X.env)).any (·.1) = false := by rfl)
    (ht : eval (.Call (.Attribute (.Name x p) m apos) (e :: es) [] pos) X.env = (do
      let ov ← eval (.Name x p) X.env
      standAt apos.atName
      let (f, first) ← holding [ov] (getMethod ov m pl)
      callWith pos f first (backTo pos (starEach (e :: es) X.env)) (backToKw pos (keywordEach [] X.env))) := by rfl) :
    PE X (.Call (.Attribute (.Name x p) m apos) (e :: es) [] pos) (fun σ H Q => t σ H fun vs H2 => sp (.ref C :: vs) H2 Q (E σ)) := by
  refine ⟨fun pins s σ H Q I h => ?_⟩
  refine PySem.W.methodCall_KW (pl := pl) (ld_glob I hg hm ?_ hdb) ht
  refine getmethcm_ok I r c fun s2 I2 => ?_
  refine callwith_cm I2 (base_none I (Nat.le_refl _)) c.fi (thn (ha.run pos _ s2 σ H _ I2 h) fun us s3 ⟨vs, H2, I3, rv, q2⟩ => ⟨⟨pin_at I3, I3.kIn⟩, ?_⟩) hst hpl
  exact run_cmS F hr hb (hx σ) I3 rv q2
end
/-- cls(..) -/
def mClsP {S : Type} (i : Nat) (C : Addr) (md : List Md) (f : List D → FO Unit (List Str × List D)) (ms : MX S (List W)) : MX S W := fun env s => match env[i]? with
  | some .box => mMakeP C md f ms env s
  | _ => .bad
section
variable {S : Type} {X : Cx} {I : BoxI S} {Wx : WX} {CX : CXT} {a o : Expr} {es : List Expr} {pos p apos : Pos} {ma : MX S W} {ms : MX Unit (List W)} {md : List Md} {k : Nat} {fa C : Addr} {fd : FuncData} {ps : List Str} {x m : Str}
theorem d_cls {i : Nat} {f : List D → FO Unit (List Str × List D)} (hN : X.N[i]? = some x) (hv : Vis X.env.scope x) (M : Mk X.K C fa) (F : FnOk X.prog X.w X.K X.mg X.base CX k fa fd ps (spI X.K C md f)) (hr : Room (k + 1) X.A) (hb : Binds X.K fd ps [])
    (hx : ∀ σ, PassesAt CX X σ (WE Wx σ)) (ha : PA X (a :: es) (tDs X.K (boxCls C) Wx ms)) (hmd : md.any Md.isB = false := by rfl) (hdb : (x == ("__debug__" : Str)) = false := by decide) (hcd : (x == ("__classdict__" : Str)) = false := by decide) (he : starEach (a :: es) X.env = (false, eval a X.env) :: starEach es X.env := by rfl)
    (hpl : (backTo pos (starEach es X.env)).any (·.1) = false := by rfl) : PE X (.Call (.Name x p) (a :: es) [] pos) (tD X.K (boxCls C) Wx (mClsP i C md f ms)) := by
  refine PEimp (pe_clsS (E := fun σ => WE Wx σ) hN hv M F hr hb hx ha hdb hcd he hpl) fun σ H Q ⟨G, env, s, ts, R, h⟩ => ?_
  have h : ZD X.K (boxCls C) Wx G ts σ Q (mClsP i C md f ms env s) := h
  have key : env[i]? = some .box := by
    unfold mClsP at h
    cases e : env[i]? with
    | none => rw [e] at h; exact False.elim h
    | some y =>
      rw [e] at h
      cases y with
      | box => rfl
      | _ => exact False.elim h
  have h2 : ZD X.K (boxCls C) Wx G ts σ Q (mMakeP C md f ms env s) := by
    unfold mClsP at h
    rw [key] at h
    exact h
  refine ⟨?_, ?_⟩
  · obtain ⟨ad, bv, bm, R0⟩ := id R
    have h1 := R0.sl i .box key
    have h3 : bv = .ref C := R0.box.1
    subst h3
    exact h1
  · refine tDs_bind (Z := ZD X.K (boxCls C) Wx G ts σ Q) R h2 (fun _ _ _ z => z) (fun z => z) fun ws env1 s1 vs H1 _ l R1 z1 => ?_
    obtain ⟨ad, bv, bm, R2⟩ := R1
    intro y dx n1 n2 n3
    exact make_fin R2 l zip_in (fun c d H' h => h) hmd z1 n1 n2 n3
end
section
variable {S : Type} {K : PySem.W.Frag} {I : BoxI S} {Wx : WX} {G : Gh} {ad : Nat → Addr} {bv : V} {bm : Addr → Prop} {env : List Sl} {s : S} {l ts : List (V × W)} {σ : L2.St} {H : Hp}
theorem call_finC {C : Addr} {md : List Md} {f : List D → Unit → FO Unit D} {ws : List W} {vs : List V} {Q : VK} {E : XK} (R : ERa K I G ad bv bm env s (l ++ ts) σ H) (hl : vs.length = ws.length) (hin : ∀ p ∈ vs.zip ws, p ∈ l ++ ts)
    (hE : ∀ c d H', Wx c d σ H' → E c d H') (hmd : md.any Md.isB = false) (z : ZD K I Wx G ts σ Q (match bindA env md ws with
      | some ds => (f ds ()).outP .v env s
      | none => .bad)) : spD (boxCls C) K (.b :: md) f (.ref C :: vs) H Q E := by
  cases e : bindA env md ws with
  | none => rw [e] at z; exact z.elim
  | some ds =>
    rw [e] at z
    refine ⟨_, fun _ => False, .ref C, ds, (), fun a h => h.elim, fun a => R.avdom, ⟨rfl, fun _ h => h⟩, .b ((argsB R hl hin e).pureB hmd), ?_⟩
    have z : ZD K I Wx G ts σ Q ((f ds ()).outP .v env s) := z
    have same : ∀ {H' : Hp}, Ext (fun _ => False) H H' → ∀ a o, H a = some o → H' a = some o := fun x a o h => x.kp a o h fun z => z
    cases q : f ds () with
    | ok d s' =>
      rw [q] at z
      exact fun v H' x rb rep => z v H' ⟨ad, bv, bm, ((R.same (same x)).pushV rep).less (.cons_cons _ slA)⟩
    | ex e s' =>
      rw [q] at z
      refine fun dx H' x rb n ⟨fs, e1, e2, r⟩ => hE _ _ _ (z dx H' ?_)
      exact ERX.less ⟨ad, bv, bm, R.same (same x), R.dom _ n, fs, e1, e2, r⟩ slA
    | bad => rw [q] at z; exact z.elim
end
section
variable {S : Type} {X : Cx} {I : BoxI S} {Wx : WX} {CX : CXT} {a o : Expr} {es : List Expr} {pos p apos : Pos} {ma : MX S W} {ms : MX S (List W)} {md : List Md} {k : Nat} {fa C : Addr} {fd : FuncData} {ps : List Str} {x m : Str}
/-- C.m(..), m a classmethod -/
theorem d_cmeth {f : List D → Unit → FO Unit D} {pl : Sem Bool} {mc : Value} {q : Addr} (r : CRead X.K C mc) (c : CMet X.K C mc m q fa) (F : FnOk X.prog X.w X.K X.mg X.base CX k fa fd ps (spD (boxCls C) X.K (.b :: md) f)) (hr : Room k X.A) (hg : Gl X x) (hm : X.mg x = some (.ref C)) (hb : Binds X.K fd ps [])
    (hx : ∀ σ, PassesAt CX X σ (WE Wx σ)) (ha : PA X (a :: es) (tDs X.K I Wx ms)) (hmd : md.any Md.isB = false := by rfl) (hdb : (x == ("__debug__" : Str)) = false := by decide)
    (hst : starEach (a :: es) X.env = (false, eval a X.env) :: starEach es X.env := by rfl) (hpl : (backTo pos (starEach es X.env)).any (·.1) = false := by rfl)
    (ht : eval (.Call (.Attribute (.Name x p) m apos) (a :: es) [] pos) X.env = (do
      let ov ← eval (.Name x p) X.env
      standAt apos.atName
      let (f, first) ← holding [ov] (getMethod ov m pl)
      callWith pos f first (backTo pos (starEach (a :: es) X.env)) (backToKw pos (keywordEach [] X.env))) := by rfl) : PE X (.Call (.Attribute (.Name x p) m apos) (a :: es) [] pos) (tD X.K I Wx (mCallP md f ms)) := by
  refine PEimp (pe_cmethS (E := fun σ => WE Wx σ) hg hm r c F hr hb hx ha hdb hst hpl ht) fun σ H Q ⟨G, env, s, ts, R, h⟩ => ?_
  refine tDs_bind (Z := ZD X.K I Wx G ts σ Q) R h (fun _ _ _ z => z) (fun z => z) fun ws env1 s1 vs H1 _ l R1 z1 => ?_
  obtain ⟨ad, bv, bm, R2⟩ := R1
  exact call_finC R2 l zip_in (fun c d H' h => h) hmd z1
end
end LM

/-! str of an int, int of a text -/
namespace LM
open PySem L2
def cStr : List D → Option Rs
  | [.int i] => if i.natAbs.log2 < 1920 then some (.v (.str (toString i))) else none
  | _ => none
def cIntS : List D → Option Rs
  | [.str x] => match PySem.intText? x with
    | some n => if x.length ≤ 640 then ri n else none
    | none => none
  | _ => none
section
variable {K : PySem.W.Frag}
theorem dc_str : DCall K (fun xs H Q => ∃ i, xs = [.int i] ∧ i.natAbs.log2 < 1920 ∧ Q (.str (toString i)) H) cStr := by
  intro B H vs ds res Q h _ e q
  unfold cStr at e
  split at e
  · obtain ⟨v, rfl, hv⟩ := tps1 h
    rw [hv.int]
    split at e
    · rename_i hk
      exact ⟨_, rfl, hk, fin_v e q (.str _)⟩
    · cases e
  · cases e
theorem dc_intS : DCall K (fun xs H Q => ∃ a n, xs = [.str a] ∧ PySem.intText? a = some n ∧ a.length ≤ 640 ∧ Q (.int n) H) cIntS := by
  intro B H vs ds res Q h _ e q
  unfold cIntS at e
  split at e
  · rename_i x
    obtain ⟨v, rfl, hv⟩ := tps1 h
    rw [hv.str]
    cases hn : PySem.intText? x with
    | none => rw [hn] at e; cases e
    | some n =>
      rw [hn] at e
      simp only at e
      split at e
      · rename_i hk
        exact ⟨_, n, rfl, hn, hk, fin_int e q⟩
      · cases e
  · cases e
end
end LM

/-! a, b, c = e -/
namespace LM
open PySem PySem.Spec PyProof.Rows L2
def mSetG {S : Type} (g : D → List Sl → Option (List Sl)) (me : MX S W) : MS S := fun env s => (me env s).bindS fun w env s => match w with
  | .v d => match g d env with
    | some env' => .nx env' s
    | none => .bad
  | _ => .bad
section
variable {S : Type} {X : Cx} {I : BoxI S} {Wx : WX} {e : Expr} {tg : Expr} {pos : Pos} {me : MX S W} {g : D → List Sl → Option (List Sl)} {ix : List Nat}
theorem s_setG (he : PE X e (tD X.K I Wx me)) (hg : PG X tg (tG X.K I ix g)) (hs : swapsWithSole [tg] e pos.line X.env = pure false := by rfl) (hw : swappedStores [tg] e X.env = pure none := by rfl)
    (h1 : (assignEach [tg] X.env).map (·.2) = [assign tg X.env] := by rfl) : PS X (.Assign [tg] e pos) (tS X.K I Wx (mSetG g me)) := by
  refine PSimp (ps_asg he hg hs hw h1) fun Dn σ H ⟨G, env, s, ts, R, cl, h⟩ => ?_
  have h : ZS X.K I Wx G ts Dn (mSetG g me env s) := h
  show tD X.K I Wx me σ H _
  refine ⟨G, env, s, ts, R, ?_⟩
  cases e1 : me env s with
  | bad => simp only [mSetG, e1, Out.bindS] at h; exact h.elim
  | ex y env1 s1 => simp only [mSetG, e1, Out.bindS] at h ⊢; exact fun dx H' R' => h dx σ H' R'
  | ok w env1 s1 =>
    simp only [mSetG, e1, Out.bindS] at h
    intro v H1 R1
    cases w with
    | v d =>
      simp only at h
      refine ⟨G, env1, s1, ts, d, R1, ?_⟩
      cases eg : g d env1 with
      | none => simp only [eg] at h; exact h.elim
      | some env2 =>
        simp only [eg] at h
        exact fun σ' R2 _ => h σ' H1 R2
    | _ => exact h.elim
end
end LM

/-! a comprehension over the own list of a slot -/
namespace LM
open PySem L2
def GK (k : Nat) (g : D → List Sl → Option (List Sl)) : Prop := ∀ d env env', g d env = some env' → env'[k]? = env[k]?
def GKs (k : Nat) (g : List D → List Sl → Option (List Sl)) : Prop := ∀ d env env', g d env = some env' → env'[k]? = env[k]?
def MK {S : Type} (k : Nat) (m : MX S W) : Prop := ∀ env s w env' s', m env s = .ok w env' s' → env'[k]? = env[k]?
theorem gk_n {i k : Nat} (h : i ≠ k) : GK k (gN i) := by
  intro d env env' e
  unfold gN at e
  cases q : env[i]? with
  | none => rw [q] at e; cases e
  | some y =>
    rw [q] at e
    simp only at e
    split at e
    · cases e
    · cases e
      rw [List.getElem?_set_ne h]
theorem gk_t {k n : Nat} {g : List D → List Sl → Option (List Sl)} (h : GKs k g) : GK k (gT n g) := by
  intro d env env' e
  unfold gT at e
  split at e
  · split at e
    · exact h _ _ _ e
    · cases e
  · cases e
theorem gks_n {k : Nat} : GKs k gsN := by
  intro d env env' e
  unfold gsN at e
  split at e
  · cases e; rfl
  · cases e
theorem gks_c {k : Nat} {g : D → List Sl → Option (List Sl)} {gs : List D → List Sl → Option (List Sl)} (h : GK k g) (hs : GKs k gs) : GKs k (gsC g gs) := by
  intro d env env' e
  unfold gsC at e
  cases d with
  | nil => cases e
  | cons d ds =>
    simp only at e
    cases q : g d env with
    | none => simp only [q] at e; cases e
    | some env1 =>
      simp only [q] at e
      exact (hs _ _ _ e).trans (h _ _ _ q)
theorem mk_var {S : Type} {k : Nat} (i : Nat) : MK (S := S) k (mVar i) := by
  intro env s w env' s' e
  unfold mVar at e
  split at e <;> first | (cases e; rfl) | cases e
theorem wipeE_keep {env : List Sl} {k : Nat} : ∀ {vs : List Nat}, k ∉ vs → (wipeE env vs)[k]? = env[k]?
  | [], _ => rfl
  | v :: vs, h => by
    show ((wipeE env vs).set v .no)[k]? = env[k]?
    rw [List.getElem?_set_ne (fun e => h (by simp [e])), wipeE_keep fun z => h (List.mem_cons_of_mem _ z)]
def mCompO {S : Type} (k : Nat) (vs : List Nat) (g : D → List Sl → Option (List Sl)) (me : MX S W) : MX S W := fun env s => match env[k]? with
  | some (.own ds) => mComp (fun env s => .ok ds env s) vs g mYes me env s
  | _ => .bad
section
variable {S : Type} {K : PySem.W.Frag} {I : BoxI S} {Wx : WX} {me : MX S W} {g : D → List Sl → Option (List Sl)} {idx : List Nat} {k : Nat}
theorem own_rd {G : Gh} {ts l : List (V × W)} {a : Addr} {ds : List D} {env : List Sl} {s : S} {σ : St} {H : Hp} (hR : ER K I G env s (l ++ ([(.ref a, .l k)] ++ ts)) σ H) (he : env[k]? = some (.own ds)) :
    ∃ ad bv bm xs, ERa K I G ad bv bm env s (l ++ ([(.ref a, .l k)] ++ ts)) σ H ∧ SqL K H a xs ∧ Reps K (Bv G bm ad env (l ++ ([(.ref a, .l k)] ++ ts))) H xs ds := by
  obtain ⟨ad, bv, bm, R⟩ := hR
  have q : Tp K (Bv G bm ad env (l ++ ([(.ref a, .l k)] ++ ts))) H (.ref a) (.lst ds) := R.rd (p := (.ref a, .l k)) (by simp) (by simp only [W.rd, he])
  obtain ⟨a', xs, e, r, q⟩ := q.lst
  cases e
  exact ⟨ad, bv, bm, xs, R, r, q⟩
theorem compO_fin {vs : List Nat} (hv : ∀ i ∈ idx, i ∈ vs) (hk : k ∉ vs) (hgk : GK k g) (hmk : MK k me) {σ : St} {H : Hp} {Q : VK} (h : tD K I Wx (mCompO k vs g me) σ H Q) :
    tLc (iList K (tD K I Wx (mVar k))) (tG K I idx g) (LM.tB K I W0 mYes) (tD K I W0 me) vs σ H Q := by
  obtain ⟨G, env1, s1, ts, R, h⟩ := h
  have h : ZD K I Wx G ts σ Q (mCompO k vs g me env1 s1) := h
  obtain ⟨ds, hds⟩ : ∃ ds, env1[k]? = some (.own ds) := by
    unfold mCompO at h
    split at h
    · rename_i ds e; exact ⟨ds, e⟩
    · exact h.elim
  simp only [mCompO, hds, mComp, MX.bind, Out.bind] at h
  have h : ZD K I Wx G ts σ Q (if nonref vs env1 = true then mCompL vs g mYes me ds [] (wipeE env1 vs) s1 else .bad) := h
  refine ⟨G, env1, s1, ts, R, ?_⟩
  simp only [mVar, hds]
  intro v H1 R1
  obtain ⟨a, rfl⟩ : ∃ a, v = .ref a := by
    obtain ⟨ad, bv, bm, R2⟩ := id R1
    have q := R2.tm (v, .l k) List.mem_cons_self
    exact ⟨_, q.1⟩
  obtain ⟨_, _, _, xs0, _, r0, _⟩ := own_rd (l := []) R1 hds
  refine ⟨a, rfl, ⟨xs0, r0⟩, ?_⟩
  intro L hL
  by_cases hn : nonref vs env1 = true
  · rw [if_pos hn] at h
    obtain ⟨ad, bv, bm, R2⟩ := R1
    let St0 : List D → Hp → Prop := fun rest H => ∃ env s acc, ER K I G env s ((.ref L, .f acc) :: ([(.ref a, .l k)] ++ ts)) (wipe σ vs) H ∧ (∀ v ∈ vs, ∀ y, env[v]? = some y → y = Sl.no) ∧ env[k]? = some (.own ds) ∧ ZD K I Wx G ts σ Q (mCompL vs g mYes me rest acc env s)
    refine ⟨fun i m H => m = ds.length - i ∧ i ≤ ds.length ∧ St0 (ds.drop i) H, ⟨_, rfl, Nat.zero_le _, wipeE env1 vs, s1, [], ?_, wipeE_no, (wipeE_keep hk).trans hds, h⟩, ?_⟩
    · exact ⟨ad, bv, bm, (R2.wipes hn).newF hL .nil⟩
    · rintro i m H2 ⟨rfl, hi, env2, s2, acc, R3, no, hk2, z⟩
      by_cases hlt : i < ds.length
      · have ed : ds.drop i = ds[i] :: ds.drop (i + 1) := List.drop_eq_getElem_cons hlt
        obtain ⟨ad3, bv3, bm3, xs3, R3', r3, q3⟩ := own_rd (l := [(.ref L, .f acc)]) R3 hk2
        obtain ⟨x3, hx3, rx3⟩ := q3.get (List.getElem?_eq_getElem hlt)
        refine .inr ⟨⟨xs3, x3, r3, hx3⟩, St0 (ds.drop (i + 1)), fun H' q => ⟨ds.length - (i + 1), by omega, rfl, hlt, q⟩, fun x H' ⟨eH, hy⟩ => ?_⟩
        subst eH
        have e2 := hy xs3 r3
        rw [hx3] at e2
        cases e2
        rw [ed] at z
        unfold mCompL at z
        refine ⟨G, env2, s2, (V.ref L, W.f acc) :: ([(V.ref a, W.l k)] ++ ts), ds[i], ⟨ad3, bv3, bm3, R3'.pushV rx3⟩, ?_⟩
        cases eg : g ds[i] env2 with
        | none => simp only [eg] at z; exact z.elim
        | some env3 =>
          simp only [eg] at z
          have hk3 := (hgk _ _ _ eg).trans hk2
          intro σ2 R4 w4
          have ew : wipe σ2 vs = wipe σ vs := (w4 vs hv).trans (wipe_wipe σ vs)
          refine ⟨ew, G, env3, s2, _, R4, ?_⟩
          simp only [mYes, Out.bindN, if_true] at z ⊢
          intro H3 R5
          refine ⟨G, env3, s2, _, R5, ?_⟩
          cases ee : me env3 s2 with
          | ex e' env5 s5 => simp only [ee] at z; exact z.elim
          | bad => simp only [ee] at z; exact z.elim
          | ok w env5 s5 =>
            simp only [ee] at z
            have hk5 := (hmk _ _ _ _ _ ee).trans hk3
            intro y H4 R6
            cases ek : w.kp with
            | none => simp only [ek] at z; exact z.elim
            | some e0 =>
              simp only [ek] at z
              by_cases hn5 : acc.length < 16777216 ∧ nonref vs env5 = true
              · rw [if_pos hn5] at z
                obtain ⟨ad, bv, bm, R7⟩ := R6
                have ry := R7.keep (p := (y, w)) List.mem_cons_self ek
                obtain ⟨a', xs', f1, f2, f3⟩ := R7.tm (.ref L, .f acc) (by simp)
                have fD : L = a' := by injection f1
                subst fD
                have sub : ∀ b, Bv G bm ad env5 ((.ref L, .f acc) :: ([(.ref a, .l k)] ++ ts)) b → Bv G bm ad env5 ((y, w) :: (.ref L, .f acc) :: ([(.ref a, .l k)] ++ ts)) b := fun b z => z.imp (fun q => q) fun z => z.imp (fun q => q) fun z => z.imp (fun q => q) fun ⟨q, hq, f⟩ => ⟨q, List.mem_cons_of_mem _ hq, f⟩
                have R8 := R7.pop.wrF (xs' := xs' ++ [y]) (ds' := acc ++ [e0]) ((f3.gr (.sub sub)).app (.one (ry.gr (.sub sub))))
                refine ⟨xs', f2, by rw [f3.len, sizeLine_eq]; exact hn5.1, ?_⟩
                have R9 := R8.wipes hn5.2
                rw [ew] at R9
                exact ⟨_, s5, _, ⟨ad, bv, bm, R9⟩, wipeE_no, (wipeE_keep hk).trans hk5, z⟩
              · rw [if_neg hn5] at z; exact z.elim
      · have ei : i = ds.length := by omega
        subst ei
        rw [List.drop_length] at z
        obtain ⟨_, _, _, xs3, _, r3, q3⟩ := own_rd (l := [(.ref L, .f acc)]) R3 hk2
        refine .inl ⟨⟨xs3, r3, by rw [q3.len]; exact Nat.le_refl _⟩, z _ H2 ?_⟩
        exact (wipeE_env no R3).less (.cons_cons _ slA)
  · rw [if_neg hn] at h; exact h.elim
end
section
variable {S : Type} {X : Cx} {I : BoxI S} {Wx : WX} {pos ip : Pos} {me : MX S W} {g : D → List Sl → Option (List Sl)} {idx : List Nat}
theorem d_compO {elt tg : Expr} {x : Str} {scope : Scope} {own : List (Str × Nat)} (k : Nat) (hc : X.calm = true) (hN : X.N.Nodup) (hx : X.N[k]? = some x) (hvx : Vis X.env.scope x) (ok : BlkOk X.N X.env.scope scope own) (hv : ∀ i ∈ idx, i ∈ own.map (·.2)) (hk : k ∉ own.map (·.2)) (hgk : GK k g) (hmk : MK k me)
    (hg : ∀ (s : Shared) (H : Hp) (C : Addr) (cl : List (Str × Addr)) (fp : List Addr), PG (X.blk s H scope (compEnvC scope cl C X.env) fp) tg (tG X.K I idx g))
    (he : ∀ (s : Shared) (H : Hp) (C : Addr) (cl : List (Str × Addr)) (fp : List Addr), PE (X.blk s H scope (compEnvC scope cl C X.env) fp) elt (tD X.K I W0 me)) (hd : (x == ("__debug__" : Str)) = false := by decide) (hcd : (x == ("__classdict__" : Str)) = false := by decide)
    (hs : ∀ y, foldedSetIterable (.Name x ip) X.env y = pure y := by intro _; rfl) :
    PE X (.ListComp elt [⟨tg, .Name x ip, [], 0⟩] scope pos) (tD X.K I Wx (mCompO k (own.map (·.2)) g me)) :=
  PEimp (pe_lc hc hN (pi_list (d_var (I := I) (Wx := Wx) (S := S) k hx hvx hd hcd)) ok hg (fun _ _ _ _ _ => y_nil) he hs) fun _ _ _ h => compO_fin hv hk hgk hmk h
end
end LM

/-! o == p by an own def, both of the class -/
namespace LM
open PySem PySem.Spec PyProof.Rows L2
section
variable {X : Cx} {k : Nat} {f C : Addr} {fd : FuncData} {ps : List Str} {sp : Sp}
theorem run_in0 {pins : List (Addr × Obj)} {σ : L2.St} {H : Hp} {s : Shared} {Q : VK} {us : List Value} {vs : List V} {Er : Value → Shared → Prop} (F : FnOk X.prog X.w X.K X.mg X.base CX0 k f fd ps sp) (hr : Room k X.A) (hb : Binds X.K fd ps [])
    (I : Inv X pins σ H s) (r : Vals vs us) (h : sp vs H Q E0) : wpAny (model X.prog X.w) X.A (call (.ref f) us) (EP X pins σ Q) Er s := by
  have hl : us.length = ps.length := by rw [← r.length]; exact F.len _ _ _ _ h
  have bnd := hb s us I.kIn (by rw [List.append_nil]; exact hl)
  rw [List.append_nil] at bnd
  refine wpAny_call (codeAny_mono (F.run X.A X.stack s H ⟨us, []⟩ us vs Q E0 hr I.env0 bnd r h) fun r s' hq => ?_)
  rcases r with er | fl
  · exact (show False from hq).elim
  · cases fl with
    | ret u => exact I.after hq
    | _ => exact False.elim hq
theorem op_eqO (hs : PySem.W.findIn X.K (.ref C) "__eq__" = some (some (.ref f))) (hf : PySem.W.isFn X.K (.ref f) = true) (F : FnOk X.prog X.w X.K X.mg X.base CX0 k f fd ps sp) (hr : Room k X.A) (hb : Binds X.K fd ps []) :
    OpR X (compareOp .Eq) (fun x y H Q => ∃ a b dx dy fs gs, x = .ref a ∧ y = .ref b ∧ H a = some (.ins C dx fs) ∧ H b = some (.ins C dy gs) ∧ sp [.ref a, .ref b] H (fun v H' => ∃ r : Bool, v = .bl r ∧ Q (.bl r) H') E0) := by
  intro pins s σ H x y v u Q I rx ry hq
  obtain ⟨a, b, dx, dy, fs, gs, ex, ey, ha, hb', q⟩ := hq
  subst ex; subst ey
  obtain rfl : v = Value.ref a := rx
  obtain rfl : u = Value.ref b := ry
  obtain ⟨mA, J, _⟩ := ins_get I.hok ha
  obtain ⟨mB, J', _⟩ := ins_get I.hok hb'
  obtain ⟨od, J, _⟩ := J.look
  obtain ⟨od', J', _⟩ := J'.look
  obtain ⟨m, hF⟩ := I.fr
  show wpAny (model X.prog X.w) X.A (richCompare .Eq (.ref a) (.ref b)) (EP X pins σ Q) X.xe s
  refine PySem.W.cmp_K (op := .Eq) (tb := .ref C) hr.units0 hF I.ok.mod.kin J J'.type (by simp [PySem.W.notFirst]) hs hf ?_
  refine wpAny_mono (run_in0 (Er := X.xe) (vs := [.ref a, .ref b]) (us := [.ref a, .ref b]) F hr hb I (.cons rfl (.cons rfl .nil)) q) (fun z s' hz => ?_) fun _ _ e => e
  obtain ⟨y, H', I', ry, n, ey, q2⟩ := hz
  subst ey
  obtain rfl : z = Value.bool n := ry
  exact ⟨.bl n, H', I', rfl, q2⟩
end
/-- o == p -/
def mEqO {S : Type} (C : Addr) (f : List D → Unit → FO Unit D) (ma mb : MX S W) : MX S W := ma.bind fun w => mb.bind fun u => fun env s => match w with
  | .v (.ins C' ns es) => match u with
    | .v (.ins C2 ns2 es2) => if C' = C ∧ C2 = C then (match f [.ins C' ns es, .ins C2 ns2 es2] () with
      | .ok (.bl b) _ => .ok (.v (.bl b)) env s
      | _ => .bad) else .bad
    | _ => .bad
  | _ => .bad
section
variable {S : Type} {X : Cx} {I : BoxI S} {Wx : WX} {a b : Expr} {pos p : Pos} {ma mb : MX S W} {k : Nat} {fa C : Addr} {fd : FuncData} {ps : List Str}
theorem eqO_fin {f : List D → Unit → FO Unit D} {σ : L2.St} {H : Hp} {Q : VK} (h : tD X.K I Wx (mEqO C f ma mb) σ H Q) : tOp (fun x y H Q => ∃ a b dx dy fs gs, x = .ref a ∧ y = .ref b ∧ H a = some (.ins C dx fs) ∧ H b = some (.ins C dy gs) ∧ spD boxNil X.K [.v, .v] f [.ref a, .ref b] H (fun v H' => ∃ r : Bool, v = .bl r ∧ Q (.bl r) H') E0) (tD X.K I Wx ma) (tD X.K I Wx mb) σ H Q := by
  obtain ⟨G, env, s, ts, R, h⟩ := h
  refine two_of (r := fun x y H Q => ∃ a b dx dy fs gs, x = .ref a ∧ y = .ref b ∧ H a = some (.ins C dx fs) ∧ H b = some (.ins C dy gs) ∧ spD boxNil X.K [.v, .v] f [.ref a, .ref b] H (fun v H' => ∃ r : Bool, v = .bl r ∧ Q (.bl r) H') E0) R h fun x y w u env1 s1 H1 R1 z1 => ?_
  cases w with
  | v d =>
    cases d with
    | ins C1 ns es =>
      cases u with
      | v d2 =>
        cases d2 with
        | ins C2 ns2 es2 =>
          by_cases hc : C1 = C ∧ C2 = C
          · obtain ⟨c1, c2⟩ := hc
            subst c1; subst c2
            simp only [and_self, if_true] at z1
            obtain ⟨ad, bv, bm, R2⟩ := id R1
            have q : Rep X.K _ H1 x (.ins C2 ns es) := R2.tm (x, .v (.ins C2 ns es)) (.tail _ List.mem_cons_self)
            have q' : Rep X.K _ H1 y (.ins C2 ns2 es2) := R2.tm (y, .v (.ins C2 ns2 es2)) List.mem_cons_self
            cases q with
            | ins n r e' q =>
              rename_i o dx fs
              cases q' with
              | ins n2 r2 e2' q2 =>
                rename_i o2 dx2 fs2
                refine ⟨o, o2, dx, dx2, fs, fs2, rfl, rfl, r, r2, ?_⟩
                refine call_finP (Wx := W0) (G := G) (σ := σ) (I := I) (s := s1) (ws := [.v (.ins C2 ns es), .v (.ins C2 ns2 es2)]) (l := [(.ref o2, .v (.ins C2 ns2 es2)), (.ref o, .v (.ins C2 ns es))]) (ts := ts) (env := env1) R2 rfl (fun p hp => ?_) (fun _ _ _ z => z.elim) rfl ?_
                · simp only [List.zip_cons_cons, List.zip_nil_right, List.mem_cons, List.not_mem_nil, or_false] at hp
                  rcases hp with rfl | rfl
                  · simp
                  · simp
                · simp only [bindA, W.kp]
                  cases e2 : f [.ins C2 ns es, .ins C2 ns2 es2] () with
                  | bad => simp only [e2] at z1; exact z1.elim
                  | ex y s2 => simp only [e2] at z1; exact z1.elim
                  | ok d2 s2 =>
                    cases d2 with
                    | bl m =>
                      simp only [e2] at z1
                      intro v H3 R3
                      obtain ⟨ad3, bv3, bm3, R4⟩ := id R3
                      have q3 : Rep X.K _ H3 v (.bl m) := R4.tm _ List.mem_cons_self
                      cases q3
                      exact ⟨m, rfl, z1 _ H3 R3⟩
                    | _ => simp only [e2] at z1; exact z1.elim
          · simp only [if_neg hc] at z1; exact z1.elim
        | _ => exact z1.elim
      | _ => exact z1.elim
    | _ => exact z1.elim
  | _ => exact z1.elim
theorem d_eqO {f : List D → Unit → FO Unit D} (Sp : Spc X.K C "__eq__" fa) (hfn : PySem.W.isFn X.K (.ref fa) = true) (F : FnOk X.prog X.w X.K X.mg X.base CX0 k fa fd ps (spD boxNil X.K [.v, .v] f)) (hr : Room k X.A) (hb : Binds X.K fd ps [])
    (ha : PE X a (tD X.K I Wx ma)) (hi : PE X b (tD X.K I Wx mb)) (hm : behindInMarks .Eq b = false := by first | exact nomark _ | with_unfolding_all rfl) : PE X (.Compare a [.Eq] [b] pos) (tD X.K I Wx (mEqO C f ma mb)) := by
  exact PEimp (pe_cmpR (op_eqO Sp.at_ hfn F hr hb) ha hi hm) fun σ H Q h => eqO_fin h
theorem t_eqO {f : List D → Unit → FO Unit D} (Sp : Spc X.K C "__eq__" fa) (hfn : PySem.W.isFn X.K (.ref fa) = true) (F : FnOk X.prog X.w X.K X.mg X.base CX0 k fa fd ps (spD boxNil X.K [.v, .v] f)) (hr : Room k X.A) (hb : Binds X.K fd ps [])
    (ha : PE X a (tD X.K I Wx ma)) (hi : PE X b (tD X.K I Wx mb)) (hm : behindInMarks .Eq b = false := by first | exact nomark _ | with_unfolding_all rfl) : PT X (.Compare a [.Eq] [b] pos) (LM.tB X.K I Wx (mTest (mEqO C f ma mb))) := by
  exact PTimp (pt_cmpR (op_eqO Sp.at_ hfn F hr hb) ha hi hm) fun σ H Q ⟨G, env, s, ts, R, h⟩ => eqO_fin (test_of (X := X) R h)
end
end LM

/-! zip of two lists -/
namespace LM
open PySem L2
def zipD (ds es : List D) : List D := (ds.zip es).map fun p => .tup [p.1, p.2]
theorem zipD_len (ds es : List D) : (zipD ds es).length = min ds.length es.length := by rw [zipD, List.length_map, List.length_zip]
theorem zipD_get {ds es : List D} {i : Nat} {d : D} (h : (zipD ds es)[i]? = some d) : ∃ x y, ds[i]? = some x ∧ es[i]? = some y ∧ d = .tup [x, y] := by
  unfold zipD at h
  rw [List.getElem?_map] at h
  cases e : (ds.zip es)[i]? with
  | none => rw [e] at h; cases h
  | some p =>
    rw [e] at h
    cases h
    obtain ⟨h1, h2⟩ := List.getElem?_zip_eq_some.mp e
    exact ⟨_, _, h1, h2, rfl⟩
section
variable {S : Type} {I : BoxI S}
theorem wk_zip {K : PySem.W.Frag} {G : Gh} {ts : List (V × W)} {ds es : List D} {a b : Addr} : Wk K I G ts [(.ref a, .v (.lst ds)), (.ref b, .v (.lst es))] (Itz K a b) (zipD ds es) := by
  have rd : ∀ env s l σ H, ER K I G env s (l ++ ([(V.ref a, W.v (.lst ds)), (V.ref b, W.v (.lst es))] ++ ts)) σ H → ∃ ad bv bm xs ys, ERa K I G ad bv bm env s (l ++ ([(V.ref a, W.v (.lst ds)), (V.ref b, W.v (.lst es))] ++ ts)) σ H ∧ SqL K H a xs ∧ SqL K H b ys ∧
      Reps K (Bv G bm ad env (l ++ ([(V.ref a, W.v (.lst ds)), (V.ref b, W.v (.lst es))] ++ ts))) H xs ds ∧ Reps K (Bv G bm ad env (l ++ ([(V.ref a, W.v (.lst ds)), (V.ref b, W.v (.lst es))] ++ ts))) H ys es := by
    rintro env s l σ H ⟨ad, bv, bm, R⟩
    have q1 : Tp K (Bv G bm ad env (l ++ ([(V.ref a, W.v (.lst ds)), (V.ref b, W.v (.lst es))] ++ ts))) H (.ref a) (.lst ds) := R.rd (p := (.ref a, .v (.lst ds))) (by simp) rfl
    have q2 : Tp K (Bv G bm ad env (l ++ ([(V.ref a, W.v (.lst ds)), (V.ref b, W.v (.lst es))] ++ ts))) H (.ref b) (.lst es) := R.rd (p := (.ref b, .v (.lst es))) (by simp) rfl
    obtain ⟨a', xs, e1, r1, q1⟩ := q1.lst
    obtain ⟨b', ys, e2, r2, q2⟩ := q2.lst
    cases e1; cases e2
    exact ⟨ad, bv, bm, xs, ys, R, r1, r2, q1, q2⟩
  refine ⟨fun q hq => ?_, fun env s l σ H i R hi => ?_, fun env s l σ H i d R hd => ?_⟩
  · simp only [List.mem_cons, List.not_mem_nil, or_false] at hq
    rcases hq with rfl | rfl
    · exact .inl ⟨_, rfl⟩
    · exact .inl ⟨_, rfl⟩
  · obtain ⟨_, _, _, xs, ys, _, r1, r2, q1, q2⟩ := rd env s l σ H R
    rw [zipD_len] at hi
    refine ⟨xs, ys, r1, r2, ?_⟩
    rw [q1.len, q2.len]
    omega
  · obtain ⟨x, y, hx, hy, rfl⟩ := zipD_get hd
    obtain ⟨ad, bv, bm, xs, ys, R', r1, r2, q1, q2⟩ := rd env s l σ H R
    obtain ⟨x0, hx0, rx⟩ := q1.get hx
    obtain ⟨y0, hy0, ry⟩ := q2.get hy
    refine ⟨⟨xs, ys, x0, y0, r1, r2, hx0, hy0⟩, fun z H' ⟨T, x1, y1, e1, e2, e3, e4, e5⟩ => ?_⟩
    subst e1
    subst e3
    have f1 := e4 xs r1
    rw [hx0] at f1; cases f1
    have f2 := e5 ys r2
    rw [hy0] at f2; cases f2
    exact ⟨ad, bv, bm, R'.newT e2 (.cons rx (.cons ry .nil))⟩
def mIZp (ms : MX S (List W)) : MX S (List D) := ms.bind fun ws => fun env s => match ws with
  | [.v (.lst ds), .v (.lst es)] => .ok (zipD ds es) env s
  | _ => .bad
end
section
variable {S : Type} {X : Cx} {I : BoxI S} {Wx : WX} {a b : Expr} {pos p : Pos} {ms : MX S (List W)}
theorem i_zip {elts : List Expr} {kk : Nat} {tpos : Pos} (hg : Gl X "zip") (hm : X.mg "zip" = none) (ha : PA X [a, b] (tDs X.K I Wx ms)) (hs : starEach [a, b] X.env = (false, eval a X.env) :: starEach [b] X.env := by rfl) (hpl : (backTo pos (starEach [b] X.env)).any (·.1) = false := by rfl) :
    PI X (.Tuple elts kk tpos) (.Call (.Name "zip" p) [a, b] [] pos) (tI X.K I Wx (mIZp ms)) := by
  refine PIimp (pi_zip hg hm ha hs hpl) fun σ H R0 ⟨G, env, s, ts, R, h⟩ => ?_
  show tDs X.K I Wx ms σ H _
  refine ⟨G, env, s, ts, R, ?_⟩
  cases e : ms env s with
  | ex e' env1 s1 =>
    simp only [mIZp, MX.bind, Out.bind, e] at h
    exact h
  | bad => simp only [mIZp, MX.bind, Out.bind, e] at h
  | ok ws env1 s1 =>
    simp only [mIZp, MX.bind, Out.bind, e] at h
    intro vs H1 hl R1
    split at h
    · rename_i xs env' s' heq
      split at heq
      · rename_i ds es
        cases heq
        match vs, hl with
        | [v1, v2], _ =>
          obtain ⟨ad, bv, bm, R2⟩ := id R1
          have q1 : Tp X.K _ H1 v1 (.lst ds) := R2.rd (p := (v1, .v (.lst ds))) (by simp) rfl
          have q2 : Tp X.K _ H1 v2 (.lst es) := R2.rd (p := (v2, .v (.lst es))) (by simp) rfl
          obtain ⟨a', xs, e1, r1, _⟩ := q1.lst
          obtain ⟨b', ys, e2, r2, _⟩ := q2.lst
          subst e1; subst e2
          exact ⟨a', b', xs, ys, rfl, r1, r2, h (Itz X.K a' b') [(.ref a', .v (.lst ds)), (.ref b', .v (.lst es))] H1 R1 wk_zip⟩
      · cases heq
    · rename_i heq
      split at heq <;> cases heq
    · exact h.elim
end
end LM

/-! xs.reverse() -/
namespace LM
open PySem L2
def gRev : List D → List D → Option (D × List D)
  | ds, [] => some (.non, ds.reverse)
  | _, _ => none
theorem dm_rev {K : PySem.W.Frag} : DMut K rReverse gRev := by
  intro B H a xs ds vs es res ds' Q hH rx rv e hl q
  unfold gRev at e
  split at e
  · cases e
    cases rv
    exact ⟨a, xs, rfl, rfl, hH, q _ _ rx.rev .non⟩
  · cases e
end LM

/-! isinstance(x, C), C an own class -/
namespace LM
open PySem L2
def isC (C : Addr) (d : D) : Option Bool := match d with
  | .ins C' _ _ => if C' = C then some true else none
  | d => d.ty.map fun _ => false
theorem isC_ok {K : PySem.W.Frag} {C : Addr} (T : InsT K C) (hb : ∀ t ∈ ["NoneType", "bool", "int", "str", "tuple", "list"], PySem.W.kitAny K (.type t) [.ref C] = some false) : IsF K [.ref C] (isC C) := by
  intro B H v d b hv e
  cases d with
  | ins C' ns ds =>
    simp only [isC] at e
    split at e
    · rename_i hc
      subst hc
      cases e
      obtain ⟨a, dx, fs, e1, r, _⟩ := Top.ins hv
      subst e1
      refine ⟨.ref C', .base (.ins r T.cl T.ha T.hn T.ht T.hm), ?_⟩
      have k : PySem.W.kitOne K (.ref C') (.ref C') = some true := by
        unfold PySem.W.kitOne
        rw [if_pos (by simp)]
      unfold PySem.W.kitAny
      rw [k]
    · cases e
  | _ =>
    simp only [isC, D.ty, Option.map_some, Option.some.injEq] at e
    subst e
    exact ⟨_, tyx_of hv rfl, hb _ (by simp)⟩
end LM

/-! o != p by an own __eq__ -/
namespace LM
open PySem PySem.Spec PyProof.Rows PySem.W
section
variable {prog : Program} {w : World} {A : Around} {E : Value → Shared → Prop} {s : Shared} {K : Frag} {x y C f : Addr} {ox : Obj} {od : Option Obj}
theorem objNe_in (hu : A.units < cLine) (Y : K.In s.heap) (J : InstAt s.heap x ox C od) (hs : findIn K (.ref C) "__eq__" = some (some (.ref f))) (hf : isFn K (.ref f) = true) {Q : Fin → Shared → Prop}
    (h : wpAny (model prog w) A (call (.ref f) [.ref x, .ref y]) (fun v s' => ∃ b, v = .bool b ∧ Q (.done (.ret (.bool (!b)))) s') E s) : wpAny (model prog w) A (Builtin.«object.__ne__» ⟨[.ref x, .ref y], []⟩) Q E s := by
  unfold Builtin.«object.__ne__»
  repeat (first
    | with_reducible refine wpAny_cRoomFor hu ?_
    | (refine wpAny_bind (m := callSpecialIfBound? (.ref x) (Str.ofString "__eq__") [.ref y])
        (ifBound_K Y J hs hf (wpAny_mono h (fun r s' hr => by
          obtain ⟨b, rfl, hq⟩ := hr
          repeat (first | exact hq | exact wpAny_pure hq | exact wpAny_truthy_bool hq | (refine wpAny_bind (m := truthy (.bool _)) (wpAny_truthy_bool ?_)) | wp_step)) fun _ _ e => e)))
    | wp_step)
theorem ifBound_ne {args : List Value} {Q : Option Value → Shared → Prop} (Y : K.In s.heap) (J : InstAt s.heap x ox C od) (hs : findIn K (.ref C) "__ne__" = some (some (.builtin "object.__ne__")))
    (h : wpAny (model prog w) A (call (.builtin "object.__ne__") (.ref x :: args)) (fun v => Q (some v)) E s) : wpAny (model prog w) A (callSpecialIfBound? (.ref x) "__ne__" args) Q E s := by
  simp only [callSpecialIfBound?, bindSpecialIfBound?]
  refine wpAny_holding (wpAny_bind (wpAny_bind (wpAny_bind (J.type.here ((looks_findIn Y hs).here ?_)))))
  refine wpAny_bind (wpAny_askSetting (wpAny_ite ?_))
  have fin : wpAny (model prog w) A (call (.builtin "object.__ne__") ([.ref x] ++ args) >>= fun v => pure (some v)) Q E s := wpAny_bind (wpAny_mono h (fun v s' h' => wpAny_pure h') fun _ _ h' => h')
  split
  · exact wpAny_bind (wpAny_of_eq (F.cmp_object.ne.bind _) (wpAny_pure (by exact fin)))
  · exact wpAny_tryCatch (wpAny_bind (wpAny_of_eq (F.cmp_object.ne.bind _) (wpAny_pure (by exact fin))))
theorem ne_own {oy : Obj} {dy : Option Obj} {Q : Value → Shared → Prop} (hu : A.units < cLine) (hu1 : A.in1.units < cLine) (Y : K.In s.heap) (J : InstAt s.heap x ox C od) (J' : InstAt s.heap y oy C dy) (hm : mroIn K C (.type "object") = some true) (hn : findIn K (.ref C) "__ne__" = some (some (.builtin "object.__ne__")))
    (hs : findIn K (.ref C) "__eq__" = some (some (.ref f))) (hf : isFn K (.ref f) = true) (h : wpAny (model prog w) A.in1 (call (.ref f) [.ref x, .ref y]) (fun v s' => ∃ b, v = .bool b ∧ Q (.bool (!b)) s') E s) :
    wpAny (model prog w) A (richCompare .NotEq (.ref x) (.ref y)) Q E s := by
  have one : wpAny (model prog w) A (tryCompare (.ref x) "__ne__" (.ref y)) (fun r s' => ∃ v, r = some v ∧ Q v s') E s := by
    unfold tryCompare
    refine wpAny_bind (ifBound_ne Y J hn (wpAny_call (codeAny_call_builtin F.cmp_object.ne.plain F.cmpEntry_ne (check_slot F.cmpKind_ne F.cmpSplit_ne (J.type.andThen (looks_mroIn Y hm)) (F.cmpArgs_ne _ _)
      (objNe_in (A := A.in1) hu1 Y J hs hf (wpAny_mono h (fun v s' hv => ?_) fun _ _ e => e))))))
    obtain ⟨b, rfl, hq⟩ := hv
    first | exact ⟨b, rfl, wpAny_pure ⟨_, rfl, hq⟩⟩ | exact ⟨b, rfl, wpAny_pure (wpAny_pure ⟨_, rfl, hq⟩)⟩
  unfold richCompare
  simp only [oneThing_ref]
  refine wpAny_holding (wpAny_bind (wpAny_cRoomFor hu ?_))
  refine wpAny_bind (J.type.here (wpAny_bind (J'.type.here ?_)))
  split
  · rename_i q
    simp at q
  · refine wpAny_bind (wpAny_pure ?_)
    simp only [Bool.false_eq_true, if_false]
    refine wpAny_bind (m := tryCompare (.ref x) _ (.ref y)) (wpAny_mono one (fun r s' z => ?_) fun _ _ e => e)
    obtain ⟨v, rfl, hq⟩ := z
    exact wpAny_pure hq
end
end LM

namespace LM
open PySem PySem.Spec PyProof.Rows L2
section
variable {X : Cx} {k : Nat} {f C : Addr} {fd : FuncData} {ps : List Str} {sp : Sp}
theorem op_neO (T : InsT X.K C) (hn : PySem.W.findIn X.K (.ref C) "__ne__" = some (some (.builtin "object.__ne__"))) (hs : PySem.W.findIn X.K (.ref C) "__eq__" = some (some (.ref f))) (hf : PySem.W.isFn X.K (.ref f) = true) (F : FnOk X.prog X.w X.K X.mg X.base CX0 k f fd ps sp) (hr : Room (k + 1) X.A) (hb : Binds X.K fd ps []) :
    OpR X (compareOp .NotEq) (fun x y H Q => ∃ a b dx dy fs gs, x = .ref a ∧ y = .ref b ∧ H a = some (.ins C dx fs) ∧ H b = some (.ins C dy gs) ∧ sp [.ref a, .ref b] H (fun v H' => ∃ r : Bool, v = .bl r ∧ Q (.bl (!r)) H') E0) := by
  intro pins s σ H x y v u Q I rx ry hq
  obtain ⟨a, b, dx, dy, fs, gs, ex, ey, ha, hb', q⟩ := hq
  subst ex; subst ey
  obtain rfl : v = Value.ref a := rx
  obtain rfl : u = Value.ref b := ry
  obtain ⟨mA, J, _⟩ := ins_get I.hok ha
  obtain ⟨mB, J', _⟩ := ins_get I.hok hb'
  obtain ⟨od, J, _⟩ := J.look
  obtain ⟨od', J', _⟩ := J'.look
  show wpAny (model X.prog X.w) X.A (richCompare .NotEq (.ref a) (.ref b)) (EP X pins σ Q) X.xe s
  refine ne_own hr.units0 hr.in1.units0 I.kIn J J' T.hm hn hs hf ?_
  refine wpAny_mono (run_in1 (Er := X.xe) (vs := [.ref a, .ref b]) (us := [.ref a, .ref b]) F hr hb I (.cons rfl (.cons rfl .nil)) q) (fun z s' hz => ?_) fun _ _ e => e
  obtain ⟨y, H', I', ry, n, ey, q2⟩ := hz
  subst ey
  obtain rfl : z = Value.bool n := ry
  exact ⟨n, rfl, .bl (!n), H', I', rfl, q2⟩
end
/-- o != p -/
def mNeO {S : Type} (C : Addr) (f : List D → Unit → FO Unit D) (ma mb : MX S W) : MX S W := ma.bind fun w => mb.bind fun u => fun env s => match w with
  | .v (.ins C' ns es) => match u with
    | .v (.ins C2 ns2 es2) => if C' = C ∧ C2 = C then (match f [.ins C' ns es, .ins C2 ns2 es2] () with
      | .ok (.bl b) _ => .ok (.v (.bl (!b))) env s
      | _ => .bad) else .bad
    | _ => .bad
  | _ => .bad
section
variable {S : Type} {X : Cx} {I : BoxI S} {Wx : WX} {a b : Expr} {pos p : Pos} {ma mb : MX S W} {k : Nat} {fa C : Addr} {fd : FuncData} {ps : List Str}
theorem neO_fin {f : List D → Unit → FO Unit D} {σ : L2.St} {H : Hp} {Q : VK} (h : tD X.K I Wx (mNeO C f ma mb) σ H Q) : tOp (fun x y H Q => ∃ a b dx dy fs gs, x = .ref a ∧ y = .ref b ∧ H a = some (.ins C dx fs) ∧ H b = some (.ins C dy gs) ∧ spD boxNil X.K [.v, .v] f [.ref a, .ref b] H (fun v H' => ∃ r : Bool, v = .bl r ∧ Q (.bl (!r)) H') E0) (tD X.K I Wx ma) (tD X.K I Wx mb) σ H Q := by
  obtain ⟨G, env, s, ts, R, h⟩ := h
  refine two_of (r := fun x y H Q => ∃ a b dx dy fs gs, x = .ref a ∧ y = .ref b ∧ H a = some (.ins C dx fs) ∧ H b = some (.ins C dy gs) ∧ spD boxNil X.K [.v, .v] f [.ref a, .ref b] H (fun v H' => ∃ r : Bool, v = .bl r ∧ Q (.bl (!r)) H') E0) R h fun x y w u env1 s1 H1 R1 z1 => ?_
  cases w with
  | v d =>
    cases d with
    | ins C1 ns es =>
      cases u with
      | v d2 =>
        cases d2 with
        | ins C2 ns2 es2 =>
          by_cases hc : C1 = C ∧ C2 = C
          · obtain ⟨c1, c2⟩ := hc
            subst c1; subst c2
            simp only [and_self, if_true] at z1
            obtain ⟨ad, bv, bm, R2⟩ := id R1
            have q : Rep X.K _ H1 x (.ins C2 ns es) := R2.tm (x, .v (.ins C2 ns es)) (.tail _ List.mem_cons_self)
            have q' : Rep X.K _ H1 y (.ins C2 ns2 es2) := R2.tm (y, .v (.ins C2 ns2 es2)) List.mem_cons_self
            cases q with
            | ins n r e' q =>
              rename_i o dx fs
              cases q' with
              | ins n2 r2 e2' q2 =>
                rename_i o2 dx2 fs2
                refine ⟨o, o2, dx, dx2, fs, fs2, rfl, rfl, r, r2, ?_⟩
                refine call_finP (Wx := W0) (G := G) (σ := σ) (I := I) (s := s1) (ws := [.v (.ins C2 ns es), .v (.ins C2 ns2 es2)]) (l := [(.ref o2, .v (.ins C2 ns2 es2)), (.ref o, .v (.ins C2 ns es))]) (ts := ts) (env := env1) R2 rfl (fun p hp => ?_) (fun _ _ _ z => z.elim) rfl ?_
                · simp only [List.zip_cons_cons, List.zip_nil_right, List.mem_cons, List.not_mem_nil, or_false] at hp
                  rcases hp with rfl | rfl
                  · simp
                  · simp
                · simp only [bindA, W.kp]
                  cases e2 : f [.ins C2 ns es, .ins C2 ns2 es2] () with
                  | bad => simp only [e2] at z1; exact z1.elim
                  | ex y s2 => simp only [e2] at z1; exact z1.elim
                  | ok d2 s2 =>
                    cases d2 with
                    | bl m =>
                      simp only [e2] at z1
                      intro v H3 R3
                      obtain ⟨ad3, bv3, bm3, R4⟩ := id R3
                      have q3 : Rep X.K _ H3 v (.bl m) := R4.tm _ List.mem_cons_self
                      cases q3
                      exact ⟨m, rfl, z1 _ H3 ⟨ad3, bv3, bm3, R4.pop.pushV (.bl _)⟩⟩
                    | _ => simp only [e2] at z1; exact z1.elim
          · simp only [if_neg hc] at z1; exact z1.elim
        | _ => exact z1.elim
      | _ => exact z1.elim
    | _ => exact z1.elim
  | _ => exact z1.elim
theorem d_neO {f : List D → Unit → FO Unit D} (T : InsT X.K C) (hn : PySem.W.findIn X.K (.ref C) "__ne__" = some (some (.builtin "object.__ne__"))) (Sp : Spc X.K C "__eq__" fa) (hfn : PySem.W.isFn X.K (.ref fa) = true) (F : FnOk X.prog X.w X.K X.mg X.base CX0 k fa fd ps (spD boxNil X.K [.v, .v] f)) (hr : Room (k + 1) X.A) (hb : Binds X.K fd ps [])
    (ha : PE X a (tD X.K I Wx ma)) (hi : PE X b (tD X.K I Wx mb)) (hm : behindInMarks .NotEq b = false := by first | exact nomark _ | with_unfolding_all rfl) : PE X (.Compare a [.NotEq] [b] pos) (tD X.K I Wx (mNeO C f ma mb)) := by
  exact PEimp (pe_cmpR (op_neO T hn Sp.at_ hfn F hr hb) ha hi hm) fun σ H Q h => neO_fin h
theorem t_neO {f : List D → Unit → FO Unit D} (T : InsT X.K C) (hn : PySem.W.findIn X.K (.ref C) "__ne__" = some (some (.builtin "object.__ne__"))) (Sp : Spc X.K C "__eq__" fa) (hfn : PySem.W.isFn X.K (.ref fa) = true) (F : FnOk X.prog X.w X.K X.mg X.base CX0 k fa fd ps (spD boxNil X.K [.v, .v] f)) (hr : Room (k + 1) X.A) (hb : Binds X.K fd ps [])
    (ha : PE X a (tD X.K I Wx ma)) (hi : PE X b (tD X.K I Wx mb)) (hm : behindInMarks .NotEq b = false := by first | exact nomark _ | with_unfolding_all rfl) : PT X (.Compare a [.NotEq] [b] pos) (LM.tB X.K I Wx (mTest (mNeO C f ma mb))) := by
  exact PTimp (pt_cmpR (op_neO T hn Sp.at_ hfn F hr hb) ha hi hm) fun σ H Q ⟨G, env, s, ts, R, h⟩ => neO_fin (test_of (X := X) R h)
end
end LM

/-! y == o by o's own __eq__, y of a built-in type -/
namespace LM
open PySem PySem.Spec PyProof.Rows PySem.W
section
variable {prog : Program} {w : World} {A : Around} {E : Value → Shared → Prop} {s : Shared} {K : Frag} {x C f dx : Addr} {od : Option Obj}
theorem rc_refl {y : Value} {T id : String} {Q : Value → Shared → Prop} (hu : A.units < cLine) (hT : s.TypeIs y T) (X : K.In s.heap) (I : InstAt s.heap x (instObj C dx) C od)
    (h1 : Slot T (cmpInfo .Eq).2.1 id) (hc : ∀ Q' : Value → Shared → Prop, Q' .notImplemented s → wpAny (model prog w) A (call (.builtin id) [y, .ref x]) Q' E s)
    (hsub : mroIn K C (.type T) = some false) (hs : findIn K (.ref C) "__eq__" = some (some (.ref f))) (hf : isFn K (.ref f) = true)
    (h : wpAny (model prog w) A (call (.ref f) [.ref x, y]) (fun v s' => ∃ b, v = .bool b ∧ Q (.bool b) s') E s) : wpAny (model prog w) A (richCompare .Eq y (.ref x)) Q E s := by
  rcases hi : cmpInfo CmpOp.Eq with ⟨sym, f1, r1⟩
  rw [hi] at h1
  have er : r1 = "__eq__" := by
    have := congrArg (fun z => z.2.2) hi
    exact this.symm
  simp only [richCompare, hi, hT.oneThing_none]
  try with_reducible refine wpAny_holding ?_
  refine wpAny_bind (wpAny_cRoomFor hu ?_)
  refine wpAny_bind (wpAny_typeOf hT (wpAny_bind (I.type.here ?_)))
  have ne : (Value.type T != Value.ref C) = true := by simp
  simp only [ne, if_true]
  refine wpAny_bind ((looks_mroIn X hsub).here ?_)
  simp only [Bool.false_eq_true, if_false, Bool.not_false, if_true]
  refine wpAny_bind (m := tryCompare y _ (.ref x)) (wpAny_tryCompare_declines hT h1 (hc _ ⟨rfl, ?_⟩))
  have one : wpAny (model prog w) A (tryCompare (.ref x) r1 y) (fun r s' => ∃ b, r = some (.bool b) ∧ Q (.bool b) s') E s := by
    subst er
    unfold tryCompare
    refine wpAny_bind (ifBound_K X I hs hf (wpAny_mono h (fun v s' hv => ?_) fun _ _ e => e))
    obtain ⟨b, rfl, hq⟩ := hv
    exact wpAny_pure ⟨b, rfl, hq⟩
  refine wpAny_bind (m := tryCompare (.ref x) _ y) (wpAny_mono one (fun r s' z => ?_) fun _ _ e => e)
  obtain ⟨b, rfl, hq⟩ := z
  exact wpAny_pure hq
theorem isInst_own {T : String} {Q : Bool → Shared → Prop} (X : K.In s.heap) (I : InstAt s.heap x (instObj C dx) C od) (hsub : mroIn K C (.type T) = some false) (h : Q false s) : wpAny (model prog w) A (isInstance (.ref x) (.type T)) Q E s :=
  by
  show wpAny _ _ (typeOf (.ref x) >>= fun t => isSubtype t (.type T)) _ _ _
  exact wpAny_bind (I.type.here ((looks_mroIn X hsub).here h))
theorem str_dec {a : Str} {t : Tok} {Q : Value → Shared → Prop} (I : InstAt s.heap x (instObj C dx) C od) (h : Q .notImplemented s) : wpAny (model prog w) A (call (.builtin "str.__eq__") [.str a t, .ref x]) Q E s := by
  refine wpAny_call_entry F.slot_str_eq (typeIs_str s a t) F.entry_str_eq ?_ (F.args_str_eq_2 _ _)
  have hx := I.at_
  unfold Builtin.«str.__eq__» Builtin.Str.strCompare
  repeat (first | with_reducible refine wpAny_loadPart' hx ?_ | wp_step)
  exact ⟨_, rfl, h⟩
theorem tup_dec {l : Addr} {Q : Value → Shared → Prop} (X : K.In s.heap) (I : InstAt s.heap x (instObj C dx) C od) (hT : s.TypeIs (.ref l) "tuple") (hsub : mroIn K C (.type "tuple") = some false) (h : Q .notImplemented s) : wpAny (model prog w) A (call (.builtin "tuple.__eq__") [.ref l, .ref x]) Q E s := by
  refine wpAny_call_entry F.slot_tuple_eq hT F.entry_tuple_eq ?_ (F.args_tuple_eq_2 _ _)
  show wpAny _ _ (isInstance (.ref x) (.type "tuple") >>= _) _ _ s
  refine wpAny_bind (isInst_own X I hsub ?_)
  repeat (first | with_reducible refine isInst_own X I hsub ?_ | wp_step)
  exact ⟨_, rfl, h⟩
theorem list_dec {l : Addr} {Q : Value → Shared → Prop} (X : K.In s.heap) (I : InstAt s.heap x (instObj C dx) C od) (hT : s.TypeIs (.ref l) "list") (hsub : mroIn K C (.type "list") = some false) (h : Q .notImplemented s) : wpAny (model prog w) A (call (.builtin "list.__eq__") [.ref l, .ref x]) Q E s := by
  refine wpAny_call_entry F.slot_list_eq hT F.entry_list_eq ?_ (F.args_list_eq_2 _ _)
  show wpAny _ _ (isInstance (.ref x) (.type "list") >>= _) _ _ s
  refine wpAny_bind (isInst_own X I hsub ?_)
  repeat (first | with_reducible refine isInst_own X I hsub ?_ | wp_step)
  exact ⟨_, rfl, h⟩
theorem none_dec {Q : Value → Shared → Prop} (h : Q .notImplemented s) : wpAny (model prog w) A (call (.builtin "NoneType.__eq__") [.none, .ref x]) Q E s :=
  call_gives F.slot_NoneType_eq rfl F.entry_NoneType_eq (F.args_NoneType_eq_2 _ _) (PySem.SeqAt.NoneType___eq___none_ref_0 x) h
end
end LM

/-! o in (x, y, ..), o of an own class with its own __eq__, the others strings, tuples, lists, None -/
namespace LM
open PySem PySem.Spec PyProof.Rows L2
/-- bases that the class has not -/
structure NoB (K : PySem.W.Frag) (C : Addr) : Prop where
  str : PySem.W.mroIn K C (.type "str") = some false
  tup : PySem.W.mroIn K C (.type "tuple") = some false
  lst : PySem.W.mroIn K C (.type "list") = some false
  non : PySem.W.mroIn K C (.type "NoneType") = some false
def Foreign (K : PySem.W.Frag) (H : Hp) (z : V) : Prop := z = .non ∨ (∃ t, z = .str t) ∨ (∃ p xs, z = .ref p ∧ SqT K H p xs) ∨ (∃ p xs, z = .ref p ∧ SqL K H p xs)
def inCh (K : PySem.W.Frag) (C : Addr) (sp : Sp) (a : Addr) : List V → Hp → VK → Prop
  | [], H, Q => Q (.bl false) H
  | z :: zs, H, Q => (∃ dx fs, H a = some (.ins C dx fs)) ∧ Foreign K H z ∧ sp [.ref a, z] H (fun v H' => v = .bl false ∧ inCh K C sp a zs H' Q) E0
section
variable {prog : Program} {w : World} {A : Around} {E : Value → Shared → Prop} {s : Shared}
theorem eqBool_vref {y : Value} {x : Addr} {Q : Bool → Shared → Prop} (hne : y ≠ .ref x) (h : wpAny (model prog w) A (richCompare .Eq y (.ref x)) (fun v s' => ∃ r, v = .bool r ∧ Q r s') E s) : wpAny (model prog w) A (eqBool y (.ref x)) Q E s := by
  unfold eqBool
  refine wpAny_holding ?_
  refine wpAny_ite_split (fun hab => absurd (eq_of_beq hab) hne) (fun _ => ?_)
  have fin : wpAny (model prog w) A (richCompare .Eq y (.ref x) >>= fun r => truthOfDropped r) Q E s := by
    refine wpAny_bind (wpAny_mono h (fun v s' hv => ?_) fun _ _ x => x)
    obtain ⟨r, rfl, q⟩ := hv
    exact wpAny_truthy_bool q
  cases y <;> exact fin
end
section
variable {X : Cx} {k : Nat} {f C : Addr} {fd : FuncData} {ps : List Str} {sp : Sp}
theorem op_inO (N : NoB X.K C) (hs : PySem.W.findIn X.K (.ref C) "__eq__" = some (some (.ref f))) (hf : PySem.W.isFn X.K (.ref f) = true) (F : FnOk X.prog X.w X.K X.mg X.base CX0 k f fd ps sp) (hr : Room (k + 1) X.A) (hb : Binds X.K fd ps []) :
    OpR X (compareOp .In) (fun x y H Q => ∃ a p xs, x = .ref a ∧ y = .ref p ∧ SqT X.K H p xs ∧ inCh X.K C sp a xs H Q) := by
  intro pins s σ H x y v u Q I rx ry hq
  obtain ⟨a, p, xs, ex, ey, hp, q⟩ := hq
  subst ex; subst ey
  obtain rfl : v = Value.ref a := rx
  obtain rfl : u = Value.ref p := ry
  obtain ⟨its, r, ht, _⟩ := I.tuple hp
  show wpAny (model X.prog X.w) X.A (do return .bool (← contains (.ref p) (.ref a))) (EP X pins σ Q) X.xe s
  have key : wpAny (model X.prog X.w) X.A.in1 (Builtin.«tuple.__contains__» ⟨[.ref p, .ref a], []⟩) (fun fin s' => ∃ v, fin = .done (.ret v) ∧ wpAny (model X.prog X.w) X.A (truthy v) (fun b s' => EP X pins σ Q (.bool b) s') X.xe s') X.xe s := by
    show wpAny _ _ (Builtin.Tuple.tupleItemsOf (.ref p) >>= _) _ _ s
    refine wpAny_bind (tupleItemsOf_ ht ?_)
    refine wpAny_bind (forIn_array_ _ (fun rest b s' => b.1 = none ∧ ∃ zs H', Vals zs rest ∧ Inv X pins σ H' s' ∧ inCh X.K C sp a zs H' Q) _ ?_ ?_ its.toArray _ ⟨rfl, xs, H, by simpa using r, I, q⟩)
    · rintro y rest b s' ⟨hbn, zs, H', hv, I', hc⟩
      cases hv with
      | cons rz rr =>
        rename_i z zs
        obtain ⟨⟨dx, fs, ha⟩, fo, hsp⟩ := hc
        obtain ⟨mA, J, _⟩ := ins_get I'.hok ha
        obtain ⟨od, J, _⟩ := J.look
        have call : wpAny (model X.prog X.w) X.A.in1 (call (.ref f) [.ref a, y]) (fun v s2 => ∃ b, v = Value.bool b ∧ (fun v s2 => ∃ r : Bool, v = Value.bool r ∧ r = false ∧ ∃ H2, Inv X pins σ H2 s2 ∧ inCh X.K C sp a zs H2 Q) (Value.bool b) s2) X.xe s' := by
          refine wpAny_mono (run_in1 (Er := X.xe) (vs := [.ref a, z]) (us := [.ref a, y]) F hr hb I' (.cons rfl (.cons rz .nil)) hsp) (fun v s2 hz => ?_) fun _ _ e => e
          obtain ⟨y2, H2, I2, ry, ey, hc2⟩ := hz
          subst ey
          obtain rfl : v = Value.bool false := ry
          exact ⟨false, rfl, false, rfl, rfl, H2, I2, hc2⟩
        have goal : wpAny (model X.prog X.w) X.A.in1 (eqBool y (.ref a)) (fun r s2 => r = false ∧ ∃ H2, Inv X pins σ H2 s2 ∧ inCh X.K C sp a zs H2 Q) X.xe s' := by
          rcases fo with rfl | ⟨t, rfl⟩ | ⟨o, ys, rfl, ho⟩ | ⟨o, ys, rfl, ho⟩
          · cases rz
            exact eqBool_vref nofun (rc_refl hr.in1.units0 (show s'.TypeIs .none "NoneType" from rfl) I'.kIn J PySem.F.slot_NoneType_eq (fun _ h => none_dec h) N.non hs hf call)
          · obtain ⟨t', rfl⟩ := rz
            exact eqBool_vref nofun (rc_refl hr.in1.units0 (typeIs_str s' t t') I'.kIn J PySem.F.slot_str_eq (fun _ h => str_dec J h) N.str hs hf call)
          · obtain rfl : y = Value.ref o := rz
            obtain ⟨its2, r2, ht2, _⟩ := I'.tuple ho
            refine eqBool_vref (fun e => ?_) (rc_refl hr.in1.units0 ht2.typeIs I'.kIn J PySem.F.slot_tuple_eq (fun _ h => tup_dec I'.kIn J ht2.typeIs N.tup h) N.tup hs hf call)
            injection e with e
            subst e
            obtain ⟨o2, g1, g2, _⟩ := ht2
            have g3 := J.at_
            rw [g1] at g3
            cases g3
            cases g2
          · obtain rfl : y = Value.ref o := rz
            obtain ⟨its2, r2, ⟨o2, n2, g1, g2, _, _⟩, _⟩ := I'.list ho
            refine eqBool_vref (fun e => ?_) (rc_refl hr.in1.units0 ⟨_, g1, g2⟩ I'.kIn J PySem.F.slot_list_eq (fun _ h => list_dec I'.kIn J ⟨_, g1, g2⟩ N.lst h) N.lst hs hf call)
            injection e with e
            subst e
            have g3 := J.at_
            rw [g1] at g3
            cases g3
            cases g2
        refine wpAny_bind (wpAny_mono goal (fun r s2 hz => ?_) fun _ _ e => e)
        obtain ⟨rfl, H2, I2, hc2⟩ := hz
        exact wpAny_pure ⟨rfl, zs, H2, rr, I2, hc2⟩
    · rintro ⟨b1, b2⟩ s' ⟨hbn, zs, H', hv, I', hc⟩
      cases hv
      simp only at hbn
      subst hbn
      exact wpAny_pure ⟨_, rfl, wpAny_truthy_bool ⟨.bl false, H', I', rfl, hc⟩⟩
  refine wpAny_bind (m := contains (.ref p) (.ref a)) ?_
  unfold contains
  refine wpAny_holding ?_
  refine wpAny_bind (wpAny_specialOf ht.typeIs slot_tuple_contains.lookup ?_)
  rw [if_neg (by decide)]
  refine wpAny_bind (wpAny_callSpecialUnlessNone?_slot (name := Str.ofString "__contains__") ht.typeIs slot_tuple_contains
    (wpAny_call_entry slot_tuple_contains ht.typeIs entry_tuple_contains (wpAny_mono key (fun fin s' hz => ?_) fun _ _ e => e) (args_tuple_contains _ _)))
  obtain ⟨v, rfl, hv⟩ := hz
  exact ⟨v, rfl, wpAny_mono hv (fun b s' hb => wpAny_pure hb) fun _ _ e => e⟩
end
end LM

namespace LM
open PySem PySem.Spec PyProof.Rows L2
def frnD : D → Bool
  | .non => true
  | .str _ => true
  | .tup _ => true
  | .lst _ => true
  | _ => false
def inChD (f : List D → Unit → FO Unit D) (i : D) : List D → Bool
  | [] => true
  | d :: ds => frnD d && (match f [i, d] () with | .ok (.bl false) _ => true | _ => false) && inChD f i ds
/-- o in (x, y, ..) -/
def mInO {S : Type} (C : Addr) (f : List D → Unit → FO Unit D) (ma mb : MX S W) : MX S W := ma.bind fun w => mb.bind fun u => fun env s => match w with
  | .v (.ins C' ns es) => match u with
    | .v (.tup ds) => if C' = C then (if inChD f (.ins C' ns es) ds = true then .ok (.v (.bl false)) env s else .bad) else .bad
    | _ => .bad
  | _ => .bad
section
variable {S : Type} {K : PySem.W.Frag} {I : BoxI S} {G : Gh} {ad : Nat → Addr} {bv : V} {bm : Addr → Prop} {env : List Sl} {s : S} {ts : List (V × W)} {σ : L2.St} {H : Hp}
theorem ERa.pushVs : ∀ {ds : List D} {xs : List V}, ERa K I G ad bv bm env s ts σ H → Reps K (Bv G bm ad env ts) H xs ds → ERa K I G ad bv bm env s (xs.zip (ds.map W.v) ++ ts) σ H
  | [], _, R, h => by cases h; exact R
  | d :: ds, _, R, h => by
    cases h with
    | cons h1 h2 =>
      rename_i x xs
      refine (ERa.pushVs R h2).pushV (h1.gr (.sub fun a z => ?_))
      refine z.imp (fun q => q) fun z => z.imp (fun q => q) fun z => z.imp (fun q => q) fun ⟨p, hp, f, e⟩ => ?_
      rcases List.mem_append.mp hp with hp | hp
      · have : p.2 ∈ ds.map W.v := (List.of_mem_zip hp).2
        obtain ⟨d', _, e'⟩ := List.mem_map.mp this
        rw [← e'] at f
        cases f
      · exact ⟨p, hp, f, e⟩
theorem foreign_of {B : Addr → Prop} {d : D} {z : V} (h : frnD d = true) (r : Rep K B H z d) : Foreign K H z := by
  cases d with
  | non => cases r; exact .inl rfl
  | str x => cases r; exact .inr (.inl ⟨_, rfl⟩)
  | tup ds =>
    cases r with
    | tup n r q => exact .inr (.inr (.inl ⟨_, _, rfl, .inl r⟩))
    | wtup r q => exact .inr (.inr (.inl ⟨_, _, rfl, .inr r⟩))
  | lst ds =>
    cases r with
    | lst n r q => exact .inr (.inr (.inr ⟨_, _, rfl, .inl r⟩))
    | wlst r q => exact .inr (.inr (.inr ⟨_, _, rfl, r.sq⟩))
  | _ => cases h
theorem inCh_of {C : Addr} {f : List D → Unit → FO Unit D} {o : Addr} {ns : List Str} {es : List D} {T : List (V × W)} {Q : VK} (hi : (V.ref o, W.v (.ins C ns es)) ∈ T) : ∀ {ds : List D} {xs : List V} {H : Hp}, ER K I G env s T σ H → (∀ p ∈ xs.zip (ds.map W.v), p ∈ T) → xs.length = ds.length →
    inChD f (.ins C ns es) ds = true → (∀ H', ER K I G env s T σ H' → Q (.bl false) H') → inCh K C (spD boxNil K [.v, .v] f) o xs H Q
  | [], [], H, R, _, _, _, fin => fin H R
  | [], _ :: _, _, _, _, hl, _, _ => by cases hl
  | _ :: _, [], _, _, _, hl, _, _ => by cases hl
  | d :: ds, x :: xs, H, R, hm, hl, h, fin => by
    simp only [inChD, Bool.and_eq_true] at h
    obtain ⟨⟨h1, h2⟩, h3⟩ := h
    have mem : (x, W.v d) ∈ T := hm _ List.mem_cons_self
    obtain ⟨ad, bv, bm, R'⟩ := id R
    have q := R'.tm _ hi
    refine ⟨?_, foreign_of h1 (R'.tm _ mem), ?_⟩
    · cases (show Rep K _ H (.ref o) (.ins C ns es) from q) with
      | ins n r e' q => exact ⟨_, _, r⟩
    · refine call_finP (Wx := W0) (G := G) (σ := σ) (I := I) (s := s) (ws := [.v (.ins C ns es), .v d]) (l := []) (ts := T) (env := env) R' rfl (fun p hp => ?_) (fun _ _ _ z => z.elim) rfl ?_
      · simp only [List.zip_cons_cons, List.zip_nil_right, List.mem_cons, List.not_mem_nil, or_false] at hp
        rcases hp with rfl | rfl
        · exact hi
        · exact mem
      · simp only [bindA, W.kp]
        cases e2 : f [.ins C ns es, d] () with
        | bad => simp only [e2] at h2; cases h2
        | ex y s2 => simp only [e2] at h2; cases h2
        | ok d2 s2 =>
          cases d2 with
          | bl m =>
            cases m with
            | true => simp only [e2] at h2; cases h2
            | false =>
              intro v H3 R3
              obtain ⟨ad3, bv3, bm3, R4⟩ := id R3
              have q3 : Rep K _ H3 v (.bl false) := R4.tm _ List.mem_cons_self
              cases q3
              exact ⟨rfl, inCh_of hi R3.pop (fun p hp => hm p (.tail _ hp)) (by simpa using hl) h3 fin⟩
          | _ => simp only [e2] at h2; cases h2
end
section
variable {S : Type} {X : Cx} {I : BoxI S} {Wx : WX} {a b : Expr} {pos p : Pos} {ma mb : MX S W} {k : Nat} {fa C : Addr} {fd : FuncData} {ps : List Str}
theorem inO_fin {f : List D → Unit → FO Unit D} {σ : L2.St} {H : Hp} {Q : VK} (h : tD X.K I Wx (mInO C f ma mb) σ H Q) : tOp (fun x y H Q => ∃ a p xs, x = .ref a ∧ y = .ref p ∧ SqT X.K H p xs ∧ inCh X.K C (spD boxNil X.K [.v, .v] f) a xs H Q) (tD X.K I Wx ma) (tD X.K I Wx mb) σ H Q := by
  obtain ⟨G, env, s, ts, R, h⟩ := h
  refine two_of (r := fun x y H Q => ∃ a p xs, x = .ref a ∧ y = .ref p ∧ SqT X.K H p xs ∧ inCh X.K C (spD boxNil X.K [.v, .v] f) a xs H Q) R h fun x y w u env1 s1 H1 R1 z1 => ?_
  cases w with
  | v d =>
    cases d with
    | ins C1 ns es =>
      cases u with
      | v d2 =>
        cases d2 with
        | tup ds =>
          by_cases hc : C1 = C
          · subst hc
            simp only [if_true] at z1
            by_cases hh : inChD f (.ins C1 ns es) ds = true
            · rw [if_pos hh] at z1
              obtain ⟨ad, bv, bm, R2⟩ := id R1
              have q : Rep X.K _ H1 x (.ins C1 ns es) := R2.tm (x, .v (.ins C1 ns es)) (.tail _ List.mem_cons_self)
              have q' : Rep X.K _ H1 y (.tup ds) := R2.tm (y, .v (.tup ds)) List.mem_cons_self
              cases q with
              | ins n r e' q =>
                rename_i o dx fs
                have key : ∀ {p : Addr} {xs : List V}, y = .ref p → SqT X.K H1 p xs → Reps X.K (Bv G bm ad env1 ((y, .v (.tup ds)) :: (.ref o, .v (.ins C1 ns es)) :: ts)) H1 xs ds →
                    ∃ a p xs, V.ref o = .ref a ∧ y = .ref p ∧ SqT X.K H1 p xs ∧ inCh X.K C1 (spD boxNil X.K [.v, .v] f) a xs H1 Q := by
                  intro p xs ey hs hq
                  refine ⟨o, p, xs, rfl, ey, hs, ?_⟩
                  refine inCh_of (T := xs.zip (ds.map W.v) ++ ((y, .v (.tup ds)) :: (.ref o, .v (.ins C1 ns es)) :: ts)) (List.mem_append.mpr (.inr (.tail _ List.mem_cons_self))) ⟨ad, bv, bm, R2.pushVs hq⟩ (fun p hp => List.mem_append.mpr (.inl hp)) hq.len hh fun H' R' => ?_
                  obtain ⟨ad3, bv3, bm3, R4⟩ := id (R'.pops.pop.pop)
                  exact z1 _ H' ⟨ad3, bv3, bm3, R4.pushV (.bl _)⟩
                cases q' with
                | tup n r q => exact key rfl (.inl r) q
                | wtup r q => exact key rfl (.inr r) q
            · rw [if_neg hh] at z1; exact z1.elim
          · simp only [if_neg hc] at z1; exact z1.elim
        | _ => exact z1.elim
      | _ => exact z1.elim
    | _ => exact z1.elim
  | _ => exact z1.elim
theorem d_inO {f : List D → Unit → FO Unit D} (N : NoB X.K C) (Sp : Spc X.K C "__eq__" fa) (hfn : PySem.W.isFn X.K (.ref fa) = true) (F : FnOk X.prog X.w X.K X.mg X.base CX0 k fa fd ps (spD boxNil X.K [.v, .v] f)) (hr : Room (k + 1) X.A) (hb : Binds X.K fd ps [])
    (ha : PE X a (tD X.K I Wx ma)) (hi : PE X b (tD X.K I Wx mb)) (hm : behindInMarks .In b = false := by first | exact nomark _ | with_unfolding_all rfl) : PE X (.Compare a [.In] [b] pos) (tD X.K I Wx (mInO C f ma mb)) := by
  exact PEimp (pe_cmpR (op_inO N Sp.at_ hfn F hr hb) ha hi hm) fun σ H Q h => inO_fin h
theorem t_inO {f : List D → Unit → FO Unit D} (N : NoB X.K C) (Sp : Spc X.K C "__eq__" fa) (hfn : PySem.W.isFn X.K (.ref fa) = true) (F : FnOk X.prog X.w X.K X.mg X.base CX0 k fa fd ps (spD boxNil X.K [.v, .v] f)) (hr : Room (k + 1) X.A) (hb : Binds X.K fd ps [])
    (ha : PE X a (tD X.K I Wx ma)) (hi : PE X b (tD X.K I Wx mb)) (hm : behindInMarks .In b = false := by first | exact nomark _ | with_unfolding_all rfl) : PT X (.Compare a [.In] [b] pos) (LM.tB X.K I Wx (mTest (mInO C f ma mb))) := by
  exact PTimp (pt_cmpR (op_inO N Sp.at_ hfn F hr hb) ha hi hm) fun σ H Q ⟨G, env, s, ts, R, h⟩ => inO_fin (test_of (X := X) R h)
end
end LM

namespace ledmarks_k13_editions_made
open PySem L2 LM
def top (i : Nat) : Stmt := PySem.Challenge.pw_ledmarks_k13_editions_made.main.body.getD i (.Pass ⟨0, 0, 0, 0⟩)
abbrev s_Edition___len__ : Stmt := inClass (top 16) 3
abbrev s_Edition___eq__ : Stmt := inClass (top 16) 6
abbrev s_is_number : Stmt := top 11
abbrev s_is_name : Stmt := top 12
abbrev s__is_pair : Stmt := top 18
abbrev s__first_wrong : Stmt := top 17
abbrev s_is_sequence : Stmt := top 10
abbrev s_Edition_init : Stmt := inClass (top 16) 0
abbrev s__word : Stmt := top 20
abbrev s_Edition___str__ : Stmt := inClass (top 16) 7
abbrev s__law_text : Stmt := top 29
abbrev s_check_row : Stmt := top 14
abbrev s_Edition___getitem__ : Stmt := inClass (top 16) 4
abbrev s__law_take : Stmt := top 23
abbrev s__law_pick : Stmt := top 24
abbrev s__law_edited : Stmt := top 28
abbrev s__law_rows : Stmt := top 27
abbrev s__law_shuffled : Stmt := top 25
abbrev s__law_words : Stmt := top 26
abbrev s__law_box : Stmt := top 22
abbrev s_law : Stmt := top 30
theorem boot_abs_ : bootBuiltins "abs" = some (.builtin "abs") := by decide +kernel
theorem boot_all_ : bootBuiltins "all" = some (.builtin "all") := by decide +kernel
theorem boot_bool_ : bootBuiltins "bool" = some (.type "bool") := by decide +kernel
theorem boot_int_ : bootBuiltins "int" = some (.type "int") := by decide +kernel
theorem boot_isinstance_ : bootBuiltins "isinstance" = some (.builtin "isinstance") := by decide +kernel
theorem boot_len_ : bootBuiltins "len" = some (.builtin "len") := by decide +kernel
theorem boot_list_ : bootBuiltins "list" = some (.type "list") := by decide +kernel
theorem boot_max_ : bootBuiltins "max" = some (.builtin "max") := by decide +kernel
theorem boot_min_ : bootBuiltins "min" = some (.builtin "min") := by decide +kernel
theorem boot_repr_ : bootBuiltins "repr" = some (.builtin "repr") := by decide +kernel
theorem boot_str_ : bootBuiltins "str" = some (.type "str") := by decide +kernel
theorem boot_tuple_ : bootBuiltins "tuple" = some (.type "tuple") := by decide +kernel
theorem sc_Edition___len__ : FnScope ["self"] ["self"] (defScope s_Edition___len__) := ⟨rfl, rfl, rfl, by decide +kernel, rfl, by decide +kernel, by decide +kernel⟩
theorem sc_Edition___eq__ : FnScope ["self", "other"] ["self", "other"] (defScope s_Edition___eq__) := ⟨rfl, rfl, rfl, by decide +kernel, rfl, by decide +kernel, by decide +kernel⟩
theorem sc_is_number : FnScope ["value"] ["value"] (defScope s_is_number) := ⟨rfl, rfl, rfl, by decide +kernel, rfl, by decide +kernel, by decide +kernel⟩
theorem sc_is_name : FnScope ["value", "letter"] ["value"] (defScope s_is_name) := ⟨rfl, rfl, rfl, by decide +kernel, rfl, by decide +kernel, by decide +kernel⟩
theorem sc__is_pair : FnScope ["row"] ["row"] (defScope s__is_pair) := ⟨rfl, rfl, rfl, by decide +kernel, rfl, by decide +kernel, by decide +kernel⟩
theorem sc__first_wrong : FnScope ["rows", "elders", "at", "row"] ["rows"] (defScope s__first_wrong) := ⟨rfl, rfl, rfl, by decide +kernel, rfl, by decide +kernel, by decide +kernel⟩
theorem sc_is_sequence : FnScope ["value"] ["value"] (defScope s_is_sequence) := ⟨rfl, rfl, rfl, by decide +kernel, rfl, by decide +kernel, by decide +kernel⟩
theorem sc_Edition_init : FnScope ["self", "rows", "wrong"] ["self", "rows"] (defScope s_Edition_init) := ⟨rfl, rfl, rfl, by decide +kernel, rfl, by decide +kernel, by decide +kernel⟩
theorem sc__word : FnScope ["content", "elder"] ["content", "elder"] (defScope s__word) := ⟨rfl, rfl, rfl, by decide +kernel, rfl, by decide +kernel, by decide +kernel⟩
theorem sc_Edition___str__ : FnScope ["self", "content", "elder"] ["self"] (defScope s_Edition___str__) := ⟨rfl, rfl, rfl, by decide +kernel, rfl, by decide +kernel, by decide +kernel⟩
theorem sc__law_text : FnScope ["_law_rows_here", "_law_words_here", "_law_content", "_law_elder"] ["_law_rows_here"] (defScope s__law_text) := ⟨rfl, rfl, rfl, by decide +kernel, rfl, by decide +kernel, by decide +kernel⟩
theorem sc_check_row : FnScope ["rows", "at"] ["rows", "at"] (defScope s_check_row) := ⟨rfl, rfl, rfl, by decide +kernel, rfl, by decide +kernel, by decide +kernel⟩
theorem sc_Edition___getitem__ : FnScope ["self", "at"] ["self", "at"] (defScope s_Edition___getitem__) := ⟨rfl, rfl, rfl, by decide +kernel, rfl, by decide +kernel, by decide +kernel⟩
theorem sc__law_take : FnScope ["_law_box_here", "_law_many", "_law_digit", "_law_near"] ["_law_box_here", "_law_many"] (defScope s__law_take) := ⟨rfl, rfl, rfl, by decide +kernel, rfl, by decide +kernel, by decide +kernel⟩
theorem sc__law_pick : FnScope ["_law_box_here", "_law_some"] ["_law_box_here", "_law_some"] (defScope s__law_pick) := ⟨rfl, rfl, rfl, by decide +kernel, rfl, by decide +kernel, by decide +kernel⟩
theorem sc__law_edited : FnScope ["_law_box_here", "_law_words_here", "_law_elder_rows", "_law_most", "_law_found", "_law_at", "_law_content", "_law_elder", "_law_turn"] ["_law_box_here", "_law_words_here", "_law_elder_rows", "_law_most"] (defScope s__law_edited) := ⟨rfl, rfl, rfl, by decide +kernel, rfl, by decide +kernel, by decide +kernel⟩
theorem sc__law_rows : FnScope ["_law_box_here", "_law_words_here", "_law_most", "_law_turn"] ["_law_box_here", "_law_words_here", "_law_most"] (defScope s__law_rows) := ⟨rfl, rfl, rfl, by decide +kernel, rfl, by decide +kernel, by decide +kernel⟩
theorem sc__law_shuffled : FnScope ["_law_box_here", "_law_some", "_law_rest", "_law_found", "_law_turn"] ["_law_box_here", "_law_some"] (defScope s__law_shuffled) := ⟨rfl, rfl, rfl, by decide +kernel, rfl, by decide +kernel, by decide +kernel⟩
theorem sc__law_words : FnScope ["_law_box_here", "_law_many", "_law_some"] ["_law_box_here", "_law_many"] (defScope s__law_words) := ⟨rfl, rfl, rfl, by decide +kernel, rfl, by decide +kernel, by decide +kernel⟩
theorem sc__law_box : FnScope ["_law_script", "_law_k", "_law_great", "_law_seed"] ["_law_script", "_law_k"] (defScope s__law_box) := ⟨rfl, rfl, rfl, by decide +kernel, rfl, by decide +kernel, by decide +kernel⟩
theorem sc_law : FnScope ["_law_script", "_law_k", "_law_box_here", "_law_words_here", "_law_told", "_law_turn", "_law_made", "_law_rows_here", "_law_given", "_law_one", "_law_at", "_law_other", "_law_bare"] ["_law_script"] (defScope s_law) := ⟨rfl, rfl, rfl, by decide +kernel, rfl, by decide +kernel, by decide +kernel⟩
/-- what the top has left -/
structure Tx (K : PySem.W.Frag) (mg : Str → Option Value) where
  a_Edition___len__ : Addr
  fd_Edition___len__ : FuncData
  F_Edition___len__ : Fun K "__len__" "Edition.__len__" s_Edition___len__ a_Edition___len__ fd_Edition___len__
  b_Edition___len__ : Binds K fd_Edition___len__ ["self"] []
  a_Edition___eq__ : Addr
  fd_Edition___eq__ : FuncData
  F_Edition___eq__ : Fun K "__eq__" "Edition.__eq__" s_Edition___eq__ a_Edition___eq__ fd_Edition___eq__
  b_Edition___eq__ : Binds K fd_Edition___eq__ ["self", "other"] []
  a_is_number : Addr
  fd_is_number : FuncData
  F_is_number : Fun K "is_number" "is_number" s_is_number a_is_number fd_is_number
  b_is_number : Binds K fd_is_number ["value"] []
  g_is_number : mg "is_number" = some (.ref a_is_number)
  a_is_name : Addr
  fd_is_name : FuncData
  F_is_name : Fun K "is_name" "is_name" s_is_name a_is_name fd_is_name
  b_is_name : Binds K fd_is_name ["value"] []
  g_is_name : mg "is_name" = some (.ref a_is_name)
  a__is_pair : Addr
  fd__is_pair : FuncData
  F__is_pair : Fun K "_is_pair" "_is_pair" s__is_pair a__is_pair fd__is_pair
  b__is_pair : Binds K fd__is_pair ["row"] []
  g__is_pair : mg "_is_pair" = some (.ref a__is_pair)
  a__first_wrong : Addr
  fd__first_wrong : FuncData
  F__first_wrong : Fun K "_first_wrong" "_first_wrong" s__first_wrong a__first_wrong fd__first_wrong
  b__first_wrong : Binds K fd__first_wrong ["rows"] []
  g__first_wrong : mg "_first_wrong" = some (.ref a__first_wrong)
  a_is_sequence : Addr
  fd_is_sequence : FuncData
  F_is_sequence : Fun K "is_sequence" "is_sequence" s_is_sequence a_is_sequence fd_is_sequence
  b_is_sequence : Binds K fd_is_sequence ["value"] []
  g_is_sequence : mg "is_sequence" = some (.ref a_is_sequence)
  a_Edition_init : Addr
  fd_Edition_init : FuncData
  F_Edition_init : Fun K "__init__" "Edition.__init__" s_Edition_init a_Edition_init fd_Edition_init
  b_Edition_init : Binds K fd_Edition_init ["self", "rows"] []
  a__word : Addr
  fd__word : FuncData
  F__word : Fun K "_word" "_word" s__word a__word fd__word
  b__word : Binds K fd__word ["content", "elder"] []
  g__word : mg "_word" = some (.ref a__word)
  a_Edition___str__ : Addr
  fd_Edition___str__ : FuncData
  F_Edition___str__ : Fun K "__str__" "Edition.__str__" s_Edition___str__ a_Edition___str__ fd_Edition___str__
  b_Edition___str__ : Binds K fd_Edition___str__ ["self"] []
  a__law_text : Addr
  fd__law_text : FuncData
  F__law_text : Fun K "_law_text" "_law_text" s__law_text a__law_text fd__law_text
  b__law_text : Binds K fd__law_text ["_law_rows_here"] []
  g__law_text : mg "_law_text" = some (.ref a__law_text)
  a_check_row : Addr
  fd_check_row : FuncData
  F_check_row : Fun K "check_row" "check_row" s_check_row a_check_row fd_check_row
  b_check_row : Binds K fd_check_row ["rows", "at"] []
  g_check_row : mg "check_row" = some (.ref a_check_row)
  a_Edition___getitem__ : Addr
  fd_Edition___getitem__ : FuncData
  F_Edition___getitem__ : Fun K "__getitem__" "Edition.__getitem__" s_Edition___getitem__ a_Edition___getitem__ fd_Edition___getitem__
  b_Edition___getitem__ : Binds K fd_Edition___getitem__ ["self", "at"] []
  a__law_take : Addr
  fd__law_take : FuncData
  F__law_take : Fun K "_law_take" "_law_take" s__law_take a__law_take fd__law_take
  b__law_take : Binds K fd__law_take ["_law_box_here", "_law_many"] []
  g__law_take : mg "_law_take" = some (.ref a__law_take)
  a__law_pick : Addr
  fd__law_pick : FuncData
  F__law_pick : Fun K "_law_pick" "_law_pick" s__law_pick a__law_pick fd__law_pick
  b__law_pick : Binds K fd__law_pick ["_law_box_here", "_law_some"] []
  g__law_pick : mg "_law_pick" = some (.ref a__law_pick)
  a__law_edited : Addr
  fd__law_edited : FuncData
  F__law_edited : Fun K "_law_edited" "_law_edited" s__law_edited a__law_edited fd__law_edited
  b__law_edited : Binds K fd__law_edited ["_law_box_here", "_law_words_here", "_law_elder_rows", "_law_most"] []
  g__law_edited : mg "_law_edited" = some (.ref a__law_edited)
  a__law_rows : Addr
  fd__law_rows : FuncData
  F__law_rows : Fun K "_law_rows" "_law_rows" s__law_rows a__law_rows fd__law_rows
  b__law_rows : Binds K fd__law_rows ["_law_box_here", "_law_words_here", "_law_most"] []
  g__law_rows : mg "_law_rows" = some (.ref a__law_rows)
  a__law_shuffled : Addr
  fd__law_shuffled : FuncData
  F__law_shuffled : Fun K "_law_shuffled" "_law_shuffled" s__law_shuffled a__law_shuffled fd__law_shuffled
  b__law_shuffled : Binds K fd__law_shuffled ["_law_box_here", "_law_some"] []
  g__law_shuffled : mg "_law_shuffled" = some (.ref a__law_shuffled)
  a__law_words : Addr
  fd__law_words : FuncData
  F__law_words : Fun K "_law_words" "_law_words" s__law_words a__law_words fd__law_words
  b__law_words : Binds K fd__law_words ["_law_box_here", "_law_many"] []
  g__law_words : mg "_law_words" = some (.ref a__law_words)
  a__law_box : Addr
  fd__law_box : FuncData
  F__law_box : Fun K "_law_box" "_law_box" s__law_box a__law_box fd__law_box
  b__law_box : Binds K fd__law_box ["_law_script", "_law_k"] []
  g__law_box : mg "_law_box" = some (.ref a__law_box)
  c_Edition : Addr
  g_Edition : mg "Edition" = some (.ref c_Edition)
  cl_Edition : Cls K c_Edition
  mk_Edition : Mk K c_Edition a_Edition_init
  na_Edition_rows : NoAttr K c_Edition "rows"
  sp_Edition___eq__ : Spc K c_Edition "__eq__" a_Edition___eq__
  sp_Edition___getitem__ : Spc K c_Edition "__getitem__" a_Edition___getitem__
  sp_Edition___len__ : Spc K c_Edition "__len__" a_Edition___len__
  sp_Edition___str__ : Spc K c_Edition "__str__" a_Edition___str__
  fi_Edition___getitem__ : PySem.W.fnIn K a_Edition___getitem__ = true
  if_Edition___eq__ : PySem.W.isFn K (.ref a_Edition___eq__) = true
  if_Edition___str__ : PySem.W.isFn K (.ref a_Edition___str__) = true
  it_Edition : InsT K c_Edition
  ne_Edition : PySem.W.findIn K (.ref c_Edition) "__ne__" = some (some (.builtin "object.__ne__"))
  nb_Edition : NoB K c_Edition
  kb_Edition : ∀ t ∈ ["NoneType", "bool", "int", "str", "tuple", "list"], PySem.W.kitAny K (.type t) [.ref c_Edition] = some false
  n_abs : mg "abs" = none
  n_all : mg "all" = none
  n_bool : mg "bool" = none
  n_enumerate : mg "enumerate" = none
  n_int : mg "int" = none
  n_isinstance : mg "isinstance" = none
  n_len : mg "len" = none
  n_list : mg "list" = none
  n_max : mg "max" = none
  n_min : mg "min" = none
  n_range : mg "range" = none
  n_repr : mg "repr" = none
  n_str : mg "str" = none
  n_tuple : mg "tuple" = none
  n_zip : mg "zip" = none
  u_LETTERS : Value
  v_LETTERS : V
  gk_LETTERS : mg "LETTERS" = some u_LETTERS
  rk_LETTERS : RelV v_LETTERS u_LETTERS
  dk_LETTERS : ∀ B H, Rep K B H v_LETTERS (.str "abcdefghijklmnopqrstuvwxyz")
  u_TAKEN : Value
  v_TAKEN : V
  gk_TAKEN : mg "TAKEN" = some u_TAKEN
  rk_TAKEN : RelV v_TAKEN u_TAKEN
  dk_TAKEN : ∀ B H, Rep K B H v_TAKEN (.tup [.str "and", .str "any", .str "came", .str "here", .str "not", .str "own", .str "to"])
section
variable {P : Program} {w : World} {K : PySem.W.Frag} {mg : Str → Option Value} {base : Heap}
theorem Tx.k_LETTERS {S : Type} {X : Cx} {I : BoxI S} {Wx : WX} {pos : Pos} (T : Tx X.K X.mg) (hg : Gl X "LETTERS") : PE X (.Name "LETTERS" pos) (tD X.K I Wx (mK (.str "abcdefghijklmnopqrstuvwxyz"))) := d_k (pe_glob hg T.gk_LETTERS T.rk_LETTERS) T.dk_LETTERS
theorem Tx.k_TAKEN {S : Type} {X : Cx} {I : BoxI S} {Wx : WX} {pos : Pos} (T : Tx X.K X.mg) (hg : Gl X "TAKEN") : PE X (.Name "TAKEN" pos) (tD X.K I Wx (mK (.tup [.str "and", .str "any", .str "came", .str "here", .str "not", .str "own", .str "to"]))) := d_k (pe_glob hg T.gk_TAKEN T.rk_TAKEN) T.dk_TAKEN
def m_Edition___len__ (T : Tx K mg) : MS Unit :=
    (mRet (mCB cLen (mCons (mFld T.c_Edition "rows" (mVar 0)) mNil)))
def f_Edition___len__ (T : Tx K mg) (ds : List D) (s : Unit) : FO Unit D := (m_Edition___len__ T (env0 [.v] 0 ds) s).fo0
theorem ok_Edition___len__ (T : Tx K mg) : FnOk P w K mg base CX0 1 T.a_Edition___len__ T.fd_Edition___len__ ["self"] (spD boxNil K [.v] (f_Edition___len__ T)) := by
  have h := fun h1 => fn_ok0 (P := P) (w := w) (mg := mg) (base := base) (I := boxNil) (k := 0) (md := [.v]) (m := m_Edition___len__ T) T.F_Edition___len__ sc_Edition___len__ rfl rfl h1
  refine h fun cdv A outer s H E hr => ?_
  have hu := hr.units
  exact (b_one (s_ret (d_cb call_len dc_len (by rfl) T.n_len boot_len_ (a_cons (d_fld (d_var 0) T.cl_Edition T.na_Edition_rows) a_nil))))
def m_Edition___eq__ (T : Tx K mg) : MS Unit :=
    (mRet (mAndV (mIsi (isC T.c_Edition) (mVar 1)) (mOp fEq (mFld T.c_Edition "rows" (mVar 0)) (mFld T.c_Edition "rows" (mVar 1)))))
def f_Edition___eq__ (T : Tx K mg) (ds : List D) (s : Unit) : FO Unit D := (m_Edition___eq__ T (env0 [.v, .v] 0 ds) s).fo0
theorem ok_Edition___eq__ (T : Tx K mg) : FnOk P w K mg base CX0 1 T.a_Edition___eq__ T.fd_Edition___eq__ ["self", "other"] (spD boxNil K [.v, .v] (f_Edition___eq__ T)) := by
  have h := fun h1 => fn_ok0 (P := P) (w := w) (mg := mg) (base := base) (I := boxNil) (k := 0) (md := [.v, .v]) (m := m_Edition___eq__ T) T.F_Edition___eq__ sc_Edition___eq__ rfl rfl h1
  refine h fun cdv A outer s H E hr => ?_
  have hu := hr.units
  exact (b_one (s_ret (v_and (d_isi (by rfl) T.n_isinstance boot_isinstance_ (d_var 1) (k_own (by rfl) T.g_Edition) (isC_ok T.it_Edition T.kb_Edition)) (v_one (d_cmp (op_eqP hu) do_eq (d_fld (d_var 0) T.cl_Edition T.na_Edition_rows) (d_fld (d_var 1) T.cl_Edition T.na_Edition_rows))))))
def m_is_number (T : Tx K mg) : MS Unit :=
    (mRet (mAndV (mIsi (isF ["int"]) (mVar 0)) (mAndV (mNotV (mIsi (isF ["bool"]) (mVar 0))) (mOp (fC fun i j => decide (j ≤ i)) (mVar 0) (mK (.int 0))))))
def f_is_number (T : Tx K mg) (ds : List D) (s : Unit) : FO Unit D := (m_is_number T (env0 [.v] 0 ds) s).fo0
theorem ok_is_number (T : Tx K mg) : FnOk P w K mg base CX0 1 T.a_is_number T.fd_is_number ["value"] (spD boxNil K [.v] (f_is_number T)) := by
  have h := fun h1 => fn_ok0 (P := P) (w := w) (mg := mg) (base := base) (I := boxNil) (k := 0) (md := [.v]) (m := m_is_number T) T.F_is_number sc_is_number rfl rfl h1
  refine h fun cdv A outer s H E hr => ?_
  have hu := hr.units
  exact (b_one (s_ret (v_and (d_isi (by rfl) T.n_isinstance boot_isinstance_ (d_var 0) (k_blt (by rfl) T.n_int boot_int_) (isF_ok (cs := ["int"]) (by decide))) (v_and (v_not (d_isi (by rfl) T.n_isinstance boot_isinstance_ (d_var 0) (k_blt (by rfl) T.n_bool boot_bool_) (isF_ok (cs := ["bool"]) (by decide)))) (v_one (d_cmp op_ge (do_C (g := fun i j => decide (j ≤ i))) (d_var 0) d_int))))))
def m_is_name (T : Tx K mg) : MS Unit :=
    (mSeq (mIf (mOrT (mNotT (mTest (mIsi (isF ["str"]) (mVar 0)))) (mNotT (mTest (mChain (fC fun i j => decide (i ≤ j)) (fC fun i j => decide (i ≤ j)) (mK (.int 1)) (mCB cLen (mCons (mVar 0) mNil)) (mK (.int 4)))))) (mRet (mK (.bl false))) mNext)
    (mRet (mAndV (mOp fNin (mVar 0) (mK (.tup [.str "and", .str "any", .str "came", .str "here", .str "not", .str "own", .str "to"]))) (mCB cAll (mCons (mComp (mIS (mVar 0)) [1] (gN 1) mYes (mOp fInS (mVar 1) (mK (.str "abcdefghijklmnopqrstuvwxyz")))) mNil)))))
def f_is_name (T : Tx K mg) (ds : List D) (s : Unit) : FO Unit D := (m_is_name T (env0 [.v] 1 ds) s).fo0
theorem ok_is_name (T : Tx K mg) : FnOk P w K mg base CX0 1 T.a_is_name T.fd_is_name ["value"] (spD boxNil K [.v] (f_is_name T)) := by
  have h := fun h1 => fn_ok0 (P := P) (w := w) (mg := mg) (base := base) (I := boxNil) (k := 0) (md := [.v]) (m := m_is_name T) T.F_is_name sc_is_name rfl rfl h1
  refine h fun cdv A outer s H E hr => ?_
  have hu := hr.units
  exact (b_cons (s_if (PW.pt (w_or (t_not (t_val (d_isi (by rfl) T.n_isinstance boot_isinstance_ (d_var 0) (k_blt (by rfl) T.n_str boot_str_) (isF_ok (cs := ["str"]) (by decide))))) (w_or1 (t_not (t_chain op_le (do_C (g := fun i j => decide (i ≤ j))) op_le (do_C (g := fun i j => decide (i ≤ j))) d_int (d_cb call_len dc_len (by rfl) T.n_len boot_len_ (a_cons (d_var 0) a_nil)) d_int))))) (b_one (s_ret d_bl)) b_nil)
      (b_one (s_ret (v_and (d_cmp (op_ninP hu) do_nin (d_var 0) (T.k_TAKEN (by rfl))) (v_one (d_cb (cr_all rfl) dc_all (by rfl) T.n_all boot_all_ (a_cons (d_comp (own := [("letter", 1)]) rfl sc_is_name.nd (i_str (d_var 0)) (blkOk_by (N := ["value", "letter"]) (sc := defScope s_is_name) (by decide +kernel)) (by decide) (fun _ _ _ _ _ => (g_name (i := 1) sc_is_name.nd rfl (by first | exact Or.inl rfl | exact Or.inr rfl))) (fun _ _ _ _ _ => y_nil) (fun _ _ _ _ _ => (d_cmp op_in_sign do_inS (d_var 1) (T.k_LETTERS (by rfl))))) a_nil)))))))
def m__is_pair (T : Tx K mg) : MS Unit :=
    (mSeq (mIf (mOrT (mNotT (mTest (mIsi (isF ["tuple"]) (mVar 0)))) (mTest (mOp fNe (mCB cLen (mCons (mVar 0) mNil)) (mK (.int 2))))) (mRet (mK (.bl false))) mNext)
    (mRet (mAndV (mCallP [.v] (f_is_name T) (mCons (mOp fIx (mVar 0) (mK (.int 0))) mNil)) (mOrV (mOp fIsN (mOp fIx (mVar 0) (mK (.int 1))) (mK .non)) (mCallP [.v] (f_is_number T) (mCons (mOp fIx (mVar 0) (mK (.int 1))) mNil))))))
def f__is_pair (T : Tx K mg) (ds : List D) (s : Unit) : FO Unit D := (m__is_pair T (env0 [.v] 0 ds) s).fo0
theorem ok__is_pair (T : Tx K mg) : FnOk P w K mg base CX0 2 T.a__is_pair T.fd__is_pair ["row"] (spD boxNil K [.v] (f__is_pair T)) := by
  have h := fun h1 => fn_ok0 (P := P) (w := w) (mg := mg) (base := base) (I := boxNil) (k := 1) (md := [.v]) (m := m__is_pair T) T.F__is_pair sc__is_pair rfl rfl h1
  refine h fun cdv A outer s H E hr => ?_
  have hu := hr.units
  exact (b_cons (s_if (PW.pt (w_or (t_not (t_val (d_isi (by rfl) T.n_isinstance boot_isinstance_ (d_var 0) (k_blt (by rfl) T.n_tuple boot_tuple_) (isF_ok (cs := ["tuple"]) (by decide))))) (w_or1 (t_cmp (op_neP hu) do_ne (d_cb call_len dc_len (by rfl) T.n_len boot_len_ (a_cons (d_var 0) a_nil)) d_int)))) (b_one (s_ret d_bl)) b_nil)
      (b_one (s_ret (v_and (d_callP (ok_is_name T) (hr.mono (by decide)) (by rfl) T.g_is_name T.F_is_name.kp T.b_is_name pass0W (a_cons (d_ix ix_seq do_ix (d_var 0) d_int) a_nil)) (v_one (v_or (d_cmp op_isN do_isN (d_ix ix_seq do_ix (d_var 0) d_int) d_non) (v_one (d_callP (ok_is_number T) (hr.mono (by decide)) (by rfl) T.g_is_number T.F_is_number.kp T.b_is_number pass0W (a_cons (d_ix ix_seq do_ix (d_var 0) d_int) a_nil)))))))))
def m__first_wrong (T : Tx K mg) : MS Unit :=
    (mSeq (mSet 1 (mLst mNil))
    (mSeq (mFor (mIEn (mVar 0)) (gT 2 (gsC (gN 2) (gsC (gN 3) gsN))) (mSeq (mIf (mOrT (mNotT (mTest (mCallP [.v] (f__is_pair T) (mCons (mVar 3) mNil)))) (mTest (mOp fIn (mOp fIx (mVar 3) (mK (.int 1))) (mVar 1)))) (mRet (mVar 2)) mNext)
    (mIf (mTest (mOp fNotN (mOp fIx (mVar 3) (mK (.int 1))) (mK .non))) (mExp (mMut gApp (mVar 1) (mCons (mOp fIx (mVar 3) (mK (.int 1))) mNil))) mNext)))
    (mRet (mK .non))))
def f__first_wrong (T : Tx K mg) (ds : List D) (s : Unit) : FO Unit D := (m__first_wrong T (env0 [.t] 3 ds) s).fo0
theorem ok__first_wrong (T : Tx K mg) : FnOk P w K mg base CX0 3 T.a__first_wrong T.fd__first_wrong ["rows"] (spD boxNil K [.t] (f__first_wrong T)) := by
  have h := fun h1 => fn_ok0 (P := P) (w := w) (mg := mg) (base := base) (I := boxNil) (k := 2) (md := [.t]) (m := m__first_wrong T) T.F__first_wrong sc__first_wrong rfl rfl h1
  refine h fun cdv A outer s H E hr => ?_
  have hu := hr.units
  exact (b_cons (s_set (i := 1) sc__first_wrong.nd rfl (by first | exact Or.inl rfl | exact Or.inr rfl) (d_lst a_nil))
      (b_cons (s_for PassesOwn.never rfl (i_enum (by rfl) T.n_enumerate (d_var 0)) (g_tup (n := 2) rfl (gs_cons (g_name (i := 2) sc__first_wrong.nd rfl (by first | exact Or.inl rfl | exact Or.inr rfl)) (gs_cons (g_name (i := 3) sc__first_wrong.nd rfl (by first | exact Or.inl rfl | exact Or.inr rfl)) gs_nil))) (b_cons (s_if (PW.pt (w_or (t_not (t_val (d_callP (ok__is_pair T) (hr.mono (by decide)) (by rfl) T.g__is_pair T.F__is_pair.kp T.b__is_pair pass0W (a_cons (d_var 3) a_nil)))) (w_or1 (t_cmp (op_inP hu) do_in (d_ix ix_seq do_ix (d_var 3) d_int) (d_var 1))))) (b_one (s_ret (d_var 2))) b_nil)
      (b_one (s_if (t_cmp op_notN do_notN (d_ix ix_seq do_ix (d_var 3) d_int) d_non) (b_one (s_expr (d_mut PySem.F.slot_list_append PySem.F.type_list_append mt_append dm_app (d_var 1) (a_cons (d_ix ix_seq do_ix (d_var 3) d_int) a_nil)))) b_nil))))
      (b_one (s_ret d_non))))
def m_is_sequence (T : Tx K mg) : MS Unit :=
    (mRet (mIsi (isF ["list", "tuple"]) (mVar 0)))
def f_is_sequence (T : Tx K mg) (ds : List D) (s : Unit) : FO Unit D := (m_is_sequence T (env0 [.t] 0 ds) s).fo0
theorem ok_is_sequence (T : Tx K mg) : FnOk P w K mg base CX0 1 T.a_is_sequence T.fd_is_sequence ["value"] (spD boxNil K [.t] (f_is_sequence T)) := by
  have h := fun h1 => fn_ok0 (P := P) (w := w) (mg := mg) (base := base) (I := boxNil) (k := 0) (md := [.t]) (m := m_is_sequence T) T.F_is_sequence sc_is_sequence rfl rfl h1
  refine h fun cdv A outer s H E hr => ?_
  have hu := hr.units
  exact (b_one (s_ret (d_isi (by rfl) T.n_isinstance boot_isinstance_ (d_var 0) (k_tup (k_cons (by rfl) T.n_list boot_list_ (k_cons (by rfl) T.n_tuple boot_tuple_ k_nil))) (isF_ok (cs := ["list", "tuple"]) (by decide)))))
def m_Edition_init (T : Tx K mg) : MS Unit :=
    (mSeq (mIf (mNotT (mTest (mCallP [.t] (f_is_sequence T) (mCons (mVar 1) mNil)))) mBad mNext)
    (mSeq (mSet 2 (mCallP [.t] (f__first_wrong T) (mCons (mVar 1) mNil)))
    (mSeq (mIf (mTest (mOp fNotN (mVar 2) (mK .non))) mBad mNext)
    (mFldSet T.c_Edition "rows" (mVar 0) (mCB cTup (mCons (mVar 1) mNil))))))
def f_Edition_init (T : Tx K mg) (ds : List D) : FO Unit (List Str × List D) := (m_Edition_init T (envI 0 T.c_Edition [.t] 1 ds) ()).foI 0 T.c_Edition
theorem init_Edition_init (T : Tx K mg) (y : Addr) (ds : List D) : (m_Edition_init T (envI y T.c_Edition [.t] 1 ds) ()).foI y T.c_Edition = f_Edition_init T ds := by
  unfold f_Edition_init m_Edition_init
  cases ds with
  | nil => rfl
  | cons d ds =>
    simp only [mSeq, mSet, mRet, mRetN, mIf, mExp, mBad, mNext, mPar, W.sl, mFor, Out.bindS, MX.bind, Out.bind, mK, mVar, mFz, mFf, mOp, mTest, mNotT, mNotV, mAndT, mOrT, mAndV, mOrV, mIfE, mChain, mNil, mCons, mTup, mLst, mCB, mFld, mFldSet, mCallP, mCallB, mMethP, mMakeP, mMut, mSl, mPart, mNoPart, mIsi, mIL, mIT, mIR, mIEn, mIS, mBGet, mBSet, mNewBox, mComp, mYes, Out.bindN, bindA, env0, envA, envI, FO.outP, FO.outL, FO.out, SO.fo0, SO.foF, SO.foI, lensW, lensL, resO_some, Rs.w_v, Rs.w_f, W.rd_v, W.rd_t, W.rd_f, W.rd_l, W.kp_v, List.mapM_cons, List.mapM_nil, Option.bind_eq_bind, Option.bind_some, Option.pure_def, Option.map_some, List.replicate_succ, List.replicate_zero, List.cons_append, List.nil_append, List.getElem?_cons_zero, List.getElem?_cons_succ, List.set_cons_zero, List.set_cons_succ, rb, ri, fI, fC, fAdd, fSub, fMod, fMul, fDiv, fIx, fIsN, fNotN, D.isN, isF, D.ty, isB, cLen, cInt, cTup, cList, gApp, gN, gT, gsC, gsN, Sl.isRef, if_true, if_false, if_pos, List.length_cons, List.length_nil, Bx.at, Bx.put, List.any_cons, List.any_nil, Bool.not_true, Bool.not_false, Nat.reduceAdd, Nat.reduceLeDiff, reduceIte, reduceCtorEq, and_self, and_true, true_and]
    cases f_is_sequence T [d] () with
    | ok a s =>
      cases a with
      | bl b =>
        cases b with
        | false => rfl
        | true =>
          simp only [mSeq, mSet, mRet, mRetN, mIf, mExp, mBad, mNext, mPar, W.sl, mFor, Out.bindS, MX.bind, Out.bind, mK, mVar, mFz, mFf, mOp, mTest, mNotT, mNotV, mAndT, mOrT, mAndV, mOrV, mIfE, mChain, mNil, mCons, mTup, mLst, mCB, mFld, mFldSet, mCallP, mCallB, mMethP, mMakeP, mMut, mSl, mPart, mNoPart, mIsi, mIL, mIT, mIR, mIEn, mIS, mBGet, mBSet, mNewBox, mComp, mYes, Out.bindN, bindA, env0, envA, envI, FO.outP, FO.outL, FO.out, SO.fo0, SO.foF, SO.foI, lensW, lensL, resO_some, Rs.w_v, Rs.w_f, W.rd_v, W.rd_t, W.rd_f, W.rd_l, W.kp_v, List.mapM_cons, List.mapM_nil, Option.bind_eq_bind, Option.bind_some, Option.pure_def, Option.map_some, List.replicate_succ, List.replicate_zero, List.cons_append, List.nil_append, List.getElem?_cons_zero, List.getElem?_cons_succ, List.set_cons_zero, List.set_cons_succ, rb, ri, fI, fC, fAdd, fSub, fMod, fMul, fDiv, fIx, fIsN, fNotN, D.isN, isF, D.ty, isB, cLen, cInt, cTup, cList, gApp, gN, gT, gsC, gsN, Sl.isRef, if_true, if_false, if_pos, List.length_cons, List.length_nil, Bx.at, Bx.put, List.any_cons, List.any_nil, Bool.not_true, Bool.not_false, Nat.reduceAdd, Nat.reduceLeDiff, reduceIte, reduceCtorEq, and_self, and_true, true_and]
          cases f__first_wrong T [d] () with
          | ok a s =>
            cases a with
            | non =>
              simp only [mSeq, mSet, mRet, mRetN, mIf, mExp, mBad, mNext, mPar, W.sl, mFor, Out.bindS, MX.bind, Out.bind, mK, mVar, mFz, mFf, mOp, mTest, mNotT, mNotV, mAndT, mOrT, mAndV, mOrV, mIfE, mChain, mNil, mCons, mTup, mLst, mCB, mFld, mFldSet, mCallP, mCallB, mMethP, mMakeP, mMut, mSl, mPart, mNoPart, mIsi, mIL, mIT, mIR, mIEn, mIS, mBGet, mBSet, mNewBox, mComp, mYes, Out.bindN, bindA, env0, envA, envI, FO.outP, FO.outL, FO.out, SO.fo0, SO.foF, SO.foI, lensW, lensL, resO_some, Rs.w_v, Rs.w_f, W.rd_v, W.rd_t, W.rd_f, W.rd_l, W.kp_v, List.mapM_cons, List.mapM_nil, Option.bind_eq_bind, Option.bind_some, Option.pure_def, Option.map_some, List.replicate_succ, List.replicate_zero, List.cons_append, List.nil_append, List.getElem?_cons_zero, List.getElem?_cons_succ, List.set_cons_zero, List.set_cons_succ, rb, ri, fI, fC, fAdd, fSub, fMod, fMul, fDiv, fIx, fIsN, fNotN, D.isN, isF, D.ty, isB, cLen, cInt, cTup, cList, gApp, gN, gT, gsC, gsN, Sl.isRef, if_true, if_false, if_pos, List.length_cons, List.length_nil, Bx.at, Bx.put, List.any_cons, List.any_nil, Bool.not_true, Bool.not_false, Nat.reduceAdd, Nat.reduceLeDiff, reduceIte, reduceCtorEq, and_self, and_true, true_and]
              cases d <;> first | rfl | (simp [resO, Rs.w, W.kp]; done)
            | _ => rfl
          | _ => rfl
      | _ => rfl
    | _ => rfl
theorem ok_Edition_init (T : Tx K mg) : FnOk P w K mg base CX0 4 T.a_Edition_init T.fd_Edition_init ["self", "rows"] (spI K T.c_Edition [.t] (f_Edition_init T)) := by
  have h := fun h1 => fn_okI (P := P) (w := w) (mg := mg) (base := base) (C := T.c_Edition) (k := 3) (md := [.t]) (m := m_Edition_init T) (g := f_Edition_init T) T.F_Edition_init sc_Edition_init rfl (fun y ds => init_Edition_init T y ds) h1
  refine h fun cdv A outer s H E hr => ?_
  have hu := hr.units
  exact (b_cons (s_if (t_not (t_val (d_callP (ok_is_sequence T) (hr.mono (by decide)) (by rfl) T.g_is_sequence T.F_is_sequence.kp T.b_is_sequence pass0W (a_cons (d_var 1) a_nil)))) (b_one s_bad) b_nil)
      (b_cons (s_set (i := 2) sc_Edition_init.nd rfl (by first | exact Or.inl rfl | exact Or.inr rfl) (d_callP (ok__first_wrong T) (hr.mono (by decide)) (by rfl) T.g__first_wrong T.F__first_wrong.kp T.b__first_wrong pass0W (a_cons (d_var 1) a_nil)))
      (b_cons (s_if (t_cmp op_notN do_notN (d_var 2) d_non) (b_one s_bad) b_nil)
      (b_one (s_fld (d_var 0) (d_cty call_tuple_of dc_tup (by rfl) T.n_tuple boot_tuple_ (a_cons (d_var 1) a_nil)) T.cl_Edition T.na_Edition_rows)))))
def m__word (T : Tx K mg) : MS Unit :=
    (mRet (mIfE (mTest (mOp fIsN (mVar 1) (mK .non))) (mVar 0) (mJs [(mFmt (mVar 0)), (mK (.str ":")), (mFmt (mVar 1))] Str.empty)))
def f__word (T : Tx K mg) (ds : List D) (s : Unit) : FO Unit D := (m__word T (env0 [.v, .v] 0 ds) s).fo0
theorem ok__word (T : Tx K mg) : FnOk P w K mg base CX0 1 T.a__word T.fd__word ["content", "elder"] (spD boxNil K [.v, .v] (f__word T)) := by
  have h := fun h1 => fn_ok0 (P := P) (w := w) (mg := mg) (base := base) (I := boxNil) (k := 0) (md := [.v, .v]) (m := m__word T) T.F__word sc__word rfl rfl h1
  refine h fun cdv A outer s H E hr => ?_
  have hu := hr.units
  exact (b_one (s_ret (d_ife (t_cmp op_isN do_isN (d_var 1) d_non) (d_var 0) (d_js (j_cons (d_fmt (d_var 0)) (j_cons d_str (j_cons (d_fmt (d_var 1)) j_nil)))))))
def m_Edition___str__ (T : Tx K mg) : MS Unit :=
    (mRet (mSm jJoin (mK (.str " ")) (mCons (mOrX (mComp (mIT (mFld T.c_Edition "rows" (mVar 0))) [1, 2] (gT 2 (gsC (gN 1) (gsC (gN 2) gsN))) mYes (mCallP [.v, .v] (f__word T) (mCons (mVar 1) (mCons (mVar 2) mNil)))) (mLst (mCons (mK (.str "-")) mNil))) mNil)))
def f_Edition___str__ (T : Tx K mg) (ds : List D) (s : Unit) : FO Unit D := (m_Edition___str__ T (env0 [.v] 2 ds) s).fo0
theorem ok_Edition___str__ (T : Tx K mg) : FnOk P w K mg base CX0 2 T.a_Edition___str__ T.fd_Edition___str__ ["self"] (spD boxNil K [.v] (f_Edition___str__ T)) := by
  have h := fun h1 => fn_ok0 (P := P) (w := w) (mg := mg) (base := base) (I := boxNil) (k := 1) (md := [.v]) (m := m_Edition___str__ T) T.F_Edition___str__ sc_Edition___str__ rfl rfl h1
  refine h fun cdv A outer s H E hr => ?_
  have hu := hr.units
  exact (b_one (s_ret (d_sm PySem.F.slot_str_join PySem.F.type_str_join mt_join dj_join d_str (a_cons (x_or (d_comp (own := [("content", 1), ("elder", 2)]) rfl sc_Edition___str__.nd (i_tup (d_fld (d_var 0) T.cl_Edition T.na_Edition_rows)) (blkOk_by (N := ["self", "content", "elder"]) (sc := defScope s_Edition___str__) (by decide +kernel)) (by decide) (fun _ _ _ _ _ => (g_tup (n := 2) rfl (gs_cons (g_name (i := 1) sc_Edition___str__.nd rfl (by first | exact Or.inl rfl | exact Or.inr rfl)) (gs_cons (g_name (i := 2) sc_Edition___str__.nd rfl (by first | exact Or.inl rfl | exact Or.inr rfl)) gs_nil)))) (fun _ _ _ _ _ => y_nil) (fun _ _ _ _ _ => (d_callP (ok__word T) (hr.mono (by decide)) (by rfl) T.g__word T.F__word.kp T.b__word pass0W (a_cons (d_var 1) (a_cons (d_var 2) a_nil))))) (v_one (d_lst (a_cons d_str a_nil)))) a_nil))))
def m__law_text (T : Tx K mg) : MS Unit :=
    (mSeq (mSet 1 (mComp (mIL (mVar 0)) [2, 3] (gT 2 (gsC (gN 2) (gsC (gN 3) gsN))) mYes (mIfE (mTest (mOp fIsN (mVar 3) (mK .non))) (mVar 2) (mOp fAddS (mOp fAddS (mVar 2) (mK (.str ":"))) (mCB cStr (mCons (mVar 3) mNil))))))
    (mRet (mIfE (mTest (mOp fNe (mVar 1) (mLst mNil))) (mSm jJoin (mK (.str " ")) (mCons (mVar 1) mNil)) (mK (.str "-")))))
def f__law_text (T : Tx K mg) (ds : List D) (s : Unit) : FO Unit D := (m__law_text T (env0 [.v] 3 ds) s).fo0
theorem ok__law_text (T : Tx K mg) : FnOk P w K mg base CX0 1 T.a__law_text T.fd__law_text ["_law_rows_here"] (spD boxNil K [.v] (f__law_text T)) := by
  have h := fun h1 => fn_ok0 (P := P) (w := w) (mg := mg) (base := base) (I := boxNil) (k := 0) (md := [.v]) (m := m__law_text T) T.F__law_text sc__law_text rfl rfl h1
  refine h fun cdv A outer s H E hr => ?_
  have hu := hr.units
  exact (b_cons (s_setcomp (i := 1) (own := [("_law_content", 2), ("_law_elder", 3)]) rfl sc__law_text.nd rfl rfl rfl (by rfl) (by decide +kernel) (i_list (d_var 0)) (blkOk_by (N := ["_law_rows_here", "_law_words_here", "_law_content", "_law_elder"]) (sc := defScope s__law_text) (by decide +kernel)) (by decide) (fun _ _ _ _ _ => (g_tup (n := 2) rfl (gs_cons (g_name (i := 2) sc__law_text.nd rfl (by first | exact Or.inl rfl | exact Or.inr rfl)) (gs_cons (g_name (i := 3) sc__law_text.nd rfl (by first | exact Or.inl rfl | exact Or.inr rfl)) gs_nil)))) (fun _ _ _ _ _ => y_nil) (fun _ _ _ _ _ => (d_ife (t_cmp op_isN do_isN (d_var 3) d_non) (d_var 2) (d_op op_add_str do_addS (d_op op_add_str do_addS (d_var 2) d_str) (d_cty call_str_int dc_str (by rfl) T.n_str boot_str_ (a_cons (d_var 3) a_nil))))))
      (b_one (s_ret (d_ife (t_cmp (op_neP hu) do_ne (d_var 1) (d_lst a_nil)) (d_sm PySem.F.slot_str_join PySem.F.type_str_join mt_join dj_join d_str (a_cons (d_var 1) a_nil)) d_str))))
def m_check_row (T : Tx K mg) : MS Unit :=
    (mIf (mNotT (mTest (mChain (fC fun i j => decide (i ≤ j)) (fC fun i j => decide (i < j)) (mK (.int 0)) (mVar 1) (mCB cLen (mCons (mVar 0) mNil))))) mBad mNext)
def f_check_row (T : Tx K mg) (ds : List D) (s : Unit) : FO Unit D := (m_check_row T (env0 [.v, .v] 0 ds) s).fo0
theorem ok_check_row (T : Tx K mg) : FnOk P w K mg base CX0 1 T.a_check_row T.fd_check_row ["rows", "at"] (spD boxNil K [.v, .v] (f_check_row T)) := by
  have h := fun h1 => fn_ok0 (P := P) (w := w) (mg := mg) (base := base) (I := boxNil) (k := 0) (md := [.v, .v]) (m := m_check_row T) T.F_check_row sc_check_row rfl rfl h1
  refine h fun cdv A outer s H E hr => ?_
  have hu := hr.units
  exact (b_one (s_if (t_not (t_chain op_le (do_C (g := fun i j => decide (i ≤ j))) op_lt (do_C (g := fun i j => decide (i < j))) d_int (d_var 1) (d_cb call_len dc_len (by rfl) T.n_len boot_len_ (a_cons (d_var 0) a_nil)))) (b_one s_bad) b_nil))
def m_Edition___getitem__ (T : Tx K mg) : MS Unit :=
    (mSeq (mExp (mCallP [.v, .v] (f_check_row T) (mCons (mFld T.c_Edition "rows" (mVar 0)) (mCons (mVar 1) mNil))))
    (mRet (mOp fIx (mFld T.c_Edition "rows" (mVar 0)) (mVar 1))))
def f_Edition___getitem__ (T : Tx K mg) (ds : List D) (s : Unit) : FO Unit D := (m_Edition___getitem__ T (env0 [.v, .v] 0 ds) s).fo0
theorem ok_Edition___getitem__ (T : Tx K mg) : FnOk P w K mg base CX0 2 T.a_Edition___getitem__ T.fd_Edition___getitem__ ["self", "at"] (spD boxNil K [.v, .v] (f_Edition___getitem__ T)) := by
  have h := fun h1 => fn_ok0 (P := P) (w := w) (mg := mg) (base := base) (I := boxNil) (k := 1) (md := [.v, .v]) (m := m_Edition___getitem__ T) T.F_Edition___getitem__ sc_Edition___getitem__ rfl rfl h1
  refine h fun cdv A outer s H E hr => ?_
  have hu := hr.units
  exact (b_cons (s_expr (d_callP (ok_check_row T) (hr.mono (by decide)) (by rfl) T.g_check_row T.F_check_row.kp T.b_check_row pass0W (a_cons (d_fld (d_var 0) T.cl_Edition T.na_Edition_rows) (a_cons (d_var 1) a_nil))))
      (b_one (s_ret (d_ix ix_seq do_ix (d_fld (d_var 0) T.cl_Edition T.na_Edition_rows) (d_var 1)))))
def m__law_take (T : Tx K mg) : MS Bx :=
    (mSeq (mIf (mTest (mOp (fC fun i j => decide (j < i)) (mBGet 0 0) (mK (.int 0)))) (mSeq (mSet 2 (mOp fMod (mCB cInt (mCons (mBGet 0 0) mNil)) (mVar 1)))
    (mSeq (mBSet 0 0 (mOp fDiv (mBGet 0 0) (mVar 1)))
    (mRet (mVar 2)))) mNext)
    (mSeq (mBSet 0 2 (mOp fAdd (mBGet 0 2) (mK (.int 1))))
    (mSeq (mSet 3 (mOp fMod (mCB cInt (mCons (mOp fMul (mOp fAdd (mBGet 0 1) (mOp fMul (mK (.int 98731)) (mBGet 0 2))) (mK (.int 70229))) mNil)) (mK (.int 2147483647))))
    (mSeq (mBSet 0 1 (mOp fAdd (mOp fMod (mCB cInt (mCons (mOp fAdd (mOp fMul (mVar 3) (mK (.int 46103))) (mK (.int 28181))) mNil)) (mK (.int 2147483629))) (mK (.int 1))))
    (mRet (mOp fMod (mCB cInt (mCons (mOp fDiv (mOp fAdd (mOp fMul (mVar 3) (mK (.int 2147483647))) (mBGet 0 1)) (mK (.int 8191))) mNil)) (mVar 1)))))))
def f__law_take (T : Tx K mg) (ds : List D) (s : Bx) : FO Bx D := (m__law_take T (env0 [.b, .v] 2 ds) s).fo0
theorem ok__law_take (T : Tx K mg) : FnOk P w K mg base CX0 1 T.a__law_take T.fd__law_take ["_law_box_here", "_law_many"] (spD boxL K [.b, .v] (f__law_take T)) := by
  have h := fun h1 => fn_ok0 (P := P) (w := w) (mg := mg) (base := base) (I := boxL) (k := 0) (md := [.b, .v]) (m := m__law_take T) T.F__law_take sc__law_take rfl rfl h1
  refine h fun cdv A outer s H E hr => ?_
  have hu := hr.units
  exact (b_cons (s_if (t_cmp op_gt (do_C (g := fun i j => decide (j < i))) (d_bget (i := 0) (j := 0) (by decide)) d_int) (b_cons (s_set (i := 2) sc__law_take.nd rfl (by first | exact Or.inl rfl | exact Or.inr rfl) (d_op op_mod do_mod (d_cty call_int1 dc_int (by rfl) T.n_int boot_int_ (a_cons (d_bget (i := 0) (j := 0) (by decide)) a_nil)) (d_var 1)))
      (b_cons (s_bset (i := 0) (j := 0) (by decide) (d_op op_fdiv do_div (d_bget (i := 0) (j := 0) (by decide)) (d_var 1)))
      (b_one (s_ret (d_var 2))))) b_nil)
      (b_cons (s_bset (i := 0) (j := 2) (by decide) (d_op op_add (do_I (g := fun i j => i + j)) (d_bget (i := 0) (j := 2) (by decide)) d_int))
      (b_cons (s_set (i := 3) sc__law_take.nd rfl (by first | exact Or.inl rfl | exact Or.inr rfl) (d_op op_mod do_mod (d_cty call_int1 dc_int (by rfl) T.n_int boot_int_ (a_cons (d_op op_mul do_mul (d_op op_add (do_I (g := fun i j => i + j)) (d_bget (i := 0) (j := 1) (by decide)) (d_op op_mul do_mul d_int (d_bget (i := 0) (j := 2) (by decide)))) d_int) a_nil)) d_int))
      (b_cons (s_bset (i := 0) (j := 1) (by decide) (d_op op_add (do_I (g := fun i j => i + j)) (d_op op_mod do_mod (d_cty call_int1 dc_int (by rfl) T.n_int boot_int_ (a_cons (d_op op_add (do_I (g := fun i j => i + j)) (d_op op_mul do_mul (d_var 3) d_int) d_int) a_nil)) d_int) d_int))
      (b_one (s_ret (d_op op_mod do_mod (d_cty call_int1 dc_int (by rfl) T.n_int boot_int_ (a_cons (d_op op_fdiv do_div (d_op op_add (do_I (g := fun i j => i + j)) (d_op op_mul do_mul (d_var 3) d_int) (d_bget (i := 0) (j := 1) (by decide))) d_int) a_nil)) (d_var 1))))))))
def m__law_pick (T : Tx K mg) : MS Bx :=
    (mRet (mOp fIx (mVar 1) (mCallB lensL [.b, .v] (f__law_take T) (mCons (mVar 0) (mCons (mCB cLen (mCons (mVar 1) mNil)) mNil)))))
def f__law_pick (T : Tx K mg) (ds : List D) (s : Bx) : FO Bx D := (m__law_pick T (env0 [.b, .v] 0 ds) s).fo0
theorem ok__law_pick (T : Tx K mg) : FnOk P w K mg base CX0 2 T.a__law_pick T.fd__law_pick ["_law_box_here", "_law_some"] (spD boxL K [.b, .v] (f__law_pick T)) := by
  have h := fun h1 => fn_ok0 (P := P) (w := w) (mg := mg) (base := base) (I := boxL) (k := 1) (md := [.b, .v]) (m := m__law_pick T) T.F__law_pick sc__law_pick rfl rfl h1
  refine h fun cdv A outer s H E hr => ?_
  have hu := hr.units
  exact (b_one (s_ret (d_ix ix_seq do_ix (d_var 1) (d_callB (L := lensL) lensL_ok (ok__law_take T) (hr.mono (by decide)) (by rfl) T.g__law_take T.F__law_take.kp T.b__law_take pass0W (a_cons (d_var 0) (a_cons (d_cb call_len dc_len (by rfl) T.n_len boot_len_ (a_cons (d_var 1) a_nil)) a_nil))))))
def m__law_edited (T : Tx K mg) : MS Bx :=
    (mSeq (mSet 4 (mComp (mIEn (mVar 2)) [5, 6, 7] (gT 2 (gsC (gN 5) (gsC (gT 2 (gsC (gN 6) (gsC (gN 7) gsN))) gsN))) (mTest (mOp (fC fun i j => decide (j < i)) (mCallB lensL [.b, .v] (f__law_take T) (mCons (mVar 0) (mCons (mK (.int 6)) mNil))) (mK (.int 0)))) (mTup (mCons (mVar 6) (mCons (mVar 5) mNil)))))
    (mSeq (mIf (mAndT (mTest (mOp (fC fun i j => decide (j < i)) (mCB cLen (mCons (mVar 4) mNil)) (mK (.int 1)))) (mTest (mOp fEq (mCallB lensL [.b, .v] (f__law_take T) (mCons (mVar 0) (mCons (mK (.int 3)) mNil))) (mK (.int 0))))) (mSeq (mSet 5 (mCallB lensL [.b, .v] (f__law_take T) (mCons (mVar 0) (mCons (mOp fSub (mCB cLen (mCons (mVar 4) mNil)) (mK (.int 1))) mNil))))
    (mSwapIx 4 (mVar 5) (mOp fAdd (mVar 5) (mK (.int 1))) (mTup (mCons (mOp fIx (mVar 4) (mOp fAdd (mVar 5) (mK (.int 1)))) (mCons (mOp fIx (mVar 4) (mVar 5)) mNil))))) mNext)
    (mSeq (mFor (mIR (mCallB lensL [.b, .v] (f__law_take T) (mCons (mVar 0) (mCons (mK (.int 3)) mNil)))) (gN 8) (mSeq (mSet 5 (mCallB lensL [.b, .v] (f__law_take T) (mCons (mVar 0) (mCons (mOp fAdd (mCB cLen (mCons (mVar 4) mNil)) (mK (.int 1))) mNil))))
    (mIf (mAndT (mTest (mOp (fC fun i j => decide (i < j)) (mVar 5) (mCB cLen (mCons (mVar 4) mNil)))) (mTest (mOp fEq (mCallB lensL [.b, .v] (f__law_take T) (mCons (mVar 0) (mCons (mK (.int 2)) mNil))) (mK (.int 0))))) (mIxSet 4 (mVar 5) (mTup (mCons (mCallB lensL [.b, .v] (f__law_pick T) (mCons (mVar 0) (mCons (mVar 1) mNil))) (mCons (mOp fIx (mOp fIx (mVar 4) (mVar 5)) (mK (.int 1))) mNil)))) (mExp (mMut gIns (mVar 4) (mCons (mVar 5) (mCons (mTup (mCons (mCallB lensL [.b, .v] (f__law_pick T) (mCons (mVar 0) (mCons (mVar 1) mNil))) (mCons (mK .non) mNil))) mNil)))))))
    (mRet (mSl fSlL (mVar 4) mNoPart (mPart (mVar 3)))))))
def f__law_edited (T : Tx K mg) (ds : List D) (s : Bx) : FO Bx D := (m__law_edited T (env0 [.b, .v, .v, .v] 5 ds) s).fo0
theorem ok__law_edited (T : Tx K mg) : FnOk P w K mg base CX0 3 T.a__law_edited T.fd__law_edited ["_law_box_here", "_law_words_here", "_law_elder_rows", "_law_most"] (spD boxL K [.b, .v, .v, .v] (f__law_edited T)) := by
  have h := fun h1 => fn_ok0 (P := P) (w := w) (mg := mg) (base := base) (I := boxL) (k := 2) (md := [.b, .v, .v, .v]) (m := m__law_edited T) T.F__law_edited sc__law_edited rfl rfl h1
  refine h fun cdv A outer s H E hr => ?_
  have hu := hr.units
  exact (b_cons (s_setcomp (i := 4) (own := [("_law_at", 5), ("_law_content", 6), ("_law_elder", 7)]) rfl sc__law_edited.nd rfl rfl rfl (by rfl) (by decide +kernel) (i_enum (by rfl) T.n_enumerate (d_var 2)) (blkOk_by (N := ["_law_box_here", "_law_words_here", "_law_elder_rows", "_law_most", "_law_found", "_law_at", "_law_content", "_law_elder", "_law_turn"]) (sc := defScope s__law_edited) (by decide +kernel)) (by decide) (fun _ _ _ _ _ => (g_tup (n := 2) rfl (gs_cons (g_name (i := 5) sc__law_edited.nd rfl (by first | exact Or.inl rfl | exact Or.inr rfl)) (gs_cons (g_tup (n := 2) rfl (gs_cons (g_name (i := 6) sc__law_edited.nd rfl (by first | exact Or.inl rfl | exact Or.inr rfl)) (gs_cons (g_name (i := 7) sc__law_edited.nd rfl (by first | exact Or.inl rfl | exact Or.inr rfl)) gs_nil))) gs_nil)))) (fun _ _ _ _ _ => (y_one (t_cmp op_gt (do_C (g := fun i j => decide (j < i))) (d_callB (L := lensL) lensL_ok (ok__law_take T) (hr.mono (by decide)) (by rfl) T.g__law_take T.F__law_take.kp T.b__law_take pass0W (a_cons (d_var 0) (a_cons d_int a_nil))) d_int))) (fun _ _ _ _ _ => (d_tup (a_cons (d_var 6) (a_cons (d_var 5) a_nil)))))
      (b_cons (s_if (PW.pt (w_and (t_cmp op_gt (do_C (g := fun i j => decide (j < i))) (d_cb call_len dc_len (by rfl) T.n_len boot_len_ (a_cons (d_var 4) a_nil)) d_int) (w_and1 (t_cmp (op_eqP hu) do_eq (d_callB (L := lensL) lensL_ok (ok__law_take T) (hr.mono (by decide)) (by rfl) T.g__law_take T.F__law_take.kp T.b__law_take pass0W (a_cons (d_var 0) (a_cons d_int a_nil))) d_int)))) (b_cons (s_set (i := 5) sc__law_edited.nd rfl (by first | exact Or.inl rfl | exact Or.inr rfl) (d_callB (L := lensL) lensL_ok (ok__law_take T) (hr.mono (by decide)) (by rfl) T.g__law_take T.F__law_take.kp T.b__law_take pass0W (a_cons (d_var 0) (a_cons (d_op op_sub (do_I (g := fun i j => i - j)) (d_cb call_len dc_len (by rfl) T.n_len boot_len_ (a_cons (d_var 4) a_nil)) d_int) a_nil))))
      (b_one (s_swapix (i := 4) rfl rfl (by first | exact Or.inl rfl | exact Or.inr (Or.inl rfl) | exact Or.inr (Or.inr rfl)) (d_tup (a_cons (d_ix ix_seq do_ix (d_var 4) (d_op op_add (do_I (g := fun i j => i + j)) (d_var 5) d_int)) (a_cons (d_ix ix_seq do_ix (d_var 4) (d_var 5)) a_nil))) (d_var 5) (d_op op_add (do_I (g := fun i j => i + j)) (d_var 5) d_int)))) b_nil)
      (b_cons (s_for PassesOwn.never rfl (i_range (by rfl) T.n_range (d_callB (L := lensL) lensL_ok (ok__law_take T) (hr.mono (by decide)) (by rfl) T.g__law_take T.F__law_take.kp T.b__law_take pass0W (a_cons (d_var 0) (a_cons d_int a_nil)))) (g_name (i := 8) sc__law_edited.nd rfl (by first | exact Or.inl rfl | exact Or.inr rfl)) (b_cons (s_set (i := 5) sc__law_edited.nd rfl (by first | exact Or.inl rfl | exact Or.inr rfl) (d_callB (L := lensL) lensL_ok (ok__law_take T) (hr.mono (by decide)) (by rfl) T.g__law_take T.F__law_take.kp T.b__law_take pass0W (a_cons (d_var 0) (a_cons (d_op op_add (do_I (g := fun i j => i + j)) (d_cb call_len dc_len (by rfl) T.n_len boot_len_ (a_cons (d_var 4) a_nil)) d_int) a_nil))))
      (b_one (s_if (PW.pt (w_and (t_cmp op_lt (do_C (g := fun i j => decide (i < j))) (d_var 5) (d_cb call_len dc_len (by rfl) T.n_len boot_len_ (a_cons (d_var 4) a_nil))) (w_and1 (t_cmp (op_eqP hu) do_eq (d_callB (L := lensL) lensL_ok (ok__law_take T) (hr.mono (by decide)) (by rfl) T.g__law_take T.F__law_take.kp T.b__law_take pass0W (a_cons (d_var 0) (a_cons d_int a_nil))) d_int)))) (b_one (s_ixset (i := 4) rfl (by first | exact Or.inl rfl | exact Or.inr (Or.inl rfl) | exact Or.inr (Or.inr rfl)) (d_tup (a_cons (d_callB (L := lensL) lensL_ok (ok__law_pick T) (hr.mono (by decide)) (by rfl) T.g__law_pick T.F__law_pick.kp T.b__law_pick pass0W (a_cons (d_var 0) (a_cons (d_var 1) a_nil))) (a_cons (d_ix ix_seq do_ix (d_ix ix_seq do_ix (d_var 4) (d_var 5)) d_int) a_nil))) (d_var 5))) (b_one (s_expr (d_mut PySem.F.slot_list_insert PySem.F.type_list_insert mt_insert dm_ins (d_var 4) (a_cons (d_var 5) (a_cons (d_tup (a_cons (d_callB (L := lensL) lensL_ok (ok__law_pick T) (hr.mono (by decide)) (by rfl) T.g__law_pick T.F__law_pick.kp T.b__law_pick pass0W (a_cons (d_var 0) (a_cons (d_var 1) a_nil))) (a_cons d_non a_nil))) a_nil)))))))))
      (b_one (s_ret (d_sl sl_list ds_list (d_var 4) o_none (o_some (d_var 3))))))))
def m__law_rows (T : Tx K mg) : MS Bx :=
    (mRet (mComp (mIR (mCallB lensL [.b, .v] (f__law_take T) (mCons (mVar 0) (mCons (mOp fAdd (mVar 2) (mK (.int 1))) mNil)))) [3] (gN 3) mYes (mTup (mCons (mCallB lensL [.b, .v] (f__law_pick T) (mCons (mVar 0) (mCons (mVar 1) mNil))) (mCons (mK .non) mNil)))))
def f__law_rows (T : Tx K mg) (ds : List D) (s : Bx) : FO Bx D := (m__law_rows T (env0 [.b, .v, .v] 1 ds) s).fo0
theorem ok__law_rows (T : Tx K mg) : FnOk P w K mg base CX0 3 T.a__law_rows T.fd__law_rows ["_law_box_here", "_law_words_here", "_law_most"] (spD boxL K [.b, .v, .v] (f__law_rows T)) := by
  have h := fun h1 => fn_ok0 (P := P) (w := w) (mg := mg) (base := base) (I := boxL) (k := 2) (md := [.b, .v, .v]) (m := m__law_rows T) T.F__law_rows sc__law_rows rfl rfl h1
  refine h fun cdv A outer s H E hr => ?_
  have hu := hr.units
  exact (b_one (s_ret (d_comp (own := [("_law_turn", 3)]) rfl sc__law_rows.nd (i_range (by rfl) T.n_range (d_callB (L := lensL) lensL_ok (ok__law_take T) (hr.mono (by decide)) (by rfl) T.g__law_take T.F__law_take.kp T.b__law_take pass0W (a_cons (d_var 0) (a_cons (d_op op_add (do_I (g := fun i j => i + j)) (d_var 2) d_int) a_nil)))) (blkOk_by (N := ["_law_box_here", "_law_words_here", "_law_most", "_law_turn"]) (sc := defScope s__law_rows) (by decide +kernel)) (by decide) (fun _ _ _ _ _ => (g_name (i := 3) sc__law_rows.nd rfl (by first | exact Or.inl rfl | exact Or.inr rfl))) (fun _ _ _ _ _ => y_nil) (fun _ _ _ _ _ => (d_tup (a_cons (d_callB (L := lensL) lensL_ok (ok__law_pick T) (hr.mono (by decide)) (by rfl) T.g__law_pick T.F__law_pick.kp T.b__law_pick pass0W (a_cons (d_var 0) (a_cons (d_var 1) a_nil))) (a_cons d_non a_nil)))))))
def m__law_shuffled (T : Tx K mg) : MS Bx :=
    (mSeq (mPar 2 3 (mCB cList (mCons (mVar 1) mNil)) (mLst mNil))
    (mSeq (mFor (mIR (mCB cLen (mCons (mVar 2) mNil))) (gN 4) (mExp (mMut gApp (mVar 3) (mCons (mMut gPopAt (mVar 2) (mCons (mCallB lensL [.b, .v] (f__law_take T) (mCons (mVar 0) (mCons (mCB cLen (mCons (mVar 2) mNil)) mNil))) mNil)) mNil))))
    (mRet (mFz 3))))
def f__law_shuffled (T : Tx K mg) (ds : List D) (s : Bx) : FO Bx D := (m__law_shuffled T (env0 [.b, .v] 3 ds) s).fo0
theorem ok__law_shuffled (T : Tx K mg) : FnOk P w K mg base CX0 2 T.a__law_shuffled T.fd__law_shuffled ["_law_box_here", "_law_some"] (spD boxL K [.b, .v] (f__law_shuffled T)) := by
  have h := fun h1 => fn_ok0 (P := P) (w := w) (mg := mg) (base := base) (I := boxL) (k := 1) (md := [.b, .v]) (m := m__law_shuffled T) T.F__law_shuffled sc__law_shuffled rfl rfl h1
  refine h fun cdv A outer s H E hr => ?_
  have hu := hr.units
  exact (b_cons (s_par (i := 2) (j := 3) rfl sc__law_shuffled.nd rfl rfl (by decide) rfl rfl (d_cty call_list_of dc_list (by rfl) T.n_list boot_list_ (a_cons (d_var 1) a_nil)) (d_lst a_nil))
      (b_cons (s_for PassesOwn.never rfl (i_range (by rfl) T.n_range (d_cb call_len dc_len (by rfl) T.n_len boot_len_ (a_cons (d_var 2) a_nil))) (g_name (i := 4) sc__law_shuffled.nd rfl (by first | exact Or.inl rfl | exact Or.inr rfl)) (b_one (s_expr (d_mut PySem.F.slot_list_append PySem.F.type_list_append mt_append dm_app (d_var 3) (a_cons (d_mut PySem.F.slot_list_pop PySem.F.type_list_pop mt_popAt dm_popAt (d_var 2) (a_cons (d_callB (L := lensL) lensL_ok (ok__law_take T) (hr.mono (by decide)) (by rfl) T.g__law_take T.F__law_take.kp T.b__law_take pass0W (a_cons (d_var 0) (a_cons (d_cb call_len dc_len (by rfl) T.n_len boot_len_ (a_cons (d_var 2) a_nil)) a_nil))) a_nil)) a_nil)))))
      (b_one (s_ret (d_fz 3)))))
def m__law_words (T : Tx K mg) : MS Bx :=
    (mSeq (mSet 2 (mFf (mLst (mCons (mK (.str "a")) (mCons (mK (.str "b")) (mCons (mK (.str "c")) (mCons (mK (.str "x")) (mCons (mK (.str "yy")) (mCons (mK (.str "zzz")) (mCons (mK (.str "text")) (mCons (mK (.str "run")) (mCons (mK (.str "edit")) (mCons (mK (.str "hear")) (mCons (mK (.str "m")) (mCons (mK (.str "sent")) (mCons (mK (.str "fold")) (mCons (mK (.str "k")) (mCons (mK (.str "of")) (mCons (mK (.str "none")) mNil)))))))))))))))))))
    (mRet (mSl fSlL (mCallB lensL [.b, .v] (f__law_shuffled T) (mCons (mVar 0) (mCons (mVar 2) mNil))) mNoPart (mPart (mVar 1)))))
def f__law_words (T : Tx K mg) (ds : List D) (s : Bx) : FO Bx D := (m__law_words T (env0 [.b, .v] 1 ds) s).fo0
theorem ok__law_words (T : Tx K mg) : FnOk P w K mg base CX0 3 T.a__law_words T.fd__law_words ["_law_box_here", "_law_many"] (spD boxL K [.b, .v] (f__law_words T)) := by
  have h := fun h1 => fn_ok0 (P := P) (w := w) (mg := mg) (base := base) (I := boxL) (k := 2) (md := [.b, .v]) (m := m__law_words T) T.F__law_words sc__law_words rfl rfl h1
  refine h fun cdv A outer s H E hr => ?_
  have hu := hr.units
  exact (b_cons (s_set (i := 2) sc__law_words.nd rfl (by first | exact Or.inl rfl | exact Or.inr rfl) (d_ff (d_lst (a_cons d_str (a_cons d_str (a_cons d_str (a_cons d_str (a_cons d_str (a_cons d_str (a_cons d_str (a_cons d_str (a_cons d_str (a_cons d_str (a_cons d_str (a_cons d_str (a_cons d_str (a_cons d_str (a_cons d_str (a_cons d_str a_nil)))))))))))))))))))
      (b_one (s_ret (d_sl sl_list ds_list (d_callB (L := lensL) lensL_ok (ok__law_shuffled T) (hr.mono (by decide)) (by rfl) T.g__law_shuffled T.F__law_shuffled.kp T.b__law_shuffled pass0W (a_cons (d_var 0) (a_cons (d_var 2) a_nil))) o_none (o_some (d_var 1))))))
def m__law_box (T : Tx K mg) : MS Unit :=
    (mSeq (mSet 2 (mOp fAdd (mOp fMul (mK (.int 6329)) (mVar 1)) (mK (.int 71))))
    (mSeq (mIf (mTest (mOp (fC fun i j => decide (i < j)) (mVar 1) (mCB cLen (mCons (mVar 0) mNil)))) (mSet 2 (mCB cAbs (mCons (mCB cInt (mCons (mOp fIx (mVar 0) (mVar 1)) mNil)) mNil))) (mIf (mTest (mOp (fC fun i j => decide (j < i)) (mCB cLen (mCons (mVar 0) mNil)) (mK (.int 0)))) (mSet 2 (mOp fAdd (mVar 2) (mOp fMul (mOp fMod (mCB cInt (mCons (mOp fIx (mVar 0) (mOp fMod (mCB cInt (mCons (mVar 1) mNil)) (mCB cLen (mCons (mVar 0) mNil)))) mNil)) (mK (.int 2147483629))) (mK (.int 83639))))) mNext))
    (mSeq (mSet 3 (mOp fAdd (mOp fMod (mCB cInt (mCons (mOp fAdd (mOp fAdd (mOp fMul (mOp fMod (mCB cInt (mCons (mVar 2) mNil)) (mK (.int 2147483629))) (mK (.int 45319))) (mOp fMul (mK (.int 38453)) (mVar 1))) (mK (.int 17))) mNil)) (mK (.int 2147483629))) (mK (.int 1))))
    (mRet (mLst (mCons (mOp fIx (mLst (mCons (mK (.int 0)) (mCons (mVar 2) mNil))) (mCB cInt (mCons (mOp (fC fun i j => decide (j ≤ i)) (mVar 2) (mOp fPow (mK (.int 10)) (mK (.int 18)))) mNil))) (mCons (mVar 3) (mCons (mK (.int 0)) mNil))))))))
def f__law_box (T : Tx K mg) (ds : List D) : FO Unit (List D) := (m__law_box T (env0 [.v, .v] 2 ds) ()).foF
theorem ok__law_box (T : Tx K mg) : FnOk P w K mg base CX0 1 T.a__law_box T.fd__law_box ["_law_script", "_law_k"] (spF K [.v, .v] (f__law_box T)) := by
  have h := fun h1 => fn_okF (P := P) (w := w) (mg := mg) (base := base) (k := 0) (md := [.v, .v]) (m := m__law_box T) T.F__law_box sc__law_box rfl h1
  refine h fun cdv A outer s H E hr => ?_
  have hu := hr.units
  exact (b_cons (s_set (i := 2) sc__law_box.nd rfl (by first | exact Or.inl rfl | exact Or.inr rfl) (d_op op_add (do_I (g := fun i j => i + j)) (d_op op_mul do_mul d_int (d_var 1)) d_int))
      (b_cons (s_if (t_cmp op_lt (do_C (g := fun i j => decide (i < j))) (d_var 1) (d_cb call_len dc_len (by rfl) T.n_len boot_len_ (a_cons (d_var 0) a_nil))) (b_one (s_set (i := 2) sc__law_box.nd rfl (by first | exact Or.inl rfl | exact Or.inr rfl) (d_cb call_abs dc_abs (by rfl) T.n_abs boot_abs_ (a_cons (d_cty call_int1 dc_int (by rfl) T.n_int boot_int_ (a_cons (d_ix ix_seq do_ix (d_var 0) (d_var 1)) a_nil)) a_nil)))) (b_one (s_if (t_cmp op_gt (do_C (g := fun i j => decide (j < i))) (d_cb call_len dc_len (by rfl) T.n_len boot_len_ (a_cons (d_var 0) a_nil)) d_int) (b_one (s_set (i := 2) sc__law_box.nd rfl (by first | exact Or.inl rfl | exact Or.inr rfl) (d_op op_add (do_I (g := fun i j => i + j)) (d_var 2) (d_op op_mul do_mul (d_op op_mod do_mod (d_cty call_int1 dc_int (by rfl) T.n_int boot_int_ (a_cons (d_ix ix_seq do_ix (d_var 0) (d_op op_mod do_mod (d_cty call_int1 dc_int (by rfl) T.n_int boot_int_ (a_cons (d_var 1) a_nil)) (d_cb call_len dc_len (by rfl) T.n_len boot_len_ (a_cons (d_var 0) a_nil)))) a_nil)) d_int) d_int)))) b_nil)))
      (b_cons (s_set (i := 3) sc__law_box.nd rfl (by first | exact Or.inl rfl | exact Or.inr rfl) (d_op op_add (do_I (g := fun i j => i + j)) (d_op op_mod do_mod (d_cty call_int1 dc_int (by rfl) T.n_int boot_int_ (a_cons (d_op op_add (do_I (g := fun i j => i + j)) (d_op op_add (do_I (g := fun i j => i + j)) (d_op op_mul do_mul (d_op op_mod do_mod (d_cty call_int1 dc_int (by rfl) T.n_int boot_int_ (a_cons (d_var 2) a_nil)) d_int) d_int) (d_op op_mul do_mul d_int (d_var 1))) d_int) a_nil)) d_int) d_int))
      (b_one (s_ret (d_lst (a_cons (d_ix ix_seq do_ix (d_lst (a_cons d_int (a_cons (d_var 2) a_nil))) (d_cty call_int1 dc_int (by rfl) T.n_int boot_int_ (a_cons (d_cmp op_ge (do_C (g := fun i j => decide (j ≤ i))) (d_var 2) (d_op op_pow do_pow d_int d_int)) a_nil))) (a_cons (d_var 3) (a_cons d_int a_nil)))))))))
def m_law (T : Tx K mg) : MS (Option Bx) :=
    (mSeq (mFor (mIR (mCB cMax (mCons (mK (.int 1)) (mCons (mCB cMin (mCons (mK (.int 3)) (mCons (mCB cLen (mCons (mVar 0) mNil)) mNil))) mNil)))) (gN 1) (mSeq (mNewBox 2 [.v, .v] (f__law_box T) (mCons (mVar 0) (mCons (mVar 1) mNil)))
    (mSeq (mSet 3 (mCallB lensW [.b, .v] (f__law_words T) (mCons (mVar 2) (mCons (mOp fAdd (mK (.int 2)) (mCallB lensW [.b, .v] (f__law_take T) (mCons (mVar 2) (mCons (mK (.int 5)) mNil)))) mNil))))
    (mSeq (mSet 4 (mLst (mCons (mCallB lensW [.b, .v, .v] (f__law_rows T) (mCons (mVar 2) (mCons (mVar 3) (mCons (mK (.int 8)) mNil)))) mNil)))
    (mSeq (mFor (mIR (mK (.int 3))) (gN 5) (mExp (mMut gApp (mVar 4) (mCons (mCallB lensW [.b, .v, .v, .v] (f__law_edited T) (mCons (mVar 2) (mCons (mVar 3) (mCons (mOp fIx (mVar 4) (mNeg (mK (.int 1)))) (mCons (mK (.int 8)) mNil))))) mNil))))
    (mSeq (mExp (mMut gApp (mVar 4) (mCons (mFf (mCB cList (mCons (mOp fIx (mVar 4) (mK (.int 0))) mNil))) mNil)))
    (mSeq (mSet 6 (mLst mNil))
    (mSeq (mFor (mIL (mFz 4)) (gN 7) (mSeq (mSet 8 (mCB cList (mCons (mVar 7) mNil)))
    (mSeq (mExp (mMut gApp (mVar 6) (mCons (mMakeP T.c_Edition [.t] (f_Edition_init T) (mCons (mIfE (mTest (mOp fEq (mCallB lensW [.b, .v] (f__law_take T) (mCons (mVar 2) (mCons (mK (.int 2)) mNil))) (mK (.int 0)))) (mVar 8) (mCB cTup (mCons (mVar 8) mNil))) mNil)) mNil)))
    (mSeq (mExp (mMut gApp (mVar 8) (mCons (mTup (mCons (mK (.str "zzzy")) (mCons (mK .non) mNil))) mNil)))
    (mExp (mMut gRev (mVar 8) mNil))))))
    (mFor (mIZp (mCons (mFz 6) (mCons (mFz 4) mNil))) (gT 2 (gsC (gN 9) (gsC (gN 7) gsN))) (mSeq (mIf (mOrT (mTest (mOp fNe (mCB cRepr (mCons (mFld T.c_Edition "rows" (mVar 9)) mNil)) (mCB cRepr (mCons (mCB cTup (mCons (mVar 7) mNil)) mNil)))) (mOrT (mTest (mOp fNe (mLenO T.c_Edition (f_Edition___len__ T) (mVar 9)) (mCB cLen (mCons (mVar 7) mNil)))) (mTest (mOp fNe (mStrO T.c_Edition (f_Edition___str__ T) (mVar 9)) (mCallP [.v] (f__law_text T) (mCons (mVar 7) mNil)))))) (mRet (mK (.bl false))) mNext)
    (mSeq (mIf (mOrT (mTest (mOp fNe (mComp (mIR (mLenO T.c_Edition (f_Edition___len__ T) (mVar 9))) [10] (gN 10) mYes (mGetO T.c_Edition (f_Edition___getitem__ T) (mVar 9) (mVar 10))) (mVar 7))) (mTest (mInO T.c_Edition (f_Edition___eq__ T) (mVar 9) (mTup (mCons (mStrO T.c_Edition (f_Edition___str__ T) (mVar 9)) (mCons (mCB cTup (mCons (mVar 7) mNil)) (mCons (mK .non) mNil))))))) (mRet (mK (.bl false))) mNext)
    (mSeq (mIf (mTest (mOp fNe (mComp (mIL (mFz 6)) [11] (gN 11) mYes (mEqO T.c_Edition (f_Edition___eq__ T) (mVar 9) (mVar 11))) (mComp (mIL (mFz 4)) [11] (gN 11) mYes (mOp fEq (mVar 7) (mVar 11))))) (mRet (mK (.bl false))) mNext)
    (mSeq (mIf (mTest (mOp fNe (mComp (mIL (mFz 6)) [11] (gN 11) mYes (mNeO T.c_Edition (f_Edition___eq__ T) (mVar 9) (mVar 11))) (mComp (mIL (mFz 4)) [11] (gN 11) mYes (mOp fNe (mVar 7) (mVar 11))))) (mRet (mK (.bl false))) mNext)
    (mIf (mTest (mOp fNe (mStrO T.c_Edition (f_Edition___str__ T) (mVar 9)) (mCallP [.v] (f__law_text T) (mCons (mVar 7) mNil)))) (mRet (mK (.bl false))) mNext))))))))))))))
    (mSeq (mSet 12 (mMakeP T.c_Edition [.t] (f_Edition_init T) (mCons (mLst mNil) mNil)))
    (mRet (mAndV (mOp fEq (mStrO T.c_Edition (f_Edition___str__ T) (mVar 12)) (mK (.str "-"))) (mAndV (mEqO T.c_Edition (f_Edition___eq__ T) (mMakeP T.c_Edition [.t] (f_Edition_init T) (mCons (mTup mNil) mNil)) (mVar 12)) (mOp fEq (mLenO T.c_Edition (f_Edition___len__ T) (mVar 12)) (mK (.int 0))))))))
theorem pf_law (T : Tx K mg) {cdv : Value} {fa : Addr} {s : Shared} {H : Hp} {E : XK} (hr : Room 5 (callerA.deeper (PyProof.Rows.envOfC "law" (defScope s_law) s.heap.objs.size fa cdv))) :
    PSs (cxOf CX0 P w K mg base ["_law_script", "_law_k", "_law_box_here", "_law_words_here", "_law_told", "_law_turn", "_law_made", "_law_rows_here", "_law_given", "_law_one", "_law_at", "_law_other", "_law_bare"] "law" (defScope s_law) fa cdv callerA [] s H E).nox (defBody s_law) (tS K boxW W0 (m_law T)) := by
  have hu := hr.units
  exact (b_cons (s_for PassesOwn.never rfl (i_range (by rfl) T.n_range (d_cb (call_max2 rfl) dc_max (by rfl) T.n_max boot_max_ (a_cons d_int (a_cons (d_cb (call_min2 rfl) dc_min (by rfl) T.n_min boot_min_ (a_cons d_int (a_cons (d_cb call_len dc_len (by rfl) T.n_len boot_len_ (a_cons (d_var 0) a_nil)) a_nil))) a_nil)))) (g_name (i := 1) sc_law.nd rfl (by first | exact Or.inl rfl | exact Or.inr rfl)) (b_cons (s_newbox (i := 2) (ok__law_box T) (hr.mono (by decide)) (by rfl) T.g__law_box T.F__law_box.kp T.b__law_box pass0W (a_cons (d_var 0) (a_cons (d_var 1) a_nil)) sc_law.nd rfl (by first | exact Or.inl rfl | exact Or.inr rfl))
      (b_cons (s_set (i := 3) sc_law.nd rfl (by first | exact Or.inl rfl | exact Or.inr rfl) (d_callB (L := lensW) lensW_ok (ok__law_words T) (hr.mono (by decide)) (by rfl) T.g__law_words T.F__law_words.kp T.b__law_words pass0W (a_cons (d_var 2) (a_cons (d_op op_add (do_I (g := fun i j => i + j)) d_int (d_callB (L := lensW) lensW_ok (ok__law_take T) (hr.mono (by decide)) (by rfl) T.g__law_take T.F__law_take.kp T.b__law_take pass0W (a_cons (d_var 2) (a_cons d_int a_nil)))) a_nil))))
      (b_cons (s_set (i := 4) sc_law.nd rfl (by first | exact Or.inl rfl | exact Or.inr rfl) (d_lst (a_cons (d_callB (L := lensW) lensW_ok (ok__law_rows T) (hr.mono (by decide)) (by rfl) T.g__law_rows T.F__law_rows.kp T.b__law_rows pass0W (a_cons (d_var 2) (a_cons (d_var 3) (a_cons d_int a_nil)))) a_nil)))
      (b_cons (s_for PassesOwn.never rfl (i_range (by rfl) T.n_range d_int) (g_name (i := 5) sc_law.nd rfl (by first | exact Or.inl rfl | exact Or.inr rfl)) (b_one (s_expr (d_mut PySem.F.slot_list_append PySem.F.type_list_append mt_append dm_app (d_var 4) (a_cons (d_callB (L := lensW) lensW_ok (ok__law_edited T) (hr.mono (by decide)) (by rfl) T.g__law_edited T.F__law_edited.kp T.b__law_edited pass0W (a_cons (d_var 2) (a_cons (d_var 3) (a_cons (d_ix ix_seq do_ix (d_var 4) (d_neg d_int)) (a_cons d_int a_nil))))) a_nil)))))
      (b_cons (s_expr (d_mut PySem.F.slot_list_append PySem.F.type_list_append mt_append dm_app (d_var 4) (a_cons (d_ff (d_cty call_list_of dc_list (by rfl) T.n_list boot_list_ (a_cons (d_ix ix_seq do_ix (d_var 4) d_int) a_nil))) a_nil)))
      (b_cons (s_set (i := 6) sc_law.nd rfl (by first | exact Or.inl rfl | exact Or.inr rfl) (d_lst a_nil))
      (b_cons (s_for PassesOwn.never rfl (i_list (d_fz 4)) (g_name (i := 7) sc_law.nd rfl (by first | exact Or.inl rfl | exact Or.inr rfl)) (b_cons (s_set (i := 8) sc_law.nd rfl (by first | exact Or.inl rfl | exact Or.inr rfl) (d_cty call_list_of dc_list (by rfl) T.n_list boot_list_ (a_cons (d_var 7) a_nil)))
      (b_cons (s_expr (d_mut PySem.F.slot_list_append PySem.F.type_list_append mt_append dm_app (d_var 6) (a_cons (d_make T.mk_Edition (ok_Edition_init T) (hr.mono (by decide)) (by rfl) T.g_Edition T.b_Edition_init pass0 (fun _ _ _ _ h => h) (a_cons (d_ife (t_cmp (op_eqP hu) do_eq (d_callB (L := lensW) lensW_ok (ok__law_take T) (hr.mono (by decide)) (by rfl) T.g__law_take T.F__law_take.kp T.b__law_take pass0W (a_cons (d_var 2) (a_cons d_int a_nil))) d_int) (d_var 8) (d_cty call_tuple_of dc_tup (by rfl) T.n_tuple boot_tuple_ (a_cons (d_var 8) a_nil))) a_nil)) a_nil)))
      (b_cons (s_expr (d_mut PySem.F.slot_list_append PySem.F.type_list_append mt_append dm_app (d_var 8) (a_cons (d_tup (a_cons d_str (a_cons d_non a_nil))) a_nil)))
      (b_one (s_expr (d_mut0 PySem.F.slot_list_reverse PySem.F.type_list_reverse mt_reverse dm_rev (d_var 8))))))))
      (b_one (s_for PassesOwn.never rfl (i_zip (by rfl) T.n_zip (a_cons (d_fz 6) (a_cons (d_fz 4) a_nil))) (g_tup (n := 2) rfl (gs_cons (g_name (i := 9) sc_law.nd rfl (by first | exact Or.inl rfl | exact Or.inr rfl)) (gs_cons (g_name (i := 7) sc_law.nd rfl (by first | exact Or.inl rfl | exact Or.inr rfl)) gs_nil))) (b_cons (s_if (PW.pt (w_or (t_cmp (op_neP hu) do_ne (d_cb (call_repr rfl hu) dc_repr (by rfl) T.n_repr boot_repr_ (a_cons (d_fld (d_var 9) T.cl_Edition T.na_Edition_rows) a_nil)) (d_cb (call_repr rfl hu) dc_repr (by rfl) T.n_repr boot_repr_ (a_cons (d_cty call_tuple_of dc_tup (by rfl) T.n_tuple boot_tuple_ (a_cons (d_var 7) a_nil)) a_nil))) (w_or (t_cmp (op_neP hu) do_ne (d_lenO T.sp_Edition___len__ (ok_Edition___len__ T) (hr.mono (by decide)) T.b_Edition___len__ (by rfl) T.n_len boot_len_ (d_var 9)) (d_cb call_len dc_len (by rfl) T.n_len boot_len_ (a_cons (d_var 7) a_nil))) (w_or1 (t_cmp (op_neP hu) do_ne (d_strO T.sp_Edition___str__ T.if_Edition___str__ (ok_Edition___str__ T) (hr.mono (by decide)) T.b_Edition___str__ (by rfl) T.n_str boot_str_ (d_var 9)) (d_callP (ok__law_text T) (hr.mono (by decide)) (by rfl) T.g__law_text T.F__law_text.kp T.b__law_text pass0W (a_cons (d_var 7) a_nil))))))) (b_one (s_ret d_bl)) b_nil)
      (b_cons (s_if (PW.pt (w_or (t_cmp (op_neP hu) do_ne (d_comp (own := [("_law_at", 10)]) rfl sc_law.nd (i_range (by rfl) T.n_range (d_lenO T.sp_Edition___len__ (ok_Edition___len__ T) (hr.mono (by decide)) T.b_Edition___len__ (by rfl) T.n_len boot_len_ (d_var 9))) (blkOk_by (N := ["_law_script", "_law_k", "_law_box_here", "_law_words_here", "_law_told", "_law_turn", "_law_made", "_law_rows_here", "_law_given", "_law_one", "_law_at", "_law_other", "_law_bare"]) (sc := defScope s_law) (by decide +kernel)) (by decide) (fun _ _ _ _ _ => (g_name (i := 10) sc_law.nd rfl (by first | exact Or.inl rfl | exact Or.inr rfl))) (fun _ _ _ _ _ => y_nil) (fun _ _ _ _ _ => (d_getO T.sp_Edition___getitem__ T.fi_Edition___getitem__ (ok_Edition___getitem__ T) (hr.mono (by decide)) T.b_Edition___getitem__ pass0W (d_var 9) (d_var 10)))) (d_var 7)) (w_or1 (t_inO T.nb_Edition T.sp_Edition___eq__ T.if_Edition___eq__ (ok_Edition___eq__ T) (hr.mono (by decide)) T.b_Edition___eq__ (d_var 9) (d_tup (a_cons (d_strO T.sp_Edition___str__ T.if_Edition___str__ (ok_Edition___str__ T) (hr.mono (by decide)) T.b_Edition___str__ (by rfl) T.n_str boot_str_ (d_var 9)) (a_cons (d_cty call_tuple_of dc_tup (by rfl) T.n_tuple boot_tuple_ (a_cons (d_var 7) a_nil)) (a_cons d_non a_nil)))))))) (b_one (s_ret d_bl)) b_nil)
      (b_cons (s_if (t_cmp (op_neP hu) do_ne (d_comp (own := [("_law_other", 11)]) rfl sc_law.nd (i_list (d_fz 6)) (blkOk_by (N := ["_law_script", "_law_k", "_law_box_here", "_law_words_here", "_law_told", "_law_turn", "_law_made", "_law_rows_here", "_law_given", "_law_one", "_law_at", "_law_other", "_law_bare"]) (sc := defScope s_law) (by decide +kernel)) (by decide) (fun _ _ _ _ _ => (g_name (i := 11) sc_law.nd rfl (by first | exact Or.inl rfl | exact Or.inr rfl))) (fun _ _ _ _ _ => y_nil) (fun _ _ _ _ _ => (d_eqO T.sp_Edition___eq__ T.if_Edition___eq__ (ok_Edition___eq__ T) (hr.mono (by decide)) T.b_Edition___eq__ (d_var 9) (d_var 11)))) (d_comp (own := [("_law_other", 11)]) rfl sc_law.nd (i_list (d_fz 4)) (blkOk_by (N := ["_law_script", "_law_k", "_law_box_here", "_law_words_here", "_law_told", "_law_turn", "_law_made", "_law_rows_here", "_law_given", "_law_one", "_law_at", "_law_other", "_law_bare"]) (sc := defScope s_law) (by decide +kernel)) (by decide) (fun _ _ _ _ _ => (g_name (i := 11) sc_law.nd rfl (by first | exact Or.inl rfl | exact Or.inr rfl))) (fun _ _ _ _ _ => y_nil) (fun _ _ _ _ _ => (d_cmp (op_eqP hu) do_eq (d_var 7) (d_var 11))))) (b_one (s_ret d_bl)) b_nil)
      (b_cons (s_if (t_cmp (op_neP hu) do_ne (d_comp (own := [("_law_other", 11)]) rfl sc_law.nd (i_list (d_fz 6)) (blkOk_by (N := ["_law_script", "_law_k", "_law_box_here", "_law_words_here", "_law_told", "_law_turn", "_law_made", "_law_rows_here", "_law_given", "_law_one", "_law_at", "_law_other", "_law_bare"]) (sc := defScope s_law) (by decide +kernel)) (by decide) (fun _ _ _ _ _ => (g_name (i := 11) sc_law.nd rfl (by first | exact Or.inl rfl | exact Or.inr rfl))) (fun _ _ _ _ _ => y_nil) (fun _ _ _ _ _ => (d_neO T.it_Edition T.ne_Edition T.sp_Edition___eq__ T.if_Edition___eq__ (ok_Edition___eq__ T) (hr.mono (by decide)) T.b_Edition___eq__ (d_var 9) (d_var 11)))) (d_comp (own := [("_law_other", 11)]) rfl sc_law.nd (i_list (d_fz 4)) (blkOk_by (N := ["_law_script", "_law_k", "_law_box_here", "_law_words_here", "_law_told", "_law_turn", "_law_made", "_law_rows_here", "_law_given", "_law_one", "_law_at", "_law_other", "_law_bare"]) (sc := defScope s_law) (by decide +kernel)) (by decide) (fun _ _ _ _ _ => (g_name (i := 11) sc_law.nd rfl (by first | exact Or.inl rfl | exact Or.inr rfl))) (fun _ _ _ _ _ => y_nil) (fun _ _ _ _ _ => (d_cmp (op_neP hu) do_ne (d_var 7) (d_var 11))))) (b_one (s_ret d_bl)) b_nil)
      (b_one (s_if (t_cmp (op_neP hu) do_ne (d_strO T.sp_Edition___str__ T.if_Edition___str__ (ok_Edition___str__ T) (hr.mono (by decide)) T.b_Edition___str__ (by rfl) T.n_str boot_str_ (d_var 9)) (d_callP (ok__law_text T) (hr.mono (by decide)) (by rfl) T.g__law_text T.F__law_text.kp T.b__law_text pass0W (a_cons (d_var 7) a_nil))) (b_one (s_ret d_bl)) b_nil))))))))))))))))
      (b_cons (s_set (i := 12) sc_law.nd rfl (by first | exact Or.inl rfl | exact Or.inr rfl) (d_make T.mk_Edition (ok_Edition_init T) (hr.mono (by decide)) (by rfl) T.g_Edition T.b_Edition_init pass0 (fun _ _ _ _ h => h) (a_cons (d_lst a_nil) a_nil)))
      (b_one (s_ret (v_and (d_cmp (op_eqP hu) do_eq (d_strO T.sp_Edition___str__ T.if_Edition___str__ (ok_Edition___str__ T) (hr.mono (by decide)) T.b_Edition___str__ (by rfl) T.n_str boot_str_ (d_var 12)) d_str) (v_and (d_eqO T.sp_Edition___eq__ T.if_Edition___eq__ (ok_Edition___eq__ T) (hr.mono (by decide)) T.b_Edition___eq__ (d_make T.mk_Edition (ok_Edition_init T) (hr.mono (by decide)) (by rfl) T.g_Edition T.b_Edition_init pass0 (fun _ _ _ _ h => h) (a_cons (d_tup a_nil) a_nil)) (d_var 12)) (v_one (d_cmp (op_eqP hu) do_eq (d_lenO T.sp_Edition___len__ (ok_Edition___len__ T) (hr.mono (by decide)) T.b_Edition___len__ (by rfl) T.n_len boot_len_ (d_var 12)) d_int))))))))
end
end ledmarks_k13_editions_made

namespace ledmarks_k13_editions_made
open PySem L2 LM
section
variable {K : PySem.W.Frag} {mg : Str → Option Value}
def words : List Str := ["a", "b", "c", "x", "yy", "zzz", "text", "run", "edit", "hear", "m", "sent", "fold", "k", "of", "none"]
def row (x : Str) : D := .tup [.str x, .non]
theorem name_ok (T : Tx K mg) : ∀ x ∈ words, f_is_name T [.str x] () = .ok (.bl true) () := by
  intro x hx
  simp only [words, List.mem_cons, List.not_mem_nil, or_false] at hx
  rcases hx with rfl | rfl | rfl | rfl | rfl | rfl | rfl | rfl | rfl | rfl | rfl | rfl | rfl | rfl | rfl | rfl <;> rfl
theorem seq_l (T : Tx K mg) (ds : List D) : f_is_sequence T [.lst ds] () = .ok (.bl true) () := by rfl
theorem seq_t (T : Tx K mg) (ds : List D) : f_is_sequence T [.tup ds] () = .ok (.bl true) () := by rfl
theorem pair_ok (T : Tx K mg) (x : Str) (hx : x ∈ words) : f__is_pair T [row x] () = .ok (.bl true) () := by
  have h := name_ok T x hx
  have e : f__is_pair T [row x] () = ((mAndV (fun env s => (f_is_name T [.str x] ()).outP .v env s) (mOrV (mOp fIsN (mOp fIx (mVar 0) (mK (.int 1))) (mK .non)) (mCallP [.v] (f_is_number T) (mCons (mOp fIx (mVar 0) (mK (.int 1))) mNil)))) [.val (row x)] () |>.bindS fun w env s => match w with
  | .f ds => .rf ds env s
  | w => match w.kp with
    | some d => .rt d env s
    | none => .bad).fo0 := rfl
  rw [e, h]
  rfl
theorem take_ok (T : Tx K mg) (m : Int) (s : Bx) (h0 : 0 < m) (h1 : m < 1073741824) : ∃ r s', f__law_take T [.int m] s = .ok (.int r) s' ∧ 0 ≤ r ∧ r < m := by
  unfold f__law_take m__law_take
  have p1 : 0 ≤ s.g % m := Int.emod_nonneg _ (by omega)
  have p2 : s.g % m < m := Int.emod_lt_of_pos _ h0
  obtain ⟨g, b, n⟩ := s
  by_cases hg : 0 < g
  · simp only [mSeq, mSet, mRet, mRetN, mIf, mExp, mBad, mNext, mPar, W.sl, mFor, Out.bindS, MX.bind, Out.bind, mK, mVar, mFz, mFf, mOp, mTest, mNotT, mNotV, mAndT, mOrT, mAndV, mOrV, mIfE, mChain, mNil, mCons, mTup, mLst, mCB, mFld, mFldSet, mCallP, mCallB, mMethP, mMakeP, mMut, mSl, mPart, mNoPart, mIsi, mIL, mIT, mIR, mIEn, mIS, mBGet, mBSet, mNewBox, mComp, mYes, Out.bindN, bindA, env0, envA, envI, FO.outP, FO.outL, FO.out, SO.fo0, SO.foF, SO.foI, lensW, lensL, resO_some, Rs.w_v, Rs.w_f, W.rd_v, W.rd_t, W.rd_f, W.rd_l, W.kp_v, List.mapM_cons, List.mapM_nil, Option.bind_eq_bind, Option.bind_some, Option.pure_def, Option.map_some, List.replicate_succ, List.replicate_zero, List.cons_append, List.nil_append, List.getElem?_cons_zero, List.getElem?_cons_succ, List.set_cons_zero, List.set_cons_succ, rb, ri, fI, fC, fAdd, fSub, fMod, fMul, fDiv, fIx, fIsN, fNotN, D.isN, isF, D.ty, isB, cLen, cInt, cTup, cList, gApp, gN, gT, gsC, gsN, Sl.isRef, if_true, if_false, if_pos, List.length_cons, List.length_nil, Bx.at, Bx.put, List.any_cons, List.any_nil, Bool.not_true, Bool.not_false, Nat.reduceAdd, Nat.reduceLeDiff, reduceIte, reduceCtorEq, and_self, and_true, true_and, hg, h0, h1, decide_true]
    exact ⟨_, _, rfl, Int.emod_nonneg _ (by omega), Int.emod_lt_of_pos _ h0⟩
  · have c1 : (0 : Int) < 2147483647 := by decide
    have c2 : (0 : Int) < 2147483629 := by decide
    have c3 : (0 : Int) < 8191 ∧ (8191 : Int) < 1073741824 := by decide
    have c4 : -18446744073709551616 < (98731 : Int) ∧ (98731 : Int) < 18446744073709551616 := by decide
    have c5 : -18446744073709551616 < (70229 : Int) ∧ (70229 : Int) < 18446744073709551616 := by decide
    have c6 : -18446744073709551616 < (46103 : Int) ∧ (46103 : Int) < 18446744073709551616 := by decide
    have c7 : -18446744073709551616 < (2147483647 : Int) ∧ (2147483647 : Int) < 18446744073709551616 := by decide
    simp only [mSeq, mSet, mRet, mRetN, mIf, mExp, mBad, mNext, mPar, W.sl, mFor, Out.bindS, MX.bind, Out.bind, mK, mVar, mFz, mFf, mOp, mTest, mNotT, mNotV, mAndT, mOrT, mAndV, mOrV, mIfE, mChain, mNil, mCons, mTup, mLst, mCB, mFld, mFldSet, mCallP, mCallB, mMethP, mMakeP, mMut, mSl, mPart, mNoPart, mIsi, mIL, mIT, mIR, mIEn, mIS, mBGet, mBSet, mNewBox, mComp, mYes, Out.bindN, bindA, env0, envA, envI, FO.outP, FO.outL, FO.out, SO.fo0, SO.foF, SO.foI, lensW, lensL, resO_some, Rs.w_v, Rs.w_f, W.rd_v, W.rd_t, W.rd_f, W.rd_l, W.kp_v, List.mapM_cons, List.mapM_nil, Option.bind_eq_bind, Option.bind_some, Option.pure_def, Option.map_some, List.replicate_succ, List.replicate_zero, List.cons_append, List.nil_append, List.getElem?_cons_zero, List.getElem?_cons_succ, List.set_cons_zero, List.set_cons_succ, rb, ri, fI, fC, fAdd, fSub, fMod, fMul, fDiv, fIx, fIsN, fNotN, D.isN, isF, D.ty, isB, cLen, cInt, cTup, cList, gApp, gN, gT, gsC, gsN, Sl.isRef, if_true, if_false, if_pos, List.length_cons, List.length_nil, Bx.at, Bx.put, List.any_cons, List.any_nil, Bool.not_true, Bool.not_false, Nat.reduceAdd, Nat.reduceLeDiff, reduceIte, reduceCtorEq, and_self, and_true, true_and, hg, h0, h1, decide_false, c1, c2, c3, c4, c5, c6, c7, true_or, or_true, Bool.false_eq_true]
    exact ⟨_, _, rfl, Int.emod_nonneg _ (by omega), Int.emod_lt_of_pos _ h0⟩
theorem pick_ok (T : Tx K mg) (ws : List D) (s : Bx) (h0 : 0 < ws.length) (h1 : ws.length < 1000) : ∃ d s', f__law_pick T [.lst ws] s = .ok d s' ∧ d ∈ ws := by
  obtain ⟨r, s1, e, p, q⟩ := take_ok T (ws.length : Int) s (by omega) (by omega)
  obtain ⟨k, rfl⟩ : ∃ k : Nat, r = (k : Int) := ⟨r.toNat, by omega⟩
  have hk : k < ws.length := by omega
  unfold f__law_pick m__law_pick
  simp only [mSeq, mSet, mRet, mRetN, mIf, mExp, mBad, mNext, mPar, W.sl, mFor, Out.bindS, MX.bind, Out.bind, mK, mVar, mFz, mFf, mOp, mTest, mNotT, mNotV, mAndT, mOrT, mAndV, mOrV, mIfE, mChain, mNil, mCons, mTup, mLst, mCB, mFld, mFldSet, mCallP, mCallB, mMethP, mMakeP, mMut, mSl, mPart, mNoPart, mIsi, mIL, mIT, mIR, mIEn, mIS, mBGet, mBSet, mNewBox, mComp, mYes, Out.bindN, bindA, env0, envA, envI, FO.outP, FO.outL, FO.out, SO.fo0, SO.foF, SO.foI, lensW, lensL, resO_some, Rs.w_v, Rs.w_f, W.rd_v, W.rd_t, W.rd_f, W.rd_l, W.kp_v, List.mapM_cons, List.mapM_nil, Option.bind_eq_bind, Option.bind_some, Option.pure_def, Option.map_some, List.replicate_succ, List.replicate_zero, List.cons_append, List.nil_append, List.getElem?_cons_zero, List.getElem?_cons_succ, List.set_cons_zero, List.set_cons_succ, rb, ri, fI, fC, fAdd, fSub, fMod, fMul, fDiv, fIx, fIsN, fNotN, D.isN, isF, D.ty, isB, cLen, cInt, cTup, cList, gApp, gN, gT, gsC, gsN, Sl.isRef, if_true, if_false, if_pos, List.length_cons, List.length_nil, Bx.at, Bx.put, List.any_cons, List.any_nil, Bool.not_true, Bool.not_false, Nat.reduceAdd, Nat.reduceLeDiff, reduceIte, reduceCtorEq, and_self, and_true, true_and, e, at_nat, List.getElem?_eq_getElem hk]
  exact ⟨_, _, rfl, List.getElem_mem hk⟩
theorem fix (d : D) : ∀ x ∈ words, x ∈ words := fun _ h => h
theorem rows_ok (T : Tx K mg) (ws : List D) (k : Nat) (hk : k < 1000) (s : Bx) (h0 : 0 < ws.length) (h1 : ws.length < 1000) (hw : ∀ d ∈ ws, ∃ x ∈ words, d = .str x) : ∃ rs s', f__law_rows T [.lst ws, .int (k : Int)] s = .ok (.lst rs) s' ∧ rs.length ≤ k ∧ ∀ d ∈ rs, ∃ x ∈ words, d = row x := by
  obtain ⟨r, s1, e, p, q⟩ := take_ok T ((k : Int) + 1) s (by omega) (by omega)
  unfold f__law_rows m__law_rows
  have c1 : (-4611686018427387904 ≤ r ∧ r < 4611686018427387904) := by omega
  obtain ⟨ys, s2, h2, h3, h4, _⟩ := comp_inv (S := Bx) (vs := [3]) (g := gN 3) (mt := mYes) (me := mTup (mCons (mCallB lensL [.b, .v] (f__law_pick T) (mCons (mVar 0) (mCons (mVar 1) mNil))) (mCons (mK .non) mNil))) (P := fun _ => True) (Q := fun d => ∃ x ∈ words, d = row x)
    (L := (List.range r.toNat).map fun i => D.int (i : Nat)) [.box, .val (.lst ws), .val (.int (k : Int)), .no] (fun d _ s _ => by
      obtain ⟨d', s', e', m'⟩ := pick_ok T ws s h0 h1
      obtain ⟨x, hx, rfl⟩ := hw d' m'
      refine ⟨_, _, [.box, .val (.lst ws), .val (.int (k : Int)), .val d], _, s', .v (row x), row x, rfl, rfl, ?_, rfl, rfl, rfl, trivial, x, hx, rfl⟩
      simp only [mSeq, mSet, mRet, mRetN, mIf, mExp, mBad, mNext, mPar, W.sl, mFor, Out.bindS, MX.bind, Out.bind, mK, mVar, mFz, mFf, mOp, mTest, mNotT, mNotV, mAndT, mOrT, mAndV, mOrV, mIfE, mChain, mNil, mCons, mTup, mLst, mCB, mFld, mFldSet, mCallP, mCallB, mMethP, mMakeP, mMut, mSl, mPart, mNoPart, mIsi, mIL, mIT, mIR, mIEn, mIS, mBGet, mBSet, mNewBox, mComp, mYes, Out.bindN, bindA, env0, envA, envI, FO.outP, FO.outL, FO.out, SO.fo0, SO.foF, SO.foI, lensW, lensL, resO_some, Rs.w_v, Rs.w_f, W.rd_v, W.rd_t, W.rd_f, W.rd_l, W.kp_v, List.mapM_cons, List.mapM_nil, Option.bind_eq_bind, Option.bind_some, Option.pure_def, Option.map_some, List.replicate_succ, List.replicate_zero, List.cons_append, List.nil_append, List.getElem?_cons_zero, List.getElem?_cons_succ, List.set_cons_zero, List.set_cons_succ, rb, ri, fI, fC, fAdd, fSub, fMod, fMul, fDiv, fIx, fIsN, fNotN, D.isN, isF, D.ty, isB, cLen, cInt, cTup, cList, gApp, gN, gT, gsC, gsN, Sl.isRef, if_true, if_false, if_pos, List.length_cons, List.length_nil, Bx.at, Bx.put, List.any_cons, List.any_nil, Bool.not_true, Bool.not_false, Nat.reduceAdd, Nat.reduceLeDiff, reduceIte, reduceCtorEq, and_self, and_true, true_and, e', row]) [] s1 trivial (by simp; omega)
  have h5 : mComp (mIR (mCallB lensL [.b, .v] (f__law_take T) (mCons (mVar 0) (mCons (mOp fAdd (mVar 2) (mK (.int 1))) mNil)))) [3] (gN 3) mYes (mTup (mCons (mCallB lensL [.b, .v] (f__law_pick T) (mCons (mVar 0) (mCons (mVar 1) mNil))) (mCons (mK .non) mNil))) (env0 [.b, .v, .v] 1 [.lst ws, .int (k : Int)]) s = .ok (.f ys) [.box, .val (.lst ws), .val (.int (k : Int)), .no] s2 := by
    refine (comp_x (xs := (List.range r.toNat).map fun i => D.int (i : Nat)) (e1 := [.box, .val (.lst ws), .val (.int (k : Int)), .no]) (s1 := s1) ?_ rfl).trans h2
    simp only [mSeq, mSet, mRet, mRetN, mIf, mExp, mBad, mNext, mPar, W.sl, mFor, Out.bindS, MX.bind, Out.bind, mK, mVar, mFz, mFf, mOp, mTest, mNotT, mNotV, mAndT, mOrT, mAndV, mOrV, mIfE, mChain, mNil, mCons, mTup, mLst, mCB, mFld, mFldSet, mCallP, mCallB, mMethP, mMakeP, mMut, mSl, mPart, mNoPart, mIsi, mIL, mIT, mIR, mIEn, mIS, mBGet, mBSet, mNewBox, mComp, mYes, Out.bindN, bindA, env0, envA, envI, FO.outP, FO.outL, FO.out, SO.fo0, SO.foF, SO.foI, lensW, lensL, resO_some, Rs.w_v, Rs.w_f, W.rd_v, W.rd_t, W.rd_f, W.rd_l, W.kp_v, List.mapM_cons, List.mapM_nil, Option.bind_eq_bind, Option.bind_some, Option.pure_def, Option.map_some, List.replicate_succ, List.replicate_zero, List.cons_append, List.nil_append, List.getElem?_cons_zero, List.getElem?_cons_succ, List.set_cons_zero, List.set_cons_succ, rb, ri, fI, fC, fAdd, fSub, fMod, fMul, fDiv, fIx, fIsN, fNotN, D.isN, isF, D.ty, isB, cLen, cInt, cTup, cList, gApp, gN, gT, gsC, gsN, Sl.isRef, if_true, if_false, if_pos, List.length_cons, List.length_nil, Bx.at, Bx.put, List.any_cons, List.any_nil, Bool.not_true, Bool.not_false, Nat.reduceAdd, Nat.reduceLeDiff, reduceIte, reduceCtorEq, and_self, and_true, true_and, e, c1]
  rw [ret_f h5]
  refine ⟨ys, s2, rfl, ?_, h4⟩
  rw [h3]
  simp
  omega
theorem shuffled_ok (T : Tx K mg) (ds : List D) (s : Bx) (h1 : ds.length < 1000) : ∃ es s', f__law_shuffled T [.lst ds] s = .ok (.lst es) s' ∧ es.length = ds.length ∧ ∀ d ∈ es, d ∈ ds := by
  unfold f__law_shuffled m__law_shuffled
  have e1 : (mPar 2 3 (mCB cList (mCons (mVar 1) mNil)) (mLst mNil) : MS Bx) (env0 [.b, .v] 3 [.lst ds]) s = .nx [.box, .val (.lst ds), .own ds, .own [], .no] s := by
    simp only [mSeq, mSet, mRet, mRetN, mIf, mExp, mBad, mNext, mPar, W.sl, mFor, Out.bindS, MX.bind, Out.bind, mK, mVar, mFz, mFf, mOp, mTest, mNotT, mNotV, mAndT, mOrT, mAndV, mOrV, mIfE, mChain, mNil, mCons, mTup, mLst, mCB, mFld, mFldSet, mCallP, mCallB, mMethP, mMakeP, mMut, mSl, mPart, mNoPart, mIsi, mIL, mIT, mIR, mIEn, mIS, mBGet, mBSet, mNewBox, mComp, mYes, Out.bindN, bindA, env0, envA, envI, FO.outP, FO.outL, FO.out, SO.fo0, SO.foF, SO.foI, lensW, lensL, resO_some, Rs.w_v, Rs.w_f, W.rd_v, W.rd_t, W.rd_f, W.rd_l, W.kp_v, List.mapM_cons, List.mapM_nil, Option.bind_eq_bind, Option.bind_some, Option.pure_def, Option.map_some, List.replicate_succ, List.replicate_zero, List.cons_append, List.nil_append, List.getElem?_cons_zero, List.getElem?_cons_succ, List.set_cons_zero, List.set_cons_succ, rb, ri, fI, fC, fAdd, fSub, fMod, fMul, fDiv, fIx, fIsN, fNotN, D.isN, isF, D.ty, isB, cLen, cInt, cTup, cList, gApp, gN, gT, gsC, gsN, Sl.isRef, if_true, if_false, if_pos, List.length_cons, List.length_nil, Bx.at, Bx.put, List.any_cons, List.any_nil, Bool.not_true, Bool.not_false, Nat.reduceAdd, Nat.reduceLeDiff, reduceIte, reduceCtorEq, and_self, and_true, true_and]
  rw [seq_nx e1]
  have e2 : (mIR (mCB cLen (mCons (mVar 2) mNil)) : MX Bx (List D)) [.box, .val (.lst ds), .own ds, .own [], .no] s = .ok ((List.range ds.length).map fun i => .int (i : Nat)) [.box, .val (.lst ds), .own ds, .own [], .no] s := by
    exact ir_nat rfl (by omega)
  obtain ⟨e3, s3, h3, x4, found, rest, rfl, hx, hr, hf, m1, m2⟩ := forL_cnt (S := Bx) (g := gN 4) (body := mExp (mMut gApp (mVar 3) (mCons (mMut gPopAt (mVar 2) (mCons (mCallB lensL [.b, .v] (f__law_take T) (mCons (mVar 0) (mCons (mCB cLen (mCons (mVar 2) mNil)) mNil))) mNil)) mNil)))
    (L := (List.range ds.length).map fun i => D.int (i : Nat)) (fun k env _ => ∃ x4 found rest, env = [.box, .val (.lst ds), .own rest, .own found, x4] ∧ x4.isRef = false ∧ rest.length = k ∧ found.length + rest.length = ds.length ∧ (∀ d ∈ rest, d ∈ ds) ∧ ∀ d ∈ found, d ∈ ds) (by
      rintro k d _ env s ⟨x4, found, rest, rfl, hx, hr, hf, m1, m2⟩
      obtain ⟨r, s', e, p, q⟩ := take_ok T (rest.length : Int) s (by omega) (by omega)
      obtain ⟨j, rfl⟩ : ∃ j : Nat, r = (j : Int) := ⟨r.toNat, by omega⟩
      have hj : j < rest.length := by omega
      refine ⟨[.box, .val (.lst ds), .own rest, .own found, .val d], [.box, .val (.lst ds), .own (rest.eraseIdx j), .own (found ++ [rest[j]]), .val d], s', ?_, ?_, .val d, found ++ [rest[j]], rest.eraseIdx j, rfl, rfl, ?_, ?_, ?_, ?_⟩
      · simp only [gN, List.getElem?_cons_zero, List.getElem?_cons_succ, hx]
        rfl
      · have c2 : gPopAt rest [.int (j : Int)] = some (rest[j], rest.eraseIdx j) := pop_nat hj (by omega)
        have c3 : (rest.eraseIdx j).length ≤ 16777216 := by rw [List.length_eraseIdx_of_lt hj]; omega
        have c4 : (found ++ [rest[j]]).length ≤ 16777216 := by rw [List.length_append, List.length_singleton]; omega
        refine exp_w (w := .v .non) ?_
        refine mut_l (i := 3) (ds0 := found) (ds := found) (e1 := [.box, .val (.lst ds), .own rest, .own found, .val d]) (s1 := s) (e2 := [.box, .val (.lst ds), .own (rest.eraseIdx j), .own found, .val d]) (ws := [.v rest[j]]) (es := [rest[j]]) rfl rfl ?_ rfl rfl rfl c4
        refine cons_w (e1 := [.box, .val (.lst ds), .own (rest.eraseIdx j), .own found, .val d]) (s1 := s') ?_ rfl
        refine mut_l (i := 2) (ds0 := rest) (ds := rest) (e1 := [.box, .val (.lst ds), .own rest, .own found, .val d]) (s1 := s) (e2 := [.box, .val (.lst ds), .own rest, .own found, .val d]) (ws := [.v (.int (j : Int))]) (es := [.int (j : Int)]) rfl rfl ?_ rfl rfl c2 c3
        refine cons_w (e1 := [.box, .val (.lst ds), .own rest, .own found, .val d]) (s1 := s') ?_ rfl
        exact callB_w (e1 := [.box, .val (.lst ds), .own rest, .own found, .val d]) (s1 := s) (ws := [.b, .v (.int (rest.length : Int))]) (ds := [.int (rest.length : Int)]) (t := s) rfl rfl rfl e
      · rw [List.length_eraseIdx_of_lt hj]; omega
      · rw [List.length_eraseIdx_of_lt hj, List.length_append, List.length_singleton]; omega
      · exact fun d hd => m1 d (List.mem_of_mem_eraseIdx hd)
      · intro d hd
        rcases List.mem_append.mp hd with hd | hd
        · exact m2 d hd
        · rw [List.mem_singleton.mp hd]; exact m1 _ (List.getElem_mem hj)) 0 [.box, .val (.lst ds), .own ds, .own [], .no] s ⟨.no, [], ds, rfl, rfl, by simp, by simp, fun _ h => h, fun _ h => nomatch h⟩
  rw [seq_nx ((for_x e2).trans h3)]
  refine ⟨found, s3, ?_, by omega, m2⟩
  simp only [mSeq, mSet, mRet, mRetN, mIf, mExp, mBad, mNext, mPar, W.sl, mFor, Out.bindS, MX.bind, Out.bind, mK, mVar, mFz, mFf, mOp, mTest, mNotT, mNotV, mAndT, mOrT, mAndV, mOrV, mIfE, mChain, mNil, mCons, mTup, mLst, mCB, mFld, mFldSet, mCallP, mCallB, mMethP, mMakeP, mMut, mSl, mPart, mNoPart, mIsi, mIL, mIT, mIR, mIEn, mIS, mBGet, mBSet, mNewBox, mComp, mYes, Out.bindN, bindA, env0, envA, envI, FO.outP, FO.outL, FO.out, SO.fo0, SO.foF, SO.foI, lensW, lensL, resO_some, Rs.w_v, Rs.w_f, W.rd_v, W.rd_t, W.rd_f, W.rd_l, W.kp_v, List.mapM_cons, List.mapM_nil, Option.bind_eq_bind, Option.bind_some, Option.pure_def, Option.map_some, List.replicate_succ, List.replicate_zero, List.cons_append, List.nil_append, List.getElem?_cons_zero, List.getElem?_cons_succ, List.set_cons_zero, List.set_cons_succ, rb, ri, fI, fC, fAdd, fSub, fMod, fMul, fDiv, fIx, fIsN, fNotN, D.isN, isF, D.ty, isB, cLen, cInt, cTup, cList, gApp, gN, gT, gsC, gsN, Sl.isRef, if_true, if_false, if_pos, List.length_cons, List.length_nil, Bx.at, Bx.put, List.any_cons, List.any_nil, Bool.not_true, Bool.not_false, Nat.reduceAdd, Nat.reduceLeDiff, reduceIte, reduceCtorEq, and_self, and_true, true_and]
theorem words_ok (T : Tx K mg) (k : Nat) (s : Bx) (h0 : 0 < k) (h1 : k ≤ 6) : ∃ ws s', f__law_words T [.int (k : Int)] s = .ok (.lst ws) s' ∧ ws.length = k ∧ ∀ d ∈ ws, ∃ x ∈ words, d = .str x := by
  unfold f__law_words m__law_words
  obtain ⟨es, s', e, hl, hm⟩ := shuffled_ok T (words.map .str) s (by decide)
  have hl : es.length = 16 := hl
  rw [seq_nx (e1 := [.box, .val (.int (k : Int)), .val (.lst (words.map .str))]) (s1 := s) (by rfl)]
  have h2 : ∀ d ∈ es.take k, ∃ x ∈ words, d = .str x := fun d hd => by
    obtain ⟨x, hx, rfl⟩ := List.mem_map.mp (hm d (List.mem_of_mem_take hd))
    exact ⟨x, hx, rfl⟩
  refine ⟨es.take k, s', ?_, by rw [List.length_take]; omega, h2⟩
  rw [ret_f (ds := es.take k) (e1 := [.box, .val (.int (k : Int)), .val (.lst (words.map .str))]) (s1 := s')]
  · rfl
  · refine sl_w (r := .f (es.take k)) (a := .v (.lst es)) (e1 := [.box, .val (.int (k : Int)), .val (.lst (words.map .str))]) (s1 := s') (l := none) (h := some (k : Int)) (d := .lst es) ?_ rfl rfl rfl ?_
    · exact callB_w (e1 := [.box, .val (.int (k : Int)), .val (.lst (words.map .str))]) (s1 := s) (ws := [.b, .v (.lst (words.map .str))]) (ds := [.lst (words.map .str)]) (t := s) rfl rfl rfl e
    · show some (Rs.f (cutD es none (some (k : Int)))) = _
      rw [cut_nat (by omega)]
theorem box_ok (T : Tx K mg) (ns : List Int) (z : Int) (h0 : 0 ≤ z) : ∃ g m n, f__law_box T [.lst (ns.map .int), .int z] = .ok [.int g, .int m, .int n] () := by
  unfold f__law_box m__law_box
  obtain ⟨L, hL⟩ : ∃ L : Int, ((ns.map D.int).length : Int) = L := ⟨_, rfl⟩
  have hL' : (ns.length : Int) = L := by rw [← hL, List.length_map]
  have hi : ∀ i : Int, 0 ≤ i → i < L → ∃ n : Int, atI (ns.map D.int) i = some (.int n) := fun i a b => by
    obtain ⟨k, rfl⟩ : ∃ k : Nat, i = (k : Int) := ⟨i.toNat, by omega⟩
    have hk : k < ns.length := by omega
    exact ⟨ns[k], by rw [at_nat, List.getElem?_map, List.getElem?_eq_getElem hk]; rfl⟩
  have m1 : ∀ i j : Int, (-18446744073709551616 < i ∧ i < 18446744073709551616) → fMul (.int i) (.int j) = some (.v (.int (i * j))) := fun i j c => by simp only [fMul, c, and_self, true_or, if_true, ri]
  have m2 : ∀ i j : Int, (-18446744073709551616 < j ∧ j < 18446744073709551616) → fMul (.int i) (.int j) = some (.v (.int (i * j))) := fun i j c => by simp only [fMul, c, and_self, or_true, if_true, ri]
  have tail : ∀ (g : Int) (x3 : Sl), ∃ a m n, (((mSeq (mSet 3 (mOp fAdd (mOp fMod (mCB cInt (mCons (mOp fAdd (mOp fAdd (mOp fMul (mOp fMod (mCB cInt (mCons (mVar 2) mNil)) (mK (.int 2147483629))) (mK (.int 45319))) (mOp fMul (mK (.int 38453)) (mVar 1))) (mK (.int 17))) mNil)) (mK (.int 2147483629))) (mK (.int 1))))
    (mRet (mLst (mCons (mOp fIx (mLst (mCons (mK (.int 0)) (mCons (mVar 2) mNil))) (mCB cInt (mCons (mOp (fC fun i j => decide (j ≤ i)) (mVar 2) (mOp fPow (mK (.int 10)) (mK (.int 18)))) mNil))) (mCons (mVar 3) (mCons (mK (.int 0)) mNil)))))) : MS Unit) [.val (.lst (ns.map .int)), .val (.int z), .val (.int g), x3] ()).foF = .ok [.int a, .int m, .int n] () := by
    intro g x3
    have c2 : (0 : Int) < 2147483629 := by decide
    have a1 : ∃ y, (mOp fAdd (mOp fMod (mCB cInt (mCons (mOp fAdd (mOp fAdd (mOp fMul (mOp fMod (mCB cInt (mCons (mVar 2) mNil)) (mK (.int 2147483629))) (mK (.int 45319))) (mOp fMul (mK (.int 38453)) (mVar 1))) (mK (.int 17))) mNil)) (mK (.int 2147483629))) (mK (.int 1)) : MX Unit W) [.val (.lst (ns.map .int)), .val (.int z), .val (.int g), x3] () = .ok (.v (.int y)) [.val (.lst (ns.map .int)), .val (.int z), .val (.int g), x3] () := by
      have c4 : -18446744073709551616 < (38453 : Int) ∧ (38453 : Int) < 18446744073709551616 := by decide
      have c5 : -18446744073709551616 < (45319 : Int) ∧ (45319 : Int) < 18446744073709551616 := by decide
      simp only [mSeq, mSet, mRet, mRetN, mIf, mExp, mBad, mNext, mPar, W.sl, mFor, Out.bindS, MX.bind, Out.bind, mK, mVar, mFz, mFf, mOp, mTest, mNotT, mNotV, mAndT, mOrT, mAndV, mOrV, mIfE, mChain, mNil, mCons, mTup, mLst, mCB, mFld, mFldSet, mCallP, mCallB, mMethP, mMakeP, mMut, mSl, mPart, mNoPart, mIsi, mIL, mIT, mIR, mIEn, mIS, mBGet, mBSet, mNewBox, mComp, mYes, Out.bindN, bindA, env0, envA, envI, FO.outP, FO.outL, FO.out, SO.fo0, SO.foF, SO.foI, lensW, lensL, resO_some, Rs.w_v, Rs.w_f, W.rd_v, W.rd_t, W.rd_f, W.rd_l, W.kp_v, List.mapM_cons, List.mapM_nil, Option.bind_eq_bind, Option.bind_some, Option.pure_def, Option.map_some, List.replicate_succ, List.replicate_zero, List.cons_append, List.nil_append, List.getElem?_cons_zero, List.getElem?_cons_succ, List.set_cons_zero, List.set_cons_succ, rb, ri, fI, fC, fAdd, fSub, fMod, fMul, fDiv, fIx, fIsN, fNotN, D.isN, isF, D.ty, isB, cLen, cInt, cTup, cList, gApp, gN, gT, gsC, gsN, Sl.isRef, if_true, if_false, if_pos, List.length_cons, List.length_nil, Bx.at, Bx.put, List.any_cons, List.any_nil, Bool.not_true, Bool.not_false, Nat.reduceAdd, Nat.reduceLeDiff, reduceIte, reduceCtorEq, and_self, and_true, true_and, c2, c4, c5, true_or, or_true]
      exact ⟨_, rfl⟩
    obtain ⟨y, a1⟩ := a1
    rw [seq_nx (set_v a1)]
    have a2 : (fPow (.int 10) (.int 18)) = some (.v (.int 1000000000000000000)) := by rfl
    by_cases c : (1000000000000000000 : Int) ≤ g
    · refine ⟨g, y, 0, ?_⟩
      simp only [mSeq, mSet, mRet, mRetN, mIf, mExp, mBad, mNext, mPar, W.sl, mFor, Out.bindS, MX.bind, Out.bind, mK, mVar, mFz, mFf, mOp, mTest, mNotT, mNotV, mAndT, mOrT, mAndV, mOrV, mIfE, mChain, mNil, mCons, mTup, mLst, mCB, mFld, mFldSet, mCallP, mCallB, mMethP, mMakeP, mMut, mSl, mPart, mNoPart, mIsi, mIL, mIT, mIR, mIEn, mIS, mBGet, mBSet, mNewBox, mComp, mYes, Out.bindN, bindA, env0, envA, envI, FO.outP, FO.outL, FO.out, SO.fo0, SO.foF, SO.foI, lensW, lensL, resO_some, Rs.w_v, Rs.w_f, W.rd_v, W.rd_t, W.rd_f, W.rd_l, W.kp_v, List.mapM_cons, List.mapM_nil, Option.bind_eq_bind, Option.bind_some, Option.pure_def, Option.map_some, List.replicate_succ, List.replicate_zero, List.cons_append, List.nil_append, List.getElem?_cons_zero, List.getElem?_cons_succ, List.set_cons_zero, List.set_cons_succ, rb, ri, fI, fC, fAdd, fSub, fMod, fMul, fDiv, fIx, fIsN, fNotN, D.isN, isF, D.ty, isB, cLen, cInt, cTup, cList, gApp, gN, gT, gsC, gsN, Sl.isRef, if_true, if_false, if_pos, List.length_cons, List.length_nil, Bx.at, Bx.put, List.any_cons, List.any_nil, Bool.not_true, Bool.not_false, Nat.reduceAdd, Nat.reduceLeDiff, reduceIte, reduceCtorEq, and_self, and_true, true_and, a2, c, decide_true]
      rfl
    · refine ⟨0, y, 0, ?_⟩
      simp only [mSeq, mSet, mRet, mRetN, mIf, mExp, mBad, mNext, mPar, W.sl, mFor, Out.bindS, MX.bind, Out.bind, mK, mVar, mFz, mFf, mOp, mTest, mNotT, mNotV, mAndT, mOrT, mAndV, mOrV, mIfE, mChain, mNil, mCons, mTup, mLst, mCB, mFld, mFldSet, mCallP, mCallB, mMethP, mMakeP, mMut, mSl, mPart, mNoPart, mIsi, mIL, mIT, mIR, mIEn, mIS, mBGet, mBSet, mNewBox, mComp, mYes, Out.bindN, bindA, env0, envA, envI, FO.outP, FO.outL, FO.out, SO.fo0, SO.foF, SO.foI, lensW, lensL, resO_some, Rs.w_v, Rs.w_f, W.rd_v, W.rd_t, W.rd_f, W.rd_l, W.kp_v, List.mapM_cons, List.mapM_nil, Option.bind_eq_bind, Option.bind_some, Option.pure_def, Option.map_some, List.replicate_succ, List.replicate_zero, List.cons_append, List.nil_append, List.getElem?_cons_zero, List.getElem?_cons_succ, List.set_cons_zero, List.set_cons_succ, rb, ri, fI, fC, fAdd, fSub, fMod, fMul, fDiv, fIx, fIsN, fNotN, D.isN, isF, D.ty, isB, cLen, cInt, cTup, cList, gApp, gN, gT, gsC, gsN, Sl.isRef, if_true, if_false, if_pos, List.length_cons, List.length_nil, Bx.at, Bx.put, List.any_cons, List.any_nil, Bool.not_true, Bool.not_false, Nat.reduceAdd, Nat.reduceLeDiff, reduceIte, reduceCtorEq, and_self, and_true, true_and, a2, c, decide_false]
      rfl
  have e1 : (mSet 2 (mOp fAdd (mOp fMul (mK (.int 6329)) (mVar 1)) (mK (.int 71))) : MS Unit) (env0 [.v, .v] 2 [.lst (ns.map .int), .int z]) () = .nx [.val (.lst (ns.map .int)), .val (.int z), .val (.int (6329 * z + 71)), .no] () := by
    have c4 : -18446744073709551616 < (6329 : Int) ∧ (6329 : Int) < 18446744073709551616 := by decide
    simp only [mSeq, mSet, mRet, mRetN, mIf, mExp, mBad, mNext, mPar, W.sl, mFor, Out.bindS, MX.bind, Out.bind, mK, mVar, mFz, mFf, mOp, mTest, mNotT, mNotV, mAndT, mOrT, mAndV, mOrV, mIfE, mChain, mNil, mCons, mTup, mLst, mCB, mFld, mFldSet, mCallP, mCallB, mMethP, mMakeP, mMut, mSl, mPart, mNoPart, mIsi, mIL, mIT, mIR, mIEn, mIS, mBGet, mBSet, mNewBox, mComp, mYes, Out.bindN, bindA, env0, envA, envI, FO.outP, FO.outL, FO.out, SO.fo0, SO.foF, SO.foI, lensW, lensL, resO_some, Rs.w_v, Rs.w_f, W.rd_v, W.rd_t, W.rd_f, W.rd_l, W.kp_v, List.mapM_cons, List.mapM_nil, Option.bind_eq_bind, Option.bind_some, Option.pure_def, Option.map_some, List.replicate_succ, List.replicate_zero, List.cons_append, List.nil_append, List.getElem?_cons_zero, List.getElem?_cons_succ, List.set_cons_zero, List.set_cons_succ, rb, ri, fI, fC, fAdd, fSub, fMod, fMul, fDiv, fIx, fIsN, fNotN, D.isN, isF, D.ty, isB, cLen, cInt, cTup, cList, gApp, gN, gT, gsC, gsN, Sl.isRef, if_true, if_false, if_pos, List.length_cons, List.length_nil, Bx.at, Bx.put, List.any_cons, List.any_nil, Bool.not_true, Bool.not_false, Nat.reduceAdd, Nat.reduceLeDiff, reduceIte, reduceCtorEq, and_self, and_true, true_and, c4, true_or]
  rw [seq_nx e1]
  obtain ⟨g, e2⟩ : ∃ g : Int, ((mIf (mTest (mOp (fC fun i j => decide (i < j)) (mVar 1) (mCB cLen (mCons (mVar 0) mNil)))) (mSet 2 (mCB cAbs (mCons (mCB cInt (mCons (mOp fIx (mVar 0) (mVar 1)) mNil)) mNil))) (mIf (mTest (mOp (fC fun i j => decide (j < i)) (mCB cLen (mCons (mVar 0) mNil)) (mK (.int 0)))) (mSet 2 (mOp fAdd (mVar 2) (mOp fMul (mOp fMod (mCB cInt (mCons (mOp fIx (mVar 0) (mOp fMod (mCB cInt (mCons (mVar 1) mNil)) (mCB cLen (mCons (mVar 0) mNil)))) mNil)) (mK (.int 2147483629))) (mK (.int 83639))))) mNext)) : MS Unit) [.val (.lst (ns.map .int)), .val (.int z), .val (.int (6329 * z + 71)), .no] () = .nx [.val (.lst (ns.map .int)), .val (.int z), .val (.int g), .no] () := by
    have c2 : (0 : Int) < 2147483629 := by decide
    have c5 : -18446744073709551616 < (83639 : Int) ∧ (83639 : Int) < 18446744073709551616 := by decide
    by_cases c : z < L
    · obtain ⟨v, hv⟩ := hi z h0 c
      simp only [mSeq, mSet, mRet, mRetN, mIf, mExp, mBad, mNext, mPar, W.sl, mFor, Out.bindS, MX.bind, Out.bind, mK, mVar, mFz, mFf, mOp, mTest, mNotT, mNotV, mAndT, mOrT, mAndV, mOrV, mIfE, mChain, mNil, mCons, mTup, mLst, mCB, mFld, mFldSet, mCallP, mCallB, mMethP, mMakeP, mMut, mSl, mPart, mNoPart, mIsi, mIL, mIT, mIR, mIEn, mIS, mBGet, mBSet, mNewBox, mComp, mYes, Out.bindN, bindA, env0, envA, envI, FO.outP, FO.outL, FO.out, SO.fo0, SO.foF, SO.foI, lensW, lensL, resO_some, Rs.w_v, Rs.w_f, W.rd_v, W.rd_t, W.rd_f, W.rd_l, W.kp_v, List.mapM_cons, List.mapM_nil, Option.bind_eq_bind, Option.bind_some, Option.pure_def, Option.map_some, List.replicate_succ, List.replicate_zero, List.cons_append, List.nil_append, List.getElem?_cons_zero, List.getElem?_cons_succ, List.set_cons_zero, List.set_cons_succ, rb, ri, fI, fC, fAdd, fSub, fMod, fMul, fDiv, fIx, fIsN, fNotN, D.isN, isF, D.ty, isB, cLen, cInt, cTup, cList, gApp, gN, gT, gsC, gsN, Sl.isRef, if_true, if_false, if_pos, List.length_cons, List.length_nil, Bx.at, Bx.put, List.any_cons, List.any_nil, Bool.not_true, Bool.not_false, Nat.reduceAdd, Nat.reduceLeDiff, reduceIte, reduceCtorEq, and_self, and_true, true_and, hL, c, decide_true, hv, cAbs]
      exact ⟨_, rfl⟩
    · by_cases d : 0 < L
      · obtain ⟨v, hv⟩ := hi (z % L) (Int.emod_nonneg _ (by omega)) (Int.emod_lt_of_pos _ d)
        simp only [mSeq, mSet, mRet, mRetN, mIf, mExp, mBad, mNext, mPar, W.sl, mFor, Out.bindS, MX.bind, Out.bind, mK, mVar, mFz, mFf, mOp, mTest, mNotT, mNotV, mAndT, mOrT, mAndV, mOrV, mIfE, mChain, mNil, mCons, mTup, mLst, mCB, mFld, mFldSet, mCallP, mCallB, mMethP, mMakeP, mMut, mSl, mPart, mNoPart, mIsi, mIL, mIT, mIR, mIEn, mIS, mBGet, mBSet, mNewBox, mComp, mYes, Out.bindN, bindA, env0, envA, envI, FO.outP, FO.outL, FO.out, SO.fo0, SO.foF, SO.foI, lensW, lensL, resO_some, Rs.w_v, Rs.w_f, W.rd_v, W.rd_t, W.rd_f, W.rd_l, W.kp_v, List.mapM_cons, List.mapM_nil, Option.bind_eq_bind, Option.bind_some, Option.pure_def, Option.map_some, List.replicate_succ, List.replicate_zero, List.cons_append, List.nil_append, List.getElem?_cons_zero, List.getElem?_cons_succ, List.set_cons_zero, List.set_cons_succ, rb, ri, fI, fC, fAdd, fSub, fMod, fMul, fDiv, fIx, fIsN, fNotN, D.isN, isF, D.ty, isB, cLen, cInt, cTup, cList, gApp, gN, gT, gsC, gsN, Sl.isRef, if_true, if_false, if_pos, List.length_cons, List.length_nil, Bx.at, Bx.put, List.any_cons, List.any_nil, Bool.not_true, Bool.not_false, Nat.reduceAdd, Nat.reduceLeDiff, reduceIte, reduceCtorEq, and_self, and_true, true_and, hL, c, d, decide_true, decide_false, Bool.false_eq_true, hv, c2, c5, or_true]
        exact ⟨_, rfl⟩
      · simp only [mSeq, mSet, mRet, mRetN, mIf, mExp, mBad, mNext, mPar, W.sl, mFor, Out.bindS, MX.bind, Out.bind, mK, mVar, mFz, mFf, mOp, mTest, mNotT, mNotV, mAndT, mOrT, mAndV, mOrV, mIfE, mChain, mNil, mCons, mTup, mLst, mCB, mFld, mFldSet, mCallP, mCallB, mMethP, mMakeP, mMut, mSl, mPart, mNoPart, mIsi, mIL, mIT, mIR, mIEn, mIS, mBGet, mBSet, mNewBox, mComp, mYes, Out.bindN, bindA, env0, envA, envI, FO.outP, FO.outL, FO.out, SO.fo0, SO.foF, SO.foI, lensW, lensL, resO_some, Rs.w_v, Rs.w_f, W.rd_v, W.rd_t, W.rd_f, W.rd_l, W.kp_v, List.mapM_cons, List.mapM_nil, Option.bind_eq_bind, Option.bind_some, Option.pure_def, Option.map_some, List.replicate_succ, List.replicate_zero, List.cons_append, List.nil_append, List.getElem?_cons_zero, List.getElem?_cons_succ, List.set_cons_zero, List.set_cons_succ, rb, ri, fI, fC, fAdd, fSub, fMod, fMul, fDiv, fIx, fIsN, fNotN, D.isN, isF, D.ty, isB, cLen, cInt, cTup, cList, gApp, gN, gT, gsC, gsN, Sl.isRef, if_true, if_false, if_pos, List.length_cons, List.length_nil, Bx.at, Bx.put, List.any_cons, List.any_nil, Bool.not_true, Bool.not_false, Nat.reduceAdd, Nat.reduceLeDiff, reduceIte, reduceCtorEq, and_self, and_true, true_and, hL, c, d, decide_false, Bool.false_eq_true]
        exact ⟨_, rfl⟩
  rw [seq_nx e2]
  exact tail g .no
end
end ledmarks_k13_editions_made

namespace ledmarks_k13_editions_made
open PySem L2 LM
section
variable {K : PySem.W.Frag} {mg : Str → Option Value}
/-- no own object, short texts: on the first level, on the two first ones -/
def fl0 : D → Bool
  | .ins _ _ _ => false
  | .str x => decide (x.length ≤ 10)
  | _ => true
def fl1 : D → Bool
  | .tup ds => ds.all fl0
  | d => fl0 d
def tk (x : Str) : Bool := inD (.str x) [.str "and", .str "any", .str "came", .str "here", .str "not", .str "own", .str "to"]
def ltr (c : Nat) : Bool := decide (c ∈ ("abcdefghijklmnopqrstuvwxyz" : Str).cps.toList)
def nm (x : Str) : Bool := decide ((1 : Int) ≤ x.length) && decide ((x.length : Int) ≤ 4) && (!tk x && x.cps.toList.all ltr)
theorem nin_tk (x : Str) : fNin (.str x) (.tup [.str "and", .str "any", .str "came", .str "here", .str "not", .str "own", .str "to"]) = some (.v (.bl (!tk x))) := rfl
theorem in_tk (x : Str) : fIn (.str x) (.tup [.str "and", .str "any", .str "came", .str "here", .str "not", .str "own", .str "to"]) = some (.v (.bl (tk x))) := rfl
theorem bools_map {α : Type} (p : α → Bool) : ∀ l : List α, bools (l.map fun c => D.bl (p c)) = some (l.map p)
  | [] => rfl
  | c :: l => by rw [List.map_cons, bools, bools_map p l]; rfl
theorem all_id {α : Type} (p : α → Bool) (l : List α) : (l.map p).all id = l.all p := by rw [List.all_map]; rfl
theorem letters (x : Str) (hx : x.cps.toList.length ≤ 10) : (mComp (mIS (mVar 0)) [1] (gN 1) mYes (mOp fInS (mVar 1) (mK (.str "abcdefghijklmnopqrstuvwxyz"))) : MX Unit W) [.val (.str x), .no] () = .ok (.f (x.cps.toList.map fun c => .bl (ltr c))) [.val (.str x), .no] () := by
  refine (comp_x (xs := x.cps.toList.map fun c => .str ⟨#[c]⟩) (e1 := [.val (.str x), .no]) (s1 := ()) rfl rfl).trans ?_
  have h := comp_map (S := Unit) (vs := [1]) (g := gN 1) (mt := mYes) (me := mOp fInS (mVar 1) (mK (.str "abcdefghijklmnopqrstuvwxyz"))) (f := fun d => match d with
    | .str z => .bl (decide (z.cps.getD 0 0 ∈ ("abcdefghijklmnopqrstuvwxyz" : Str).cps.toList))
    | d => d) (L := x.cps.toList.map fun c => .str ⟨#[c]⟩) [.val (.str x), .no] () (fun d hd => by
      obtain ⟨c, _, rfl⟩ := List.mem_map.mp hd
      exact ⟨[.val (.str x), .val (.str ⟨#[c]⟩)], _, [.val (.str x), .val (.str ⟨#[c]⟩)], .v (.bl (decide (c ∈ ("abcdefghijklmnopqrstuvwxyz" : Str).cps.toList))), rfl, rfl, rfl, rfl, rfl, rfl⟩) [] (by rw [List.length_map, List.length_nil]; omega)
  refine h.trans ?_
  rw [List.nil_append, List.map_map]
  rfl
theorem str_len (x : Str) : x.cps.toList.length = x.length := by rfl
theorem name_sp (T : Tx K mg) (x : Str) (hx : x.length ≤ 10) : f_is_name T [.str x] () = .ok (.bl (nm x)) () := by
  have hl : x.length ≤ 16777216 := Nat.le_trans hx (by decide)
  have hc := letters x (by rw [str_len]; exact hx)
  have b1 : cAll [.lst (x.cps.toList.map fun c => .bl (ltr c))] = some (.v (.bl (x.cps.toList.all ltr))) := by
    simp only [cAll, bools_map, Option.bind_some, rb, all_id]
  have nt := nin_tk x
  have hL : cLen [.str x] = some (.v (.int x.length)) := by simp only [cLen, hl, if_true, ri]
  unfold f_is_name m_is_name nm
  generalize (mComp (mIS (mVar 0)) [1] (gN 1) mYes (mOp fInS (mVar 1) (mK (.str "abcdefghijklmnopqrstuvwxyz"))) : MX Unit W) = cm at hc ⊢
  generalize (x.length : Int) = L at *
  by_cases c1 : (1 : Int) ≤ L
  · by_cases c2 : L ≤ 4
    · cases ht : tk x with
      | true =>
        rw [ht] at nt
        simp only [mSeq, mSet, mRet, mRetN, mIf, mExp, mBad, mNext, mPar, W.sl, mFor, Out.bindS, MX.bind, Out.bind, mK, mVar, mFz, mFf, mOp, mTest, mNotT, mNotV, mAndT, mOrT, mAndV, mOrV, mIfE, mChain, mNil, mCons, mTup, mLst, mCB, mFld, mFldSet, mCallP, mCallB, mMethP, mMakeP, mMut, mSl, mPart, mNoPart, mIsi, mIL, mIT, mIR, mIEn, mIS, mBGet, mBSet, mNewBox, mComp, mYes, Out.bindN, bindA, env0, envA, envI, FO.outP, FO.outL, FO.out, SO.fo0, SO.foF, SO.foI, lensW, lensL, resO_some, Rs.w_v, Rs.w_f, W.rd_v, W.rd_t, W.rd_f, W.rd_l, W.kp_v, List.mapM_cons, List.mapM_nil, Option.bind_eq_bind, Option.bind_some, Option.pure_def, Option.map_some, List.replicate_succ, List.replicate_zero, List.cons_append, List.nil_append, List.getElem?_cons_zero, List.getElem?_cons_succ, List.set_cons_zero, List.set_cons_succ, rb, ri, fI, fC, fAdd, fSub, fMod, fMul, fDiv, fIx, fIsN, fNotN, D.isN, cl_lst, cl_tup, cInt, cTup, cList, gApp, gN, gT, gsC, gsN, Sl.isRef, if_true, if_false, if_pos, List.length_cons, List.length_nil, Bx.at, Bx.put, List.any_cons, List.any_nil, Bool.not_true, Bool.not_false, Nat.reduceAdd, Nat.reduceLeDiff, reduceIte, reduceCtorEq, and_self, and_true, true_and, if_s_non, if_s_bl, if_s_int, if_s_str, if_s_tup, if_s_lst, if_i_non, if_i_bl, if_i_int, if_i_str, if_i_tup, if_i_lst, if_b_non, if_b_bl, if_b_int, if_b_str, if_b_tup, if_b_lst, if_t_non, if_t_bl, if_t_int, if_t_str, if_t_tup, if_t_lst, if_l_non, if_l_bl, if_l_int, if_l_str, if_l_tup, if_l_lst, if_lt2_non, if_lt2_bl, if_lt2_int, if_lt2_str, if_lt2_tup, if_lt2_lst, mRaise, mTryAs, tryOut, mXf, mIsE, mLenO, mGetO, mIxSet, mSwapIx, ixSt, mNeg, isFO, gIns, SO.foX, SO.foJ, one_self, is1_self, at1_self, noRefAt, List.all_cons, List.all_nil, Sl.noBox, D.flat, Bool.and_self, Bool.and_true, Bool.true_and, List.zip_cons_cons, List.zip_nil_right, mTru, List.contains_nil, mIE, mIZ, mBrk, mCnt, decide_true, decide_false, Bool.false_eq_true, Bool.not_eq_true, hL, c1, c2, nt]
        rfl
      | false =>
        rw [ht] at nt
        simp only [mSeq, mSet, mRet, mRetN, mIf, mExp, mBad, mNext, mPar, W.sl, mFor, Out.bindS, MX.bind, Out.bind, mK, mVar, mFz, mFf, mOp, mTest, mNotT, mNotV, mAndT, mOrT, mAndV, mOrV, mIfE, mChain, mNil, mCons, mTup, mLst, mCB, mFld, mFldSet, mCallP, mCallB, mMethP, mMakeP, mMut, mSl, mPart, mNoPart, mIsi, mIL, mIT, mIR, mIEn, mIS, mBGet, mBSet, mNewBox, mComp, mYes, Out.bindN, bindA, env0, envA, envI, FO.outP, FO.outL, FO.out, SO.fo0, SO.foF, SO.foI, lensW, lensL, resO_some, Rs.w_v, Rs.w_f, W.rd_v, W.rd_t, W.rd_f, W.rd_l, W.kp_v, List.mapM_cons, List.mapM_nil, Option.bind_eq_bind, Option.bind_some, Option.pure_def, Option.map_some, List.replicate_succ, List.replicate_zero, List.cons_append, List.nil_append, List.getElem?_cons_zero, List.getElem?_cons_succ, List.set_cons_zero, List.set_cons_succ, rb, ri, fI, fC, fAdd, fSub, fMod, fMul, fDiv, fIx, fIsN, fNotN, D.isN, cl_lst, cl_tup, cInt, cTup, cList, gApp, gN, gT, gsC, gsN, Sl.isRef, if_true, if_false, if_pos, List.length_cons, List.length_nil, Bx.at, Bx.put, List.any_cons, List.any_nil, Bool.not_true, Bool.not_false, Nat.reduceAdd, Nat.reduceLeDiff, reduceIte, reduceCtorEq, and_self, and_true, true_and, if_s_non, if_s_bl, if_s_int, if_s_str, if_s_tup, if_s_lst, if_i_non, if_i_bl, if_i_int, if_i_str, if_i_tup, if_i_lst, if_b_non, if_b_bl, if_b_int, if_b_str, if_b_tup, if_b_lst, if_t_non, if_t_bl, if_t_int, if_t_str, if_t_tup, if_t_lst, if_l_non, if_l_bl, if_l_int, if_l_str, if_l_tup, if_l_lst, if_lt2_non, if_lt2_bl, if_lt2_int, if_lt2_str, if_lt2_tup, if_lt2_lst, mRaise, mTryAs, tryOut, mXf, mIsE, mLenO, mGetO, mIxSet, mSwapIx, ixSt, mNeg, isFO, gIns, SO.foX, SO.foJ, one_self, is1_self, at1_self, noRefAt, List.all_cons, List.all_nil, Sl.noBox, D.flat, Bool.and_self, Bool.and_true, Bool.true_and, List.zip_cons_cons, List.zip_nil_right, mTru, List.contains_nil, mIE, mIZ, mBrk, mCnt, decide_true, decide_false, Bool.false_eq_true, Bool.not_eq_true, hL, c1, c2, nt, hc, b1]
    · simp only [mSeq, mSet, mRet, mRetN, mIf, mExp, mBad, mNext, mPar, W.sl, mFor, Out.bindS, MX.bind, Out.bind, mK, mVar, mFz, mFf, mOp, mTest, mNotT, mNotV, mAndT, mOrT, mAndV, mOrV, mIfE, mChain, mNil, mCons, mTup, mLst, mCB, mFld, mFldSet, mCallP, mCallB, mMethP, mMakeP, mMut, mSl, mPart, mNoPart, mIsi, mIL, mIT, mIR, mIEn, mIS, mBGet, mBSet, mNewBox, mComp, mYes, Out.bindN, bindA, env0, envA, envI, FO.outP, FO.outL, FO.out, SO.fo0, SO.foF, SO.foI, lensW, lensL, resO_some, Rs.w_v, Rs.w_f, W.rd_v, W.rd_t, W.rd_f, W.rd_l, W.kp_v, List.mapM_cons, List.mapM_nil, Option.bind_eq_bind, Option.bind_some, Option.pure_def, Option.map_some, List.replicate_succ, List.replicate_zero, List.cons_append, List.nil_append, List.getElem?_cons_zero, List.getElem?_cons_succ, List.set_cons_zero, List.set_cons_succ, rb, ri, fI, fC, fAdd, fSub, fMod, fMul, fDiv, fIx, fIsN, fNotN, D.isN, cl_lst, cl_tup, cInt, cTup, cList, gApp, gN, gT, gsC, gsN, Sl.isRef, if_true, if_false, if_pos, List.length_cons, List.length_nil, Bx.at, Bx.put, List.any_cons, List.any_nil, Bool.not_true, Bool.not_false, Nat.reduceAdd, Nat.reduceLeDiff, reduceIte, reduceCtorEq, and_self, and_true, true_and, if_s_non, if_s_bl, if_s_int, if_s_str, if_s_tup, if_s_lst, if_i_non, if_i_bl, if_i_int, if_i_str, if_i_tup, if_i_lst, if_b_non, if_b_bl, if_b_int, if_b_str, if_b_tup, if_b_lst, if_t_non, if_t_bl, if_t_int, if_t_str, if_t_tup, if_t_lst, if_l_non, if_l_bl, if_l_int, if_l_str, if_l_tup, if_l_lst, if_lt2_non, if_lt2_bl, if_lt2_int, if_lt2_str, if_lt2_tup, if_lt2_lst, mRaise, mTryAs, tryOut, mXf, mIsE, mLenO, mGetO, mIxSet, mSwapIx, ixSt, mNeg, isFO, gIns, SO.foX, SO.foJ, one_self, is1_self, at1_self, noRefAt, List.all_cons, List.all_nil, Sl.noBox, D.flat, Bool.and_self, Bool.and_true, Bool.true_and, List.zip_cons_cons, List.zip_nil_right, mTru, List.contains_nil, mIE, mIZ, mBrk, mCnt, decide_true, decide_false, Bool.false_eq_true, Bool.not_eq_true, hL, c1, c2]
      rfl
  · simp only [mSeq, mSet, mRet, mRetN, mIf, mExp, mBad, mNext, mPar, W.sl, mFor, Out.bindS, MX.bind, Out.bind, mK, mVar, mFz, mFf, mOp, mTest, mNotT, mNotV, mAndT, mOrT, mAndV, mOrV, mIfE, mChain, mNil, mCons, mTup, mLst, mCB, mFld, mFldSet, mCallP, mCallB, mMethP, mMakeP, mMut, mSl, mPart, mNoPart, mIsi, mIL, mIT, mIR, mIEn, mIS, mBGet, mBSet, mNewBox, mComp, mYes, Out.bindN, bindA, env0, envA, envI, FO.outP, FO.outL, FO.out, SO.fo0, SO.foF, SO.foI, lensW, lensL, resO_some, Rs.w_v, Rs.w_f, W.rd_v, W.rd_t, W.rd_f, W.rd_l, W.kp_v, List.mapM_cons, List.mapM_nil, Option.bind_eq_bind, Option.bind_some, Option.pure_def, Option.map_some, List.replicate_succ, List.replicate_zero, List.cons_append, List.nil_append, List.getElem?_cons_zero, List.getElem?_cons_succ, List.set_cons_zero, List.set_cons_succ, rb, ri, fI, fC, fAdd, fSub, fMod, fMul, fDiv, fIx, fIsN, fNotN, D.isN, cl_lst, cl_tup, cInt, cTup, cList, gApp, gN, gT, gsC, gsN, Sl.isRef, if_true, if_false, if_pos, List.length_cons, List.length_nil, Bx.at, Bx.put, List.any_cons, List.any_nil, Bool.not_true, Bool.not_false, Nat.reduceAdd, Nat.reduceLeDiff, reduceIte, reduceCtorEq, and_self, and_true, true_and, if_s_non, if_s_bl, if_s_int, if_s_str, if_s_tup, if_s_lst, if_i_non, if_i_bl, if_i_int, if_i_str, if_i_tup, if_i_lst, if_b_non, if_b_bl, if_b_int, if_b_str, if_b_tup, if_b_lst, if_t_non, if_t_bl, if_t_int, if_t_str, if_t_tup, if_t_lst, if_l_non, if_l_bl, if_l_int, if_l_str, if_l_tup, if_l_lst, if_lt2_non, if_lt2_bl, if_lt2_int, if_lt2_str, if_lt2_tup, if_lt2_lst, mRaise, mTryAs, tryOut, mXf, mIsE, mLenO, mGetO, mIxSet, mSwapIx, ixSt, mNeg, isFO, gIns, SO.foX, SO.foJ, one_self, is1_self, at1_self, noRefAt, List.all_cons, List.all_nil, Sl.noBox, D.flat, Bool.and_self, Bool.and_true, Bool.true_and, List.zip_cons_cons, List.zip_nil_right, mTru, List.contains_nil, mIE, mIZ, mBrk, mCnt, decide_true, decide_false, Bool.false_eq_true, Bool.not_eq_true, hL, c1]
    rfl
theorem name_no (T : Tx K mg) (d : D) (h : ∀ x, d ≠ .str x) (h0 : fl0 d = true) : f_is_name T [d] () = .ok (.bl false) () := by
  unfold f_is_name m_is_name
  cases d with
  | str x => exact absurd rfl (h x)
  | ins C ns ds => cases h0
  | _ => simp only [mSeq, mSet, mRet, mRetN, mIf, mExp, mBad, mNext, mPar, W.sl, mFor, Out.bindS, MX.bind, Out.bind, mK, mVar, mFz, mFf, mOp, mTest, mNotT, mNotV, mAndT, mOrT, mAndV, mOrV, mIfE, mChain, mNil, mCons, mTup, mLst, mCB, mFld, mFldSet, mCallP, mCallB, mMethP, mMakeP, mMut, mSl, mPart, mNoPart, mIsi, mIL, mIT, mIR, mIEn, mIS, mBGet, mBSet, mNewBox, mComp, mYes, Out.bindN, bindA, env0, envA, envI, FO.outP, FO.outL, FO.out, SO.fo0, SO.foF, SO.foI, lensW, lensL, resO_some, Rs.w_v, Rs.w_f, W.rd_v, W.rd_t, W.rd_f, W.rd_l, W.kp_v, List.mapM_cons, List.mapM_nil, Option.bind_eq_bind, Option.bind_some, Option.pure_def, Option.map_some, List.replicate_succ, List.replicate_zero, List.cons_append, List.nil_append, List.getElem?_cons_zero, List.getElem?_cons_succ, List.set_cons_zero, List.set_cons_succ, rb, ri, fI, fC, fAdd, fSub, fMod, fMul, fDiv, fIx, fIsN, fNotN, D.isN, cl_lst, cl_tup, cInt, cTup, cList, gApp, gN, gT, gsC, gsN, Sl.isRef, if_true, if_false, if_pos, List.length_cons, List.length_nil, Bx.at, Bx.put, List.any_cons, List.any_nil, Bool.not_true, Bool.not_false, Nat.reduceAdd, Nat.reduceLeDiff, reduceIte, reduceCtorEq, and_self, and_true, true_and, if_s_non, if_s_bl, if_s_int, if_s_str, if_s_tup, if_s_lst, if_i_non, if_i_bl, if_i_int, if_i_str, if_i_tup, if_i_lst, if_b_non, if_b_bl, if_b_int, if_b_str, if_b_tup, if_b_lst, if_t_non, if_t_bl, if_t_int, if_t_str, if_t_tup, if_t_lst, if_l_non, if_l_bl, if_l_int, if_l_str, if_l_tup, if_l_lst, if_lt2_non, if_lt2_bl, if_lt2_int, if_lt2_str, if_lt2_tup, if_lt2_lst, mRaise, mTryAs, tryOut, mXf, mIsE, mLenO, mGetO, mIxSet, mSwapIx, ixSt, mNeg, isFO, gIns, SO.foX, SO.foJ, one_self, is1_self, at1_self, noRefAt, List.all_cons, List.all_nil, Sl.noBox, D.flat, Bool.and_self, Bool.and_true, Bool.true_and, List.zip_cons_cons, List.zip_nil_right, mTru, List.contains_nil, mIE, mIZ, mBrk, mCnt, decide_true, decide_false, Bool.false_eq_true, Bool.not_eq_true]
/-- a row of an edition -/
def isNum : D → Bool
  | .int i => decide (0 ≤ i)
  | _ => false
def isEl : D → Bool
  | .non => true
  | e => isNum e
def isP : D → Bool
  | .tup [.str x, e] => nm x && isEl e
  | _ => false
theorem isP2 (a e : D) : isP (.tup [a, e]) = match a with
    | .str x => nm x && isEl e
    | _ => false := by cases a <;> rfl
theorem isP_no {ds : List D} (h : ds.length ≠ 2) : isP (.tup ds) = false := by
  match ds, h with
  | [], _ => rfl
  | [a], _ => cases a <;> rfl
  | [a, b], h => exact absurd rfl h
  | a :: b :: c :: ds, _ => cases a <;> rfl
theorem number_sp (T : Tx K mg) (e : D) (h0 : fl0 e = true) : f_is_number T [e] () = .ok (.bl (isNum e)) () := by
  unfold f_is_number m_is_number
  cases e with
  | ins C ns ds => cases h0
  | _ => simp only [mSeq, mSet, mRet, mRetN, mIf, mExp, mBad, mNext, mPar, W.sl, mFor, Out.bindS, MX.bind, Out.bind, mK, mVar, mFz, mFf, mOp, mTest, mNotT, mNotV, mAndT, mOrT, mAndV, mOrV, mIfE, mChain, mNil, mCons, mTup, mLst, mCB, mFld, mFldSet, mCallP, mCallB, mMethP, mMakeP, mMut, mSl, mPart, mNoPart, mIsi, mIL, mIT, mIR, mIEn, mIS, mBGet, mBSet, mNewBox, mComp, mYes, Out.bindN, bindA, env0, envA, envI, FO.outP, FO.outL, FO.out, SO.fo0, SO.foF, SO.foI, lensW, lensL, resO_some, Rs.w_v, Rs.w_f, W.rd_v, W.rd_t, W.rd_f, W.rd_l, W.kp_v, List.mapM_cons, List.mapM_nil, Option.bind_eq_bind, Option.bind_some, Option.pure_def, Option.map_some, List.replicate_succ, List.replicate_zero, List.cons_append, List.nil_append, List.getElem?_cons_zero, List.getElem?_cons_succ, List.set_cons_zero, List.set_cons_succ, rb, ri, fI, fC, fAdd, fSub, fMod, fMul, fDiv, fIx, fIsN, fNotN, D.isN, cl_lst, cl_tup, cInt, cTup, cList, gApp, gN, gT, gsC, gsN, Sl.isRef, if_true, if_false, if_pos, List.length_cons, List.length_nil, Bx.at, Bx.put, List.any_cons, List.any_nil, Bool.not_true, Bool.not_false, Nat.reduceAdd, Nat.reduceLeDiff, reduceIte, reduceCtorEq, and_self, and_true, true_and, if_s_non, if_s_bl, if_s_int, if_s_str, if_s_tup, if_s_lst, if_i_non, if_i_bl, if_i_int, if_i_str, if_i_tup, if_i_lst, if_b_non, if_b_bl, if_b_int, if_b_str, if_b_tup, if_b_lst, if_t_non, if_t_bl, if_t_int, if_t_str, if_t_tup, if_t_lst, if_l_non, if_l_bl, if_l_int, if_l_str, if_l_tup, if_l_lst, if_lt2_non, if_lt2_bl, if_lt2_int, if_lt2_str, if_lt2_tup, if_lt2_lst, mRaise, mTryAs, tryOut, mXf, mIsE, mLenO, mGetO, mIxSet, mSwapIx, ixSt, mNeg, isFO, gIns, SO.foX, SO.foJ, one_self, is1_self, at1_self, noRefAt, List.all_cons, List.all_nil, Sl.noBox, D.flat, Bool.and_self, Bool.and_true, Bool.true_and, List.zip_cons_cons, List.zip_nil_right, mTru, List.contains_nil, mIE, mIZ, mBrk, mCnt, decide_true, decide_false, Bool.false_eq_true, Bool.not_eq_true, isNum]
theorem two_of_len {ds : List D} (h : ds.length = 2) : ∃ a e, ds = [a, e] := by
  match ds, h with
  | [a, e], _ => exact ⟨a, e, rfl⟩
theorem pair_sp (T : Tx K mg) (d : D) (h1 : fl1 d = true) : f__is_pair T [d] () = .ok (.bl (isP d)) () := by
  unfold f__is_pair m__is_pair
  cases d with
  | tup ds =>
    have ne := ne_int ds.length 2
    by_cases hl : ds.length = 2
    · have hl' : ((ds.length : Int) = 2) = True := by rw [hl]; simp
      simp only [hl', decide_true, Bool.not_true] at ne
      obtain ⟨a, e, rfl⟩ := two_of_len hl
      have ha : fl0 a = true := by simp [fl1] at h1; exact h1.1
      have he : fl0 e = true := by simp [fl1] at h1; exact h1.2
      have hn := number_sp T e he
      have i0 : atI [a, e] 0 = some a := rfl
      have i1 : atI [a, e] 1 = some e := rfl
      rw [isP2]
      generalize hd : ([a, e] : List D) = ds at *
      cases a with
      | str x =>
        have hx : x.length ≤ 10 := of_decide_eq_true ha
        have hm := name_sp T x hx
        cases hc : nm x with
        | false =>
          rw [hc] at hm
          simp only [mSeq, mSet, mRet, mRetN, mIf, mExp, mBad, mNext, mPar, W.sl, mFor, Out.bindS, MX.bind, Out.bind, mK, mVar, mFz, mFf, mOp, mTest, mNotT, mNotV, mAndT, mOrT, mAndV, mOrV, mIfE, mChain, mNil, mCons, mTup, mLst, mCB, mFld, mFldSet, mCallP, mCallB, mMethP, mMakeP, mMut, mSl, mPart, mNoPart, mIsi, mIL, mIT, mIR, mIEn, mIS, mBGet, mBSet, mNewBox, mComp, mYes, Out.bindN, bindA, env0, envA, envI, FO.outP, FO.outL, FO.out, SO.fo0, SO.foF, SO.foI, lensW, lensL, resO_some, Rs.w_v, Rs.w_f, W.rd_v, W.rd_t, W.rd_f, W.rd_l, W.kp_v, List.mapM_cons, List.mapM_nil, Option.bind_eq_bind, Option.bind_some, Option.pure_def, Option.map_some, List.replicate_succ, List.replicate_zero, List.cons_append, List.nil_append, List.getElem?_cons_zero, List.getElem?_cons_succ, List.set_cons_zero, List.set_cons_succ, rb, ri, fI, fC, fAdd, fSub, fMod, fMul, fDiv, fIx, fIsN, fNotN, D.isN, cl_lst, cl_tup, cInt, cTup, cList, gApp, gN, gT, gsC, gsN, Sl.isRef, if_true, if_false, if_pos, List.length_cons, List.length_nil, Bx.at, Bx.put, List.any_cons, List.any_nil, Bool.not_true, Bool.not_false, Nat.reduceAdd, Nat.reduceLeDiff, reduceIte, reduceCtorEq, and_self, and_true, true_and, if_s_non, if_s_bl, if_s_int, if_s_str, if_s_tup, if_s_lst, if_i_non, if_i_bl, if_i_int, if_i_str, if_i_tup, if_i_lst, if_b_non, if_b_bl, if_b_int, if_b_str, if_b_tup, if_b_lst, if_t_non, if_t_bl, if_t_int, if_t_str, if_t_tup, if_t_lst, if_l_non, if_l_bl, if_l_int, if_l_str, if_l_tup, if_l_lst, if_lt2_non, if_lt2_bl, if_lt2_int, if_lt2_str, if_lt2_tup, if_lt2_lst, mRaise, mTryAs, tryOut, mXf, mIsE, mLenO, mGetO, mIxSet, mSwapIx, ixSt, mNeg, isFO, gIns, SO.foX, SO.foJ, one_self, is1_self, at1_self, noRefAt, List.all_cons, List.all_nil, Sl.noBox, D.flat, Bool.and_self, Bool.and_true, Bool.true_and, List.zip_cons_cons, List.zip_nil_right, mTru, List.contains_nil, mIE, mIZ, mBrk, mCnt, decide_true, decide_false, Bool.false_eq_true, Bool.not_eq_true, ne, i0, hm, hc, Bool.false_and]
        | true =>
          rw [hc] at hm
          cases e with
          | ins C ns ds => cases he
          | _ => simp only [mSeq, mSet, mRet, mRetN, mIf, mExp, mBad, mNext, mPar, W.sl, mFor, Out.bindS, MX.bind, Out.bind, mK, mVar, mFz, mFf, mOp, mTest, mNotT, mNotV, mAndT, mOrT, mAndV, mOrV, mIfE, mChain, mNil, mCons, mTup, mLst, mCB, mFld, mFldSet, mCallP, mCallB, mMethP, mMakeP, mMut, mSl, mPart, mNoPart, mIsi, mIL, mIT, mIR, mIEn, mIS, mBGet, mBSet, mNewBox, mComp, mYes, Out.bindN, bindA, env0, envA, envI, FO.outP, FO.outL, FO.out, SO.fo0, SO.foF, SO.foI, lensW, lensL, resO_some, Rs.w_v, Rs.w_f, W.rd_v, W.rd_t, W.rd_f, W.rd_l, W.kp_v, List.mapM_cons, List.mapM_nil, Option.bind_eq_bind, Option.bind_some, Option.pure_def, Option.map_some, List.replicate_succ, List.replicate_zero, List.cons_append, List.nil_append, List.getElem?_cons_zero, List.getElem?_cons_succ, List.set_cons_zero, List.set_cons_succ, rb, ri, fI, fC, fAdd, fSub, fMod, fMul, fDiv, fIx, fIsN, fNotN, D.isN, cl_lst, cl_tup, cInt, cTup, cList, gApp, gN, gT, gsC, gsN, Sl.isRef, if_true, if_false, if_pos, List.length_cons, List.length_nil, Bx.at, Bx.put, List.any_cons, List.any_nil, Bool.not_true, Bool.not_false, Nat.reduceAdd, Nat.reduceLeDiff, reduceIte, reduceCtorEq, and_self, and_true, true_and, if_s_non, if_s_bl, if_s_int, if_s_str, if_s_tup, if_s_lst, if_i_non, if_i_bl, if_i_int, if_i_str, if_i_tup, if_i_lst, if_b_non, if_b_bl, if_b_int, if_b_str, if_b_tup, if_b_lst, if_t_non, if_t_bl, if_t_int, if_t_str, if_t_tup, if_t_lst, if_l_non, if_l_bl, if_l_int, if_l_str, if_l_tup, if_l_lst, if_lt2_non, if_lt2_bl, if_lt2_int, if_lt2_str, if_lt2_tup, if_lt2_lst, mRaise, mTryAs, tryOut, mXf, mIsE, mLenO, mGetO, mIxSet, mSwapIx, ixSt, mNeg, isFO, gIns, SO.foX, SO.foJ, one_self, is1_self, at1_self, noRefAt, List.all_cons, List.all_nil, Sl.noBox, D.flat, Bool.and_self, Bool.and_true, Bool.true_and, List.zip_cons_cons, List.zip_nil_right, mTru, List.contains_nil, mIE, mIZ, mBrk, mCnt, decide_true, decide_false, Bool.false_eq_true, Bool.not_eq_true, ne, i0, i1, hm, hn, hc, Bool.true_and, isEl]
      | ins C ns ds => cases ha
      | _ =>
        have hm := name_no T _ (fun x z => by cases z) ha
        simp only [mSeq, mSet, mRet, mRetN, mIf, mExp, mBad, mNext, mPar, W.sl, mFor, Out.bindS, MX.bind, Out.bind, mK, mVar, mFz, mFf, mOp, mTest, mNotT, mNotV, mAndT, mOrT, mAndV, mOrV, mIfE, mChain, mNil, mCons, mTup, mLst, mCB, mFld, mFldSet, mCallP, mCallB, mMethP, mMakeP, mMut, mSl, mPart, mNoPart, mIsi, mIL, mIT, mIR, mIEn, mIS, mBGet, mBSet, mNewBox, mComp, mYes, Out.bindN, bindA, env0, envA, envI, FO.outP, FO.outL, FO.out, SO.fo0, SO.foF, SO.foI, lensW, lensL, resO_some, Rs.w_v, Rs.w_f, W.rd_v, W.rd_t, W.rd_f, W.rd_l, W.kp_v, List.mapM_cons, List.mapM_nil, Option.bind_eq_bind, Option.bind_some, Option.pure_def, Option.map_some, List.replicate_succ, List.replicate_zero, List.cons_append, List.nil_append, List.getElem?_cons_zero, List.getElem?_cons_succ, List.set_cons_zero, List.set_cons_succ, rb, ri, fI, fC, fAdd, fSub, fMod, fMul, fDiv, fIx, fIsN, fNotN, D.isN, cl_lst, cl_tup, cInt, cTup, cList, gApp, gN, gT, gsC, gsN, Sl.isRef, if_true, if_false, if_pos, List.length_cons, List.length_nil, Bx.at, Bx.put, List.any_cons, List.any_nil, Bool.not_true, Bool.not_false, Nat.reduceAdd, Nat.reduceLeDiff, reduceIte, reduceCtorEq, and_self, and_true, true_and, if_s_non, if_s_bl, if_s_int, if_s_str, if_s_tup, if_s_lst, if_i_non, if_i_bl, if_i_int, if_i_str, if_i_tup, if_i_lst, if_b_non, if_b_bl, if_b_int, if_b_str, if_b_tup, if_b_lst, if_t_non, if_t_bl, if_t_int, if_t_str, if_t_tup, if_t_lst, if_l_non, if_l_bl, if_l_int, if_l_str, if_l_tup, if_l_lst, if_lt2_non, if_lt2_bl, if_lt2_int, if_lt2_str, if_lt2_tup, if_lt2_lst, mRaise, mTryAs, tryOut, mXf, mIsE, mLenO, mGetO, mIxSet, mSwapIx, ixSt, mNeg, isFO, gIns, SO.foX, SO.foJ, one_self, is1_self, at1_self, noRefAt, List.all_cons, List.all_nil, Sl.noBox, D.flat, Bool.and_self, Bool.and_true, Bool.true_and, List.zip_cons_cons, List.zip_nil_right, mTru, List.contains_nil, mIE, mIZ, mBrk, mCnt, decide_true, decide_false, Bool.false_eq_true, Bool.not_eq_true, ne, i0, hm]
    · have hl' : ((ds.length : Int) = 2) = False := by simp; omega
      simp only [hl', decide_false, Bool.not_false] at ne
      rw [isP_no hl]
      simp only [mSeq, mSet, mRet, mRetN, mIf, mExp, mBad, mNext, mPar, W.sl, mFor, Out.bindS, MX.bind, Out.bind, mK, mVar, mFz, mFf, mOp, mTest, mNotT, mNotV, mAndT, mOrT, mAndV, mOrV, mIfE, mChain, mNil, mCons, mTup, mLst, mCB, mFld, mFldSet, mCallP, mCallB, mMethP, mMakeP, mMut, mSl, mPart, mNoPart, mIsi, mIL, mIT, mIR, mIEn, mIS, mBGet, mBSet, mNewBox, mComp, mYes, Out.bindN, bindA, env0, envA, envI, FO.outP, FO.outL, FO.out, SO.fo0, SO.foF, SO.foI, lensW, lensL, resO_some, Rs.w_v, Rs.w_f, W.rd_v, W.rd_t, W.rd_f, W.rd_l, W.kp_v, List.mapM_cons, List.mapM_nil, Option.bind_eq_bind, Option.bind_some, Option.pure_def, Option.map_some, List.replicate_succ, List.replicate_zero, List.cons_append, List.nil_append, List.getElem?_cons_zero, List.getElem?_cons_succ, List.set_cons_zero, List.set_cons_succ, rb, ri, fI, fC, fAdd, fSub, fMod, fMul, fDiv, fIx, fIsN, fNotN, D.isN, cl_lst, cl_tup, cInt, cTup, cList, gApp, gN, gT, gsC, gsN, Sl.isRef, if_true, if_false, if_pos, List.length_cons, List.length_nil, Bx.at, Bx.put, List.any_cons, List.any_nil, Bool.not_true, Bool.not_false, Nat.reduceAdd, Nat.reduceLeDiff, reduceIte, reduceCtorEq, and_self, and_true, true_and, if_s_non, if_s_bl, if_s_int, if_s_str, if_s_tup, if_s_lst, if_i_non, if_i_bl, if_i_int, if_i_str, if_i_tup, if_i_lst, if_b_non, if_b_bl, if_b_int, if_b_str, if_b_tup, if_b_lst, if_t_non, if_t_bl, if_t_int, if_t_str, if_t_tup, if_t_lst, if_l_non, if_l_bl, if_l_int, if_l_str, if_l_tup, if_l_lst, if_lt2_non, if_lt2_bl, if_lt2_int, if_lt2_str, if_lt2_tup, if_lt2_lst, mRaise, mTryAs, tryOut, mXf, mIsE, mLenO, mGetO, mIxSet, mSwapIx, ixSt, mNeg, isFO, gIns, SO.foX, SO.foJ, one_self, is1_self, at1_self, noRefAt, List.all_cons, List.all_nil, Sl.noBox, D.flat, Bool.and_self, Bool.and_true, Bool.true_and, List.zip_cons_cons, List.zip_nil_right, mTru, List.contains_nil, mIE, mIZ, mBrk, mCnt, decide_true, decide_false, Bool.false_eq_true, Bool.not_eq_true, ne]
  | ins C ns ds => cases h1
  | _ => simp only [mSeq, mSet, mRet, mRetN, mIf, mExp, mBad, mNext, mPar, W.sl, mFor, Out.bindS, MX.bind, Out.bind, mK, mVar, mFz, mFf, mOp, mTest, mNotT, mNotV, mAndT, mOrT, mAndV, mOrV, mIfE, mChain, mNil, mCons, mTup, mLst, mCB, mFld, mFldSet, mCallP, mCallB, mMethP, mMakeP, mMut, mSl, mPart, mNoPart, mIsi, mIL, mIT, mIR, mIEn, mIS, mBGet, mBSet, mNewBox, mComp, mYes, Out.bindN, bindA, env0, envA, envI, FO.outP, FO.outL, FO.out, SO.fo0, SO.foF, SO.foI, lensW, lensL, resO_some, Rs.w_v, Rs.w_f, W.rd_v, W.rd_t, W.rd_f, W.rd_l, W.kp_v, List.mapM_cons, List.mapM_nil, Option.bind_eq_bind, Option.bind_some, Option.pure_def, Option.map_some, List.replicate_succ, List.replicate_zero, List.cons_append, List.nil_append, List.getElem?_cons_zero, List.getElem?_cons_succ, List.set_cons_zero, List.set_cons_succ, rb, ri, fI, fC, fAdd, fSub, fMod, fMul, fDiv, fIx, fIsN, fNotN, D.isN, cl_lst, cl_tup, cInt, cTup, cList, gApp, gN, gT, gsC, gsN, Sl.isRef, if_true, if_false, if_pos, List.length_cons, List.length_nil, Bx.at, Bx.put, List.any_cons, List.any_nil, Bool.not_true, Bool.not_false, Nat.reduceAdd, Nat.reduceLeDiff, reduceIte, reduceCtorEq, and_self, and_true, true_and, if_s_non, if_s_bl, if_s_int, if_s_str, if_s_tup, if_s_lst, if_i_non, if_i_bl, if_i_int, if_i_str, if_i_tup, if_i_lst, if_b_non, if_b_bl, if_b_int, if_b_str, if_b_tup, if_b_lst, if_t_non, if_t_bl, if_t_int, if_t_str, if_t_tup, if_t_lst, if_l_non, if_l_bl, if_l_int, if_l_str, if_l_tup, if_l_lst, if_lt2_non, if_lt2_bl, if_lt2_int, if_lt2_str, if_lt2_tup, if_lt2_lst, mRaise, mTryAs, tryOut, mXf, mIsE, mLenO, mGetO, mIxSet, mSwapIx, ixSt, mNeg, isFO, gIns, SO.foX, SO.foJ, one_self, is1_self, at1_self, noRefAt, List.all_cons, List.all_nil, Sl.noBox, D.flat, Bool.and_self, Bool.and_true, Bool.true_and, List.zip_cons_cons, List.zip_nil_right, mTru, List.contains_nil, mIE, mIZ, mBrk, mCnt, decide_true, decide_false, Bool.false_eq_true, Bool.not_eq_true, isP]
end
end ledmarks_k13_editions_made

namespace ledmarks_k13_editions_made
open PySem L2 LM
section
variable {K : PySem.W.Frag} {mg : Str → Option Value}
def snd : D → D
  | .tup [_, e] => e
  | _ => .non
def fwS : List D → Nat → List D → Option Nat
  | [], _, _ => none
  | d :: ds, k, us => if !(isP d) || inD (snd d) us then some k else fwS ds (k + 1) (if (snd d).isN then us else us ++ [snd d])
def lwS : List D → Nat → List D → Option Nat
  | [], _, _ => none
  | d :: ds, k, us => if !(isP d) || (!(snd d).isN && inD (snd d) us) then some k else lwS ds (k + 1) (us ++ [snd d])
def resD : Option Nat → D
  | none => .non
  | some k => .int k
theorem isP_at {d : D} (h : isP d = true) : ∃ x e, d = .tup [.str x, e] ∧ nm x = true ∧ isEl e = true := by
  unfold isP at h
  split at h
  · rename_i x e
    rw [Bool.and_eq_true] at h
    exact ⟨x, e, rfl, h.1, h.2⟩
  · cases h
theorem isEl_at {e : D} (h : isEl e = true) : e = .non ∨ ∃ i, e = .int i ∧ 0 ≤ i := by
  cases e with
  | non => exact .inl rfl
  | int i => exact .inr ⟨i, rfl, of_decide_eq_true h⟩
  | _ => cases h
def enumK (k : Nat) (ds : List D) : List D := (ds.zipIdx k).map fun p => .tup [.int (p.2 : Nat), p.1]
theorem enumK_cons (k : Nat) (d : D) (ds : List D) : enumK k (d :: ds) = .tup [.int (k : Nat), d] :: enumK (k + 1) ds := rfl
theorem enumK_0 (ds : List D) : enumD ds = enumK 0 ds := rfl
theorem pys_any (p : PyData → Bool) : ∀ ds : List D, (pys ds).any p = ds.any fun d => p d.py
  | [] => rfl
  | d :: ds => by rw [pys, List.any_cons, List.any_cons, pys_any p ds]
theorem inD_eq (d : D) (ds : List D) : inD d ds = ds.any fun y => PyData.eqv y.py d.py := pys_any _ ds
theorem in_ok {e : D} {us : List D} (he : e.ok 60 = true) (hu : oks 60 us = true) : fIn e (.lst us) = some (.v (.bl (inD e us))) := by
  simp only [fIn, D.items, he, hu, Bool.and_self, if_true, rb]
theorem ok_el {e : D} (h : isEl e = true) : e.ok 60 = true := by
  rcases isEl_at h with rfl | ⟨i, rfl, _⟩ <;> rfl
/-- the two searches are one -/
theorem lw_fw : ∀ (ds : List D) (k : Nat) (us : List D), (∀ u ∈ us, isEl u = true) → lwS ds k us = fwS ds k (us.filter fun u => !u.isN)
  | [], _, _, _ => rfl
  | d :: ds, k, us, hu => by
    unfold lwS fwS
    cases hp : isP d with
    | false => simp
    | true =>
      obtain ⟨x, e, rfl, h1, h2⟩ := isP_at hp
      have ih := lw_fw ds (k + 1) (us ++ [e]) (fun u hm => by
        rcases List.mem_append.mp hm with hm | hm
        · exact hu u hm
        · rw [List.mem_singleton.mp hm]; exact h2)
      simp only [snd, Bool.not_true, Bool.false_or]
      rw [ih, List.filter_append]
      rcases isEl_at h2 with rfl | ⟨i, rfl, _⟩
      · have e1 : inD .non (us.filter fun u => !u.isN) = false := by
          rw [inD_eq, List.any_eq_false]
          intro y hy
          obtain ⟨hy1, hy2⟩ := List.mem_filter.mp hy
          rcases isEl_at (hu y hy1) with rfl | ⟨i, rfl, _⟩
          · cases hy2
          · simp [D.py, PyData.eqv]
        have e2 : ([D.non].filter fun u => !u.isN) = [] := rfl
        have n0 : D.non.isN = true := rfl
        simp [n0, e1, e2]
      · have e1 : inD (.int i) (us.filter fun u => !u.isN) = inD (.int i) us := by
          rw [inD_eq, inD_eq]
          clear ih
          induction us with
          | nil => rfl
          | cons u us ih =>
            have ih := ih fun u hm => hu u (List.mem_cons_of_mem _ hm)
            rcases isEl_at (hu u List.mem_cons_self) with rfl | ⟨j, rfl, _⟩
            · have e3 : (D.non :: us).filter (fun u => !u.isN) = us.filter fun u => !u.isN := rfl
              rw [e3, ih, List.any_cons]
              simp [D.py, PyData.eqv]
            · have e3 : (D.int j :: us).filter (fun u => !u.isN) = .int j :: us.filter fun u => !u.isN := rfl
              rw [e3, List.any_cons, List.any_cons, ih]
        have e2 : ([D.int i].filter fun u => !u.isN) = [.int i] := rfl
        have n1 : (D.int i).isN = false := rfl
        simp [n1, e1, e2]
theorem vl_r {d : D} : (Sl.val d).isRef = false := rfl
/-- the program's search -/
theorem fw_loop (T : Tx K mg) (c : D) : ∀ (ds : List D) (k : Nat) (us : List D) (a b : Sl), (∀ d ∈ ds, fl1 d = true) → (∀ u ∈ us, isEl u = true) → us.length + ds.length ≤ 1000 → a.isRef = false → b.isRef = false →
    ∃ env', mForL (S := Unit) (gT 2 (gsC (gN 2) (gsC (gN 3) gsN))) (mSeq (mIf (mOrT (mNotT (mTest (mCallP [.v] (f__is_pair T) (mCons (mVar 3) mNil)))) (mTest (mOp fIn (mOp fIx (mVar 3) (mK (.int 1))) (mVar 1)))) (mRet (mVar 2)) mNext)
      (mIf (mTest (mOp fNotN (mOp fIx (mVar 3) (mK (.int 1))) (mK .non))) (mExp (mMut gApp (mVar 1) (mCons (mOp fIx (mVar 3) (mK (.int 1))) mNil))) mNext)) (enumK k ds) [.top c, .own us, a, b] () =
      match fwS ds k us with
      | none => .nx env' ()
      | some j => .rt (.int j) env' ()
  | [], k, us, a, b, _, _, _, _, _ => ⟨_, rfl⟩
  | d :: ds, k, us, a, b, h1, hu, hl, ha, hb => by
    have hd := h1 d List.mem_cons_self
    have hp := pair_sp T d hd
    rw [List.length_cons] at hl
    have hg : gT 2 (gsC (gN 2) (gsC (gN 3) gsN)) (.tup [.int (k : Nat), d]) [.top c, .own us, a, b] = some [.top c, .own us, .val (.int (k : Nat)), .val d] := by
      simp only [gT, gsC, gN, gsN, List.getElem?_cons_zero, List.getElem?_cons_succ, ha, hb, List.set_cons_succ, List.set_cons_zero, Option.bind_some, List.length_cons, List.length_nil, Nat.reduceAdd, if_true, Bool.false_eq_true, if_false]
    rw [enumK_cons]
    unfold mForL fwS
    rw [hg]
    generalize hkk : ((k : Nat) : Int) = kk
    cases hc : isP d with
    | false =>
      rw [hc] at hp
      refine ⟨[.top c, .own us, .val (.int kk), .val d], ?_⟩
      simp only [mSeq, mSet, mRet, mRetN, mIf, mExp, mBad, mNext, mPar, W.sl, mFor, Out.bindS, MX.bind, Out.bind, mK, mVar, mFz, mFf, mOp, mTest, mNotT, mNotV, mAndT, mOrT, mAndV, mOrV, mIfE, mChain, mNil, mCons, mTup, mLst, mCB, mFld, mFldSet, mCallP, mCallB, mMethP, mMakeP, mMut, mSl, mPart, mNoPart, mIsi, mIL, mIT, mIR, mIEn, mIS, mBGet, mBSet, mNewBox, mComp, mYes, Out.bindN, bindA, env0, envA, envI, FO.outP, FO.outL, FO.out, SO.fo0, SO.foF, SO.foI, lensW, lensL, resO_some, Rs.w_v, Rs.w_f, W.rd_v, W.rd_t, W.rd_f, W.rd_l, W.kp_v, List.mapM_cons, List.mapM_nil, Option.bind_eq_bind, Option.bind_some, Option.pure_def, Option.map_some, List.replicate_succ, List.replicate_zero, List.cons_append, List.nil_append, List.getElem?_cons_zero, List.getElem?_cons_succ, List.set_cons_zero, List.set_cons_succ, rb, ri, fI, fC, fAdd, fSub, fMod, fMul, fDiv, fIx, fIsN, fNotN, D.isN, cl_lst, cl_tup, cInt, cTup, cList, gApp, gN, gT, gsC, gsN, Sl.isRef, if_true, if_false, if_pos, List.length_cons, List.length_nil, Bx.at, Bx.put, List.any_cons, List.any_nil, Bool.not_true, Bool.not_false, Nat.reduceAdd, Nat.reduceLeDiff, reduceIte, reduceCtorEq, and_self, and_true, true_and, if_s_non, if_s_bl, if_s_int, if_s_str, if_s_tup, if_s_lst, if_i_non, if_i_bl, if_i_int, if_i_str, if_i_tup, if_i_lst, if_b_non, if_b_bl, if_b_int, if_b_str, if_b_tup, if_b_lst, if_t_non, if_t_bl, if_t_int, if_t_str, if_t_tup, if_t_lst, if_l_non, if_l_bl, if_l_int, if_l_str, if_l_tup, if_l_lst, if_lt2_non, if_lt2_bl, if_lt2_int, if_lt2_str, if_lt2_tup, if_lt2_lst, mRaise, mTryAs, tryOut, mXf, mIsE, mLenO, mGetO, mIxSet, mSwapIx, ixSt, mNeg, isFO, gIns, SO.foX, SO.foJ, one_self, is1_self, at1_self, noRefAt, List.all_cons, List.all_nil, Sl.noBox, D.flat, Bool.and_self, Bool.and_true, Bool.true_and, List.zip_cons_cons, List.zip_nil_right, mTru, List.contains_nil, mIE, mIZ, mBrk, mCnt, decide_true, decide_false, Bool.false_eq_true, Bool.not_eq_true, hp, hkk, Bool.true_or]
    | true =>
      rw [hc] at hp
      obtain ⟨x, e, rfl, _, he⟩ := isP_at hc
      have i1 : atI [D.str x, e] 1 = some e := rfl
      have hi := in_ok (ok_el he) (oks_of (n := 60) fun u hm => ok_el (hu u hm))
      cases hn : inD e us with
      | true =>
        rw [hn] at hi
        refine ⟨[.top c, .own us, .val (.int kk), .val (.tup [.str x, e])], ?_⟩
        simp only [mSeq, mSet, mRet, mRetN, mIf, mExp, mBad, mNext, mPar, W.sl, mFor, Out.bindS, MX.bind, Out.bind, mK, mVar, mFz, mFf, mOp, mTest, mNotT, mNotV, mAndT, mOrT, mAndV, mOrV, mIfE, mChain, mNil, mCons, mTup, mLst, mCB, mFld, mFldSet, mCallP, mCallB, mMethP, mMakeP, mMut, mSl, mPart, mNoPart, mIsi, mIL, mIT, mIR, mIEn, mIS, mBGet, mBSet, mNewBox, mComp, mYes, Out.bindN, bindA, env0, envA, envI, FO.outP, FO.outL, FO.out, SO.fo0, SO.foF, SO.foI, lensW, lensL, resO_some, Rs.w_v, Rs.w_f, W.rd_v, W.rd_t, W.rd_f, W.rd_l, W.kp_v, List.mapM_cons, List.mapM_nil, Option.bind_eq_bind, Option.bind_some, Option.pure_def, Option.map_some, List.replicate_succ, List.replicate_zero, List.cons_append, List.nil_append, List.getElem?_cons_zero, List.getElem?_cons_succ, List.set_cons_zero, List.set_cons_succ, rb, ri, fI, fC, fAdd, fSub, fMod, fMul, fDiv, fIx, fIsN, fNotN, D.isN, cl_lst, cl_tup, cInt, cTup, cList, gApp, gN, gT, gsC, gsN, Sl.isRef, if_true, if_false, if_pos, List.length_cons, List.length_nil, Bx.at, Bx.put, List.any_cons, List.any_nil, Bool.not_true, Bool.not_false, Nat.reduceAdd, Nat.reduceLeDiff, reduceIte, reduceCtorEq, and_self, and_true, true_and, if_s_non, if_s_bl, if_s_int, if_s_str, if_s_tup, if_s_lst, if_i_non, if_i_bl, if_i_int, if_i_str, if_i_tup, if_i_lst, if_b_non, if_b_bl, if_b_int, if_b_str, if_b_tup, if_b_lst, if_t_non, if_t_bl, if_t_int, if_t_str, if_t_tup, if_t_lst, if_l_non, if_l_bl, if_l_int, if_l_str, if_l_tup, if_l_lst, if_lt2_non, if_lt2_bl, if_lt2_int, if_lt2_str, if_lt2_tup, if_lt2_lst, mRaise, mTryAs, tryOut, mXf, mIsE, mLenO, mGetO, mIxSet, mSwapIx, ixSt, mNeg, isFO, gIns, SO.foX, SO.foJ, one_self, is1_self, at1_self, noRefAt, List.all_cons, List.all_nil, Sl.noBox, D.flat, Bool.and_self, Bool.and_true, Bool.true_and, List.zip_cons_cons, List.zip_nil_right, mTru, List.contains_nil, mIE, mIZ, mBrk, mCnt, decide_true, decide_false, Bool.false_eq_true, Bool.not_eq_true, hp, i1, hi, snd, hn, hkk, Bool.or_true]
      | false =>
        rw [hn] at hi
        rcases isEl_at he with rfl | ⟨i, rfl, h0⟩
        · obtain ⟨env', ih⟩ := fw_loop T c ds (k + 1) us (.val (.int kk)) (.val (.tup [.str x, .non])) (fun d hm => h1 d (List.mem_cons_of_mem _ hm)) hu (by omega) rfl rfl
          refine ⟨env', ?_⟩
          have n0 : D.non.isN = true := rfl
          simp only [snd, hn, n0, Bool.not_true, Bool.or_self, Bool.false_eq_true, if_false, if_true]
          rw [← ih]
          simp only [mSeq, mSet, mRet, mRetN, mIf, mExp, mBad, mNext, mPar, W.sl, mFor, Out.bindS, MX.bind, Out.bind, mK, mVar, mFz, mFf, mOp, mTest, mNotT, mNotV, mAndT, mOrT, mAndV, mOrV, mIfE, mChain, mNil, mCons, mTup, mLst, mCB, mFld, mFldSet, mCallP, mCallB, mMethP, mMakeP, mMut, mSl, mPart, mNoPart, mIsi, mIL, mIT, mIR, mIEn, mIS, mBGet, mBSet, mNewBox, mComp, mYes, Out.bindN, bindA, env0, envA, envI, FO.outP, FO.outL, FO.out, SO.fo0, SO.foF, SO.foI, lensW, lensL, resO_some, Rs.w_v, Rs.w_f, W.rd_v, W.rd_t, W.rd_f, W.rd_l, W.kp_v, List.mapM_cons, List.mapM_nil, Option.bind_eq_bind, Option.bind_some, Option.pure_def, Option.map_some, List.replicate_succ, List.replicate_zero, List.cons_append, List.nil_append, List.getElem?_cons_zero, List.getElem?_cons_succ, List.set_cons_zero, List.set_cons_succ, rb, ri, fI, fC, fAdd, fSub, fMod, fMul, fDiv, fIx, fIsN, fNotN, D.isN, cl_lst, cl_tup, cInt, cTup, cList, gApp, gN, gT, gsC, gsN, Sl.isRef, if_true, if_false, if_pos, List.length_cons, List.length_nil, Bx.at, Bx.put, List.any_cons, List.any_nil, Bool.not_true, Bool.not_false, Nat.reduceAdd, Nat.reduceLeDiff, reduceIte, reduceCtorEq, and_self, and_true, true_and, if_s_non, if_s_bl, if_s_int, if_s_str, if_s_tup, if_s_lst, if_i_non, if_i_bl, if_i_int, if_i_str, if_i_tup, if_i_lst, if_b_non, if_b_bl, if_b_int, if_b_str, if_b_tup, if_b_lst, if_t_non, if_t_bl, if_t_int, if_t_str, if_t_tup, if_t_lst, if_l_non, if_l_bl, if_l_int, if_l_str, if_l_tup, if_l_lst, if_lt2_non, if_lt2_bl, if_lt2_int, if_lt2_str, if_lt2_tup, if_lt2_lst, mRaise, mTryAs, tryOut, mXf, mIsE, mLenO, mGetO, mIxSet, mSwapIx, ixSt, mNeg, isFO, gIns, SO.foX, SO.foJ, one_self, is1_self, at1_self, noRefAt, List.all_cons, List.all_nil, Sl.noBox, D.flat, Bool.and_self, Bool.and_true, Bool.true_and, List.zip_cons_cons, List.zip_nil_right, mTru, List.contains_nil, mIE, mIZ, mBrk, mCnt, decide_true, decide_false, Bool.false_eq_true, Bool.not_eq_true, hp, i1, hi, hkk]
        · obtain ⟨env', ih⟩ := fw_loop T c ds (k + 1) (us ++ [.int i]) (.val (.int kk)) (.val (.tup [.str x, .int i])) (fun d hm => h1 d (List.mem_cons_of_mem _ hm)) (fun u hm => by
            rcases List.mem_append.mp hm with hm | hm
            · exact hu u hm
            · rw [List.mem_singleton.mp hm]; exact he) (by rw [List.length_append, List.length_singleton]; omega) rfl rfl
          refine ⟨env', ?_⟩
          have n0 : (D.int i).isN = false := rfl
          have hl2 : (us ++ [D.int i]).length ≤ 16777216 := by rw [List.length_append, List.length_singleton]; omega
          simp only [snd, hn, n0, Bool.not_true, Bool.or_self, Bool.false_eq_true, if_false, if_true]
          rw [← ih]
          simp only [mSeq, mSet, mRet, mRetN, mIf, mExp, mBad, mNext, mPar, W.sl, mFor, Out.bindS, MX.bind, Out.bind, mK, mVar, mFz, mFf, mOp, mTest, mNotT, mNotV, mAndT, mOrT, mAndV, mOrV, mIfE, mChain, mNil, mCons, mTup, mLst, mCB, mFld, mFldSet, mCallP, mCallB, mMethP, mMakeP, mMut, mSl, mPart, mNoPart, mIsi, mIL, mIT, mIR, mIEn, mIS, mBGet, mBSet, mNewBox, mComp, mYes, Out.bindN, bindA, env0, envA, envI, FO.outP, FO.outL, FO.out, SO.fo0, SO.foF, SO.foI, lensW, lensL, resO_some, Rs.w_v, Rs.w_f, W.rd_v, W.rd_t, W.rd_f, W.rd_l, W.kp_v, List.mapM_cons, List.mapM_nil, Option.bind_eq_bind, Option.bind_some, Option.pure_def, Option.map_some, List.replicate_succ, List.replicate_zero, List.cons_append, List.nil_append, List.getElem?_cons_zero, List.getElem?_cons_succ, List.set_cons_zero, List.set_cons_succ, rb, ri, fI, fC, fAdd, fSub, fMod, fMul, fDiv, fIx, fIsN, fNotN, D.isN, cl_lst, cl_tup, cInt, cTup, cList, gApp, gN, gT, gsC, gsN, Sl.isRef, if_true, if_false, if_pos, List.length_cons, List.length_nil, Bx.at, Bx.put, List.any_cons, List.any_nil, Bool.not_true, Bool.not_false, Nat.reduceAdd, Nat.reduceLeDiff, reduceIte, reduceCtorEq, and_self, and_true, true_and, if_s_non, if_s_bl, if_s_int, if_s_str, if_s_tup, if_s_lst, if_i_non, if_i_bl, if_i_int, if_i_str, if_i_tup, if_i_lst, if_b_non, if_b_bl, if_b_int, if_b_str, if_b_tup, if_b_lst, if_t_non, if_t_bl, if_t_int, if_t_str, if_t_tup, if_t_lst, if_l_non, if_l_bl, if_l_int, if_l_str, if_l_tup, if_l_lst, if_lt2_non, if_lt2_bl, if_lt2_int, if_lt2_str, if_lt2_tup, if_lt2_lst, mRaise, mTryAs, tryOut, mXf, mIsE, mLenO, mGetO, mIxSet, mSwapIx, ixSt, mNeg, isFO, gIns, SO.foX, SO.foJ, one_self, is1_self, at1_self, noRefAt, List.all_cons, List.all_nil, Sl.noBox, D.flat, Bool.and_self, Bool.and_true, Bool.true_and, List.zip_cons_cons, List.zip_nil_right, mTru, List.contains_nil, mIE, mIZ, mBrk, mCnt, decide_true, decide_false, Bool.false_eq_true, Bool.not_eq_true, hp, i1, hi, hkk, hl2]
theorem fwS_lt : ∀ (ds : List D) (k : Nat) (us : List D) (j : Nat), fwS ds k us = some j → j < k + ds.length
  | [], _, _, _, h => by cases h
  | d :: ds, k, us, j, h => by
    unfold fwS at h
    rw [List.length_cons]
    split at h
    · cases h; omega
    · have := fwS_lt ds (k + 1) _ j h; omega
theorem fw_sp (T : Tx K mg) (c : D) (rs : List D) (hc : c = .lst rs ∨ c = .tup rs) (h1 : ∀ d ∈ rs, fl1 d = true) (hl : rs.length ≤ 1000) : f__first_wrong T [c] () = .ok (resD (fwS rs 0 [])) () := by
  unfold f__first_wrong m__first_wrong
  rw [seq_nx (e1 := [.top c, .own [], .no, .no]) (s1 := ()) (by rfl)]
  have e2 : (mIEn (mVar 0) : MX Unit (List D)) [.top c, .own [], .no, .no] () = .ok (enumD rs) [.top c, .own [], .no, .no] () := by
    rcases hc with rfl | rfl <;> rfl
  obtain ⟨env', h⟩ := fw_loop T c rs 0 [] .no .no h1 (fun _ h => nomatch h) (by simpa using hl) rfl rfl
  rw [enumK_0] at e2
  have h := (for_x e2).trans h
  cases hf : fwS rs 0 [] with
  | none =>
    rw [hf] at h
    rw [seq_nx h]
    rfl
  | some j =>
    rw [hf] at h
    rw [seq_rt h]
    rfl
end
end ledmarks_k13_editions_made

namespace ledmarks_k13_editions_made
open PySem L2 LM
section
variable {K : PySem.W.Frag} {mg : Str → Option Value}
theorem init_sp (T : Tx K mg) (c : D) (rs : List D) (hc : c = .lst rs ∨ c = .tup rs) (h1 : ∀ d ∈ rs, fl1 d = true) (hl : rs.length ≤ 1000) (hw : fwS rs 0 [] = none) :
    f_Edition_init T [c] = .ok (["rows"], [.tup rs]) () := by
  have hf := fw_sp T c rs hc h1 hl
  have hs : f_is_sequence T [c] () = .ok (.bl true) () := by
    unfold f_is_sequence m_is_sequence
    rcases hc with rfl | rfl <;> simp only [mSeq, mSet, mRet, mRetN, mIf, mExp, mBad, mNext, mPar, W.sl, mFor, Out.bindS, MX.bind, Out.bind, mK, mVar, mFz, mFf, mOp, mTest, mNotT, mNotV, mAndT, mOrT, mAndV, mOrV, mIfE, mChain, mNil, mCons, mTup, mLst, mCB, mFld, mFldSet, mCallP, mCallB, mMethP, mMakeP, mMut, mSl, mPart, mNoPart, mIsi, mIL, mIT, mIR, mIEn, mIS, mBGet, mBSet, mNewBox, mComp, mYes, Out.bindN, bindA, env0, envA, envI, FO.outP, FO.outL, FO.out, SO.fo0, SO.foF, SO.foI, lensW, lensL, resO_some, Rs.w_v, Rs.w_f, W.rd_v, W.rd_t, W.rd_f, W.rd_l, W.kp_v, List.mapM_cons, List.mapM_nil, Option.bind_eq_bind, Option.bind_some, Option.pure_def, Option.map_some, List.replicate_succ, List.replicate_zero, List.cons_append, List.nil_append, List.getElem?_cons_zero, List.getElem?_cons_succ, List.set_cons_zero, List.set_cons_succ, rb, ri, fI, fC, fAdd, fSub, fMod, fMul, fDiv, fIx, fIsN, fNotN, D.isN, cl_lst, cl_tup, cInt, cTup, cList, gApp, gN, gT, gsC, gsN, Sl.isRef, if_true, if_false, if_pos, List.length_cons, List.length_nil, Bx.at, Bx.put, List.any_cons, List.any_nil, Bool.not_true, Bool.not_false, Nat.reduceAdd, Nat.reduceLeDiff, reduceIte, reduceCtorEq, and_self, and_true, true_and, if_s_non, if_s_bl, if_s_int, if_s_str, if_s_tup, if_s_lst, if_i_non, if_i_bl, if_i_int, if_i_str, if_i_tup, if_i_lst, if_b_non, if_b_bl, if_b_int, if_b_str, if_b_tup, if_b_lst, if_t_non, if_t_bl, if_t_int, if_t_str, if_t_tup, if_t_lst, if_l_non, if_l_bl, if_l_int, if_l_str, if_l_tup, if_l_lst, if_lt2_non, if_lt2_bl, if_lt2_int, if_lt2_str, if_lt2_tup, if_lt2_lst, mRaise, mTryAs, tryOut, mXf, mIsE, mLenO, mGetO, mIxSet, mSwapIx, ixSt, mNeg, isFO, gIns, SO.foX, SO.foJ, one_self, is1_self, at1_self, noRefAt, List.all_cons, List.all_nil, Sl.noBox, D.flat, Bool.and_self, Bool.and_true, Bool.true_and, List.zip_cons_cons, List.zip_nil_right, mTru, List.contains_nil, mIE, mIZ, mBrk, mCnt, decide_true, decide_false, Bool.false_eq_true, Bool.not_eq_true]
  have ht : cTup [c] = some (.v (.tup rs)) := by rcases hc with rfl | rfl <;> rfl
  unfold f_Edition_init m_Edition_init
  rw [hw] at hf
  have hf : f__first_wrong T [c] () = .ok .non () := hf
  have h9 : (0 : Nat) < 900 := by decide
  rcases hc with rfl | rfl <;> simp only [mSeq, mSet, mRet, mRetN, mIf, mExp, mBad, mNext, mPar, W.sl, mFor, Out.bindS, MX.bind, Out.bind, mK, mVar, mFz, mFf, mOp, mTest, mNotT, mNotV, mAndT, mOrT, mAndV, mOrV, mIfE, mChain, mNil, mCons, mTup, mLst, mCB, mFld, mFldSet, mCallP, mCallB, mMethP, mMakeP, mMut, mSl, mPart, mNoPart, mIsi, mIL, mIT, mIR, mIEn, mIS, mBGet, mBSet, mNewBox, mComp, mYes, Out.bindN, bindA, env0, envA, envI, FO.outP, FO.outL, FO.out, SO.fo0, SO.foF, SO.foI, lensW, lensL, resO_some, Rs.w_v, Rs.w_f, W.rd_v, W.rd_t, W.rd_f, W.rd_l, W.kp_v, List.mapM_cons, List.mapM_nil, Option.bind_eq_bind, Option.bind_some, Option.pure_def, Option.map_some, List.replicate_succ, List.replicate_zero, List.cons_append, List.nil_append, List.getElem?_cons_zero, List.getElem?_cons_succ, List.set_cons_zero, List.set_cons_succ, rb, ri, fI, fC, fAdd, fSub, fMod, fMul, fDiv, fIx, fIsN, fNotN, D.isN, cl_lst, cl_tup, cInt, cTup, cList, gApp, gN, gT, gsC, gsN, Sl.isRef, if_true, if_false, if_pos, List.length_cons, List.length_nil, Bx.at, Bx.put, List.any_cons, List.any_nil, Bool.not_true, Bool.not_false, Nat.reduceAdd, Nat.reduceLeDiff, reduceIte, reduceCtorEq, and_self, and_true, true_and, if_s_non, if_s_bl, if_s_int, if_s_str, if_s_tup, if_s_lst, if_i_non, if_i_bl, if_i_int, if_i_str, if_i_tup, if_i_lst, if_b_non, if_b_bl, if_b_int, if_b_str, if_b_tup, if_b_lst, if_t_non, if_t_bl, if_t_int, if_t_str, if_t_tup, if_t_lst, if_l_non, if_l_bl, if_l_int, if_l_str, if_l_tup, if_l_lst, if_lt2_non, if_lt2_bl, if_lt2_int, if_lt2_str, if_lt2_tup, if_lt2_lst, mRaise, mTryAs, tryOut, mXf, mIsE, mLenO, mGetO, mIxSet, mSwapIx, ixSt, mNeg, isFO, gIns, SO.foX, SO.foJ, one_self, is1_self, at1_self, noRefAt, List.all_cons, List.all_nil, Sl.noBox, D.flat, Bool.and_self, Bool.and_true, Bool.true_and, List.zip_cons_cons, List.zip_nil_right, mTru, List.contains_nil, mIE, mIZ, mBrk, mCnt, decide_true, decide_false, Bool.false_eq_true, Bool.not_eq_true, hs, hf, ht, Bool.not_true, h9]
def edT (T : Tx K mg) (rs : List D) : D := .ins T.c_Edition ["rows"] [.tup rs]
theorem lk_rows (rs : List D) : List.lookup ("rows" : Str) [(("rows" : Str), D.tup rs)] = some (D.tup rs) := by rfl
end
end ledmarks_k13_editions_made

namespace ledmarks_k13_editions_made
open PySem L2 LM
section
variable {K : PySem.W.Frag} {mg : Str → Option Value}
/-! ### rows with elders -/
abbrev P := Str × Option Nat
def encE : Option Nat → D
  | none => .non
  | some k => .int k
def enc (p : P) : D := .tup [.str p.1, encE p.2]
def Good (l : List P) : Prop := (∀ p ∈ l, p.1 ∈ words ∧ ∀ j, p.2 = some j → j < 8) ∧ (l.filterMap (·.2)).Nodup
theorem words_nm : ∀ x ∈ words, nm x = true ∧ x.length ≤ 10 := by decide +kernel
theorem isEl_enc (e : Option Nat) : isEl (encE e) = true := by
  cases e with
  | none => rfl
  | some k => simp [encE, isEl, isNum]
theorem fl1_enc {p : P} (h : p.1 ∈ words) : fl1 (enc p) = true := by
  obtain ⟨_, h2⟩ := words_nm _ h
  obtain ⟨x, e⟩ := p
  cases e <;> simp [enc, encE, fl1, fl0] <;> exact h2
theorem inD_ints (j : Nat) (us : List Nat) : inD (.int (j : Int)) (us.map fun j => D.int (j : Nat)) = decide (j ∈ us) := by
  rw [inD_eq]
  induction us with
  | nil => rfl
  | cons u us ih =>
    rw [List.map_cons, List.any_cons, ih]
    simp only [D.py, PyData.eqv]
    by_cases h : u = j
    · subst h; simp
    · have h2 : ((u : Int) == (j : Int)) = false := by simp; omega
      rw [h2]
      simp [Ne.symm h]
theorem inD_non (us : List Nat) : inD .non (us.map fun j => D.int (j : Nat)) = false := by
  rw [inD_eq, List.any_eq_false]
  intro y hy
  obtain ⟨j, _, rfl⟩ := List.mem_map.mp hy
  simp [D.py, PyData.eqv]
theorem good_fw : ∀ (l : List P) (k : Nat) (us : List Nat), (∀ p ∈ l, p.1 ∈ words) → (us ++ l.filterMap (·.2)).Nodup → fwS (l.map enc) k (us.map fun j => D.int (j : Nat)) = none
  | [], _, _, _, _ => rfl
  | (x, e) :: l, k, us, hw, hn => by
    have hx := (words_nm x (hw _ List.mem_cons_self)).1
    have hp : isP (enc (x, e)) = true := by
      show (nm x && isEl (encE e)) = true
      rw [hx, isEl_enc]; rfl
    rw [List.map_cons]
    unfold fwS
    rw [hp]
    cases e with
    | none =>
      have h1 : snd (enc (x, none)) = .non := rfl
      have h2 : D.non.isN = true := rfl
      rw [h1, h2, inD_non]
      exact good_fw l (k + 1) us (fun p hp => hw p (List.mem_cons_of_mem _ hp)) hn
    | some j =>
      have h1 : snd (enc (x, some j)) = .int (j : Nat) := rfl
      have h2 : (D.int (j : Nat)).isN = false := rfl
      have hn : (us ++ j :: l.filterMap (·.2)).Nodup := hn
      have hj : j ∉ us := fun z => (List.nodup_append.mp hn).2.2 j z j List.mem_cons_self rfl
      rw [h1, h2, inD_ints, decide_eq_false hj]
      have e2 : (us.map fun j => D.int (j : Nat)) ++ [D.int (j : Nat)] = (us ++ [j]).map fun j => D.int (j : Nat) := by rw [List.map_append]; rfl
      simp only [Bool.not_true, Bool.or_self, Bool.false_eq_true, if_false, e2]
      exact good_fw l (k + 1) (us ++ [j]) (fun p hp => hw p (List.mem_cons_of_mem _ hp)) (by rw [List.append_assoc]; exact hn)
theorem good_none {l : List P} (h : Good l) : fwS (l.map enc) 0 [] = none := good_fw l 0 [] (fun p hp => (h.1 p hp).1) (by simpa using h.2)
/-! ### the edited text -/
def fE (d : D) : D := match d with
  | .tup [a, .tup [c, _]] => .tup [c, a]
  | d => d
theorem sub_enc : ∀ (xs : List P) (k : Nat) (L' : List D), L'.Sublist (enumK k (xs.map enc)) → (∀ x ∈ xs, x.1 ∈ words) →
    ∃ l : List P, L'.map fE = l.map enc ∧ (∀ p ∈ l, p.1 ∈ words ∧ ∀ j, p.2 = some j → j < k + xs.length) ∧ (l.filterMap (·.2)).Nodup ∧ (∀ j ∈ l.filterMap (·.2), k ≤ j) ∧ l.length ≤ xs.length
  | [], k, L', h, _ => by
    have e : L' = [] := List.sublist_nil.mp h
    subst e
    exact ⟨[], rfl, fun _ h => (nomatch h), List.nodup_nil, fun _ h => (nomatch h), Nat.le_refl _⟩
  | x :: xs, k, L', h, hw => by
    rw [List.map_cons, enumK_cons] at h
    have hw' : ∀ y ∈ xs, y.1 ∈ words := fun y hy => hw y (List.mem_cons_of_mem _ hy)
    cases h with
    | cons _ h =>
      obtain ⟨l, h1, h2, h3, h4, h5⟩ := sub_enc xs (k + 1) L' h hw'
      exact ⟨l, h1, fun p hp => ⟨(h2 p hp).1, fun j hj => by have := (h2 p hp).2 j hj; rw [List.length_cons]; omega⟩, h3, fun j hj => by have := h4 j hj; omega, by rw [List.length_cons]; omega⟩
    | cons_cons _ h =>
      rename_i L''
      obtain ⟨l, h1, h2, h3, h4, h5⟩ := sub_enc xs (k + 1) L'' h hw'
      refine ⟨(x.1, some k) :: l, by rw [List.map_cons, List.map_cons, h1]; rfl, fun p hp => ?_, ?_, fun j hj => ?_, by rw [List.length_cons, List.length_cons]; omega⟩
      · rcases List.mem_cons.mp hp with rfl | hp
        · exact ⟨hw x List.mem_cons_self, fun j hj => by cases hj; rw [List.length_cons]; omega⟩
        · exact ⟨(h2 p hp).1, fun j hj => by have := (h2 p hp).2 j hj; rw [List.length_cons]; omega⟩
      · show (k :: l.filterMap (·.2)).Nodup
        exact List.nodup_cons.mpr ⟨fun z => by have := h4 k z; omega, h3⟩
      · have hj : j ∈ k :: l.filterMap (·.2) := hj
        rcases List.mem_cons.mp hj with rfl | hj
        · exact Nat.le_refl _
        · have := h4 j hj; omega
theorem good_perm {l l' : List P} (h : Good l) (p : l'.Perm l) : Good l' :=
  ⟨fun q hq => h.1 q (p.mem_iff.mp hq), ((p.filterMap (·.2)).nodup_iff).mpr h.2⟩
theorem good_take {l : List P} (h : Good l) (n : Nat) : Good (l.take n) :=
  ⟨fun q hq => h.1 q (List.mem_of_mem_take hq), h.2.sublist ((List.take_sublist n l).filterMap _)⟩
theorem good_ins {l : List P} (h : Good l) (n : Nat) (x : Str) (hx : x ∈ words) : Good (l.take n ++ [(x, none)] ++ l.drop n) := by
  refine ⟨fun q hq => ?_, ?_⟩
  · rw [List.mem_append, List.mem_append, List.mem_singleton] at hq
    rcases hq with (hq | rfl) | hq
    · exact h.1 q (List.mem_of_mem_take hq)
    · exact ⟨hx, fun j hj => nomatch hj⟩
    · exact h.1 q (List.mem_of_mem_drop hq)
  · have e : (l.take n ++ [(x, none)] ++ l.drop n).filterMap (fun p : P => p.2) = l.filterMap (fun p : P => p.2) := by
      rw [List.filterMap_append, List.filterMap_append]
      have e1 : [((x, none) : P)].filterMap (fun p : P => p.2) = [] := rfl
      rw [e1, List.append_nil, ← List.filterMap_append, List.take_append_drop]
    show ((l.take n ++ [(x, none)] ++ l.drop n).filterMap (fun p : P => p.2)).Nodup
    rw [e]; exact h.2
theorem set_fm (x : Str) : ∀ (l : List P) (n : Nat) (h : n < l.length), (l.set n (x, l[n].2)).filterMap (fun p : P => p.2) = l.filterMap (fun p : P => p.2)
  | p :: l, 0, _ => by
    obtain ⟨a, e⟩ := p
    cases e <;> rfl
  | p :: l, n + 1, h => by
    have ih := set_fm x l n (by simpa using h)
    simp only [List.set_cons_succ, List.getElem_cons_succ, List.filterMap_cons, ih]
theorem good_set {l : List P} (h : Good l) (n : Nat) (hn : n < l.length) (x : Str) (hx : x ∈ words) : Good (l.set n (x, l[n].2)) := by
  refine ⟨fun q hq => ?_, ?_⟩
  · rcases List.mem_or_eq_of_mem_set hq with hq | rfl
    · exact h.1 q hq
    · exact ⟨hx, fun j hj => (h.1 _ (List.getElem_mem hn)).2 j hj⟩
  · show ((l.set n (x, l[n].2)).filterMap (fun p : P => p.2)).Nodup
    rw [set_fm]; exact h.2
end
end ledmarks_k13_editions_made

namespace ledmarks_k13_editions_made
open PySem L2 LM
section
variable {K : PySem.W.Frag} {mg : Str → Option Value}
theorem pick_w (T : Tx K mg) (ws : List D) (s : Bx) (h0 : 0 < ws.length) (h1 : ws.length < 1000) (hw : ∀ d ∈ ws, ∃ x ∈ words, d = .str x) : ∃ x s', f__law_pick T [.lst ws] s = .ok (.str x) s' ∧ x ∈ words := by
  obtain ⟨d, s', e, m⟩ := pick_ok T ws s h0 h1
  obtain ⟨x, hx, rfl⟩ := hw d m
  exact ⟨x, s', e, hx⟩
theorem cut_to {ds : List D} (k : Nat) : cutD ds none (some (k : Int)) = ds.take k := by
  unfold cutD
  rw [HT.sIx_none, HT.sIx_nat, List.drop_zero, Nat.sub_zero]
  by_cases h : k ≤ ds.length
  · rw [Nat.min_eq_left h]
  · rw [Nat.min_eq_right (by omega), List.take_of_length_le (Nat.le_refl _), List.take_of_length_le (by omega)]
/-- the first walk -/
theorem ed_comp (T : Tx K mg) (ws most : D) (xs : List P) (hx : ∀ x ∈ xs, x.1 ∈ words) (hl : xs.length ≤ 8) (s : Bx) :
    ∃ (l : List P) (s' : Bx), (mComp (mIEn (mVar 2)) [5, 6, 7] (gT 2 (gsC (gN 5) (gsC (gT 2 (gsC (gN 6) (gsC (gN 7) gsN))) gsN))) (mTest (mOp (fC fun i j => decide (j < i)) (mCallB lensL [.b, .v] (f__law_take T) (mCons (mVar 0) (mCons (mK (.int 6)) mNil))) (mK (.int 0)))) (mTup (mCons (mVar 6) (mCons (mVar 5) mNil))) : MX Bx W)
      [.box, .val ws, .val (.lst (xs.map enc)), .val most, .no, .no, .no, .no, .no] s = .ok (.f (l.map enc)) [.box, .val ws, .val (.lst (xs.map enc)), .val most, .no, .no, .no, .no, .no] s' ∧ Good l ∧ l.length ≤ xs.length := by
  obtain ⟨L', s1, hs, hr⟩ := comp_sub (S := Bx) (vs := [5, 6, 7]) (g := gT 2 (gsC (gN 5) (gsC (gT 2 (gsC (gN 6) (gsC (gN 7) gsN))) gsN))) (mt := mTest (mOp (fC fun i j => decide (j < i)) (mCallB lensL [.b, .v] (f__law_take T) (mCons (mVar 0) (mCons (mK (.int 6)) mNil))) (mK (.int 0)))) (me := mTup (mCons (mVar 6) (mCons (mVar 5) mNil))) (f := fE)
    (L := enumD (xs.map enc)) [.box, .val ws, .val (.lst (xs.map enc)), .val most, .no, .no, .no, .no, .no] (fun d hd s => by
      obtain ⟨i, hi⟩ := List.mem_iff_getElem?.mp hd
      obtain ⟨e, he, rfl⟩ := enumD_get hi
      obtain ⟨x, _, rfl⟩ := List.mem_map.mp (List.mem_of_getElem? he)
      obtain ⟨r, s', ht, _, _⟩ := take_ok T 6 s (by omega) (by omega)
      refine ⟨[.box, .val ws, .val (.lst (xs.map enc)), .val most, .no, .val (.int (i : Nat)), .val (.str x.1), .val (encE x.2), .no], [.box, .val ws, .val (.lst (xs.map enc)), .val most, .no, .val (.int (i : Nat)), .val (.str x.1), .val (encE x.2), .no], decide (0 < r), s', rfl, ?_, fun _ => ⟨rfl, rfl⟩, fun _ => ⟨[.box, .val ws, .val (.lst (xs.map enc)), .val most, .no, .val (.int (i : Nat)), .val (.str x.1), .val (encE x.2), .no], .v (.tup [.str x.1, .int (i : Nat)]), s', rfl, rfl, rfl, rfl⟩⟩
      generalize D.lst (xs.map enc) = q
      simp only [mSeq, mSet, mRet, mRetN, mIf, mExp, mBad, mNext, mPar, W.sl, mFor, Out.bindS, MX.bind, Out.bind, mK, mVar, mFz, mFf, mOp, mTest, mNotT, mNotV, mAndT, mOrT, mAndV, mOrV, mIfE, mChain, mNil, mCons, mTup, mLst, mCB, mFld, mFldSet, mCallP, mCallB, mMethP, mMakeP, mMut, mSl, mPart, mNoPart, mIsi, mIL, mIT, mIR, mIEn, mIS, mBGet, mBSet, mNewBox, mComp, mYes, Out.bindN, bindA, env0, envA, envI, FO.outP, FO.outL, FO.out, SO.fo0, SO.foF, SO.foI, lensW, lensL, resO_some, Rs.w_v, Rs.w_f, W.rd_v, W.rd_t, W.rd_f, W.rd_l, W.kp_v, List.mapM_cons, List.mapM_nil, Option.bind_eq_bind, Option.bind_some, Option.pure_def, Option.map_some, List.replicate_succ, List.replicate_zero, List.cons_append, List.nil_append, List.getElem?_cons_zero, List.getElem?_cons_succ, List.set_cons_zero, List.set_cons_succ, rb, ri, fI, fC, fAdd, fSub, fMod, fMul, fDiv, fIx, fIsN, fNotN, D.isN, cl_lst, cl_tup, cInt, cTup, cList, gApp, gN, gT, gsC, gsN, Sl.isRef, if_true, if_false, if_pos, List.length_cons, List.length_nil, Bx.at, Bx.put, List.any_cons, List.any_nil, Bool.not_true, Bool.not_false, Nat.reduceAdd, Nat.reduceLeDiff, reduceIte, reduceCtorEq, and_self, and_true, true_and, if_s_non, if_s_bl, if_s_int, if_s_str, if_s_tup, if_s_lst, if_i_non, if_i_bl, if_i_int, if_i_str, if_i_tup, if_i_lst, if_b_non, if_b_bl, if_b_int, if_b_str, if_b_tup, if_b_lst, if_t_non, if_t_bl, if_t_int, if_t_str, if_t_tup, if_t_lst, if_l_non, if_l_bl, if_l_int, if_l_str, if_l_tup, if_l_lst, if_lt2_non, if_lt2_bl, if_lt2_int, if_lt2_str, if_lt2_tup, if_lt2_lst, mRaise, mTryAs, tryOut, mXf, mIsE, mLenO, mGetO, mIxSet, mSwapIx, ixSt, mNeg, isFO, gIns, SO.foX, SO.foJ, one_self, is1_self, at1_self, noRefAt, List.all_cons, List.all_nil, Sl.noBox, D.flat, Bool.and_self, Bool.and_true, Bool.true_and, List.zip_cons_cons, List.zip_nil_right, mTru, List.contains_nil, mIE, mIZ, mBrk, mCnt, decide_true, decide_false, Bool.false_eq_true, Bool.not_eq_true, ht]) [] s (by simp [enumD]; omega)
  rw [enumK_0] at hs
  obtain ⟨l, h1, h2, h3, _, h5⟩ := sub_enc xs 0 L' hs hx
  refine ⟨l, s1, ?_, ⟨fun p hp => ⟨(h2 p hp).1, fun j hj => by have := (h2 p hp).2 j hj; omega⟩, h3⟩, h5⟩
  refine (comp_x (xs := enumD (xs.map enc)) (e1 := [.box, .val ws, .val (.lst (xs.map enc)), .val most, .no, .no, .no, .no, .no]) (s1 := s) rfl rfl).trans ?_
  rw [← h1]
  exact hr
theorem len_map (l : List P) : (l.map enc).length = l.length := List.length_map ..
theorem at_enc (l : List P) (i : Nat) (h : i < l.length) : atI (l.map enc) (i : Int) = some (enc l[i]) := by
  rw [at_nat, List.getElem?_map, List.getElem?_eq_getElem h]; rfl
theorem ixst_ok (i : Nat) (d : D) (k : Nat) (env : List Sl) (ds : List D) (h : env[i]? = some (.own ds)) (hk : k < ds.length) : ixSt i d (.v (.int (k : Int))) env = some (env.set i (.own (ds.set k d))) := by
  unfold ixSt
  rw [h]
  simp only
  rw [if_pos ⟨by omega, by omega⟩, Int.toNat_natCast]
/-- two neighbours exchanged -/
theorem ed_swap (T : Tx K mg) (ws el most x6 x7 x8 : Sl) (l : List P) (i : Nat) (h : i + 1 < l.length) (s : Bx) :
    (mSwapIx 4 (mVar 5) (mOp fAdd (mVar 5) (mK (.int 1))) (mTup (mCons (mOp fIx (mVar 4) (mOp fAdd (mVar 5) (mK (.int 1)))) (mCons (mOp fIx (mVar 4) (mVar 5)) mNil))) : MS Bx) [.box, ws, el, most, .own (l.map enc), .val (.int (i : Int)), x6, x7, x8] s =
      .nx [.box, ws, el, most, .own (((l.set i l[i + 1]).set (i + 1) l[i]).map enc), .val (.int (i : Int)), x6, x7, x8] s := by
  have a1 := at_enc l i (by omega)
  have a2 := at_enc l (i + 1) h
  rw [show ((i + 1 : Nat) : Int) = (i : Int) + 1 by omega] at a2
  have b1 : ∀ (ds : List D), ds.length = l.length → ∀ d, ixSt 4 d (.v (.int (i : Int))) [.box, ws, el, most, .own ds, .val (.int (i : Int)), x6, x7, x8] = some [.box, ws, el, most, .own (ds.set i d), .val (.int (i : Int)), x6, x7, x8] := fun ds hd d => ixst_ok 4 d i _ ds rfl (by omega)
  have b2 : ∀ (ds : List D), ds.length = l.length → ∀ d, ixSt 4 d (.v (.int ((i : Int) + 1))) [.box, ws, el, most, .own ds, .val (.int (i : Int)), x6, x7, x8] = some [.box, ws, el, most, .own (ds.set (i + 1) d), .val (.int (i : Int)), x6, x7, x8] := fun ds hd d => by
    have e := ixst_ok 4 d (i + 1) [.box, ws, el, most, .own ds, .val (.int (i : Int)), x6, x7, x8] ds rfl (by omega)
    rw [show ((i + 1 : Nat) : Int) = (i : Int) + 1 by omega] at e
    exact e
  have c1 := b1 (l.map enc) (len_map l) (enc l[i + 1])
  have c2 := b2 ((l.map enc).set i (enc l[i + 1])) (by rw [List.length_set, len_map]) (enc l[i])
  have hm : (((l.map enc).set i (enc l[i + 1])).set (i + 1) (enc l[i])) = ((l.set i l[i + 1]).set (i + 1) l[i]).map enc := by rw [List.map_set, List.map_set]
  rw [hm] at c2
  have hh : 1 + 1 ≤ 16777216 := by decide
  have e1 : (mTup (mCons (mOp fIx (mVar 4) (mOp fAdd (mVar 5) (mK (.int 1)))) (mCons (mOp fIx (mVar 4) (mVar 5)) mNil)) : MX Bx W) [.box, ws, el, most, .own (l.map enc), .val (.int (i : Int)), x6, x7, x8] s = .ok (.v (.tup [enc l[i + 1], enc l[i]])) [.box, ws, el, most, .own (l.map enc), .val (.int (i : Int)), x6, x7, x8] s := by
    generalize enc l[i + 1] = u1 at a2
    generalize enc l[i] = u2 at a1
    generalize l.map enc = ds at a1 a2
    generalize (i : Int) = z at a1 a2
    simp only [mSeq, mSet, mRet, mRetN, mIf, mExp, mBad, mNext, mPar, W.sl, mFor, Out.bindS, MX.bind, Out.bind, mK, mVar, mFz, mFf, mOp, mTest, mNotT, mNotV, mAndT, mOrT, mAndV, mOrV, mIfE, mChain, mNil, mCons, mTup, mLst, mCB, mFld, mFldSet, mCallP, mCallB, mMethP, mMakeP, mMut, mSl, mPart, mNoPart, mIsi, mIL, mIT, mIR, mIEn, mIS, mBGet, mBSet, mNewBox, mComp, mYes, Out.bindN, bindA, env0, envA, envI, FO.outP, FO.outL, FO.out, SO.fo0, SO.foF, SO.foI, lensW, lensL, resO_some, Rs.w_v, Rs.w_f, W.rd_v, W.rd_t, W.rd_f, W.rd_l, W.kp_v, List.mapM_cons, List.mapM_nil, Option.bind_eq_bind, Option.bind_some, Option.pure_def, Option.map_some, List.replicate_succ, List.replicate_zero, List.cons_append, List.nil_append, List.getElem?_cons_zero, List.getElem?_cons_succ, List.set_cons_zero, List.set_cons_succ, rb, ri, fI, fC, fAdd, fSub, fMod, fMul, fDiv, fIx, fIsN, fNotN, D.isN, cl_lst, cl_tup, cInt, cTup, cList, gApp, gN, gT, gsC, gsN, Sl.isRef, if_true, if_false, if_pos, List.length_cons, List.length_nil, Bx.at, Bx.put, List.any_cons, List.any_nil, Bool.not_true, Bool.not_false, Nat.reduceAdd, Nat.reduceLeDiff, reduceIte, reduceCtorEq, and_self, and_true, true_and, if_s_non, if_s_bl, if_s_int, if_s_str, if_s_tup, if_s_lst, if_i_non, if_i_bl, if_i_int, if_i_str, if_i_tup, if_i_lst, if_b_non, if_b_bl, if_b_int, if_b_str, if_b_tup, if_b_lst, if_t_non, if_t_bl, if_t_int, if_t_str, if_t_tup, if_t_lst, if_l_non, if_l_bl, if_l_int, if_l_str, if_l_tup, if_l_lst, if_lt2_non, if_lt2_bl, if_lt2_int, if_lt2_str, if_lt2_tup, if_lt2_lst, mRaise, mTryAs, tryOut, mXf, mIsE, mLenO, mGetO, mIxSet, mSwapIx, ixSt, mNeg, isFO, gIns, SO.foX, SO.foJ, one_self, is1_self, at1_self, noRefAt, List.all_cons, List.all_nil, Sl.noBox, D.flat, Bool.and_self, Bool.and_true, Bool.true_and, List.zip_cons_cons, List.zip_nil_right, mTru, List.contains_nil, mIE, mIZ, mBrk, mCnt, decide_true, decide_false, Bool.false_eq_true, Bool.not_eq_true, a1, a2, hh]
  unfold mSwapIx
  rw [e1]
  simp only [Out.bindS, mVar, List.getElem?_cons_zero, List.getElem?_cons_succ, c1]
  have e2 : (mOp fAdd (mVar 5) (mK (.int 1)) : MX Bx W) [.box, ws, el, most, .own ((l.map enc).set i (enc l[i + 1])), .val (.int (i : Int)), x6, x7, x8] s = .ok (.v (.int ((i : Int) + 1))) [.box, ws, el, most, .own ((l.map enc).set i (enc l[i + 1])), .val (.int (i : Int)), x6, x7, x8] s := by
    simp only [mSeq, mSet, mRet, mRetN, mIf, mExp, mBad, mNext, mPar, W.sl, mFor, Out.bindS, MX.bind, Out.bind, mK, mVar, mFz, mFf, mOp, mTest, mNotT, mNotV, mAndT, mOrT, mAndV, mOrV, mIfE, mChain, mNil, mCons, mTup, mLst, mCB, mFld, mFldSet, mCallP, mCallB, mMethP, mMakeP, mMut, mSl, mPart, mNoPart, mIsi, mIL, mIT, mIR, mIEn, mIS, mBGet, mBSet, mNewBox, mComp, mYes, Out.bindN, bindA, env0, envA, envI, FO.outP, FO.outL, FO.out, SO.fo0, SO.foF, SO.foI, lensW, lensL, resO_some, Rs.w_v, Rs.w_f, W.rd_v, W.rd_t, W.rd_f, W.rd_l, W.kp_v, List.mapM_cons, List.mapM_nil, Option.bind_eq_bind, Option.bind_some, Option.pure_def, Option.map_some, List.replicate_succ, List.replicate_zero, List.cons_append, List.nil_append, List.getElem?_cons_zero, List.getElem?_cons_succ, List.set_cons_zero, List.set_cons_succ, rb, ri, fI, fC, fAdd, fSub, fMod, fMul, fDiv, fIx, fIsN, fNotN, D.isN, cl_lst, cl_tup, cInt, cTup, cList, gApp, gN, gT, gsC, gsN, Sl.isRef, if_true, if_false, if_pos, List.length_cons, List.length_nil, Bx.at, Bx.put, List.any_cons, List.any_nil, Bool.not_true, Bool.not_false, Nat.reduceAdd, Nat.reduceLeDiff, reduceIte, reduceCtorEq, and_self, and_true, true_and, if_s_non, if_s_bl, if_s_int, if_s_str, if_s_tup, if_s_lst, if_i_non, if_i_bl, if_i_int, if_i_str, if_i_tup, if_i_lst, if_b_non, if_b_bl, if_b_int, if_b_str, if_b_tup, if_b_lst, if_t_non, if_t_bl, if_t_int, if_t_str, if_t_tup, if_t_lst, if_l_non, if_l_bl, if_l_int, if_l_str, if_l_tup, if_l_lst, if_lt2_non, if_lt2_bl, if_lt2_int, if_lt2_str, if_lt2_tup, if_lt2_lst, mRaise, mTryAs, tryOut, mXf, mIsE, mLenO, mGetO, mIxSet, mSwapIx, ixSt, mNeg, isFO, gIns, SO.foX, SO.foJ, one_self, is1_self, at1_self, noRefAt, List.all_cons, List.all_nil, Sl.noBox, D.flat, Bool.and_self, Bool.and_true, Bool.true_and, List.zip_cons_cons, List.zip_nil_right, mTru, List.contains_nil, mIE, mIZ, mBrk, mCnt, decide_true, decide_false, Bool.false_eq_true, Bool.not_eq_true]
  simp only [e2, c2]
/-- one change -/
def EdB (T : Tx K mg) : MS Bx := (mSeq (mSet 5 (mCallB lensL [.b, .v] (f__law_take T) (mCons (mVar 0) (mCons (mOp fAdd (mCB cLen (mCons (mVar 4) mNil)) (mK (.int 1))) mNil))))
    (mIf (mAndT (mTest (mOp (fC fun i j => decide (i < j)) (mVar 5) (mCB cLen (mCons (mVar 4) mNil)))) (mTest (mOp fEq (mCallB lensL [.b, .v] (f__law_take T) (mCons (mVar 0) (mCons (mK (.int 2)) mNil))) (mK (.int 0))))) (mIxSet 4 (mVar 5) (mTup (mCons (mCallB lensL [.b, .v] (f__law_pick T) (mCons (mVar 0) (mCons (mVar 1) mNil))) (mCons (mOp fIx (mOp fIx (mVar 4) (mVar 5)) (mK (.int 1))) mNil)))) (mExp (mMut gIns (mVar 4) (mCons (mVar 5) (mCons (mTup (mCons (mCallB lensL [.b, .v] (f__law_pick T) (mCons (mVar 0) (mCons (mVar 1) mNil))) (mCons (mK .non) mNil))) mNil))))))
theorem ed_ins (T : Tx K mg) (ws : List D) (h0 : 0 < ws.length) (h1 : ws.length < 1000) (hw : ∀ d ∈ ws, ∃ x ∈ words, d = .str x) (el most x6 x7 x8 : Sl) (l : List P) (i : Nat) (hg : Good l) (hl : l.length ≤ 1000) (hi : i ≤ l.length) (s : Bx) :
    ∃ l' s', (mExp (mMut gIns (mVar 4) (mCons (mVar 5) (mCons (mTup (mCons (mCallB lensL [.b, .v] (f__law_pick T) (mCons (mVar 0) (mCons (mVar 1) mNil))) (mCons (mK .non) mNil))) mNil))) : MS Bx) [.box, .val (.lst ws), el, most, .own (l.map enc), .val (.int (i : Int)), x6, x7, x8] s = .nx [.box, .val (.lst ws), el, most, .own (l'.map enc), .val (.int (i : Int)), x6, x7, x8] s' ∧ Good l' ∧ l'.length ≤ l.length + 1 := by
  obtain ⟨x, s3, hp, hx⟩ := pick_w T ws s h0 h1 hw
  refine ⟨l.take i ++ [(x, none)] ++ l.drop i, s3, ?_, good_ins hg i x hx, by rw [List.length_append, List.length_append, List.length_singleton, List.length_take, List.length_drop]; omega⟩
  have hh : 1 + 1 ≤ 16777216 := by decide
  have e1 : gIns (l.map enc) [.int (i : Int), .tup [.str x, .non]] = some (.non, (l.take i ++ [(x, none)] ++ l.drop i).map enc) := by
    have b : (0 : Int) ≤ (i : Int) ∧ (i : Int) < 4611686018427387904 := ⟨by omega, by omega⟩
    simp only [gIns]
    rw [if_pos b, Int.toNat_natCast, List.map_append, List.map_append, List.map_take, List.map_drop]
    rfl
  have e2 : ((l.take i ++ [(x, none)] ++ l.drop i).map enc).length ≤ 16777216 := by
    rw [List.length_map, List.length_append, List.length_append, List.length_singleton, List.length_take, List.length_drop]; omega
  refine exp_w (w := .v .non) ?_
  refine mut_l (i := 4) (ds0 := l.map enc) (ds := l.map enc) (e1 := [.box, .val (.lst ws), el, most, .own (l.map enc), .val (.int (i : Int)), x6, x7, x8]) (s1 := s) (e2 := [.box, .val (.lst ws), el, most, .own (l.map enc), .val (.int (i : Int)), x6, x7, x8]) (ws := [.v (.int (i : Int)), .v (.tup [.str x, .non])]) (es := [.int (i : Int), .tup [.str x, .non]]) rfl rfl ?_ rfl rfl e1 e2
  generalize l.map enc = ds
  generalize (i : Int) = z
  simp only [mSeq, mSet, mRet, mRetN, mIf, mExp, mBad, mNext, mPar, W.sl, mFor, Out.bindS, MX.bind, Out.bind, mK, mVar, mFz, mFf, mOp, mTest, mNotT, mNotV, mAndT, mOrT, mAndV, mOrV, mIfE, mChain, mNil, mCons, mTup, mLst, mCB, mFld, mFldSet, mCallP, mCallB, mMethP, mMakeP, mMut, mSl, mPart, mNoPart, mIsi, mIL, mIT, mIR, mIEn, mIS, mBGet, mBSet, mNewBox, mComp, mYes, Out.bindN, bindA, env0, envA, envI, FO.outP, FO.outL, FO.out, SO.fo0, SO.foF, SO.foI, lensW, lensL, resO_some, Rs.w_v, Rs.w_f, W.rd_v, W.rd_t, W.rd_f, W.rd_l, W.kp_v, List.mapM_cons, List.mapM_nil, Option.bind_eq_bind, Option.bind_some, Option.pure_def, Option.map_some, List.replicate_succ, List.replicate_zero, List.cons_append, List.nil_append, List.getElem?_cons_zero, List.getElem?_cons_succ, List.set_cons_zero, List.set_cons_succ, rb, ri, fI, fC, fAdd, fSub, fMod, fMul, fDiv, fIx, fIsN, fNotN, D.isN, cl_lst, cl_tup, cInt, cTup, cList, gApp, gN, gT, gsC, gsN, Sl.isRef, if_true, if_false, if_pos, List.length_cons, List.length_nil, Bx.at, Bx.put, List.any_cons, List.any_nil, Bool.not_true, Bool.not_false, Nat.reduceAdd, Nat.reduceLeDiff, reduceIte, reduceCtorEq, and_self, and_true, true_and, if_s_non, if_s_bl, if_s_int, if_s_str, if_s_tup, if_s_lst, if_i_non, if_i_bl, if_i_int, if_i_str, if_i_tup, if_i_lst, if_b_non, if_b_bl, if_b_int, if_b_str, if_b_tup, if_b_lst, if_t_non, if_t_bl, if_t_int, if_t_str, if_t_tup, if_t_lst, if_l_non, if_l_bl, if_l_int, if_l_str, if_l_tup, if_l_lst, if_lt2_non, if_lt2_bl, if_lt2_int, if_lt2_str, if_lt2_tup, if_lt2_lst, mRaise, mTryAs, tryOut, mXf, mIsE, mLenO, mGetO, mIxSet, mSwapIx, ixSt, mNeg, isFO, gIns, SO.foX, SO.foJ, one_self, is1_self, at1_self, noRefAt, List.all_cons, List.all_nil, Sl.noBox, D.flat, Bool.and_self, Bool.and_true, Bool.true_and, List.zip_cons_cons, List.zip_nil_right, mTru, List.contains_nil, mIE, mIZ, mBrk, mCnt, decide_true, decide_false, Bool.false_eq_true, Bool.not_eq_true, hp, hh]
theorem edb_ok (T : Tx K mg) (ws : List D) (h0 : 0 < ws.length) (h1 : ws.length < 1000) (hw : ∀ d ∈ ws, ∃ x ∈ words, d = .str x) (el most x5 x6 x7 x8 : Sl) (l : List P) (hg : Good l) (hl : l.length ≤ 1000) (s : Bx) :
    ∃ l' y5 s', EdB T [.box, .val (.lst ws), el, most, .own (l.map enc), x5, x6, x7, x8] s = .nx [.box, .val (.lst ws), el, most, .own (l'.map enc), y5, x6, x7, x8] s' ∧ Good l' ∧ l'.length ≤ l.length + 1 := by
  obtain ⟨r, s1, ht, r0, r1⟩ := take_ok T ((l.length : Int) + 1) s (by omega) (by omega)
  obtain ⟨i, rfl⟩ : ∃ i : Nat, r = (i : Int) := ⟨r.toNat, by omega⟩
  unfold EdB
  have e1 : (mSet 5 (mCallB lensL [.b, .v] (f__law_take T) (mCons (mVar 0) (mCons (mOp fAdd (mCB cLen (mCons (mVar 4) mNil)) (mK (.int 1))) mNil))) : MS Bx) [.box, .val (.lst ws), el, most, .own (l.map enc), x5, x6, x7, x8] s = .nx [.box, .val (.lst ws), el, most, .own (l.map enc), .val (.int (i : Int)), x6, x7, x8] s1 := by
    have hlm : (((l.map enc).length : Nat) : Int) = (l.length : Int) := by rw [len_map]
    generalize l.map enc = ds at hlm
    simp only [mSeq, mSet, mRet, mRetN, mIf, mExp, mBad, mNext, mPar, W.sl, mFor, Out.bindS, MX.bind, Out.bind, mK, mVar, mFz, mFf, mOp, mTest, mNotT, mNotV, mAndT, mOrT, mAndV, mOrV, mIfE, mChain, mNil, mCons, mTup, mLst, mCB, mFld, mFldSet, mCallP, mCallB, mMethP, mMakeP, mMut, mSl, mPart, mNoPart, mIsi, mIL, mIT, mIR, mIEn, mIS, mBGet, mBSet, mNewBox, mComp, mYes, Out.bindN, bindA, env0, envA, envI, FO.outP, FO.outL, FO.out, SO.fo0, SO.foF, SO.foI, lensW, lensL, resO_some, Rs.w_v, Rs.w_f, W.rd_v, W.rd_t, W.rd_f, W.rd_l, W.kp_v, List.mapM_cons, List.mapM_nil, Option.bind_eq_bind, Option.bind_some, Option.pure_def, Option.map_some, List.replicate_succ, List.replicate_zero, List.cons_append, List.nil_append, List.getElem?_cons_zero, List.getElem?_cons_succ, List.set_cons_zero, List.set_cons_succ, rb, ri, fI, fC, fAdd, fSub, fMod, fMul, fDiv, fIx, fIsN, fNotN, D.isN, cl_lst, cl_tup, cInt, cTup, cList, gApp, gN, gT, gsC, gsN, Sl.isRef, if_true, if_false, if_pos, List.length_cons, List.length_nil, Bx.at, Bx.put, List.any_cons, List.any_nil, Bool.not_true, Bool.not_false, Nat.reduceAdd, Nat.reduceLeDiff, reduceIte, reduceCtorEq, and_self, and_true, true_and, if_s_non, if_s_bl, if_s_int, if_s_str, if_s_tup, if_s_lst, if_i_non, if_i_bl, if_i_int, if_i_str, if_i_tup, if_i_lst, if_b_non, if_b_bl, if_b_int, if_b_str, if_b_tup, if_b_lst, if_t_non, if_t_bl, if_t_int, if_t_str, if_t_tup, if_t_lst, if_l_non, if_l_bl, if_l_int, if_l_str, if_l_tup, if_l_lst, if_lt2_non, if_lt2_bl, if_lt2_int, if_lt2_str, if_lt2_tup, if_lt2_lst, mRaise, mTryAs, tryOut, mXf, mIsE, mLenO, mGetO, mIxSet, mSwapIx, ixSt, mNeg, isFO, gIns, SO.foX, SO.foJ, one_self, is1_self, at1_self, noRefAt, List.all_cons, List.all_nil, Sl.noBox, D.flat, Bool.and_self, Bool.and_true, Bool.true_and, List.zip_cons_cons, List.zip_nil_right, mTru, List.contains_nil, mIE, mIZ, mBrk, mCnt, decide_true, decide_false, Bool.false_eq_true, Bool.not_eq_true, hlm, ht]
  rw [seq_nx e1]
  obtain ⟨q, s2, ht2, q0, q1⟩ := take_ok T 2 s1 (by omega) (by omega)
  by_cases c : i < l.length
  · by_cases c2 : q = 0
    · subst c2
      obtain ⟨x, s3, hp, hx⟩ := pick_w T ws s2 h0 h1 hw
      refine ⟨l.set i (x, l[i].2), .val (.int (i : Int)), s3, ?_, good_set hg i c x hx, by rw [List.length_set]; omega⟩
      have cc : (mAndT (mTest (mOp (fC fun i j => decide (i < j)) (mVar 5) (mCB cLen (mCons (mVar 4) mNil)))) (mTest (mOp fEq (mCallB lensL [.b, .v] (f__law_take T) (mCons (mVar 0) (mCons (mK (.int 2)) mNil))) (mK (.int 0)))) : MX Bx Bool) [.box, .val (.lst ws), el, most, .own (l.map enc), .val (.int (i : Int)), x6, x7, x8] s1 = .ok true [.box, .val (.lst ws), el, most, .own (l.map enc), .val (.int (i : Int)), x6, x7, x8] s2 := by
        have hlt : ((i : Int) < (((l.map enc).length : Nat) : Int)) = True := by simp; omega
        have z0 := eq_int 0 0
        generalize l.map enc = ds at hlt
        simp only [mSeq, mSet, mRet, mRetN, mIf, mExp, mBad, mNext, mPar, W.sl, mFor, Out.bindS, MX.bind, Out.bind, mK, mVar, mFz, mFf, mOp, mTest, mNotT, mNotV, mAndT, mOrT, mAndV, mOrV, mIfE, mChain, mNil, mCons, mTup, mLst, mCB, mFld, mFldSet, mCallP, mCallB, mMethP, mMakeP, mMut, mSl, mPart, mNoPart, mIsi, mIL, mIT, mIR, mIEn, mIS, mBGet, mBSet, mNewBox, mComp, mYes, Out.bindN, bindA, env0, envA, envI, FO.outP, FO.outL, FO.out, SO.fo0, SO.foF, SO.foI, lensW, lensL, resO_some, Rs.w_v, Rs.w_f, W.rd_v, W.rd_t, W.rd_f, W.rd_l, W.kp_v, List.mapM_cons, List.mapM_nil, Option.bind_eq_bind, Option.bind_some, Option.pure_def, Option.map_some, List.replicate_succ, List.replicate_zero, List.cons_append, List.nil_append, List.getElem?_cons_zero, List.getElem?_cons_succ, List.set_cons_zero, List.set_cons_succ, rb, ri, fI, fC, fAdd, fSub, fMod, fMul, fDiv, fIx, fIsN, fNotN, D.isN, cl_lst, cl_tup, cInt, cTup, cList, gApp, gN, gT, gsC, gsN, Sl.isRef, if_true, if_false, if_pos, List.length_cons, List.length_nil, Bx.at, Bx.put, List.any_cons, List.any_nil, Bool.not_true, Bool.not_false, Nat.reduceAdd, Nat.reduceLeDiff, reduceIte, reduceCtorEq, and_self, and_true, true_and, if_s_non, if_s_bl, if_s_int, if_s_str, if_s_tup, if_s_lst, if_i_non, if_i_bl, if_i_int, if_i_str, if_i_tup, if_i_lst, if_b_non, if_b_bl, if_b_int, if_b_str, if_b_tup, if_b_lst, if_t_non, if_t_bl, if_t_int, if_t_str, if_t_tup, if_t_lst, if_l_non, if_l_bl, if_l_int, if_l_str, if_l_tup, if_l_lst, if_lt2_non, if_lt2_bl, if_lt2_int, if_lt2_str, if_lt2_tup, if_lt2_lst, mRaise, mTryAs, tryOut, mXf, mIsE, mLenO, mGetO, mIxSet, mSwapIx, ixSt, mNeg, isFO, gIns, SO.foX, SO.foJ, one_self, is1_self, at1_self, noRefAt, List.all_cons, List.all_nil, Sl.noBox, D.flat, Bool.and_self, Bool.and_true, Bool.true_and, List.zip_cons_cons, List.zip_nil_right, mTru, List.contains_nil, mIE, mIZ, mBrk, mCnt, decide_true, decide_false, Bool.false_eq_true, Bool.not_eq_true, hlt, ht2, z0]
      rw [if_t cc]
      have a1 := at_enc l i c
      have a2 : atI [D.str l[i].1, encE l[i].2] 1 = some (encE l[i].2) := rfl
      have hh : 1 + 1 ≤ 16777216 := by decide
      have e2 : (mTup (mCons (mCallB lensL [.b, .v] (f__law_pick T) (mCons (mVar 0) (mCons (mVar 1) mNil))) (mCons (mOp fIx (mOp fIx (mVar 4) (mVar 5)) (mK (.int 1))) mNil)) : MX Bx W) [.box, .val (.lst ws), el, most, .own (l.map enc), .val (.int (i : Int)), x6, x7, x8] s2 = .ok (.v (enc (x, l[i].2))) [.box, .val (.lst ws), el, most, .own (l.map enc), .val (.int (i : Int)), x6, x7, x8] s3 := by
        unfold enc at a1 ⊢
        simp only
        generalize encE l[i].2 = ee at a1 a2
        generalize l[i].1 = cc at a1 a2
        generalize (l.map fun p => D.tup [.str p.1, encE p.2]) = ds at a1
        generalize (i : Int) = z at a1
        simp only [mSeq, mSet, mRet, mRetN, mIf, mExp, mBad, mNext, mPar, W.sl, mFor, Out.bindS, MX.bind, Out.bind, mK, mVar, mFz, mFf, mOp, mTest, mNotT, mNotV, mAndT, mOrT, mAndV, mOrV, mIfE, mChain, mNil, mCons, mTup, mLst, mCB, mFld, mFldSet, mCallP, mCallB, mMethP, mMakeP, mMut, mSl, mPart, mNoPart, mIsi, mIL, mIT, mIR, mIEn, mIS, mBGet, mBSet, mNewBox, mComp, mYes, Out.bindN, bindA, env0, envA, envI, FO.outP, FO.outL, FO.out, SO.fo0, SO.foF, SO.foI, lensW, lensL, resO_some, Rs.w_v, Rs.w_f, W.rd_v, W.rd_t, W.rd_f, W.rd_l, W.kp_v, List.mapM_cons, List.mapM_nil, Option.bind_eq_bind, Option.bind_some, Option.pure_def, Option.map_some, List.replicate_succ, List.replicate_zero, List.cons_append, List.nil_append, List.getElem?_cons_zero, List.getElem?_cons_succ, List.set_cons_zero, List.set_cons_succ, rb, ri, fI, fC, fAdd, fSub, fMod, fMul, fDiv, fIx, fIsN, fNotN, D.isN, cl_lst, cl_tup, cInt, cTup, cList, gApp, gN, gT, gsC, gsN, Sl.isRef, if_true, if_false, if_pos, List.length_cons, List.length_nil, Bx.at, Bx.put, List.any_cons, List.any_nil, Bool.not_true, Bool.not_false, Nat.reduceAdd, Nat.reduceLeDiff, reduceIte, reduceCtorEq, and_self, and_true, true_and, if_s_non, if_s_bl, if_s_int, if_s_str, if_s_tup, if_s_lst, if_i_non, if_i_bl, if_i_int, if_i_str, if_i_tup, if_i_lst, if_b_non, if_b_bl, if_b_int, if_b_str, if_b_tup, if_b_lst, if_t_non, if_t_bl, if_t_int, if_t_str, if_t_tup, if_t_lst, if_l_non, if_l_bl, if_l_int, if_l_str, if_l_tup, if_l_lst, if_lt2_non, if_lt2_bl, if_lt2_int, if_lt2_str, if_lt2_tup, if_lt2_lst, mRaise, mTryAs, tryOut, mXf, mIsE, mLenO, mGetO, mIxSet, mSwapIx, ixSt, mNeg, isFO, gIns, SO.foX, SO.foJ, one_self, is1_self, at1_self, noRefAt, List.all_cons, List.all_nil, Sl.noBox, D.flat, Bool.and_self, Bool.and_true, Bool.true_and, List.zip_cons_cons, List.zip_nil_right, mTru, List.contains_nil, mIE, mIZ, mBrk, mCnt, decide_true, decide_false, Bool.false_eq_true, Bool.not_eq_true, hp, a1, a2, hh]
      have e3 : ((l.map enc).set i (enc (x, l[i].2))) = (l.set i (x, l[i].2)).map enc := by rw [List.map_set]
      have b1 : (0 : Int) ≤ (i : Int) ∧ (i : Int) < (((l.map enc).length : Nat) : Int) := by rw [len_map]; omega
      unfold mIxSet
      rw [e2]
      simp only [Out.bindS, mVar, List.getElem?_cons_zero, List.getElem?_cons_succ, W.kp, if_pos b1, Int.toNat_natCast, e3]
      rfl
    · have cc : (mAndT (mTest (mOp (fC fun i j => decide (i < j)) (mVar 5) (mCB cLen (mCons (mVar 4) mNil)))) (mTest (mOp fEq (mCallB lensL [.b, .v] (f__law_take T) (mCons (mVar 0) (mCons (mK (.int 2)) mNil))) (mK (.int 0)))) : MX Bx Bool) [.box, .val (.lst ws), el, most, .own (l.map enc), .val (.int (i : Int)), x6, x7, x8] s1 = .ok false [.box, .val (.lst ws), el, most, .own (l.map enc), .val (.int (i : Int)), x6, x7, x8] s2 := by
        have hlt : ((i : Int) < (((l.map enc).length : Nat) : Int)) = True := by simp; omega
        have z0 := eq_int q 0
        rw [decide_eq_false c2] at z0
        generalize l.map enc = ds at hlt
        simp only [mSeq, mSet, mRet, mRetN, mIf, mExp, mBad, mNext, mPar, W.sl, mFor, Out.bindS, MX.bind, Out.bind, mK, mVar, mFz, mFf, mOp, mTest, mNotT, mNotV, mAndT, mOrT, mAndV, mOrV, mIfE, mChain, mNil, mCons, mTup, mLst, mCB, mFld, mFldSet, mCallP, mCallB, mMethP, mMakeP, mMut, mSl, mPart, mNoPart, mIsi, mIL, mIT, mIR, mIEn, mIS, mBGet, mBSet, mNewBox, mComp, mYes, Out.bindN, bindA, env0, envA, envI, FO.outP, FO.outL, FO.out, SO.fo0, SO.foF, SO.foI, lensW, lensL, resO_some, Rs.w_v, Rs.w_f, W.rd_v, W.rd_t, W.rd_f, W.rd_l, W.kp_v, List.mapM_cons, List.mapM_nil, Option.bind_eq_bind, Option.bind_some, Option.pure_def, Option.map_some, List.replicate_succ, List.replicate_zero, List.cons_append, List.nil_append, List.getElem?_cons_zero, List.getElem?_cons_succ, List.set_cons_zero, List.set_cons_succ, rb, ri, fI, fC, fAdd, fSub, fMod, fMul, fDiv, fIx, fIsN, fNotN, D.isN, cl_lst, cl_tup, cInt, cTup, cList, gApp, gN, gT, gsC, gsN, Sl.isRef, if_true, if_false, if_pos, List.length_cons, List.length_nil, Bx.at, Bx.put, List.any_cons, List.any_nil, Bool.not_true, Bool.not_false, Nat.reduceAdd, Nat.reduceLeDiff, reduceIte, reduceCtorEq, and_self, and_true, true_and, if_s_non, if_s_bl, if_s_int, if_s_str, if_s_tup, if_s_lst, if_i_non, if_i_bl, if_i_int, if_i_str, if_i_tup, if_i_lst, if_b_non, if_b_bl, if_b_int, if_b_str, if_b_tup, if_b_lst, if_t_non, if_t_bl, if_t_int, if_t_str, if_t_tup, if_t_lst, if_l_non, if_l_bl, if_l_int, if_l_str, if_l_tup, if_l_lst, if_lt2_non, if_lt2_bl, if_lt2_int, if_lt2_str, if_lt2_tup, if_lt2_lst, mRaise, mTryAs, tryOut, mXf, mIsE, mLenO, mGetO, mIxSet, mSwapIx, ixSt, mNeg, isFO, gIns, SO.foX, SO.foJ, one_self, is1_self, at1_self, noRefAt, List.all_cons, List.all_nil, Sl.noBox, D.flat, Bool.and_self, Bool.and_true, Bool.true_and, List.zip_cons_cons, List.zip_nil_right, mTru, List.contains_nil, mIE, mIZ, mBrk, mCnt, decide_true, decide_false, Bool.false_eq_true, Bool.not_eq_true, hlt, ht2, z0]
      rw [if_f cc]
      obtain ⟨l', s', e3, g, b⟩ := ed_ins T ws h0 h1 hw el most x6 x7 x8 l i hg hl (by omega) s2
      exact ⟨l', _, s', e3, g, b⟩
  · have cc : (mAndT (mTest (mOp (fC fun i j => decide (i < j)) (mVar 5) (mCB cLen (mCons (mVar 4) mNil)))) (mTest (mOp fEq (mCallB lensL [.b, .v] (f__law_take T) (mCons (mVar 0) (mCons (mK (.int 2)) mNil))) (mK (.int 0)))) : MX Bx Bool) [.box, .val (.lst ws), el, most, .own (l.map enc), .val (.int (i : Int)), x6, x7, x8] s1 = .ok false [.box, .val (.lst ws), el, most, .own (l.map enc), .val (.int (i : Int)), x6, x7, x8] s1 := by
      have hlt : ((i : Int) < (((l.map enc).length : Nat) : Int)) = False := by simp; omega
      generalize l.map enc = ds at hlt
      simp only [mSeq, mSet, mRet, mRetN, mIf, mExp, mBad, mNext, mPar, W.sl, mFor, Out.bindS, MX.bind, Out.bind, mK, mVar, mFz, mFf, mOp, mTest, mNotT, mNotV, mAndT, mOrT, mAndV, mOrV, mIfE, mChain, mNil, mCons, mTup, mLst, mCB, mFld, mFldSet, mCallP, mCallB, mMethP, mMakeP, mMut, mSl, mPart, mNoPart, mIsi, mIL, mIT, mIR, mIEn, mIS, mBGet, mBSet, mNewBox, mComp, mYes, Out.bindN, bindA, env0, envA, envI, FO.outP, FO.outL, FO.out, SO.fo0, SO.foF, SO.foI, lensW, lensL, resO_some, Rs.w_v, Rs.w_f, W.rd_v, W.rd_t, W.rd_f, W.rd_l, W.kp_v, List.mapM_cons, List.mapM_nil, Option.bind_eq_bind, Option.bind_some, Option.pure_def, Option.map_some, List.replicate_succ, List.replicate_zero, List.cons_append, List.nil_append, List.getElem?_cons_zero, List.getElem?_cons_succ, List.set_cons_zero, List.set_cons_succ, rb, ri, fI, fC, fAdd, fSub, fMod, fMul, fDiv, fIx, fIsN, fNotN, D.isN, cl_lst, cl_tup, cInt, cTup, cList, gApp, gN, gT, gsC, gsN, Sl.isRef, if_true, if_false, if_pos, List.length_cons, List.length_nil, Bx.at, Bx.put, List.any_cons, List.any_nil, Bool.not_true, Bool.not_false, Nat.reduceAdd, Nat.reduceLeDiff, reduceIte, reduceCtorEq, and_self, and_true, true_and, if_s_non, if_s_bl, if_s_int, if_s_str, if_s_tup, if_s_lst, if_i_non, if_i_bl, if_i_int, if_i_str, if_i_tup, if_i_lst, if_b_non, if_b_bl, if_b_int, if_b_str, if_b_tup, if_b_lst, if_t_non, if_t_bl, if_t_int, if_t_str, if_t_tup, if_t_lst, if_l_non, if_l_bl, if_l_int, if_l_str, if_l_tup, if_l_lst, if_lt2_non, if_lt2_bl, if_lt2_int, if_lt2_str, if_lt2_tup, if_lt2_lst, mRaise, mTryAs, tryOut, mXf, mIsE, mLenO, mGetO, mIxSet, mSwapIx, ixSt, mNeg, isFO, gIns, SO.foX, SO.foJ, one_self, is1_self, at1_self, noRefAt, List.all_cons, List.all_nil, Sl.noBox, D.flat, Bool.and_self, Bool.and_true, Bool.true_and, List.zip_cons_cons, List.zip_nil_right, mTru, List.contains_nil, mIE, mIZ, mBrk, mCnt, decide_true, decide_false, Bool.false_eq_true, Bool.not_eq_true, hlt]
    rw [if_f cc]
    obtain ⟨l', s', e3, g, b⟩ := ed_ins T ws h0 h1 hw el most x6 x7 x8 l i hg hl (by omega) s1
    exact ⟨l', _, s', e3, g, b⟩
theorem vl9 : True := trivial
theorem m_ed_eq (T : Tx K mg) : m__law_edited T = mSeq (mSet 4 (mComp (mIEn (mVar 2)) [5, 6, 7] (gT 2 (gsC (gN 5) (gsC (gT 2 (gsC (gN 6) (gsC (gN 7) gsN))) gsN))) (mTest (mOp (fC fun i j => decide (j < i)) (mCallB lensL [.b, .v] (f__law_take T) (mCons (mVar 0) (mCons (mK (.int 6)) mNil))) (mK (.int 0)))) (mTup (mCons (mVar 6) (mCons (mVar 5) mNil)))))
    (mSeq (mIf (mAndT (mTest (mOp (fC fun i j => decide (j < i)) (mCB cLen (mCons (mVar 4) mNil)) (mK (.int 1)))) (mTest (mOp fEq (mCallB lensL [.b, .v] (f__law_take T) (mCons (mVar 0) (mCons (mK (.int 3)) mNil))) (mK (.int 0))))) (mSeq (mSet 5 (mCallB lensL [.b, .v] (f__law_take T) (mCons (mVar 0) (mCons (mOp fSub (mCB cLen (mCons (mVar 4) mNil)) (mK (.int 1))) mNil))))
    (mSwapIx 4 (mVar 5) (mOp fAdd (mVar 5) (mK (.int 1))) (mTup (mCons (mOp fIx (mVar 4) (mOp fAdd (mVar 5) (mK (.int 1)))) (mCons (mOp fIx (mVar 4) (mVar 5)) mNil))))) mNext)
    (mSeq (mFor (mIR (mCallB lensL [.b, .v] (f__law_take T) (mCons (mVar 0) (mCons (mK (.int 3)) mNil)))) (gN 8) (EdB T))
    (mRet (mSl fSlL (mVar 4) mNoPart (mPart (mVar 3)))))) := rfl
theorem edited_ok (T : Tx K mg) (ws : List D) (h0 : 0 < ws.length) (h1 : ws.length < 1000) (hw : ∀ d ∈ ws, ∃ x ∈ words, d = .str x) (xs : List P) (hx : ∀ x ∈ xs, x.1 ∈ words) (hl : xs.length ≤ 8) (m : Nat) (s : Bx) :
    ∃ l s', f__law_edited T [.lst ws, .lst (xs.map enc), .int (m : Int)] s = .ok (.lst (l.map enc)) s' ∧ Good l ∧ l.length ≤ m := by
  unfold f__law_edited
  rw [m_ed_eq]
  obtain ⟨l1, s1, c1, g1, b1⟩ := ed_comp T (.lst ws) (.int (m : Int)) xs hx hl s
  rw [seq_nx (e1 := [.box, .val (.lst ws), .val (.lst (xs.map enc)), .val (.int (m : Int)), .own (l1.map enc), .no, .no, .no, .no]) (s1 := s1) (set_f c1)]
  -- two neighbours
  have sw : ∃ l2 y5 s2, (mIf (mAndT (mTest (mOp (fC fun i j => decide (j < i)) (mCB cLen (mCons (mVar 4) mNil)) (mK (.int 1)))) (mTest (mOp fEq (mCallB lensL [.b, .v] (f__law_take T) (mCons (mVar 0) (mCons (mK (.int 3)) mNil))) (mK (.int 0))))) (mSeq (mSet 5 (mCallB lensL [.b, .v] (f__law_take T) (mCons (mVar 0) (mCons (mOp fSub (mCB cLen (mCons (mVar 4) mNil)) (mK (.int 1))) mNil))))
    (mSwapIx 4 (mVar 5) (mOp fAdd (mVar 5) (mK (.int 1))) (mTup (mCons (mOp fIx (mVar 4) (mOp fAdd (mVar 5) (mK (.int 1)))) (mCons (mOp fIx (mVar 4) (mVar 5)) mNil))))) mNext : MS Bx) [.box, .val (.lst ws), .val (.lst (xs.map enc)), .val (.int (m : Int)), .own (l1.map enc), .no, .no, .no, .no] s1 =
      .nx [.box, .val (.lst ws), .val (.lst (xs.map enc)), .val (.int (m : Int)), .own (l2.map enc), y5, .no, .no, .no] s2 ∧ Good l2 ∧ l2.length = l1.length := by
    by_cases c : 1 < l1.length
    · obtain ⟨r, s2, ht, r0, r1⟩ := take_ok T 3 s1 (by omega) (by omega)
      have hlt : ((1 : Int) < (((l1.map enc).length : Nat) : Int)) = True := by simp; omega
      have hln : (((l1.map enc).length : Nat) : Int) = (l1.length : Int) := by rw [len_map]
      by_cases c2 : r = 0
      · subst c2
        have z0 := eq_int 0 0
        obtain ⟨q, s3, ht2, q0, q1⟩ := take_ok T ((l1.length : Int) - 1) s2 (by omega) (by omega)
        obtain ⟨i, rfl⟩ : ∃ i : Nat, q = (i : Int) := ⟨q.toNat, by omega⟩
        have hi : i + 1 < l1.length := by omega
        have cc : (mAndT (mTest (mOp (fC fun i j => decide (j < i)) (mCB cLen (mCons (mVar 4) mNil)) (mK (.int 1)))) (mTest (mOp fEq (mCallB lensL [.b, .v] (f__law_take T) (mCons (mVar 0) (mCons (mK (.int 3)) mNil))) (mK (.int 0)))) : MX Bx Bool) [.box, .val (.lst ws), .val (.lst (xs.map enc)), .val (.int (m : Int)), .own (l1.map enc), .no, .no, .no, .no] s1 = .ok true [.box, .val (.lst ws), .val (.lst (xs.map enc)), .val (.int (m : Int)), .own (l1.map enc), .no, .no, .no, .no] s2 := by
          generalize l1.map enc = ds at hlt
          generalize D.lst (xs.map enc) = e0
          simp only [mSeq, mSet, mRet, mRetN, mIf, mExp, mBad, mNext, mPar, W.sl, mFor, Out.bindS, MX.bind, Out.bind, mK, mVar, mFz, mFf, mOp, mTest, mNotT, mNotV, mAndT, mOrT, mAndV, mOrV, mIfE, mChain, mNil, mCons, mTup, mLst, mCB, mFld, mFldSet, mCallP, mCallB, mMethP, mMakeP, mMut, mSl, mPart, mNoPart, mIsi, mIL, mIT, mIR, mIEn, mIS, mBGet, mBSet, mNewBox, mComp, mYes, Out.bindN, bindA, env0, envA, envI, FO.outP, FO.outL, FO.out, SO.fo0, SO.foF, SO.foI, lensW, lensL, resO_some, Rs.w_v, Rs.w_f, W.rd_v, W.rd_t, W.rd_f, W.rd_l, W.kp_v, List.mapM_cons, List.mapM_nil, Option.bind_eq_bind, Option.bind_some, Option.pure_def, Option.map_some, List.replicate_succ, List.replicate_zero, List.cons_append, List.nil_append, List.getElem?_cons_zero, List.getElem?_cons_succ, List.set_cons_zero, List.set_cons_succ, rb, ri, fI, fC, fAdd, fSub, fMod, fMul, fDiv, fIx, fIsN, fNotN, D.isN, cl_lst, cl_tup, cInt, cTup, cList, gApp, gN, gT, gsC, gsN, Sl.isRef, if_true, if_false, if_pos, List.length_cons, List.length_nil, Bx.at, Bx.put, List.any_cons, List.any_nil, Bool.not_true, Bool.not_false, Nat.reduceAdd, Nat.reduceLeDiff, reduceIte, reduceCtorEq, and_self, and_true, true_and, if_s_non, if_s_bl, if_s_int, if_s_str, if_s_tup, if_s_lst, if_i_non, if_i_bl, if_i_int, if_i_str, if_i_tup, if_i_lst, if_b_non, if_b_bl, if_b_int, if_b_str, if_b_tup, if_b_lst, if_t_non, if_t_bl, if_t_int, if_t_str, if_t_tup, if_t_lst, if_l_non, if_l_bl, if_l_int, if_l_str, if_l_tup, if_l_lst, if_lt2_non, if_lt2_bl, if_lt2_int, if_lt2_str, if_lt2_tup, if_lt2_lst, mRaise, mTryAs, tryOut, mXf, mIsE, mLenO, mGetO, mIxSet, mSwapIx, ixSt, mNeg, isFO, gIns, SO.foX, SO.foJ, one_self, is1_self, at1_self, noRefAt, List.all_cons, List.all_nil, Sl.noBox, D.flat, Bool.and_self, Bool.and_true, Bool.true_and, List.zip_cons_cons, List.zip_nil_right, mTru, List.contains_nil, mIE, mIZ, mBrk, mCnt, decide_true, decide_false, Bool.false_eq_true, Bool.not_eq_true, hlt, ht, z0]
        have e5 : (mSet 5 (mCallB lensL [.b, .v] (f__law_take T) (mCons (mVar 0) (mCons (mOp fSub (mCB cLen (mCons (mVar 4) mNil)) (mK (.int 1))) mNil))) : MS Bx) [.box, .val (.lst ws), .val (.lst (xs.map enc)), .val (.int (m : Int)), .own (l1.map enc), .no, .no, .no, .no] s2 = .nx [.box, .val (.lst ws), .val (.lst (xs.map enc)), .val (.int (m : Int)), .own (l1.map enc), .val (.int (i : Int)), .no, .no, .no] s3 := by
          generalize l1.map enc = ds at hln
          generalize D.lst (xs.map enc) = e0
          simp only [mSeq, mSet, mRet, mRetN, mIf, mExp, mBad, mNext, mPar, W.sl, mFor, Out.bindS, MX.bind, Out.bind, mK, mVar, mFz, mFf, mOp, mTest, mNotT, mNotV, mAndT, mOrT, mAndV, mOrV, mIfE, mChain, mNil, mCons, mTup, mLst, mCB, mFld, mFldSet, mCallP, mCallB, mMethP, mMakeP, mMut, mSl, mPart, mNoPart, mIsi, mIL, mIT, mIR, mIEn, mIS, mBGet, mBSet, mNewBox, mComp, mYes, Out.bindN, bindA, env0, envA, envI, FO.outP, FO.outL, FO.out, SO.fo0, SO.foF, SO.foI, lensW, lensL, resO_some, Rs.w_v, Rs.w_f, W.rd_v, W.rd_t, W.rd_f, W.rd_l, W.kp_v, List.mapM_cons, List.mapM_nil, Option.bind_eq_bind, Option.bind_some, Option.pure_def, Option.map_some, List.replicate_succ, List.replicate_zero, List.cons_append, List.nil_append, List.getElem?_cons_zero, List.getElem?_cons_succ, List.set_cons_zero, List.set_cons_succ, rb, ri, fI, fC, fAdd, fSub, fMod, fMul, fDiv, fIx, fIsN, fNotN, D.isN, cl_lst, cl_tup, cInt, cTup, cList, gApp, gN, gT, gsC, gsN, Sl.isRef, if_true, if_false, if_pos, List.length_cons, List.length_nil, Bx.at, Bx.put, List.any_cons, List.any_nil, Bool.not_true, Bool.not_false, Nat.reduceAdd, Nat.reduceLeDiff, reduceIte, reduceCtorEq, and_self, and_true, true_and, if_s_non, if_s_bl, if_s_int, if_s_str, if_s_tup, if_s_lst, if_i_non, if_i_bl, if_i_int, if_i_str, if_i_tup, if_i_lst, if_b_non, if_b_bl, if_b_int, if_b_str, if_b_tup, if_b_lst, if_t_non, if_t_bl, if_t_int, if_t_str, if_t_tup, if_t_lst, if_l_non, if_l_bl, if_l_int, if_l_str, if_l_tup, if_l_lst, if_lt2_non, if_lt2_bl, if_lt2_int, if_lt2_str, if_lt2_tup, if_lt2_lst, mRaise, mTryAs, tryOut, mXf, mIsE, mLenO, mGetO, mIxSet, mSwapIx, ixSt, mNeg, isFO, gIns, SO.foX, SO.foJ, one_self, is1_self, at1_self, noRefAt, List.all_cons, List.all_nil, Sl.noBox, D.flat, Bool.and_self, Bool.and_true, Bool.true_and, List.zip_cons_cons, List.zip_nil_right, mTru, List.contains_nil, mIE, mIZ, mBrk, mCnt, decide_true, decide_false, Bool.false_eq_true, Bool.not_eq_true, hln, ht2]
        refine ⟨(l1.set i l1[i + 1]).set (i + 1) l1[i], .val (.int (i : Int)), s3, ?_, good_perm g1 (List.set_set_perm (by omega) hi), by rw [List.length_set, List.length_set]⟩
        rw [if_t cc, seq_nx e5]
        exact ed_swap T _ _ _ _ _ _ l1 i hi s3
      · have z0 := eq_int r 0
        rw [decide_eq_false c2] at z0
        have cc : (mAndT (mTest (mOp (fC fun i j => decide (j < i)) (mCB cLen (mCons (mVar 4) mNil)) (mK (.int 1)))) (mTest (mOp fEq (mCallB lensL [.b, .v] (f__law_take T) (mCons (mVar 0) (mCons (mK (.int 3)) mNil))) (mK (.int 0)))) : MX Bx Bool) [.box, .val (.lst ws), .val (.lst (xs.map enc)), .val (.int (m : Int)), .own (l1.map enc), .no, .no, .no, .no] s1 = .ok false [.box, .val (.lst ws), .val (.lst (xs.map enc)), .val (.int (m : Int)), .own (l1.map enc), .no, .no, .no, .no] s2 := by
          generalize l1.map enc = ds at hlt
          generalize D.lst (xs.map enc) = e0
          simp only [mSeq, mSet, mRet, mRetN, mIf, mExp, mBad, mNext, mPar, W.sl, mFor, Out.bindS, MX.bind, Out.bind, mK, mVar, mFz, mFf, mOp, mTest, mNotT, mNotV, mAndT, mOrT, mAndV, mOrV, mIfE, mChain, mNil, mCons, mTup, mLst, mCB, mFld, mFldSet, mCallP, mCallB, mMethP, mMakeP, mMut, mSl, mPart, mNoPart, mIsi, mIL, mIT, mIR, mIEn, mIS, mBGet, mBSet, mNewBox, mComp, mYes, Out.bindN, bindA, env0, envA, envI, FO.outP, FO.outL, FO.out, SO.fo0, SO.foF, SO.foI, lensW, lensL, resO_some, Rs.w_v, Rs.w_f, W.rd_v, W.rd_t, W.rd_f, W.rd_l, W.kp_v, List.mapM_cons, List.mapM_nil, Option.bind_eq_bind, Option.bind_some, Option.pure_def, Option.map_some, List.replicate_succ, List.replicate_zero, List.cons_append, List.nil_append, List.getElem?_cons_zero, List.getElem?_cons_succ, List.set_cons_zero, List.set_cons_succ, rb, ri, fI, fC, fAdd, fSub, fMod, fMul, fDiv, fIx, fIsN, fNotN, D.isN, cl_lst, cl_tup, cInt, cTup, cList, gApp, gN, gT, gsC, gsN, Sl.isRef, if_true, if_false, if_pos, List.length_cons, List.length_nil, Bx.at, Bx.put, List.any_cons, List.any_nil, Bool.not_true, Bool.not_false, Nat.reduceAdd, Nat.reduceLeDiff, reduceIte, reduceCtorEq, and_self, and_true, true_and, if_s_non, if_s_bl, if_s_int, if_s_str, if_s_tup, if_s_lst, if_i_non, if_i_bl, if_i_int, if_i_str, if_i_tup, if_i_lst, if_b_non, if_b_bl, if_b_int, if_b_str, if_b_tup, if_b_lst, if_t_non, if_t_bl, if_t_int, if_t_str, if_t_tup, if_t_lst, if_l_non, if_l_bl, if_l_int, if_l_str, if_l_tup, if_l_lst, if_lt2_non, if_lt2_bl, if_lt2_int, if_lt2_str, if_lt2_tup, if_lt2_lst, mRaise, mTryAs, tryOut, mXf, mIsE, mLenO, mGetO, mIxSet, mSwapIx, ixSt, mNeg, isFO, gIns, SO.foX, SO.foJ, one_self, is1_self, at1_self, noRefAt, List.all_cons, List.all_nil, Sl.noBox, D.flat, Bool.and_self, Bool.and_true, Bool.true_and, List.zip_cons_cons, List.zip_nil_right, mTru, List.contains_nil, mIE, mIZ, mBrk, mCnt, decide_true, decide_false, Bool.false_eq_true, Bool.not_eq_true, hlt, ht, z0]
        exact ⟨l1, .no, s2, if_f cc, g1, rfl⟩
    · have hlt : ((1 : Int) < (((l1.map enc).length : Nat) : Int)) = False := by simp; omega
      have cc : (mAndT (mTest (mOp (fC fun i j => decide (j < i)) (mCB cLen (mCons (mVar 4) mNil)) (mK (.int 1)))) (mTest (mOp fEq (mCallB lensL [.b, .v] (f__law_take T) (mCons (mVar 0) (mCons (mK (.int 3)) mNil))) (mK (.int 0)))) : MX Bx Bool) [.box, .val (.lst ws), .val (.lst (xs.map enc)), .val (.int (m : Int)), .own (l1.map enc), .no, .no, .no, .no] s1 = .ok false [.box, .val (.lst ws), .val (.lst (xs.map enc)), .val (.int (m : Int)), .own (l1.map enc), .no, .no, .no, .no] s1 := by
        generalize l1.map enc = ds at hlt
        generalize D.lst (xs.map enc) = e0
        simp only [mSeq, mSet, mRet, mRetN, mIf, mExp, mBad, mNext, mPar, W.sl, mFor, Out.bindS, MX.bind, Out.bind, mK, mVar, mFz, mFf, mOp, mTest, mNotT, mNotV, mAndT, mOrT, mAndV, mOrV, mIfE, mChain, mNil, mCons, mTup, mLst, mCB, mFld, mFldSet, mCallP, mCallB, mMethP, mMakeP, mMut, mSl, mPart, mNoPart, mIsi, mIL, mIT, mIR, mIEn, mIS, mBGet, mBSet, mNewBox, mComp, mYes, Out.bindN, bindA, env0, envA, envI, FO.outP, FO.outL, FO.out, SO.fo0, SO.foF, SO.foI, lensW, lensL, resO_some, Rs.w_v, Rs.w_f, W.rd_v, W.rd_t, W.rd_f, W.rd_l, W.kp_v, List.mapM_cons, List.mapM_nil, Option.bind_eq_bind, Option.bind_some, Option.pure_def, Option.map_some, List.replicate_succ, List.replicate_zero, List.cons_append, List.nil_append, List.getElem?_cons_zero, List.getElem?_cons_succ, List.set_cons_zero, List.set_cons_succ, rb, ri, fI, fC, fAdd, fSub, fMod, fMul, fDiv, fIx, fIsN, fNotN, D.isN, cl_lst, cl_tup, cInt, cTup, cList, gApp, gN, gT, gsC, gsN, Sl.isRef, if_true, if_false, if_pos, List.length_cons, List.length_nil, Bx.at, Bx.put, List.any_cons, List.any_nil, Bool.not_true, Bool.not_false, Nat.reduceAdd, Nat.reduceLeDiff, reduceIte, reduceCtorEq, and_self, and_true, true_and, if_s_non, if_s_bl, if_s_int, if_s_str, if_s_tup, if_s_lst, if_i_non, if_i_bl, if_i_int, if_i_str, if_i_tup, if_i_lst, if_b_non, if_b_bl, if_b_int, if_b_str, if_b_tup, if_b_lst, if_t_non, if_t_bl, if_t_int, if_t_str, if_t_tup, if_t_lst, if_l_non, if_l_bl, if_l_int, if_l_str, if_l_tup, if_l_lst, if_lt2_non, if_lt2_bl, if_lt2_int, if_lt2_str, if_lt2_tup, if_lt2_lst, mRaise, mTryAs, tryOut, mXf, mIsE, mLenO, mGetO, mIxSet, mSwapIx, ixSt, mNeg, isFO, gIns, SO.foX, SO.foJ, one_self, is1_self, at1_self, noRefAt, List.all_cons, List.all_nil, Sl.noBox, D.flat, Bool.and_self, Bool.and_true, Bool.true_and, List.zip_cons_cons, List.zip_nil_right, mTru, List.contains_nil, mIE, mIZ, mBrk, mCnt, decide_true, decide_false, Bool.false_eq_true, Bool.not_eq_true, hlt]
      exact ⟨l1, .no, s1, if_f cc, g1, rfl⟩
  obtain ⟨l2, y5, s2, c2, g2, b2⟩ := sw
  rw [seq_nx c2]
  obtain ⟨r, s3, ht, r0, r1⟩ := take_ok T 3 s2 (by omega) (by omega)
  have e1 : (mIR (mCallB lensL [.b, .v] (f__law_take T) (mCons (mVar 0) (mCons (mK (.int 3)) mNil))) : MX Bx (List D)) [.box, .val (.lst ws), .val (.lst (xs.map enc)), .val (.int (m : Int)), .own (l2.map enc), y5, .no, .no, .no] s2 = .ok ((List.range r.toNat).map fun i => .int (i : Nat)) [.box, .val (.lst ws), .val (.lst (xs.map enc)), .val (.int (m : Int)), .own (l2.map enc), y5, .no, .no, .no] s3 := by
    refine ir_int (n := r) ?_ (by omega) (by omega)
    generalize D.lst (xs.map enc) = e0
    simp only [mSeq, mSet, mRet, mRetN, mIf, mExp, mBad, mNext, mPar, W.sl, mFor, Out.bindS, MX.bind, Out.bind, mK, mVar, mFz, mFf, mOp, mTest, mNotT, mNotV, mAndT, mOrT, mAndV, mOrV, mIfE, mChain, mNil, mCons, mTup, mLst, mCB, mFld, mFldSet, mCallP, mCallB, mMethP, mMakeP, mMut, mSl, mPart, mNoPart, mIsi, mIL, mIT, mIR, mIEn, mIS, mBGet, mBSet, mNewBox, mComp, mYes, Out.bindN, bindA, env0, envA, envI, FO.outP, FO.outL, FO.out, SO.fo0, SO.foF, SO.foI, lensW, lensL, resO_some, Rs.w_v, Rs.w_f, W.rd_v, W.rd_t, W.rd_f, W.rd_l, W.kp_v, List.mapM_cons, List.mapM_nil, Option.bind_eq_bind, Option.bind_some, Option.pure_def, Option.map_some, List.replicate_succ, List.replicate_zero, List.cons_append, List.nil_append, List.getElem?_cons_zero, List.getElem?_cons_succ, List.set_cons_zero, List.set_cons_succ, rb, ri, fI, fC, fAdd, fSub, fMod, fMul, fDiv, fIx, fIsN, fNotN, D.isN, cl_lst, cl_tup, cInt, cTup, cList, gApp, gN, gT, gsC, gsN, Sl.isRef, if_true, if_false, if_pos, List.length_cons, List.length_nil, Bx.at, Bx.put, List.any_cons, List.any_nil, Bool.not_true, Bool.not_false, Nat.reduceAdd, Nat.reduceLeDiff, reduceIte, reduceCtorEq, and_self, and_true, true_and, if_s_non, if_s_bl, if_s_int, if_s_str, if_s_tup, if_s_lst, if_i_non, if_i_bl, if_i_int, if_i_str, if_i_tup, if_i_lst, if_b_non, if_b_bl, if_b_int, if_b_str, if_b_tup, if_b_lst, if_t_non, if_t_bl, if_t_int, if_t_str, if_t_tup, if_t_lst, if_l_non, if_l_bl, if_l_int, if_l_str, if_l_tup, if_l_lst, if_lt2_non, if_lt2_bl, if_lt2_int, if_lt2_str, if_lt2_tup, if_lt2_lst, mRaise, mTryAs, tryOut, mXf, mIsE, mLenO, mGetO, mIxSet, mSwapIx, ixSt, mNeg, isFO, gIns, SO.foX, SO.foJ, one_self, is1_self, at1_self, noRefAt, List.all_cons, List.all_nil, Sl.noBox, D.flat, Bool.and_self, Bool.and_true, Bool.true_and, List.zip_cons_cons, List.zip_nil_right, mTru, List.contains_nil, mIE, mIZ, mBrk, mCnt, decide_true, decide_false, Bool.false_eq_true, Bool.not_eq_true, ht]
  obtain ⟨e4, s4, h4, z5, z8, l3, rfl, hz8, g3, b3⟩ := forL_cnt (S := Bx) (g := gN 8) (body := EdB T) (L := (List.range r.toNat).map fun i => D.int (i : Nat))
    (fun k env _ => ∃ x5 x8 l, env = [.box, .val (.lst ws), .val (.lst (xs.map enc)), .val (.int (m : Int)), .own (l.map enc), x5, .no, .no, x8] ∧ x8.isRef = false ∧ Good l ∧ l.length + k ≤ 200) (by
      rintro k d _ env s ⟨x5, x8, l, rfl, hx8, hg, hb⟩
      obtain ⟨l', y5, s', hE, g', b'⟩ := edb_ok T ws h0 h1 hw (.val (.lst (xs.map enc))) (.val (.int (m : Int))) x5 .no .no (.val d) l hg (by omega) s
      refine ⟨[.box, .val (.lst ws), .val (.lst (xs.map enc)), .val (.int (m : Int)), .own (l.map enc), x5, .no, .no, .val d], _, s', ?_, hE, y5, .val d, l', rfl, rfl, g', by omega⟩
      simp only [gN, List.getElem?_cons_zero, List.getElem?_cons_succ, hx8]
      rfl) 0 [.box, .val (.lst ws), .val (.lst (xs.map enc)), .val (.int (m : Int)), .own (l2.map enc), y5, .no, .no, .no] s3 ⟨y5, .no, l2, rfl, rfl, g2, by rw [List.length_map, List.length_range]; omega⟩
  rw [seq_nx ((for_x e1).trans h4)]
  refine ⟨l3.take m, s4, ?_, good_take g3 m, by rw [List.length_take]; omega⟩
  rw [ret_f (ds := (l3.take m).map enc) (e1 := [.box, .val (.lst ws), .val (.lst (xs.map enc)), .val (.int (m : Int)), .own (l3.map enc), z5, .no, .no, z8]) (s1 := s4)]
  · rfl
  · have q : fSlL (.lst (l3.map enc)) none (some (m : Int)) = some (.f ((l3.take m).map enc)) := by
      simp only [fSlL, cut_to, List.map_take]
    exact sl_w (r := .f ((l3.take m).map enc)) (a := .l 4) (d := .lst (l3.map enc)) (l := none) (h := some (m : Int)) rfl rfl rfl rfl q
/-! ### any values -/
end
end ledmarks_k13_editions_made

namespace ledmarks_k13_editions_made
open PySem L2 LM
section
variable {K : PySem.W.Frag} {mg : Str → Option Value}
def wS (p : P) : Str := match p.2 with
  | none => p.1
  | some j => p.1 ++ ":" ++ (toString ((j : Nat) : Int) : Str)
def WW : List Str := (words.flatMap fun c => wS (c, none) :: (List.range 8).map fun j => wS (c, some j)) ++ ([("-" : Str)] : List Str)
theorem ww_len : ∀ w ∈ WW, w.length ≤ 20 := by decide +kernel
theorem wS_mem {p : P} (h : p.1 ∈ words ∧ ∀ j, p.2 = some j → j < 8) : wS p ∈ WW := by
  unfold WW
  rw [List.mem_append]
  refine .inl (List.mem_flatMap.mpr ⟨p.1, h.1, ?_⟩)
  obtain ⟨c, e⟩ := p
  cases e with
  | none => exact List.mem_cons_self
  | some j => exact List.mem_cons_of_mem _ (List.mem_map.mpr ⟨j, List.mem_range.mpr (h.2 j rfl), rfl⟩)
theorem sum20 : ∀ ys : List Str, (∀ y ∈ ys, y ∈ WW) → (ys.map (·.length)).sum ≤ 20 * ys.length
  | [], _ => Nat.le_refl _
  | y :: ys, h => by
    have ih := sum20 ys fun z hz => h z (List.mem_cons_of_mem _ hz)
    have h1 := ww_len y (h y List.mem_cons_self)
    simp only [List.map_cons, List.sum_cons, List.length_cons]
    omega
theorem strs_map : ∀ ys : List Str, strsD (ys.map .str) = some ys
  | [] => rfl
  | y :: ys => by
    show (strsD (ys.map .str)).map (y :: ·) = _
    rw [strs_map ys]; rfl
theorem jj {ys : List Str} (h : ∀ y ∈ ys, y ∈ WW) (hl : ys.length ≤ 500) : jJoin " " [.lst (ys.map .str)] = some (.v (.str (Txt.join " " ys))) := by
  have s := sum20 ys h
  have l1 : (" " : Str).length = 1 := by decide +kernel
  simp only [jJoin, strs_map, Option.bind_some, l1]
  rw [if_pos (by omega)]
theorem oks_str (n : Nat) (us : List Str) : oks n (us.map .str) = true := oks_of fun d hd => by
  obtain ⟨c, _, rfl⟩ := List.mem_map.mp hd
  cases n <;> rfl
def Gd (p : P) : Prop := p.1 ∈ words ∧ ∀ j, p.2 = some j → j < 8
def sI (j : Nat) : Str := toString ((j : Nat) : Int)
theorem fac : ∀ c ∈ words, (Str.empty ++ c).length ≤ 16777216 ∧ (Str.empty ++ c ++ ":").length ≤ 16777216 ∧ c.length ≤ 16777216 ∧ c.length + (":" : Str).length ≤ 16777216 ∧ ∀ j ∈ List.range 8, (Str.empty ++ c ++ ":" ++ sI j).length ≤ 16777216 ∧ Str.empty ++ c ++ ":" ++ sI j = c ++ ":" ++ sI j ∧ (c ++ ":").length + (sI j).length ≤ 16777216 ∧ ((j : Nat) : Int).natAbs.log2 < 1920 := by decide +kernel
theorem wordp_sp (T : Tx K mg) (p : P) (h : Gd p) : f__word T [.str p.1, encE p.2] () = .ok (.str (wS p)) () := by
  obtain ⟨c, e⟩ := p
  obtain ⟨f1, f2, f3, f4, f5⟩ := fac c h.1
  unfold f__word m__word
  cases e with
  | none =>
    show ((_ : MS Unit) (env0 [.v, .v] 0 [.str c, .non]) ()).fo0 = .ok (.str c) ()
    simp only [mSeq, mSet, mRet, mRetN, mIf, mExp, mBad, mNext, mPar, W.sl, mFor, Out.bindS, MX.bind, Out.bind, mK, mVar, mFz, mFf, mOp, mTest, mNotT, mNotV, mAndT, mOrT, mAndV, mOrV, mIfE, mChain, mNil, mCons, mTup, mLst, mCB, mFld, mFldSet, mCallP, mCallB, mMethP, mMakeP, mMut, mSl, mPart, mNoPart, mIsi, mIL, mIT, mIR, mIEn, mIS, mBGet, mBSet, mNewBox, mComp, mYes, Out.bindN, bindA, env0, envA, envI, FO.outP, FO.outL, FO.out, SO.fo0, SO.foF, SO.foI, lensW, lensL, resO_some, Rs.w_v, Rs.w_f, W.rd_v, W.rd_t, W.rd_f, W.rd_l, W.kp_v, List.mapM_cons, List.mapM_nil, Option.bind_eq_bind, Option.bind_some, Option.pure_def, Option.map_some, List.replicate_succ, List.replicate_zero, List.cons_append, List.nil_append, List.getElem?_cons_zero, List.getElem?_cons_succ, List.set_cons_zero, List.set_cons_succ, rb, ri, fI, fC, fAdd, fSub, fMod, fMul, fDiv, fIx, fIsN, fNotN, D.isN, cl_lst, cl_tup, cInt, cTup, cList, gApp, gN, gT, gsC, gsN, Sl.isRef, if_true, if_false, if_pos, List.length_cons, List.length_nil, Bx.at, Bx.put, List.any_cons, List.any_nil, Bool.not_true, Bool.not_false, Nat.reduceAdd, Nat.reduceLeDiff, reduceIte, reduceCtorEq, and_self, and_true, true_and, if_s_non, if_s_bl, if_s_int, if_s_str, if_s_tup, if_s_lst, if_i_non, if_i_bl, if_i_int, if_i_str, if_i_tup, if_i_lst, if_b_non, if_b_bl, if_b_int, if_b_str, if_b_tup, if_b_lst, if_t_non, if_t_bl, if_t_int, if_t_str, if_t_tup, if_t_lst, if_l_non, if_l_bl, if_l_int, if_l_str, if_l_tup, if_l_lst, if_lt2_non, if_lt2_bl, if_lt2_int, if_lt2_str, if_lt2_tup, if_lt2_lst, mRaise, mTryAs, tryOut, mXf, mIsE, mLenO, mGetO, mIxSet, mSwapIx, ixSt, mNeg, isFO, gIns, SO.foX, SO.foJ, one_self, is1_self, at1_self, noRefAt, List.all_cons, List.all_nil, Sl.noBox, D.flat, Bool.and_self, Bool.and_true, Bool.true_and, List.zip_cons_cons, List.zip_nil_right, mTru, List.contains_nil, mIE, mIZ, mBrk, mCnt, decide_true, decide_false, Bool.false_eq_true, Bool.not_eq_true]
  | some j =>
    obtain ⟨g1, g2, g3, g4⟩ := f5 j (List.mem_range.mpr (h.2 j rfl))
    show ((_ : MS Unit) (env0 [.v, .v] 0 [.str c, .int (j : Nat)]) ()).fo0 = .ok (.str (c ++ ":" ++ sI j)) ()
    rw [← g2]
    have hs : (toString ((j : Nat) : Int) : Str) = sI j := rfl
    generalize ((j : Nat) : Int) = z at *
    simp only [mSeq, mSet, mRet, mRetN, mIf, mExp, mBad, mNext, mPar, W.sl, mFor, Out.bindS, MX.bind, Out.bind, mK, mVar, mFz, mFf, mOp, mTest, mNotT, mNotV, mAndT, mOrT, mAndV, mOrV, mIfE, mChain, mNil, mCons, mTup, mLst, mCB, mFld, mFldSet, mCallP, mCallB, mMethP, mMakeP, mMut, mSl, mPart, mNoPart, mIsi, mIL, mIT, mIR, mIEn, mIS, mBGet, mBSet, mNewBox, mComp, mYes, Out.bindN, bindA, env0, envA, envI, FO.outP, FO.outL, FO.out, SO.fo0, SO.foF, SO.foI, lensW, lensL, resO_some, Rs.w_v, Rs.w_f, W.rd_v, W.rd_t, W.rd_f, W.rd_l, W.kp_v, List.mapM_cons, List.mapM_nil, Option.bind_eq_bind, Option.bind_some, Option.pure_def, Option.map_some, List.replicate_succ, List.replicate_zero, List.cons_append, List.nil_append, List.getElem?_cons_zero, List.getElem?_cons_succ, List.set_cons_zero, List.set_cons_succ, rb, ri, fI, fC, fAdd, fSub, fMod, fMul, fDiv, fIx, fIsN, fNotN, D.isN, cl_lst, cl_tup, cInt, cTup, cList, gApp, gN, gT, gsC, gsN, Sl.isRef, if_true, if_false, if_pos, List.length_cons, List.length_nil, Bx.at, Bx.put, List.any_cons, List.any_nil, Bool.not_true, Bool.not_false, Nat.reduceAdd, Nat.reduceLeDiff, reduceIte, reduceCtorEq, and_self, and_true, true_and, if_s_non, if_s_bl, if_s_int, if_s_str, if_s_tup, if_s_lst, if_i_non, if_i_bl, if_i_int, if_i_str, if_i_tup, if_i_lst, if_b_non, if_b_bl, if_b_int, if_b_str, if_b_tup, if_b_lst, if_t_non, if_t_bl, if_t_int, if_t_str, if_t_tup, if_t_lst, if_l_non, if_l_bl, if_l_int, if_l_str, if_l_tup, if_l_lst, if_lt2_non, if_lt2_bl, if_lt2_int, if_lt2_str, if_lt2_tup, if_lt2_lst, mRaise, mTryAs, tryOut, mXf, mIsE, mLenO, mGetO, mIxSet, mSwapIx, ixSt, mNeg, isFO, gIns, SO.foX, SO.foJ, one_self, is1_self, at1_self, noRefAt, List.all_cons, List.all_nil, Sl.noBox, D.flat, Bool.and_self, Bool.and_true, Bool.true_and, List.zip_cons_cons, List.zip_nil_right, mTru, List.contains_nil, mIE, mIZ, mBrk, mCnt, decide_true, decide_false, Bool.false_eq_true, Bool.not_eq_true, mJs, mFmt, f1, f2, f3, g1, g4, hs]
def wl (l : List P) : List Str := if l.isEmpty then ["-"] else l.map wS
def txt (l : List P) : Str := Txt.join " " (wl l)
theorem wl_ne (l : List P) : wl l ≠ [] := by
  unfold wl
  cases l with
  | nil => decide +kernel
  | cons p l => simp
theorem dash_mem : ("-" : Str) ∈ WW := by decide +kernel
theorem wl_mem (l : List P) (h : ∀ p ∈ l, Gd p) : ∀ y ∈ wl l, y ∈ WW := by
  unfold wl
  intro y hy
  cases l with
  | nil =>
    have hy : y ∈ [("-" : Str)] := hy
    rw [List.mem_singleton.mp hy]; exact dash_mem
  | cons p l =>
    have hy : y ∈ (p :: l).map wS := hy
    obtain ⟨q, hq, rfl⟩ := List.mem_map.mp hy
    exact wS_mem (h q hq)
theorem wl_len (l : List P) (h : l.length ≤ 400) : (wl l).length ≤ 500 := by
  unfold wl
  cases l with
  | nil => decide +kernel
  | cons p l =>
    show ((p :: l).map wS).length ≤ 500
    rw [List.length_map]; omega
theorem txt_nil : txt [] = "-" := by decide +kernel
theorem rows_comp (T : Tx K mg) (l : List P) (h : ∀ p ∈ l, Gd p) (hl : l.length ≤ 400) (f : D) (hf : f = edT T (l.map enc)) : (mComp (mIT (mFld T.c_Edition "rows" (mVar 0))) [1, 2] (gT 2 (gsC (gN 1) (gsC (gN 2) gsN))) mYes (mCallP [.v, .v] (f__word T) (mCons (mVar 1) (mCons (mVar 2) mNil))) : MX Unit W) [.val f, .no, .no] () = .ok (.f ((l.map wS).map .str)) [.val f, .no, .no] () := by
  subst hf
  have hi : (mIT (mFld T.c_Edition "rows" (mVar 0)) : MX Unit (List D)) [.val (edT T (l.map enc)), .no, .no] () = .ok (l.map enc) [.val (edT T (l.map enc)), .no, .no] () := by
    unfold edT
    generalize l.map enc = ds
    simp only [mSeq, mSet, mRet, mRetN, mIf, mExp, mBad, mNext, mPar, W.sl, mFor, Out.bindS, MX.bind, Out.bind, mK, mVar, mFz, mFf, mOp, mTest, mNotT, mNotV, mAndT, mOrT, mAndV, mOrV, mIfE, mChain, mNil, mCons, mTup, mLst, mCB, mFld, mFldSet, mCallP, mCallB, mMethP, mMakeP, mMut, mSl, mPart, mNoPart, mIsi, mIL, mIT, mIR, mIEn, mIS, mBGet, mBSet, mNewBox, mComp, mYes, Out.bindN, bindA, env0, envA, envI, FO.outP, FO.outL, FO.out, SO.fo0, SO.foF, SO.foI, lensW, lensL, resO_some, Rs.w_v, Rs.w_f, W.rd_v, W.rd_t, W.rd_f, W.rd_l, W.kp_v, List.mapM_cons, List.mapM_nil, Option.bind_eq_bind, Option.bind_some, Option.pure_def, Option.map_some, List.replicate_succ, List.replicate_zero, List.cons_append, List.nil_append, List.getElem?_cons_zero, List.getElem?_cons_succ, List.set_cons_zero, List.set_cons_succ, rb, ri, fI, fC, fAdd, fSub, fMod, fMul, fDiv, fIx, fIsN, fNotN, D.isN, cl_lst, cl_tup, cInt, cTup, cList, gApp, gN, gT, gsC, gsN, Sl.isRef, if_true, if_false, if_pos, List.length_cons, List.length_nil, Bx.at, Bx.put, List.any_cons, List.any_nil, Bool.not_true, Bool.not_false, Nat.reduceAdd, Nat.reduceLeDiff, reduceIte, reduceCtorEq, and_self, and_true, true_and, if_s_non, if_s_bl, if_s_int, if_s_str, if_s_tup, if_s_lst, if_i_non, if_i_bl, if_i_int, if_i_str, if_i_tup, if_i_lst, if_b_non, if_b_bl, if_b_int, if_b_str, if_b_tup, if_b_lst, if_t_non, if_t_bl, if_t_int, if_t_str, if_t_tup, if_t_lst, if_l_non, if_l_bl, if_l_int, if_l_str, if_l_tup, if_l_lst, if_lt2_non, if_lt2_bl, if_lt2_int, if_lt2_str, if_lt2_tup, if_lt2_lst, mRaise, mTryAs, tryOut, mXf, mIsE, mLenO, mGetO, mIxSet, mSwapIx, ixSt, mNeg, isFO, gIns, SO.foX, SO.foJ, one_self, is1_self, at1_self, noRefAt, List.all_cons, List.all_nil, Sl.noBox, D.flat, Bool.and_self, Bool.and_true, Bool.true_and, List.zip_cons_cons, List.zip_nil_right, mTru, List.contains_nil, mIE, mIZ, mBrk, mCnt, decide_true, decide_false, Bool.false_eq_true, Bool.not_eq_true, lk_rows]
  refine (comp_x hi rfl).trans ?_
  have hm := comp_map (S := Unit) (vs := [1, 2]) (g := gT 2 (gsC (gN 1) (gsC (gN 2) gsN))) (mt := mYes) (me := mCallP [.v, .v] (f__word T) (mCons (mVar 1) (mCons (mVar 2) mNil))) (f := fun d => match f__word T (match d with | .tup ds => ds | _ => []) () with
    | .ok r _ => r
    | _ => .non) (L := l.map enc) [.val (edT T (l.map enc)), .no, .no] () (fun d hd => by
      obtain ⟨p, hp, rfl⟩ := List.mem_map.mp hd
      have hw := wordp_sp T p (h p hp)
      refine ⟨[.val (edT T (l.map enc)), .val (.str p.1), .val (encE p.2)], _, [.val (edT T (l.map enc)), .val (.str p.1), .val (encE p.2)], .v (.str (wS p)), rfl, rfl, ?_, ?_, rfl, rfl⟩
      · generalize edT T (l.map enc) = q
        generalize encE p.2 = e at hw
        simp only [mSeq, mSet, mRet, mRetN, mIf, mExp, mBad, mNext, mPar, W.sl, mFor, Out.bindS, MX.bind, Out.bind, mK, mVar, mFz, mFf, mOp, mTest, mNotT, mNotV, mAndT, mOrT, mAndV, mOrV, mIfE, mChain, mNil, mCons, mTup, mLst, mCB, mFld, mFldSet, mCallP, mCallB, mMethP, mMakeP, mMut, mSl, mPart, mNoPart, mIsi, mIL, mIT, mIR, mIEn, mIS, mBGet, mBSet, mNewBox, mComp, mYes, Out.bindN, bindA, env0, envA, envI, FO.outP, FO.outL, FO.out, SO.fo0, SO.foF, SO.foI, lensW, lensL, resO_some, Rs.w_v, Rs.w_f, W.rd_v, W.rd_t, W.rd_f, W.rd_l, W.kp_v, List.mapM_cons, List.mapM_nil, Option.bind_eq_bind, Option.bind_some, Option.pure_def, Option.map_some, List.replicate_succ, List.replicate_zero, List.cons_append, List.nil_append, List.getElem?_cons_zero, List.getElem?_cons_succ, List.set_cons_zero, List.set_cons_succ, rb, ri, fI, fC, fAdd, fSub, fMod, fMul, fDiv, fIx, fIsN, fNotN, D.isN, cl_lst, cl_tup, cInt, cTup, cList, gApp, gN, gT, gsC, gsN, Sl.isRef, if_true, if_false, if_pos, List.length_cons, List.length_nil, Bx.at, Bx.put, List.any_cons, List.any_nil, Bool.not_true, Bool.not_false, Nat.reduceAdd, Nat.reduceLeDiff, reduceIte, reduceCtorEq, and_self, and_true, true_and, if_s_non, if_s_bl, if_s_int, if_s_str, if_s_tup, if_s_lst, if_i_non, if_i_bl, if_i_int, if_i_str, if_i_tup, if_i_lst, if_b_non, if_b_bl, if_b_int, if_b_str, if_b_tup, if_b_lst, if_t_non, if_t_bl, if_t_int, if_t_str, if_t_tup, if_t_lst, if_l_non, if_l_bl, if_l_int, if_l_str, if_l_tup, if_l_lst, if_lt2_non, if_lt2_bl, if_lt2_int, if_lt2_str, if_lt2_tup, if_lt2_lst, mRaise, mTryAs, tryOut, mXf, mIsE, mLenO, mGetO, mIxSet, mSwapIx, ixSt, mNeg, isFO, gIns, SO.foX, SO.foJ, one_self, is1_self, at1_self, noRefAt, List.all_cons, List.all_nil, Sl.noBox, D.flat, Bool.and_self, Bool.and_true, Bool.true_and, List.zip_cons_cons, List.zip_nil_right, mTru, List.contains_nil, mIE, mIZ, mBrk, mCnt, decide_true, decide_false, Bool.false_eq_true, Bool.not_eq_true, hw]
      · show some (D.str (wS p)) = some (match f__word T [.str p.1, encE p.2] () with | .ok r _ => r | _ => .non)
        rw [hw]) [] (by rw [List.length_map, List.length_nil]; omega)
  refine hm.trans ?_
  rw [List.nil_append, List.map_map, List.map_map]
  congr 2
  refine List.map_congr_left fun p hp => ?_
  show (match f__word T [.str p.1, encE p.2] () with | .ok r _ => r | _ => .non) = D.str (wS p)
  rw [wordp_sp T p (h p hp)]
theorem str_sp (T : Tx K mg) (l : List P) (h : ∀ p ∈ l, Gd p) (hl : l.length ≤ 400) : f_Edition___str__ T [edT T (l.map enc)] () = .ok (.str (txt l)) () := by
  have hc := rows_comp T l h hl _ rfl
  have hj := jj (wl_mem l h) (wl_len l hl)
  unfold f_Edition___str__ m_Edition___str__ txt
  generalize edT T (l.map enc) = q at *
  generalize (mComp (mIT (mFld T.c_Edition "rows" (mVar 0))) [1, 2] (gT 2 (gsC (gN 1) (gsC (gN 2) gsN))) mYes (mCallP [.v, .v] (f__word T) (mCons (mVar 1) (mCons (mVar 2) mNil))) : MX Unit W) = cm at hc ⊢
  cases l with
  | nil =>
    have hj : jJoin " " [.lst [.str "-"]] = some (.v (.str (Txt.join " " (wl [])))) := hj
    have hc : cm [.val q, .no, .no] () = .ok (.f []) [.val q, .no, .no] () := hc
    have tr : truD (.lst []) = some false := rfl
    have h1 : 1 ≤ 16777216 := by decide
    generalize Txt.join " " (wl []) = t at hj ⊢
    simp only [mSeq, mSet, mRet, mRetN, mIf, mExp, mBad, mNext, mPar, W.sl, mFor, Out.bindS, MX.bind, Out.bind, mK, mVar, mFz, mFf, mOp, mTest, mNotT, mNotV, mAndT, mOrT, mAndV, mOrV, mIfE, mChain, mNil, mCons, mTup, mLst, mCB, mFld, mFldSet, mCallP, mCallB, mMethP, mMakeP, mMut, mSl, mPart, mNoPart, mIsi, mIL, mIT, mIR, mIEn, mIS, mBGet, mBSet, mNewBox, mComp, mYes, Out.bindN, bindA, env0, envA, envI, FO.outP, FO.outL, FO.out, SO.fo0, SO.foF, SO.foI, lensW, lensL, resO_some, Rs.w_v, Rs.w_f, W.rd_v, W.rd_t, W.rd_f, W.rd_l, W.kp_v, List.mapM_cons, List.mapM_nil, Option.bind_eq_bind, Option.bind_some, Option.pure_def, Option.map_some, List.replicate_succ, List.replicate_zero, List.cons_append, List.nil_append, List.getElem?_cons_zero, List.getElem?_cons_succ, List.set_cons_zero, List.set_cons_succ, rb, ri, fI, fC, fAdd, fSub, fMod, fMul, fDiv, fIx, fIsN, fNotN, D.isN, cl_lst, cl_tup, cInt, cTup, cList, gApp, gN, gT, gsC, gsN, Sl.isRef, if_true, if_false, if_pos, List.length_cons, List.length_nil, Bx.at, Bx.put, List.any_cons, List.any_nil, Bool.not_true, Bool.not_false, Nat.reduceAdd, Nat.reduceLeDiff, reduceIte, reduceCtorEq, and_self, and_true, true_and, if_s_non, if_s_bl, if_s_int, if_s_str, if_s_tup, if_s_lst, if_i_non, if_i_bl, if_i_int, if_i_str, if_i_tup, if_i_lst, if_b_non, if_b_bl, if_b_int, if_b_str, if_b_tup, if_b_lst, if_t_non, if_t_bl, if_t_int, if_t_str, if_t_tup, if_t_lst, if_l_non, if_l_bl, if_l_int, if_l_str, if_l_tup, if_l_lst, if_lt2_non, if_lt2_bl, if_lt2_int, if_lt2_str, if_lt2_tup, if_lt2_lst, mRaise, mTryAs, tryOut, mXf, mIsE, mLenO, mGetO, mIxSet, mSwapIx, ixSt, mNeg, isFO, gIns, SO.foX, SO.foJ, one_self, is1_self, at1_self, noRefAt, List.all_cons, List.all_nil, Sl.noBox, D.flat, Bool.and_self, Bool.and_true, Bool.true_and, List.zip_cons_cons, List.zip_nil_right, mTru, List.contains_nil, mIE, mIZ, mBrk, mCnt, decide_true, decide_false, Bool.false_eq_true, Bool.not_eq_true, mSm, mOrX, hc, tr, hj, h1, Nat.zero_add]
  | cons p l =>
    have hw : wl (p :: l) = (p :: l).map wS := rfl
    rw [hw] at hj ⊢
    have tr : truD (.lst (((p :: l).map wS).map .str)) = some true := rfl
    generalize Txt.join " " ((p :: l).map wS) = t at hj ⊢
    generalize ((p :: l).map wS).map D.str = ds at *
    simp only [mSeq, mSet, mRet, mRetN, mIf, mExp, mBad, mNext, mPar, W.sl, mFor, Out.bindS, MX.bind, Out.bind, mK, mVar, mFz, mFf, mOp, mTest, mNotT, mNotV, mAndT, mOrT, mAndV, mOrV, mIfE, mChain, mNil, mCons, mTup, mLst, mCB, mFld, mFldSet, mCallP, mCallB, mMethP, mMakeP, mMut, mSl, mPart, mNoPart, mIsi, mIL, mIT, mIR, mIEn, mIS, mBGet, mBSet, mNewBox, mComp, mYes, Out.bindN, bindA, env0, envA, envI, FO.outP, FO.outL, FO.out, SO.fo0, SO.foF, SO.foI, lensW, lensL, resO_some, Rs.w_v, Rs.w_f, W.rd_v, W.rd_t, W.rd_f, W.rd_l, W.kp_v, List.mapM_cons, List.mapM_nil, Option.bind_eq_bind, Option.bind_some, Option.pure_def, Option.map_some, List.replicate_succ, List.replicate_zero, List.cons_append, List.nil_append, List.getElem?_cons_zero, List.getElem?_cons_succ, List.set_cons_zero, List.set_cons_succ, rb, ri, fI, fC, fAdd, fSub, fMod, fMul, fDiv, fIx, fIsN, fNotN, D.isN, cl_lst, cl_tup, cInt, cTup, cList, gApp, gN, gT, gsC, gsN, Sl.isRef, if_true, if_false, if_pos, List.length_cons, List.length_nil, Bx.at, Bx.put, List.any_cons, List.any_nil, Bool.not_true, Bool.not_false, Nat.reduceAdd, Nat.reduceLeDiff, reduceIte, reduceCtorEq, and_self, and_true, true_and, if_s_non, if_s_bl, if_s_int, if_s_str, if_s_tup, if_s_lst, if_i_non, if_i_bl, if_i_int, if_i_str, if_i_tup, if_i_lst, if_b_non, if_b_bl, if_b_int, if_b_str, if_b_tup, if_b_lst, if_t_non, if_t_bl, if_t_int, if_t_str, if_t_tup, if_t_lst, if_l_non, if_l_bl, if_l_int, if_l_str, if_l_tup, if_l_lst, if_lt2_non, if_lt2_bl, if_lt2_int, if_lt2_str, if_lt2_tup, if_lt2_lst, mRaise, mTryAs, tryOut, mXf, mIsE, mLenO, mGetO, mIxSet, mSwapIx, ixSt, mNeg, isFO, gIns, SO.foX, SO.foJ, one_self, is1_self, at1_self, noRefAt, List.all_cons, List.all_nil, Sl.noBox, D.flat, Bool.and_self, Bool.and_true, Bool.true_and, List.zip_cons_cons, List.zip_nil_right, mTru, List.contains_nil, mIE, mIZ, mBrk, mCnt, decide_true, decide_false, Bool.false_eq_true, Bool.not_eq_true, mSm, mOrX, hc, tr, hj]
end
end ledmarks_k13_editions_made

namespace ledmarks_k13_editions_made
open PySem L2 LM
section
variable {K : PySem.W.Frag} {mg : Str → Option Value}
theorem el_sp (v0 : D) (p : P) (h : Gd p) : (mIfE (mTest (mOp fIsN (mVar 3) (mK .non))) (mVar 2) (mOp fAddS (mOp fAddS (mVar 2) (mK (.str ":"))) (mCB cStr (mCons (mVar 3) mNil))) : MX Unit W) [.val v0, .no, .val (.str p.1), .val (encE p.2)] () = .ok (.v (.str (wS p))) [.val v0, .no, .val (.str p.1), .val (encE p.2)] () := by
  obtain ⟨c, e⟩ := p
  obtain ⟨f1, f2, f3, f4, f5⟩ := fac c h.1
  cases e with
  | none =>
    show (_ : MX Unit W) [.val v0, .no, .val (.str c), .val .non] () = .ok (.v (.str c)) [.val v0, .no, .val (.str c), .val .non] ()
    simp only [mSeq, mSet, mRet, mRetN, mIf, mExp, mBad, mNext, mPar, W.sl, mFor, Out.bindS, MX.bind, Out.bind, mK, mVar, mFz, mFf, mOp, mTest, mNotT, mNotV, mAndT, mOrT, mAndV, mOrV, mIfE, mChain, mNil, mCons, mTup, mLst, mCB, mFld, mFldSet, mCallP, mCallB, mMethP, mMakeP, mMut, mSl, mPart, mNoPart, mIsi, mIL, mIT, mIR, mIEn, mIS, mBGet, mBSet, mNewBox, mComp, mYes, Out.bindN, bindA, env0, envA, envI, FO.outP, FO.outL, FO.out, SO.fo0, SO.foF, SO.foI, lensW, lensL, resO_some, Rs.w_v, Rs.w_f, W.rd_v, W.rd_t, W.rd_f, W.rd_l, W.kp_v, List.mapM_cons, List.mapM_nil, Option.bind_eq_bind, Option.bind_some, Option.pure_def, Option.map_some, List.replicate_succ, List.replicate_zero, List.cons_append, List.nil_append, List.getElem?_cons_zero, List.getElem?_cons_succ, List.set_cons_zero, List.set_cons_succ, rb, ri, fI, fC, fAdd, fSub, fMod, fMul, fDiv, fIx, fIsN, fNotN, D.isN, cl_lst, cl_tup, cInt, cTup, cList, gApp, gN, gT, gsC, gsN, Sl.isRef, if_true, if_false, if_pos, List.length_cons, List.length_nil, Bx.at, Bx.put, List.any_cons, List.any_nil, Bool.not_true, Bool.not_false, Nat.reduceAdd, Nat.reduceLeDiff, reduceIte, reduceCtorEq, and_self, and_true, true_and, if_s_non, if_s_bl, if_s_int, if_s_str, if_s_tup, if_s_lst, if_i_non, if_i_bl, if_i_int, if_i_str, if_i_tup, if_i_lst, if_b_non, if_b_bl, if_b_int, if_b_str, if_b_tup, if_b_lst, if_t_non, if_t_bl, if_t_int, if_t_str, if_t_tup, if_t_lst, if_l_non, if_l_bl, if_l_int, if_l_str, if_l_tup, if_l_lst, if_lt2_non, if_lt2_bl, if_lt2_int, if_lt2_str, if_lt2_tup, if_lt2_lst, mRaise, mTryAs, tryOut, mXf, mIsE, mLenO, mGetO, mIxSet, mSwapIx, ixSt, mNeg, isFO, gIns, SO.foX, SO.foJ, one_self, is1_self, at1_self, noRefAt, List.all_cons, List.all_nil, Sl.noBox, D.flat, Bool.and_self, Bool.and_true, Bool.true_and, List.zip_cons_cons, List.zip_nil_right, mTru, List.contains_nil, mIE, mIZ, mBrk, mCnt, decide_true, decide_false, Bool.false_eq_true, Bool.not_eq_true]
  | some j =>
    obtain ⟨g1, g2, g3, g4⟩ := f5 j (List.mem_range.mpr (h.2 j rfl))
    show (_ : MX Unit W) [.val v0, .no, .val (.str c), .val (.int (j : Nat))] () = .ok (.v (.str (c ++ ":" ++ sI j))) [.val v0, .no, .val (.str c), .val (.int (j : Nat))] ()
    have hs : (toString ((j : Nat) : Int) : Str) = sI j := rfl
    have cs : cStr [.int (j : Nat)] = some (.v (.str (sI j))) := by simp only [cStr, g4, if_true, hs]
    have a1 : fAddS (.str c) (.str ":") = some (.v (.str (c ++ ":"))) := by simp only [fAddS, f4, if_true]
    have a2 : fAddS (.str (c ++ ":")) (.str (sI j)) = some (.v (.str (c ++ ":" ++ sI j))) := by simp only [fAddS, g3, if_true]
    generalize ((j : Nat) : Int) = z at *
    simp only [mSeq, mSet, mRet, mRetN, mIf, mExp, mBad, mNext, mPar, W.sl, mFor, Out.bindS, MX.bind, Out.bind, mK, mVar, mFz, mFf, mOp, mTest, mNotT, mNotV, mAndT, mOrT, mAndV, mOrV, mIfE, mChain, mNil, mCons, mTup, mLst, mCB, mFld, mFldSet, mCallP, mCallB, mMethP, mMakeP, mMut, mSl, mPart, mNoPart, mIsi, mIL, mIT, mIR, mIEn, mIS, mBGet, mBSet, mNewBox, mComp, mYes, Out.bindN, bindA, env0, envA, envI, FO.outP, FO.outL, FO.out, SO.fo0, SO.foF, SO.foI, lensW, lensL, resO_some, Rs.w_v, Rs.w_f, W.rd_v, W.rd_t, W.rd_f, W.rd_l, W.kp_v, List.mapM_cons, List.mapM_nil, Option.bind_eq_bind, Option.bind_some, Option.pure_def, Option.map_some, List.replicate_succ, List.replicate_zero, List.cons_append, List.nil_append, List.getElem?_cons_zero, List.getElem?_cons_succ, List.set_cons_zero, List.set_cons_succ, rb, ri, fI, fC, fAdd, fSub, fMod, fMul, fDiv, fIx, fIsN, fNotN, D.isN, cl_lst, cl_tup, cInt, cTup, cList, gApp, gN, gT, gsC, gsN, Sl.isRef, if_true, if_false, if_pos, List.length_cons, List.length_nil, Bx.at, Bx.put, List.any_cons, List.any_nil, Bool.not_true, Bool.not_false, Nat.reduceAdd, Nat.reduceLeDiff, reduceIte, reduceCtorEq, and_self, and_true, true_and, if_s_non, if_s_bl, if_s_int, if_s_str, if_s_tup, if_s_lst, if_i_non, if_i_bl, if_i_int, if_i_str, if_i_tup, if_i_lst, if_b_non, if_b_bl, if_b_int, if_b_str, if_b_tup, if_b_lst, if_t_non, if_t_bl, if_t_int, if_t_str, if_t_tup, if_t_lst, if_l_non, if_l_bl, if_l_int, if_l_str, if_l_tup, if_l_lst, if_lt2_non, if_lt2_bl, if_lt2_int, if_lt2_str, if_lt2_tup, if_lt2_lst, mRaise, mTryAs, tryOut, mXf, mIsE, mLenO, mGetO, mIxSet, mSwapIx, ixSt, mNeg, isFO, gIns, SO.foX, SO.foJ, one_self, is1_self, at1_self, noRefAt, List.all_cons, List.all_nil, Sl.noBox, D.flat, Bool.and_self, Bool.and_true, Bool.true_and, List.zip_cons_cons, List.zip_nil_right, mTru, List.contains_nil, mIE, mIZ, mBrk, mCnt, decide_true, decide_false, Bool.false_eq_true, Bool.not_eq_true, cs, a1, a2]
theorem text_comp (T : Tx K mg) (l : List P) (h : ∀ p ∈ l, Gd p) (hl : l.length ≤ 400) : (mComp (mIL (mVar 0)) [2, 3] (gT 2 (gsC (gN 2) (gsC (gN 3) gsN))) mYes (mIfE (mTest (mOp fIsN (mVar 3) (mK .non))) (mVar 2) (mOp fAddS (mOp fAddS (mVar 2) (mK (.str ":"))) (mCB cStr (mCons (mVar 3) mNil)))) : MX Unit W) [.val (.lst (l.map enc)), .no, .no, .no] () = .ok (.f ((l.map wS).map .str)) [.val (.lst (l.map enc)), .no, .no, .no] () := by
  refine (comp_x (xs := l.map enc) (e1 := [.val (.lst (l.map enc)), .no, .no, .no]) (s1 := ()) rfl rfl).trans ?_
  have hm := comp_map (S := Unit) (vs := [2, 3]) (g := gT 2 (gsC (gN 2) (gsC (gN 3) gsN))) (mt := mYes) (me := mIfE (mTest (mOp fIsN (mVar 3) (mK .non))) (mVar 2) (mOp fAddS (mOp fAddS (mVar 2) (mK (.str ":"))) (mCB cStr (mCons (mVar 3) mNil)))) (f := fun d => match f__word T (match d with | .tup ds => ds | _ => []) () with
    | .ok r _ => r
    | _ => .non) (L := l.map enc) [.val (.lst (l.map enc)), .no, .no, .no] () (fun d hd => by
      obtain ⟨p, hp, rfl⟩ := List.mem_map.mp hd
      have hw := wordp_sp T p (h p hp)
      refine ⟨[.val (.lst (l.map enc)), .no, .val (.str p.1), .val (encE p.2)], _, [.val (.lst (l.map enc)), .no, .val (.str p.1), .val (encE p.2)], .v (.str (wS p)), rfl, rfl, el_sp _ p (h p hp), ?_, rfl, rfl⟩
      show some (D.str (wS p)) = some (match f__word T [.str p.1, encE p.2] () with | .ok r _ => r | _ => .non)
      rw [hw]) [] (by rw [List.length_map, List.length_nil]; omega)
  refine hm.trans ?_
  rw [List.nil_append, List.map_map, List.map_map]
  congr 2
  refine List.map_congr_left fun p hp => ?_
  show (match f__word T [.str p.1, encE p.2] () with | .ok r _ => r | _ => .non) = D.str (wS p)
  rw [wordp_sp T p (h p hp)]
theorem text_sp (T : Tx K mg) (l : List P) (h : ∀ p ∈ l, Gd p) (hl : l.length ≤ 400) : f__law_text T [.lst (l.map enc)] () = .ok (.str (txt l)) () := by
  have hc := text_comp T l h hl
  have hj := jj (wl_mem l h) (wl_len l hl)
  have e1 : (mSet 1 (mComp (mIL (mVar 0)) [2, 3] (gT 2 (gsC (gN 2) (gsC (gN 3) gsN))) mYes (mIfE (mTest (mOp fIsN (mVar 3) (mK .non))) (mVar 2) (mOp fAddS (mOp fAddS (mVar 2) (mK (.str ":"))) (mCB cStr (mCons (mVar 3) mNil))))) : MS Unit) (env0 [.v] 3 [.lst (l.map enc)]) () = .nx [.val (.lst (l.map enc)), .own ((l.map wS).map .str), .no, .no] () := set_f hc
  unfold f__law_text m__law_text
  rw [seq_nx e1]
  have ne := ne_nil (oks_str 59 (l.map wS))
  cases l with
  | nil =>
    have ne : fNe (.lst []) (.lst []) = some (.v (.bl false)) := ne
    have tn := txt_nil
    rw [tn]
    show ((_ : MS Unit) [.val (.lst []), .own [], .no, .no] ()).fo0 = _
    simp only [mSeq, mSet, mRet, mRetN, mIf, mExp, mBad, mNext, mPar, W.sl, mFor, Out.bindS, MX.bind, Out.bind, mK, mVar, mFz, mFf, mOp, mTest, mNotT, mNotV, mAndT, mOrT, mAndV, mOrV, mIfE, mChain, mNil, mCons, mTup, mLst, mCB, mFld, mFldSet, mCallP, mCallB, mMethP, mMakeP, mMut, mSl, mPart, mNoPart, mIsi, mIL, mIT, mIR, mIEn, mIS, mBGet, mBSet, mNewBox, mComp, mYes, Out.bindN, bindA, env0, envA, envI, FO.outP, FO.outL, FO.out, SO.fo0, SO.foF, SO.foI, lensW, lensL, resO_some, Rs.w_v, Rs.w_f, W.rd_v, W.rd_t, W.rd_f, W.rd_l, W.kp_v, List.mapM_cons, List.mapM_nil, Option.bind_eq_bind, Option.bind_some, Option.pure_def, Option.map_some, List.replicate_succ, List.replicate_zero, List.cons_append, List.nil_append, List.getElem?_cons_zero, List.getElem?_cons_succ, List.set_cons_zero, List.set_cons_succ, rb, ri, fI, fC, fAdd, fSub, fMod, fMul, fDiv, fIx, fIsN, fNotN, D.isN, cl_lst, cl_tup, cInt, cTup, cList, gApp, gN, gT, gsC, gsN, Sl.isRef, if_true, if_false, if_pos, List.length_cons, List.length_nil, Bx.at, Bx.put, List.any_cons, List.any_nil, Bool.not_true, Bool.not_false, Nat.reduceAdd, Nat.reduceLeDiff, reduceIte, reduceCtorEq, and_self, and_true, true_and, if_s_non, if_s_bl, if_s_int, if_s_str, if_s_tup, if_s_lst, if_i_non, if_i_bl, if_i_int, if_i_str, if_i_tup, if_i_lst, if_b_non, if_b_bl, if_b_int, if_b_str, if_b_tup, if_b_lst, if_t_non, if_t_bl, if_t_int, if_t_str, if_t_tup, if_t_lst, if_l_non, if_l_bl, if_l_int, if_l_str, if_l_tup, if_l_lst, if_lt2_non, if_lt2_bl, if_lt2_int, if_lt2_str, if_lt2_tup, if_lt2_lst, mRaise, mTryAs, tryOut, mXf, mIsE, mLenO, mGetO, mIxSet, mSwapIx, ixSt, mNeg, isFO, gIns, SO.foX, SO.foJ, one_self, is1_self, at1_self, noRefAt, List.all_cons, List.all_nil, Sl.noBox, D.flat, Bool.and_self, Bool.and_true, Bool.true_and, List.zip_cons_cons, List.zip_nil_right, mTru, List.contains_nil, mIE, mIZ, mBrk, mCnt, decide_true, decide_false, Bool.false_eq_true, Bool.not_eq_true, ne]
  | cons p l =>
    have hw : wl (p :: l) = (p :: l).map wS := rfl
    unfold txt
    rw [hw] at hj ⊢
    have ne : fNe (.lst (((p :: l).map wS).map .str)) (.lst []) = some (.v (.bl true)) := ne
    generalize Txt.join " " ((p :: l).map wS) = t at hj ⊢
    generalize ((p :: l).map wS).map D.str = ds at *
    generalize D.lst ((p :: l).map enc) = q
    simp only [mSeq, mSet, mRet, mRetN, mIf, mExp, mBad, mNext, mPar, W.sl, mFor, Out.bindS, MX.bind, Out.bind, mK, mVar, mFz, mFf, mOp, mTest, mNotT, mNotV, mAndT, mOrT, mAndV, mOrV, mIfE, mChain, mNil, mCons, mTup, mLst, mCB, mFld, mFldSet, mCallP, mCallB, mMethP, mMakeP, mMut, mSl, mPart, mNoPart, mIsi, mIL, mIT, mIR, mIEn, mIS, mBGet, mBSet, mNewBox, mComp, mYes, Out.bindN, bindA, env0, envA, envI, FO.outP, FO.outL, FO.out, SO.fo0, SO.foF, SO.foI, lensW, lensL, resO_some, Rs.w_v, Rs.w_f, W.rd_v, W.rd_t, W.rd_f, W.rd_l, W.kp_v, List.mapM_cons, List.mapM_nil, Option.bind_eq_bind, Option.bind_some, Option.pure_def, Option.map_some, List.replicate_succ, List.replicate_zero, List.cons_append, List.nil_append, List.getElem?_cons_zero, List.getElem?_cons_succ, List.set_cons_zero, List.set_cons_succ, rb, ri, fI, fC, fAdd, fSub, fMod, fMul, fDiv, fIx, fIsN, fNotN, D.isN, cl_lst, cl_tup, cInt, cTup, cList, gApp, gN, gT, gsC, gsN, Sl.isRef, if_true, if_false, if_pos, List.length_cons, List.length_nil, Bx.at, Bx.put, List.any_cons, List.any_nil, Bool.not_true, Bool.not_false, Nat.reduceAdd, Nat.reduceLeDiff, reduceIte, reduceCtorEq, and_self, and_true, true_and, if_s_non, if_s_bl, if_s_int, if_s_str, if_s_tup, if_s_lst, if_i_non, if_i_bl, if_i_int, if_i_str, if_i_tup, if_i_lst, if_b_non, if_b_bl, if_b_int, if_b_str, if_b_tup, if_b_lst, if_t_non, if_t_bl, if_t_int, if_t_str, if_t_tup, if_t_lst, if_l_non, if_l_bl, if_l_int, if_l_str, if_l_tup, if_l_lst, if_lt2_non, if_lt2_bl, if_lt2_int, if_lt2_str, if_lt2_tup, if_lt2_lst, mRaise, mTryAs, tryOut, mXf, mIsE, mLenO, mGetO, mIxSet, mSwapIx, ixSt, mNeg, isFO, gIns, SO.foX, SO.foJ, one_self, is1_self, at1_self, noRefAt, List.all_cons, List.all_nil, Sl.noBox, D.flat, Bool.and_self, Bool.and_true, Bool.true_and, List.zip_cons_cons, List.zip_nil_right, mTru, List.contains_nil, mIE, mIZ, mBrk, mCnt, decide_true, decide_false, Bool.false_eq_true, Bool.not_eq_true, mSm, ne, hj]
end
end ledmarks_k13_editions_made

namespace ledmarks_k13_editions_made
open PySem L2 LM
section
variable {K : PySem.W.Frag} {mg : Str → Option Value}
theorem enc_small : ∀ c ∈ words, ((enc (c, none)).ok 59 = true ∧ (enc (c, none)).py.showable = true ∧ (enc (c, none)).py.shown.length ≤ 100) ∧ ∀ j ∈ List.range 8, ((enc (c, some j)).ok 59 = true ∧ (enc (c, some j)).py.showable = true ∧ (enc (c, some j)).py.shown.length ≤ 100) := by decide +kernel
theorem enc_sm {p : P} (h : Gd p) : (enc p).ok 59 = true ∧ (enc p).py.showable = true ∧ (enc p).py.shown.length ≤ 100 := by
  obtain ⟨c, e⟩ := p
  obtain ⟨h1, h2⟩ := enc_small c h.1
  cases e with
  | none => exact h1
  | some j => exact h2 j (List.mem_range.mpr (h.2 j rfl))
theorem list_small : ∀ l : List P, (∀ p ∈ l, Gd p) → PyData.showableAll (pys (l.map enc)) = true ∧ ((PyData.shownAll (pys (l.map enc))).map (·.length)).sum ≤ 100 * l.length ∧ (PyData.shownAll (pys (l.map enc))).length = l.length
  | [], _ => by
    simp only [List.map_nil, pys, PyData.showableAll, PyData.shownAll, List.sum_nil, List.length_nil]
    exact ⟨trivial, Nat.zero_le _, trivial⟩
  | w :: ws, h => by
    obtain ⟨h1, h2, h3⟩ := list_small ws fun w hw => h w (List.mem_cons_of_mem _ hw)
    obtain ⟨_, q1, q2⟩ := enc_sm (h w List.mem_cons_self)
    simp only [List.map_cons, pys, PyData.showableAll, PyData.shownAll, List.sum_cons, List.length_cons, q1, h1, Bool.and_self, h3, true_and, and_true]
    omega
theorem oks_enc {l : List P} (h : ∀ p ∈ l, Gd p) : oks 59 (l.map enc) = true := oks_of fun d hd => by
  obtain ⟨w, hw, rfl⟩ := List.mem_map.mp hd
  exact (enc_sm (h w hw)).1
theorem ok_lst {l : List P} (h : ∀ p ∈ l, Gd p) : (D.lst (l.map enc)).ok 60 = true := by
  unfold D.ok
  rw [oks_enc h]; rfl
theorem ok_tup {l : List P} (h : ∀ p ∈ l, Gd p) : (D.tup (l.map enc)).ok 60 = true := by
  unfold D.ok
  rw [oks_enc h]; rfl
theorem show_tup {l : List P} (h : ∀ p ∈ l, Gd p) (hl : l.length ≤ 500) : showOk (.tup (l.map enc)) = true := by
  obtain ⟨h1, h2, h3⟩ := list_small l h
  unfold showOk
  rw [ok_tup h]
  have e1 : (D.tup (l.map enc)).py.showable = true := by
    simp only [D.py, PyData.showable]; exact h1
  have e2 : (D.tup (l.map enc)).py.shown.length ≤ 16777216 := by
    have q := tupleText_len_le (PyData.shownAll (pys (l.map enc)))
    have e : (D.tup (l.map enc)).py.shown = tupleText (PyData.shownAll (pys (l.map enc))) := by
      simp only [D.py, PyData.shown]
    rw [e]
    rw [h3] at q
    omega
  rw [e1, decide_eq_true e2]
  rfl
theorem rep_ok {d : D} (h : showOk d = true) : cRepr [d] = some (.v (.str d.py.shown)) := by simp only [cRepr, h, if_true]
theorem ne_self (d : D) (h : d.ok 60 = true) : fNe d d = some (.v (.bl false)) := by
  unfold fNe
  rw [h]
  simp only [Bool.and_self, if_true, rb, PySem.SeqAt.eqv_refl_plain d.py (ok_plain d 60 h).1, Bool.not_true]
theorem ok_bls (l : List Bool) : (D.lst (l.map .bl)).ok 60 = true := by
  have q : oks 59 (l.map .bl) = true := oks_of fun d hd => by
    obtain ⟨w, hw, rfl⟩ := List.mem_map.mp hd
    rfl
  unfold D.ok
  rw [q]; rfl
/-! ### editions compared -/
/-- whether two texts have the same rows -/
def eqR (a b : List P) : Bool := PyData.eqv (D.lst (a.map enc)).py (D.lst (b.map enc)).py
theorem eqR_tup (a b : List P) : PyData.eqv (D.tup (a.map enc)).py (D.tup (b.map enc)).py = eqR a b := by
  unfold eqR
  simp only [D.py, PyData.eqv]
theorem feq_lst {a b : List P} (ha : ∀ p ∈ a, Gd p) (hb : ∀ p ∈ b, Gd p) : fEq (.lst (a.map enc)) (.lst (b.map enc)) = some (.v (.bl (eqR a b))) := by
  simp only [fEq, ok_lst ha, ok_lst hb, Bool.and_self, if_true, rb]
  rfl
theorem fne_lst {a b : List P} (ha : ∀ p ∈ a, Gd p) (hb : ∀ p ∈ b, Gd p) : fNe (.lst (a.map enc)) (.lst (b.map enc)) = some (.v (.bl (!eqR a b))) := by
  simp only [fNe, ok_lst ha, ok_lst hb, Bool.and_self, if_true, rb]
  rfl
theorem feq_tup {a b : List P} (ha : ∀ p ∈ a, Gd p) (hb : ∀ p ∈ b, Gd p) : fEq (.tup (a.map enc)) (.tup (b.map enc)) = some (.v (.bl (eqR a b))) := by
  simp only [fEq, ok_tup ha, ok_tup hb, Bool.and_self, if_true, rb, eqR_tup]
theorem eq_sp (T : Tx K mg) {a b : List P} (ha : ∀ p ∈ a, Gd p) (hb : ∀ p ∈ b, Gd p) : f_Edition___eq__ T [edT T (a.map enc), edT T (b.map enc)] () = .ok (.bl (eqR a b)) () := by
  have h := feq_tup ha hb
  have l1 := lk_rows (a.map enc)
  have l2 := lk_rows (b.map enc)
  unfold f_Edition___eq__ m_Edition___eq__ edT
  generalize a.map enc = da at *
  generalize b.map enc = db at *
  simp only [mSeq, mSet, mRet, mRetN, mIf, mExp, mBad, mNext, mPar, W.sl, mFor, Out.bindS, MX.bind, Out.bind, mK, mVar, mFz, mFf, mOp, mTest, mNotT, mNotV, mAndT, mOrT, mAndV, mOrV, mIfE, mChain, mNil, mCons, mTup, mLst, mCB, mFld, mFldSet, mCallP, mCallB, mMethP, mMakeP, mMut, mSl, mPart, mNoPart, mIsi, mIL, mIT, mIR, mIEn, mIS, mBGet, mBSet, mNewBox, mComp, mYes, Out.bindN, bindA, env0, envA, envI, FO.outP, FO.outL, FO.out, SO.fo0, SO.foF, SO.foI, lensW, lensL, resO_some, Rs.w_v, Rs.w_f, W.rd_v, W.rd_t, W.rd_f, W.rd_l, W.kp_v, List.mapM_cons, List.mapM_nil, Option.bind_eq_bind, Option.bind_some, Option.pure_def, Option.map_some, List.replicate_succ, List.replicate_zero, List.cons_append, List.nil_append, List.getElem?_cons_zero, List.getElem?_cons_succ, List.set_cons_zero, List.set_cons_succ, rb, ri, fI, fC, fAdd, fSub, fMod, fMul, fDiv, fIx, fIsN, fNotN, D.isN, cl_lst, cl_tup, cInt, cTup, cList, gApp, gN, gT, gsC, gsN, Sl.isRef, if_true, if_false, if_pos, List.length_cons, List.length_nil, Bx.at, Bx.put, List.any_cons, List.any_nil, Bool.not_true, Bool.not_false, Nat.reduceAdd, Nat.reduceLeDiff, reduceIte, reduceCtorEq, and_self, and_true, true_and, if_s_non, if_s_bl, if_s_int, if_s_str, if_s_tup, if_s_lst, if_i_non, if_i_bl, if_i_int, if_i_str, if_i_tup, if_i_lst, if_b_non, if_b_bl, if_b_int, if_b_str, if_b_tup, if_b_lst, if_t_non, if_t_bl, if_t_int, if_t_str, if_t_tup, if_t_lst, if_l_non, if_l_bl, if_l_int, if_l_str, if_l_tup, if_l_lst, if_lt2_non, if_lt2_bl, if_lt2_int, if_lt2_str, if_lt2_tup, if_lt2_lst, mRaise, mTryAs, tryOut, mXf, mIsE, mLenO, mGetO, mIxSet, mSwapIx, ixSt, mNeg, isFO, gIns, SO.foX, SO.foJ, one_self, is1_self, at1_self, noRefAt, List.all_cons, List.all_nil, Sl.noBox, D.flat, Bool.and_self, Bool.and_true, Bool.true_and, List.zip_cons_cons, List.zip_nil_right, mTru, List.contains_nil, mIE, mIZ, mBrk, mCnt, decide_true, decide_false, Bool.false_eq_true, Bool.not_eq_true, l1, l2, h, isC]
theorem eq_no (T : Tx K mg) (d e : D) (h : isC T.c_Edition e = some false) : f_Edition___eq__ T [d, e] () = .ok (.bl false) () := by
  unfold f_Edition___eq__ m_Edition___eq__
  simp only [mSeq, mSet, mRet, mRetN, mIf, mExp, mBad, mNext, mPar, W.sl, mFor, Out.bindS, MX.bind, Out.bind, mK, mVar, mFz, mFf, mOp, mTest, mNotT, mNotV, mAndT, mOrT, mAndV, mOrV, mIfE, mChain, mNil, mCons, mTup, mLst, mCB, mFld, mFldSet, mCallP, mCallB, mMethP, mMakeP, mMut, mSl, mPart, mNoPart, mIsi, mIL, mIT, mIR, mIEn, mIS, mBGet, mBSet, mNewBox, mComp, mYes, Out.bindN, bindA, env0, envA, envI, FO.outP, FO.outL, FO.out, SO.fo0, SO.foF, SO.foI, lensW, lensL, resO_some, Rs.w_v, Rs.w_f, W.rd_v, W.rd_t, W.rd_f, W.rd_l, W.kp_v, List.mapM_cons, List.mapM_nil, Option.bind_eq_bind, Option.bind_some, Option.pure_def, Option.map_some, List.replicate_succ, List.replicate_zero, List.cons_append, List.nil_append, List.getElem?_cons_zero, List.getElem?_cons_succ, List.set_cons_zero, List.set_cons_succ, rb, ri, fI, fC, fAdd, fSub, fMod, fMul, fDiv, fIx, fIsN, fNotN, D.isN, cl_lst, cl_tup, cInt, cTup, cList, gApp, gN, gT, gsC, gsN, Sl.isRef, if_true, if_false, if_pos, List.length_cons, List.length_nil, Bx.at, Bx.put, List.any_cons, List.any_nil, Bool.not_true, Bool.not_false, Nat.reduceAdd, Nat.reduceLeDiff, reduceIte, reduceCtorEq, and_self, and_true, true_and, if_s_non, if_s_bl, if_s_int, if_s_str, if_s_tup, if_s_lst, if_i_non, if_i_bl, if_i_int, if_i_str, if_i_tup, if_i_lst, if_b_non, if_b_bl, if_b_int, if_b_str, if_b_tup, if_b_lst, if_t_non, if_t_bl, if_t_int, if_t_str, if_t_tup, if_t_lst, if_l_non, if_l_bl, if_l_int, if_l_str, if_l_tup, if_l_lst, if_lt2_non, if_lt2_bl, if_lt2_int, if_lt2_str, if_lt2_tup, if_lt2_lst, mRaise, mTryAs, tryOut, mXf, mIsE, mLenO, mGetO, mIxSet, mSwapIx, ixSt, mNeg, isFO, gIns, SO.foX, SO.foJ, one_self, is1_self, at1_self, noRefAt, List.all_cons, List.all_nil, Sl.noBox, D.flat, Bool.and_self, Bool.and_true, Bool.true_and, List.zip_cons_cons, List.zip_nil_right, mTru, List.contains_nil, mIE, mIZ, mBrk, mCnt, decide_true, decide_false, Bool.false_eq_true, Bool.not_eq_true, h]
theorem in_no (T : Tx K mg) (d : D) (x : Str) (ds : List D) : inChD (f_Edition___eq__ T) d [.str x, .tup ds, .non] = true := by
  have h1 := eq_no T d (.str x) rfl
  have h2 := eq_no T d (.tup ds) rfl
  have h3 := eq_no T d .non rfl
  simp only [inChD, frnD, h1, h2, h3, Bool.and_self]
theorem len_sp (T : Tx K mg) (rs : List D) : f_Edition___len__ T [edT T rs] () = .ok (.int rs.length) () := by
  unfold f_Edition___len__ m_Edition___len__ edT
  simp only [mSeq, mSet, mRet, mRetN, mIf, mExp, mBad, mNext, mPar, W.sl, mFor, Out.bindS, MX.bind, Out.bind, mK, mVar, mFz, mFf, mOp, mTest, mNotT, mNotV, mAndT, mOrT, mAndV, mOrV, mIfE, mChain, mNil, mCons, mTup, mLst, mCB, mFld, mFldSet, mCallP, mCallB, mMethP, mMakeP, mMut, mSl, mPart, mNoPart, mIsi, mIL, mIT, mIR, mIEn, mIS, mBGet, mBSet, mNewBox, mComp, mYes, Out.bindN, bindA, env0, envA, envI, FO.outP, FO.outL, FO.out, SO.fo0, SO.foF, SO.foI, lensW, lensL, resO_some, Rs.w_v, Rs.w_f, W.rd_v, W.rd_t, W.rd_f, W.rd_l, W.kp_v, List.mapM_cons, List.mapM_nil, Option.bind_eq_bind, Option.bind_some, Option.pure_def, Option.map_some, List.replicate_succ, List.replicate_zero, List.cons_append, List.nil_append, List.getElem?_cons_zero, List.getElem?_cons_succ, List.set_cons_zero, List.set_cons_succ, rb, ri, fI, fC, fAdd, fSub, fMod, fMul, fDiv, fIx, fIsN, fNotN, D.isN, cl_lst, cl_tup, cInt, cTup, cList, gApp, gN, gT, gsC, gsN, Sl.isRef, if_true, if_false, if_pos, List.length_cons, List.length_nil, Bx.at, Bx.put, List.any_cons, List.any_nil, Bool.not_true, Bool.not_false, Nat.reduceAdd, Nat.reduceLeDiff, reduceIte, reduceCtorEq, and_self, and_true, true_and, if_s_non, if_s_bl, if_s_int, if_s_str, if_s_tup, if_s_lst, if_i_non, if_i_bl, if_i_int, if_i_str, if_i_tup, if_i_lst, if_b_non, if_b_bl, if_b_int, if_b_str, if_b_tup, if_b_lst, if_t_non, if_t_bl, if_t_int, if_t_str, if_t_tup, if_t_lst, if_l_non, if_l_bl, if_l_int, if_l_str, if_l_tup, if_l_lst, if_lt2_non, if_lt2_bl, if_lt2_int, if_lt2_str, if_lt2_tup, if_lt2_lst, mRaise, mTryAs, tryOut, mXf, mIsE, mLenO, mGetO, mIxSet, mSwapIx, ixSt, mNeg, isFO, gIns, SO.foX, SO.foJ, one_self, is1_self, at1_self, noRefAt, List.all_cons, List.all_nil, Sl.noBox, D.flat, Bool.and_self, Bool.and_true, Bool.true_and, List.zip_cons_cons, List.zip_nil_right, mTru, List.contains_nil, mIE, mIZ, mBrk, mCnt, decide_true, decide_false, Bool.false_eq_true, Bool.not_eq_true, lk_rows]
theorem get_sp (T : Tx K mg) (l : List P) (i : Nat) (h : i < l.length) : f_Edition___getitem__ T [edT T (l.map enc), .int (i : Int)] () = .ok (enc l[i]) () := by
  have ha := at_enc l i h
  have hL : ((l.map enc).length : Int) = (l.length : Int) := by rw [len_map]
  have h0 : (0 : Int) ≤ (i : Int) := by omega
  have h1 : (i : Int) < (l.length : Int) := by omega
  have lk := lk_rows (l.map enc)
  generalize (l.length : Int) = L at *
  generalize (i : Int) = z at *
  generalize enc l[i] = d at *
  generalize l.map enc = ds at *
  have ck : f_check_row T [.tup ds, .int z] () = .ok .non () := by
    unfold f_check_row m_check_row
    simp only [mSeq, mSet, mRet, mRetN, mIf, mExp, mBad, mNext, mPar, W.sl, mFor, Out.bindS, MX.bind, Out.bind, mK, mVar, mFz, mFf, mOp, mTest, mNotT, mNotV, mAndT, mOrT, mAndV, mOrV, mIfE, mChain, mNil, mCons, mTup, mLst, mCB, mFld, mFldSet, mCallP, mCallB, mMethP, mMakeP, mMut, mSl, mPart, mNoPart, mIsi, mIL, mIT, mIR, mIEn, mIS, mBGet, mBSet, mNewBox, mComp, mYes, Out.bindN, bindA, env0, envA, envI, FO.outP, FO.outL, FO.out, SO.fo0, SO.foF, SO.foI, lensW, lensL, resO_some, Rs.w_v, Rs.w_f, W.rd_v, W.rd_t, W.rd_f, W.rd_l, W.kp_v, List.mapM_cons, List.mapM_nil, Option.bind_eq_bind, Option.bind_some, Option.pure_def, Option.map_some, List.replicate_succ, List.replicate_zero, List.cons_append, List.nil_append, List.getElem?_cons_zero, List.getElem?_cons_succ, List.set_cons_zero, List.set_cons_succ, rb, ri, fI, fC, fAdd, fSub, fMod, fMul, fDiv, fIx, fIsN, fNotN, D.isN, cl_lst, cl_tup, cInt, cTup, cList, gApp, gN, gT, gsC, gsN, Sl.isRef, if_true, if_false, if_pos, List.length_cons, List.length_nil, Bx.at, Bx.put, List.any_cons, List.any_nil, Bool.not_true, Bool.not_false, Nat.reduceAdd, Nat.reduceLeDiff, reduceIte, reduceCtorEq, and_self, and_true, true_and, if_s_non, if_s_bl, if_s_int, if_s_str, if_s_tup, if_s_lst, if_i_non, if_i_bl, if_i_int, if_i_str, if_i_tup, if_i_lst, if_b_non, if_b_bl, if_b_int, if_b_str, if_b_tup, if_b_lst, if_t_non, if_t_bl, if_t_int, if_t_str, if_t_tup, if_t_lst, if_l_non, if_l_bl, if_l_int, if_l_str, if_l_tup, if_l_lst, if_lt2_non, if_lt2_bl, if_lt2_int, if_lt2_str, if_lt2_tup, if_lt2_lst, mRaise, mTryAs, tryOut, mXf, mIsE, mLenO, mGetO, mIxSet, mSwapIx, ixSt, mNeg, isFO, gIns, SO.foX, SO.foJ, one_self, is1_self, at1_self, noRefAt, List.all_cons, List.all_nil, Sl.noBox, D.flat, Bool.and_self, Bool.and_true, Bool.true_and, List.zip_cons_cons, List.zip_nil_right, mTru, List.contains_nil, mIE, mIZ, mBrk, mCnt, decide_true, decide_false, Bool.false_eq_true, Bool.not_eq_true, hL, h0, h1, Bool.not_true]
  unfold f_Edition___getitem__ m_Edition___getitem__ edT
  simp only [mSeq, mSet, mRet, mRetN, mIf, mExp, mBad, mNext, mPar, W.sl, mFor, Out.bindS, MX.bind, Out.bind, mK, mVar, mFz, mFf, mOp, mTest, mNotT, mNotV, mAndT, mOrT, mAndV, mOrV, mIfE, mChain, mNil, mCons, mTup, mLst, mCB, mFld, mFldSet, mCallP, mCallB, mMethP, mMakeP, mMut, mSl, mPart, mNoPart, mIsi, mIL, mIT, mIR, mIEn, mIS, mBGet, mBSet, mNewBox, mComp, mYes, Out.bindN, bindA, env0, envA, envI, FO.outP, FO.outL, FO.out, SO.fo0, SO.foF, SO.foI, lensW, lensL, resO_some, Rs.w_v, Rs.w_f, W.rd_v, W.rd_t, W.rd_f, W.rd_l, W.kp_v, List.mapM_cons, List.mapM_nil, Option.bind_eq_bind, Option.bind_some, Option.pure_def, Option.map_some, List.replicate_succ, List.replicate_zero, List.cons_append, List.nil_append, List.getElem?_cons_zero, List.getElem?_cons_succ, List.set_cons_zero, List.set_cons_succ, rb, ri, fI, fC, fAdd, fSub, fMod, fMul, fDiv, fIx, fIsN, fNotN, D.isN, cl_lst, cl_tup, cInt, cTup, cList, gApp, gN, gT, gsC, gsN, Sl.isRef, if_true, if_false, if_pos, List.length_cons, List.length_nil, Bx.at, Bx.put, List.any_cons, List.any_nil, Bool.not_true, Bool.not_false, Nat.reduceAdd, Nat.reduceLeDiff, reduceIte, reduceCtorEq, and_self, and_true, true_and, if_s_non, if_s_bl, if_s_int, if_s_str, if_s_tup, if_s_lst, if_i_non, if_i_bl, if_i_int, if_i_str, if_i_tup, if_i_lst, if_b_non, if_b_bl, if_b_int, if_b_str, if_b_tup, if_b_lst, if_t_non, if_t_bl, if_t_int, if_t_str, if_t_tup, if_t_lst, if_l_non, if_l_bl, if_l_int, if_l_str, if_l_tup, if_l_lst, if_lt2_non, if_lt2_bl, if_lt2_int, if_lt2_str, if_lt2_tup, if_lt2_lst, mRaise, mTryAs, tryOut, mXf, mIsE, mLenO, mGetO, mIxSet, mSwapIx, ixSt, mNeg, isFO, gIns, SO.foX, SO.foJ, one_self, is1_self, at1_self, noRefAt, List.all_cons, List.all_nil, Sl.noBox, D.flat, Bool.and_self, Bool.and_true, Bool.true_and, List.zip_cons_cons, List.zip_nil_right, mTru, List.contains_nil, mIE, mIZ, mBrk, mCnt, decide_true, decide_false, Bool.false_eq_true, Bool.not_eq_true, lk, ck, ha]
/-- an edition is made -/
theorem made (T : Tx K mg) (c : D) {l : List P} (hg : Good l) (hl : l.length ≤ 500) (hc : c = .lst (l.map enc) ∨ c = .tup (l.map enc)) : f_Edition_init T [c] = .ok (["rows"], [.tup (l.map enc)]) () := by
  exact init_sp T c (l.map enc) hc (fun d hd => by
    obtain ⟨p, hp, rfl⟩ := List.mem_map.mp hd
    exact fl1_enc (hg.1 p hp).1) (by rw [len_map]; omega) (good_none hg)
theorem unmap : ∀ rs : List D, (∀ d ∈ rs, ∃ x ∈ words, d = row x) → ∃ l : List P, rs = l.map enc ∧ Good l
  | [], _ => ⟨[], rfl, fun _ h => (nomatch h), List.nodup_nil⟩
  | d :: rs, h => by
    obtain ⟨l, rfl, h1, h2⟩ := unmap rs fun d hd => h d (List.mem_cons_of_mem _ hd)
    obtain ⟨x, hx, rfl⟩ := h d List.mem_cons_self
    refine ⟨(x, none) :: l, rfl, fun p hp => ?_, h2⟩
    rcases List.mem_cons.mp hp with rfl | hp
    · exact ⟨hx, fun j hj => nomatch hj⟩
    · exact h1 p hp
end
end ledmarks_k13_editions_made

namespace ledmarks_k13_editions_made
open PySem L2 LM
section
variable {K : PySem.W.Frag} {mg : Str → Option Value}
def w1_1 (T : Tx K mg) : MS (Option Bx) := (mNewBox 2 [.v, .v] (f__law_box T) (mCons (mVar 0) (mCons (mVar 1) mNil)))
def w1_2 (T : Tx K mg) : MS (Option Bx) := (mSet 3 (mCallB lensW [.b, .v] (f__law_words T) (mCons (mVar 2) (mCons (mOp fAdd (mK (.int 2)) (mCallB lensW [.b, .v] (f__law_take T) (mCons (mVar 2) (mCons (mK (.int 5)) mNil)))) mNil))))
def w1_3 (T : Tx K mg) : MS (Option Bx) := (mSet 4 (mLst (mCons (mCallB lensW [.b, .v, .v] (f__law_rows T) (mCons (mVar 2) (mCons (mVar 3) (mCons (mK (.int 8)) mNil)))) mNil)))
def w1_4_1 (T : Tx K mg) : MS (Option Bx) := (mExp (mMut gApp (mVar 4) (mCons (mCallB lensW [.b, .v, .v, .v] (f__law_edited T) (mCons (mVar 2) (mCons (mVar 3) (mCons (mOp fIx (mVar 4) (mNeg (mK (.int 1)))) (mCons (mK (.int 8)) mNil))))) mNil)))
def w1_4b (T : Tx K mg) : MS (Option Bx) := (w1_4_1 T)
theorem w1_4b_eq (T : Tx K mg) : w1_4b T = (w1_4_1 T) := rfl
def w1_4i (T : Tx K mg) : MX (Option Bx) (List D) := (mIR (mK (.int 3)))
def w1_4 (T : Tx K mg) : MS (Option Bx) := mFor (w1_4i T) (gN 5) (w1_4b T)
def w1_5 (T : Tx K mg) : MS (Option Bx) := (mExp (mMut gApp (mVar 4) (mCons (mFf (mCB cList (mCons (mOp fIx (mVar 4) (mK (.int 0))) mNil))) mNil)))
def w1_6 (T : Tx K mg) : MS (Option Bx) := (mSet 6 (mLst mNil))
def w1_7_1 (T : Tx K mg) : MS (Option Bx) := (mSet 8 (mCB cList (mCons (mVar 7) mNil)))
def w1_7_2 (T : Tx K mg) : MS (Option Bx) := (mExp (mMut gApp (mVar 6) (mCons (mMakeP T.c_Edition [.t] (f_Edition_init T) (mCons (mIfE (mTest (mOp fEq (mCallB lensW [.b, .v] (f__law_take T) (mCons (mVar 2) (mCons (mK (.int 2)) mNil))) (mK (.int 0)))) (mVar 8) (mCB cTup (mCons (mVar 8) mNil))) mNil)) mNil)))
def w1_7_3 (T : Tx K mg) : MS (Option Bx) := (mExp (mMut gApp (mVar 8) (mCons (mTup (mCons (mK (.str "zzzy")) (mCons (mK .non) mNil))) mNil)))
def w1_7_4 (T : Tx K mg) : MS (Option Bx) := (mExp (mMut gRev (mVar 8) mNil))
def w1_7b (T : Tx K mg) : MS (Option Bx) := (mSeq (w1_7_1 T) (mSeq (w1_7_2 T) (mSeq (w1_7_3 T) (w1_7_4 T))))
theorem w1_7b_eq (T : Tx K mg) : w1_7b T = (mSeq (w1_7_1 T) (mSeq (w1_7_2 T) (mSeq (w1_7_3 T) (w1_7_4 T)))) := rfl
def w1_7i (T : Tx K mg) : MX (Option Bx) (List D) := (mIL (mFz 4))
def w1_7 (T : Tx K mg) : MS (Option Bx) := mFor (w1_7i T) (gN 7) (w1_7b T)
def w1_8_1 (T : Tx K mg) : MS (Option Bx) := (mIf (mOrT (mTest (mOp fNe (mCB cRepr (mCons (mFld T.c_Edition "rows" (mVar 9)) mNil)) (mCB cRepr (mCons (mCB cTup (mCons (mVar 7) mNil)) mNil)))) (mOrT (mTest (mOp fNe (mLenO T.c_Edition (f_Edition___len__ T) (mVar 9)) (mCB cLen (mCons (mVar 7) mNil)))) (mTest (mOp fNe (mStrO T.c_Edition (f_Edition___str__ T) (mVar 9)) (mCallP [.v] (f__law_text T) (mCons (mVar 7) mNil)))))) (mRet (mK (.bl false))) mNext)
def w1_8_2 (T : Tx K mg) : MS (Option Bx) := (mIf (mOrT (mTest (mOp fNe (mComp (mIR (mLenO T.c_Edition (f_Edition___len__ T) (mVar 9))) [10] (gN 10) mYes (mGetO T.c_Edition (f_Edition___getitem__ T) (mVar 9) (mVar 10))) (mVar 7))) (mTest (mInO T.c_Edition (f_Edition___eq__ T) (mVar 9) (mTup (mCons (mStrO T.c_Edition (f_Edition___str__ T) (mVar 9)) (mCons (mCB cTup (mCons (mVar 7) mNil)) (mCons (mK .non) mNil))))))) (mRet (mK (.bl false))) mNext)
def w1_8_3 (T : Tx K mg) : MS (Option Bx) := (mIf (mTest (mOp fNe (mComp (mIL (mFz 6)) [11] (gN 11) mYes (mEqO T.c_Edition (f_Edition___eq__ T) (mVar 9) (mVar 11))) (mComp (mIL (mFz 4)) [11] (gN 11) mYes (mOp fEq (mVar 7) (mVar 11))))) (mRet (mK (.bl false))) mNext)
def w1_8_4 (T : Tx K mg) : MS (Option Bx) := (mIf (mTest (mOp fNe (mComp (mIL (mFz 6)) [11] (gN 11) mYes (mNeO T.c_Edition (f_Edition___eq__ T) (mVar 9) (mVar 11))) (mComp (mIL (mFz 4)) [11] (gN 11) mYes (mOp fNe (mVar 7) (mVar 11))))) (mRet (mK (.bl false))) mNext)
def w1_8_5 (T : Tx K mg) : MS (Option Bx) := (mIf (mTest (mOp fNe (mStrO T.c_Edition (f_Edition___str__ T) (mVar 9)) (mCallP [.v] (f__law_text T) (mCons (mVar 7) mNil)))) (mRet (mK (.bl false))) mNext)
def w1_8b (T : Tx K mg) : MS (Option Bx) := (mSeq (w1_8_1 T) (mSeq (w1_8_2 T) (mSeq (w1_8_3 T) (mSeq (w1_8_4 T) (w1_8_5 T)))))
theorem w1_8b_eq (T : Tx K mg) : w1_8b T = (mSeq (w1_8_1 T) (mSeq (w1_8_2 T) (mSeq (w1_8_3 T) (mSeq (w1_8_4 T) (w1_8_5 T))))) := rfl
def w1_8i (T : Tx K mg) : MX (Option Bx) (List D) := (mIZp (mCons (mFz 6) (mCons (mFz 4) mNil)))
def w1_8 (T : Tx K mg) : MS (Option Bx) := mFor (w1_8i T) (gT 2 (gsC (gN 9) (gsC (gN 7) gsN))) (w1_8b T)
def w1b (T : Tx K mg) : MS (Option Bx) := (mSeq (w1_1 T) (mSeq (w1_2 T) (mSeq (w1_3 T) (mSeq (w1_4 T) (mSeq (w1_5 T) (mSeq (w1_6 T) (mSeq (w1_7 T) (w1_8 T))))))))
theorem w1b_eq (T : Tx K mg) : w1b T = (mSeq (w1_1 T) (mSeq (w1_2 T) (mSeq (w1_3 T) (mSeq (w1_4 T) (mSeq (w1_5 T) (mSeq (w1_6 T) (mSeq (w1_7 T) (w1_8 T)))))))) := rfl
def w1i (T : Tx K mg) : MX (Option Bx) (List D) := (mIR (mCB cMax (mCons (mK (.int 1)) (mCons (mCB cMin (mCons (mK (.int 3)) (mCons (mCB cLen (mCons (mVar 0) mNil)) mNil))) mNil))))
def w1 (T : Tx K mg) : MS (Option Bx) := mFor (w1i T) (gN 1) (w1b T)
def w2 (T : Tx K mg) : MS (Option Bx) := (mSet 12 (mMakeP T.c_Edition [.t] (f_Edition_init T) (mCons (mLst mNil) mNil)))
def w3 (T : Tx K mg) : MS (Option Bx) := (mRet (mAndV (mOp fEq (mStrO T.c_Edition (f_Edition___str__ T) (mVar 12)) (mK (.str "-"))) (mAndV (mEqO T.c_Edition (f_Edition___eq__ T) (mMakeP T.c_Edition [.t] (f_Edition_init T) (mCons (mTup mNil) mNil)) (mVar 12)) (mOp fEq (mLenO T.c_Edition (f_Edition___len__ T) (mVar 12)) (mK (.int 0))))))
theorem m_law_eq (T : Tx K mg) : m_law T = (mSeq (w1 T) (mSeq (w2 T) (w3 T))) := rfl
def Vl (x : Sl) : Prop := x.isRef = false ∧ x.noBox = true
theorem vl_v (d : D) : Vl (.val d) := ⟨rfl, rfl⟩
theorem vl_n : Vl .no := ⟨rfl, rfl⟩
theorem gN_ok {i : Nat} {y : Sl} {env : List Sl} (h : env[i]? = some y) (r : y.isRef = false) (d : D) : gN i d env = some (env.set i (.val d)) := by
  simp only [gN, h, r]; rfl
def tD (l : List P) : D := .lst (l.map enc)
def eD (T : Tx K mg) (l : List P) : D := edT T (l.map enc)
def G8 (l : List P) : Prop := Good l ∧ l.length ≤ 8
/-! ### the texts are told -/
theorem w11_ok (T : Tx K mg) (ns : List Int) (k : Nat) (s : Option Bx) (x2 x3 x4 x5 x6 x7 x8 x9 : Sl) (h3 : x3.noBox = true) (h4 : x4.noBox = true) (h5 : x5.noBox = true) (h6 : x6.noBox = true) (h7 : x7.noBox = true) (h8 : x8.noBox = true) (h9 : x9.noBox = true) :
    ∃ s', w1_1 T [.val (.lst (ns.map .int)), .val (.int (k : Int)), x2, x3, x4, x5, x6, x7, x8, x9, .no, .no, .no] s = .nx [.val (.lst (ns.map .int)), .val (.int (k : Int)), .box, x3, x4, x5, x6, x7, x8, x9, .no, .no, .no] (some s') := by
  obtain ⟨bg, bm, bn, hb⟩ := box_ok T ns (k : Int) (by omega)
  generalize hsc : D.lst (ns.map D.int) = sc at hb ⊢
  generalize (k : Int) = zk at hb ⊢
  refine ⟨⟨bg, bm, bn⟩, ?_⟩
  have al : ([.val sc, .val (.int zk), .no, x3, x4, x5, x6, x7, x8, x9, .no, .no, .no] : List Sl).all Sl.noBox = true := by
    simp only [List.all_cons, List.all_nil, h3, h4, h5, h6, h7, h8, h9, Bool.and_true]
    rfl
  unfold w1_1
  simp only [mSeq, mSet, mRet, mRetN, mIf, mExp, mBad, mNext, mPar, W.sl, mFor, Out.bindS, MX.bind, Out.bind, mK, mVar, mFz, mFf, mOp, mTest, mNotT, mNotV, mAndT, mOrT, mAndV, mOrV, mIfE, mChain, mNil, mCons, mTup, mLst, mCB, mFld, mFldSet, mCallP, mCallB, mMethP, mMakeP, mMut, mSl, mPart, mNoPart, mIsi, mIL, mIT, mIR, mIEn, mIS, mBGet, mBSet, mNewBox, mComp, mYes, Out.bindN, bindA, env0, envA, envI, FO.outP, FO.outL, FO.out, SO.fo0, SO.foF, SO.foI, lensW, lensL, resO_some, Rs.w_v, Rs.w_f, W.rd_v, W.rd_t, W.rd_f, W.rd_l, W.kp_v, List.mapM_cons, List.mapM_nil, Option.bind_eq_bind, Option.bind_some, Option.pure_def, Option.map_some, List.replicate_succ, List.replicate_zero, List.cons_append, List.nil_append, List.getElem?_cons_zero, List.getElem?_cons_succ, List.set_cons_zero, List.set_cons_succ, rb, ri, fI, fC, fAdd, fSub, fMod, fMul, fDiv, fIx, fIsN, fNotN, D.isN, cl_lst, cl_tup, cInt, cTup, cList, gApp, gN, gT, gsC, gsN, Sl.isRef, if_true, if_false, if_pos, List.length_cons, List.length_nil, Bx.at, Bx.put, List.any_cons, List.any_nil, Bool.not_true, Bool.not_false, Nat.reduceAdd, Nat.reduceLeDiff, reduceIte, reduceCtorEq, and_self, and_true, true_and, if_s_non, if_s_bl, if_s_int, if_s_str, if_s_tup, if_s_lst, if_i_non, if_i_bl, if_i_int, if_i_str, if_i_tup, if_i_lst, if_b_non, if_b_bl, if_b_int, if_b_str, if_b_tup, if_b_lst, if_t_non, if_t_bl, if_t_int, if_t_str, if_t_tup, if_t_lst, if_l_non, if_l_bl, if_l_int, if_l_str, if_l_tup, if_l_lst, if_lt2_non, if_lt2_bl, if_lt2_int, if_lt2_str, if_lt2_tup, if_lt2_lst, mRaise, mTryAs, tryOut, mXf, mIsE, mLenO, mGetO, mIxSet, mSwapIx, ixSt, mNeg, isFO, gIns, SO.foX, SO.foJ, one_self, is1_self, at1_self, noRefAt, List.all_cons, List.all_nil, Sl.noBox, D.flat, Bool.and_self, Bool.and_true, Bool.true_and, List.zip_cons_cons, List.zip_nil_right, mTru, List.contains_nil, mIE, mIZ, mBrk, mCnt, decide_true, decide_false, Bool.false_eq_true, Bool.not_eq_true, hb, al]
theorem w12_ok (T : Tx K mg) (sc k x3 x4 x5 x6 x7 x8 x9 : Sl) (s : Bx) :
    ∃ ws s', w1_2 T [sc, k, .box, x3, x4, x5, x6, x7, x8, x9, .no, .no, .no] (some s) = .nx [sc, k, .box, .val (.lst ws), x4, x5, x6, x7, x8, x9, .no, .no, .no] (some s') ∧ 0 < ws.length ∧ ws.length < 1000 ∧ ∀ d ∈ ws, ∃ x ∈ words, d = .str x := by
  obtain ⟨r, s1, ht, r0, r1⟩ := take_ok T 5 s (by omega) (by omega)
  obtain ⟨ws, s2, hw, hl, hm⟩ := words_ok T (2 + r.toNat) s1 (by omega) (by omega)
  rw [show ((2 + r.toNat : Nat) : Int) = 2 + r by omega] at hw
  refine ⟨ws, s2, ?_, by omega, by omega, hm⟩
  unfold w1_2
  simp only [mSeq, mSet, mRet, mRetN, mIf, mExp, mBad, mNext, mPar, W.sl, mFor, Out.bindS, MX.bind, Out.bind, mK, mVar, mFz, mFf, mOp, mTest, mNotT, mNotV, mAndT, mOrT, mAndV, mOrV, mIfE, mChain, mNil, mCons, mTup, mLst, mCB, mFld, mFldSet, mCallP, mCallB, mMethP, mMakeP, mMut, mSl, mPart, mNoPart, mIsi, mIL, mIT, mIR, mIEn, mIS, mBGet, mBSet, mNewBox, mComp, mYes, Out.bindN, bindA, env0, envA, envI, FO.outP, FO.outL, FO.out, SO.fo0, SO.foF, SO.foI, lensW, lensL, resO_some, Rs.w_v, Rs.w_f, W.rd_v, W.rd_t, W.rd_f, W.rd_l, W.kp_v, List.mapM_cons, List.mapM_nil, Option.bind_eq_bind, Option.bind_some, Option.pure_def, Option.map_some, List.replicate_succ, List.replicate_zero, List.cons_append, List.nil_append, List.getElem?_cons_zero, List.getElem?_cons_succ, List.set_cons_zero, List.set_cons_succ, rb, ri, fI, fC, fAdd, fSub, fMod, fMul, fDiv, fIx, fIsN, fNotN, D.isN, cl_lst, cl_tup, cInt, cTup, cList, gApp, gN, gT, gsC, gsN, Sl.isRef, if_true, if_false, if_pos, List.length_cons, List.length_nil, Bx.at, Bx.put, List.any_cons, List.any_nil, Bool.not_true, Bool.not_false, Nat.reduceAdd, Nat.reduceLeDiff, reduceIte, reduceCtorEq, and_self, and_true, true_and, if_s_non, if_s_bl, if_s_int, if_s_str, if_s_tup, if_s_lst, if_i_non, if_i_bl, if_i_int, if_i_str, if_i_tup, if_i_lst, if_b_non, if_b_bl, if_b_int, if_b_str, if_b_tup, if_b_lst, if_t_non, if_t_bl, if_t_int, if_t_str, if_t_tup, if_t_lst, if_l_non, if_l_bl, if_l_int, if_l_str, if_l_tup, if_l_lst, if_lt2_non, if_lt2_bl, if_lt2_int, if_lt2_str, if_lt2_tup, if_lt2_lst, mRaise, mTryAs, tryOut, mXf, mIsE, mLenO, mGetO, mIxSet, mSwapIx, ixSt, mNeg, isFO, gIns, SO.foX, SO.foJ, one_self, is1_self, at1_self, noRefAt, List.all_cons, List.all_nil, Sl.noBox, D.flat, Bool.and_self, Bool.and_true, Bool.true_and, List.zip_cons_cons, List.zip_nil_right, mTru, List.contains_nil, mIE, mIZ, mBrk, mCnt, decide_true, decide_false, Bool.false_eq_true, Bool.not_eq_true, ht, hw]
theorem w13_ok (T : Tx K mg) (sc k x4 x5 x6 x7 x8 x9 : Sl) (ws : List D) (h0 : 0 < ws.length) (h1 : ws.length < 1000) (hm : ∀ d ∈ ws, ∃ x ∈ words, d = .str x) (s : Bx) :
    ∃ l s', w1_3 T [sc, k, .box, .val (.lst ws), x4, x5, x6, x7, x8, x9, .no, .no, .no] (some s) = .nx [sc, k, .box, .val (.lst ws), .own [tD l], x5, x6, x7, x8, x9, .no, .no, .no] (some s') ∧ G8 l := by
  obtain ⟨rs, s1, hr, hl, hx⟩ := rows_ok T ws 8 (by omega) s h0 h1 hm
  obtain ⟨l, rfl, hg⟩ := unmap rs hx
  rw [len_map] at hl
  have hr : f__law_rows T [.lst ws, .int 8] s = .ok (tD l) s1 := hr
  refine ⟨l, s1, ?_, hg, hl⟩
  have hh : 1 ≤ 16777216 := by decide
  generalize tD l = t at *
  unfold w1_3
  simp only [mSeq, mSet, mRet, mRetN, mIf, mExp, mBad, mNext, mPar, W.sl, mFor, Out.bindS, MX.bind, Out.bind, mK, mVar, mFz, mFf, mOp, mTest, mNotT, mNotV, mAndT, mOrT, mAndV, mOrV, mIfE, mChain, mNil, mCons, mTup, mLst, mCB, mFld, mFldSet, mCallP, mCallB, mMethP, mMakeP, mMut, mSl, mPart, mNoPart, mIsi, mIL, mIT, mIR, mIEn, mIS, mBGet, mBSet, mNewBox, mComp, mYes, Out.bindN, bindA, env0, envA, envI, FO.outP, FO.outL, FO.out, SO.fo0, SO.foF, SO.foI, lensW, lensL, resO_some, Rs.w_v, Rs.w_f, W.rd_v, W.rd_t, W.rd_f, W.rd_l, W.kp_v, List.mapM_cons, List.mapM_nil, Option.bind_eq_bind, Option.bind_some, Option.pure_def, Option.map_some, List.replicate_succ, List.replicate_zero, List.cons_append, List.nil_append, List.getElem?_cons_zero, List.getElem?_cons_succ, List.set_cons_zero, List.set_cons_succ, rb, ri, fI, fC, fAdd, fSub, fMod, fMul, fDiv, fIx, fIsN, fNotN, D.isN, cl_lst, cl_tup, cInt, cTup, cList, gApp, gN, gT, gsC, gsN, Sl.isRef, if_true, if_false, if_pos, List.length_cons, List.length_nil, Bx.at, Bx.put, List.any_cons, List.any_nil, Bool.not_true, Bool.not_false, Nat.reduceAdd, Nat.reduceLeDiff, reduceIte, reduceCtorEq, and_self, and_true, true_and, if_s_non, if_s_bl, if_s_int, if_s_str, if_s_tup, if_s_lst, if_i_non, if_i_bl, if_i_int, if_i_str, if_i_tup, if_i_lst, if_b_non, if_b_bl, if_b_int, if_b_str, if_b_tup, if_b_lst, if_t_non, if_t_bl, if_t_int, if_t_str, if_t_tup, if_t_lst, if_l_non, if_l_bl, if_l_int, if_l_str, if_l_tup, if_l_lst, if_lt2_non, if_lt2_bl, if_lt2_int, if_lt2_str, if_lt2_tup, if_lt2_lst, mRaise, mTryAs, tryOut, mXf, mIsE, mLenO, mGetO, mIxSet, mSwapIx, ixSt, mNeg, isFO, gIns, SO.foX, SO.foJ, one_self, is1_self, at1_self, noRefAt, List.all_cons, List.all_nil, Sl.noBox, D.flat, Bool.and_self, Bool.and_true, Bool.true_and, List.zip_cons_cons, List.zip_nil_right, mTru, List.contains_nil, mIE, mIZ, mBrk, mCnt, decide_true, decide_false, Bool.false_eq_true, Bool.not_eq_true, hr, hh, Nat.zero_add]
theorem last_at (ls : List (List P)) (h : ls ≠ []) : ∃ l ∈ ls, atI (ls.map tD) (-1) = some (tD l) := by
  refine ⟨ls.getLast h, List.getLast_mem h, ?_⟩
  have hp : 0 < ls.length := List.length_pos_iff.mpr h
  have e : atI (ls.map tD) (-1) = (ls.map tD)[ls.length - 1]? := by
    unfold atI ixN
    rw [List.length_map]
    rw [if_neg (by omega), if_pos (by omega)]
    show (ls.map tD)[_]? = _
    congr 1
    omega
  rw [e, List.getElem?_map, List.getLast_eq_getElem, List.getElem?_eq_getElem (by omega)]
  rfl
theorem w141_ok (T : Tx K mg) (sc k x5 x6 x7 x8 x9 : Sl) (ws : List D) (h0 : 0 < ws.length) (h1 : ws.length < 1000) (hm : ∀ d ∈ ws, ∃ x ∈ words, d = .str x) (ls : List (List P)) (hne : ls ≠ []) (hg : ∀ l ∈ ls, G8 l) (hl : ls.length ≤ 100) (s : Bx) :
    ∃ l s', w1_4b T [sc, k, .box, .val (.lst ws), .own (ls.map tD), x5, x6, x7, x8, x9, .no, .no, .no] (some s) = .nx [sc, k, .box, .val (.lst ws), .own ((ls ++ [l]).map tD), x5, x6, x7, x8, x9, .no, .no, .no] (some s') ∧ G8 l := by
  obtain ⟨l0, hm0, ha⟩ := last_at ls hne
  obtain ⟨l, s1, he, g, b⟩ := edited_ok T ws h0 h1 hm l0 (fun p hp => ((hg l0 hm0).1.1 p hp).1) (hg l0 hm0).2 8 s
  have he : f__law_edited T [.lst ws, tD l0, .int 8] s = .ok (tD l) s1 := he
  refine ⟨l, s1, ?_, g, b⟩
  unfold w1_4b w1_4_1
  have e1 : gApp (ls.map tD) [tD l] = some (.non, (ls ++ [l]).map tD) := by rw [List.map_append]; rfl
  have e2 : ((ls ++ [l]).map tD).length ≤ 16777216 := by rw [List.length_map, List.length_append, List.length_singleton]; omega
  refine exp_w (w := .v .non) ?_
  refine mut_l (i := 4) (ds0 := ls.map tD) (ds := ls.map tD) (e1 := [sc, k, .box, .val (.lst ws), .own (ls.map tD), x5, x6, x7, x8, x9, .no, .no, .no]) (s1 := some s) (e2 := [sc, k, .box, .val (.lst ws), .own (ls.map tD), x5, x6, x7, x8, x9, .no, .no, .no]) (s2 := some s1) (ws := [.v (tD l)]) (es := [tD l]) rfl rfl ?_ rfl rfl e1 e2
  generalize ls.map tD = ds at *
  generalize tD l0 = t0 at *
  generalize tD l = t at *
  simp only [mSeq, mSet, mRet, mRetN, mIf, mExp, mBad, mNext, mPar, W.sl, mFor, Out.bindS, MX.bind, Out.bind, mK, mVar, mFz, mFf, mOp, mTest, mNotT, mNotV, mAndT, mOrT, mAndV, mOrV, mIfE, mChain, mNil, mCons, mTup, mLst, mCB, mFld, mFldSet, mCallP, mCallB, mMethP, mMakeP, mMut, mSl, mPart, mNoPart, mIsi, mIL, mIT, mIR, mIEn, mIS, mBGet, mBSet, mNewBox, mComp, mYes, Out.bindN, bindA, env0, envA, envI, FO.outP, FO.outL, FO.out, SO.fo0, SO.foF, SO.foI, lensW, lensL, resO_some, Rs.w_v, Rs.w_f, W.rd_v, W.rd_t, W.rd_f, W.rd_l, W.kp_v, List.mapM_cons, List.mapM_nil, Option.bind_eq_bind, Option.bind_some, Option.pure_def, Option.map_some, List.replicate_succ, List.replicate_zero, List.cons_append, List.nil_append, List.getElem?_cons_zero, List.getElem?_cons_succ, List.set_cons_zero, List.set_cons_succ, rb, ri, fI, fC, fAdd, fSub, fMod, fMul, fDiv, fIx, fIsN, fNotN, D.isN, cl_lst, cl_tup, cInt, cTup, cList, gApp, gN, gT, gsC, gsN, Sl.isRef, if_true, if_false, if_pos, List.length_cons, List.length_nil, Bx.at, Bx.put, List.any_cons, List.any_nil, Bool.not_true, Bool.not_false, Nat.reduceAdd, Nat.reduceLeDiff, reduceIte, reduceCtorEq, and_self, and_true, true_and, if_s_non, if_s_bl, if_s_int, if_s_str, if_s_tup, if_s_lst, if_i_non, if_i_bl, if_i_int, if_i_str, if_i_tup, if_i_lst, if_b_non, if_b_bl, if_b_int, if_b_str, if_b_tup, if_b_lst, if_t_non, if_t_bl, if_t_int, if_t_str, if_t_tup, if_t_lst, if_l_non, if_l_bl, if_l_int, if_l_str, if_l_tup, if_l_lst, if_lt2_non, if_lt2_bl, if_lt2_int, if_lt2_str, if_lt2_tup, if_lt2_lst, mRaise, mTryAs, tryOut, mXf, mIsE, mLenO, mGetO, mIxSet, mSwapIx, ixSt, mNeg, isFO, gIns, SO.foX, SO.foJ, one_self, is1_self, at1_self, noRefAt, List.all_cons, List.all_nil, Sl.noBox, D.flat, Bool.and_self, Bool.and_true, Bool.true_and, List.zip_cons_cons, List.zip_nil_right, mTru, List.contains_nil, mIE, mIZ, mBrk, mCnt, decide_true, decide_false, Bool.false_eq_true, Bool.not_eq_true, ha, he]
theorem w14_ok (T : Tx K mg) (sc k x5 x6 x7 x8 x9 : Sl) (h5 : Vl x5) (ws : List D) (h0 : 0 < ws.length) (h1 : ws.length < 1000) (hm : ∀ d ∈ ws, ∃ x ∈ words, d = .str x) (l : List P) (hg : G8 l) (s : Bx) :
    ∃ ls y5 s', w1_4 T [sc, k, .box, .val (.lst ws), .own [tD l], x5, x6, x7, x8, x9, .no, .no, .no] (some s) = .nx [sc, k, .box, .val (.lst ws), .own (ls.map tD), y5, x6, x7, x8, x9, .no, .no, .no] (some s') ∧ Vl y5 ∧ ls ≠ [] ∧ (∀ l ∈ ls, G8 l) ∧ ls.length ≤ 10 := by
  have e1 : w1_4i T [sc, k, .box, .val (.lst ws), .own [tD l], x5, x6, x7, x8, x9, .no, .no, .no] (some s) = .ok ((List.range 3).map fun i => .int (i : Nat)) [sc, k, .box, .val (.lst ws), .own [tD l], x5, x6, x7, x8, x9, .no, .no, .no] (some s) := ir_nat rfl (by omega)
  obtain ⟨e2, s2, h2, ls, y5, s3, rfl, rfl, v5, hne, hgs, hl⟩ := forL_cnt (S := Option Bx) (g := gN 5) (body := w1_4b T) (L := (List.range 3).map fun i => D.int (i : Nat))
    (fun n env s' => ∃ (ls : List (List P)) (y5 : Sl) (s3 : Bx), env = [sc, k, .box, .val (.lst ws), .own (ls.map tD), y5, x6, x7, x8, x9, .no, .no, .no] ∧ s' = some s3 ∧ Vl y5 ∧ ls ≠ [] ∧ (∀ l ∈ ls, G8 l) ∧ ls.length + n ≤ 10) (by
      rintro n d hd env s' ⟨ls, y5, s3, rfl, rfl, v5, hne, hgs, hl⟩
      obtain ⟨l', s4, hb, hg'⟩ := w141_ok T sc k (.val d) x6 x7 x8 x9 ws h0 h1 hm ls hne hgs (by omega) s3
      refine ⟨_, _, _, gN_ok rfl v5.1 d, hb, ls ++ [l'], .val d, s4, rfl, rfl, vl_v _, by simp, fun q hq => ?_, by rw [List.length_append, List.length_singleton]; omega⟩
      rcases List.mem_append.mp hq with hq | hq
      · exact hgs q hq
      · rw [List.mem_singleton.mp hq]; exact hg') 0 [sc, k, .box, .val (.lst ws), .own [tD l], x5, x6, x7, x8, x9, .no, .no, .no] (some s) ⟨[l], x5, s, rfl, rfl, h5, by simp, fun q hq => (by rw [List.mem_singleton.mp hq]; exact hg), by simp⟩
  exact ⟨ls, y5, s3, (for_x e1).trans h2, v5, hne, hgs, by omega⟩
theorem w15_ok (T : Tx K mg) (sc k ws x5 x6 x7 x8 x9 : Sl) (ls : List (List P)) (hne : ls ≠ []) (hg : ∀ l ∈ ls, G8 l) (hl : ls.length ≤ 100) (s : Option Bx) :
    ∃ l, w1_5 T [sc, k, .box, ws, .own (ls.map tD), x5, x6, x7, x8, x9, .no, .no, .no] s = .nx [sc, k, .box, ws, .own ((ls ++ [l]).map tD), x5, x6, x7, x8, x9, .no, .no, .no] s ∧ G8 l := by
  obtain ⟨l0, ls', rfl⟩ : ∃ l0 ls', ls = l0 :: ls' := by
    cases ls with
    | nil => exact absurd rfl hne
    | cons a b => exact ⟨a, b, rfl⟩
  refine ⟨l0, ?_, hg l0 List.mem_cons_self⟩
  have ha : atI ((l0 :: ls').map tD) 0 = some (tD l0) := by
    have q := at_nat ((l0 :: ls').map tD) 0
    exact q
  unfold w1_5
  have e1 : gApp ((l0 :: ls').map tD) [tD l0] = some (.non, ((l0 :: ls') ++ [l0]).map tD) := by rw [List.map_append]; rfl
  have e2 : (((l0 :: ls') ++ [l0]).map tD).length ≤ 16777216 := by rw [List.length_map, List.length_append, List.length_singleton]; omega
  refine exp_w (w := .v .non) ?_
  refine mut_l (i := 4) (ds0 := (l0 :: ls').map tD) (ds := (l0 :: ls').map tD) (e1 := [sc, k, .box, ws, .own ((l0 :: ls').map tD), x5, x6, x7, x8, x9, .no, .no, .no]) (s1 := s) (e2 := [sc, k, .box, ws, .own ((l0 :: ls').map tD), x5, x6, x7, x8, x9, .no, .no, .no]) (s2 := s) (ws := [.v (tD l0)]) (es := [tD l0]) rfl rfl ?_ rfl rfl e1 e2
  generalize (l0 :: ls').map tD = ds at *
  have cl : cList [tD l0] = some (.f (l0.map enc)) := rfl
  have tl : D.lst (l0.map enc) = tD l0 := rfl
  generalize l0.map enc = es at *
  clear cl
  generalize tD l0 = t at *
  subst tl
  simp only [mSeq, mSet, mRet, mRetN, mIf, mExp, mBad, mNext, mPar, W.sl, mFor, Out.bindS, MX.bind, Out.bind, mK, mVar, mFz, mFf, mOp, mTest, mNotT, mNotV, mAndT, mOrT, mAndV, mOrV, mIfE, mChain, mNil, mCons, mTup, mLst, mCB, mFld, mFldSet, mCallP, mCallB, mMethP, mMakeP, mMut, mSl, mPart, mNoPart, mIsi, mIL, mIT, mIR, mIEn, mIS, mBGet, mBSet, mNewBox, mComp, mYes, Out.bindN, bindA, env0, envA, envI, FO.outP, FO.outL, FO.out, SO.fo0, SO.foF, SO.foI, lensW, lensL, resO_some, Rs.w_v, Rs.w_f, W.rd_v, W.rd_t, W.rd_f, W.rd_l, W.kp_v, List.mapM_cons, List.mapM_nil, Option.bind_eq_bind, Option.bind_some, Option.pure_def, Option.map_some, List.replicate_succ, List.replicate_zero, List.cons_append, List.nil_append, List.getElem?_cons_zero, List.getElem?_cons_succ, List.set_cons_zero, List.set_cons_succ, rb, ri, fI, fC, fAdd, fSub, fMod, fMul, fDiv, fIx, fIsN, fNotN, D.isN, cl_lst, cl_tup, cInt, cTup, cList, gApp, gN, gT, gsC, gsN, Sl.isRef, if_true, if_false, if_pos, List.length_cons, List.length_nil, Bx.at, Bx.put, List.any_cons, List.any_nil, Bool.not_true, Bool.not_false, Nat.reduceAdd, Nat.reduceLeDiff, reduceIte, reduceCtorEq, and_self, and_true, true_and, if_s_non, if_s_bl, if_s_int, if_s_str, if_s_tup, if_s_lst, if_i_non, if_i_bl, if_i_int, if_i_str, if_i_tup, if_i_lst, if_b_non, if_b_bl, if_b_int, if_b_str, if_b_tup, if_b_lst, if_t_non, if_t_bl, if_t_int, if_t_str, if_t_tup, if_t_lst, if_l_non, if_l_bl, if_l_int, if_l_str, if_l_tup, if_l_lst, if_lt2_non, if_lt2_bl, if_lt2_int, if_lt2_str, if_lt2_tup, if_lt2_lst, mRaise, mTryAs, tryOut, mXf, mIsE, mLenO, mGetO, mIxSet, mSwapIx, ixSt, mNeg, isFO, gIns, SO.foX, SO.foJ, one_self, is1_self, at1_self, noRefAt, List.all_cons, List.all_nil, Sl.noBox, D.flat, Bool.and_self, Bool.and_true, Bool.true_and, List.zip_cons_cons, List.zip_nil_right, mTru, List.contains_nil, mIE, mIZ, mBrk, mCnt, decide_true, decide_false, Bool.false_eq_true, Bool.not_eq_true, ha]
end
end ledmarks_k13_editions_made

namespace ledmarks_k13_editions_made
open PySem L2 LM
section
variable {K : PySem.W.Frag} {mg : Str → Option Value}
/-! ### the editions are made -/
theorem w17b_ok (T : Tx K mg) (sc k ws x4 x5 x8 x9 : Sl) (l : List P) (hg : G8 l) (ds : List D) (hl : ds.length ≤ 100) (s : Bx) :
    ∃ y8 s', w1_7b T [sc, k, .box, ws, x4, x5, .own ds, .val (tD l), x8, x9, .no, .no, .no] (some s) = .nx [sc, k, .box, ws, x4, x5, .own (ds ++ [eD T l]), .val (tD l), y8, x9, .no, .no, .no] (some s') ∧ y8.noBox = true := by
  rw [w1_7b_eq]
  have e1 : w1_7_1 T [sc, k, .box, ws, x4, x5, .own ds, .val (tD l), x8, x9, .no, .no, .no] (some s) = .nx [sc, k, .box, ws, x4, x5, .own ds, .val (tD l), .own (l.map enc), x9, .no, .no, .no] (some s) := by
    exact set_f (i := 8) (me := mCB cList (mCons (mVar 7) mNil)) (ds := l.map enc) (e1 := [sc, k, .box, ws, x4, x5, .own ds, .val (tD l), x8, x9, .no, .no, .no]) (s1 := some s) rfl
  rw [seq_nx e1]
  obtain ⟨r, s1, ht, r0, r1⟩ := take_ok T 2 s (by omega) (by omega)
  have e2 : w1_7_2 T [sc, k, .box, ws, x4, x5, .own ds, .val (tD l), .own (l.map enc), x9, .no, .no, .no] (some s) = .nx [sc, k, .box, ws, x4, x5, .own (ds ++ [eD T l]), .val (tD l), .own (l.map enc), x9, .no, .no, .no] (some s1) := by
    unfold w1_7_2
    have q1 : gApp ds [eD T l] = some (.non, ds ++ [eD T l]) := rfl
    have q2 : (ds ++ [eD T l]).length ≤ 16777216 := by rw [List.length_append, List.length_singleton]; omega
    refine exp_w (w := .v .non) ?_
    refine mut_l (i := 6) (ds0 := ds) (ds := ds) (e1 := [sc, k, .box, ws, x4, x5, .own ds, .val (tD l), .own (l.map enc), x9, .no, .no, .no]) (s1 := some s) (e2 := [sc, k, .box, ws, x4, x5, .own ds, .val (tD l), .own (l.map enc), x9, .no, .no, .no]) (s2 := some s1) (ws := [.v (eD T l)]) (es := [eD T l]) rfl rfl ?_ rfl rfl q1 q2
    have m1 := made T (.lst (l.map enc)) hg.1 (by have := hg.2; omega) (.inl rfl)
    have m2 := made T (.tup (l.map enc)) hg.1 (by have := hg.2; omega) (.inr rfl)
    have ee : eD T l = .ins T.c_Edition ["rows"] [.tup (l.map enc)] := rfl
    rw [ee]
    have ct : cTup [.lst (l.map enc)] = some (.v (.tup (l.map enc))) := rfl
    generalize tD l = t
    generalize l.map enc = es at *
    by_cases c : r = 0
    · subst c
      have z0 := eq_int 0 0
      simp only [mSeq, mSet, mRet, mRetN, mIf, mExp, mBad, mNext, mPar, W.sl, mFor, Out.bindS, MX.bind, Out.bind, mK, mVar, mFz, mFf, mOp, mTest, mNotT, mNotV, mAndT, mOrT, mAndV, mOrV, mIfE, mChain, mNil, mCons, mTup, mLst, mCB, mFld, mFldSet, mCallP, mCallB, mMethP, mMakeP, mMut, mSl, mPart, mNoPart, mIsi, mIL, mIT, mIR, mIEn, mIS, mBGet, mBSet, mNewBox, mComp, mYes, Out.bindN, bindA, env0, envA, envI, FO.outP, FO.outL, FO.out, SO.fo0, SO.foF, SO.foI, lensW, lensL, resO_some, Rs.w_v, Rs.w_f, W.rd_v, W.rd_t, W.rd_f, W.rd_l, W.kp_v, List.mapM_cons, List.mapM_nil, Option.bind_eq_bind, Option.bind_some, Option.pure_def, Option.map_some, List.replicate_succ, List.replicate_zero, List.cons_append, List.nil_append, List.getElem?_cons_zero, List.getElem?_cons_succ, List.set_cons_zero, List.set_cons_succ, rb, ri, fI, fC, fAdd, fSub, fMod, fMul, fDiv, fIx, fIsN, fNotN, D.isN, cl_lst, cl_tup, cInt, cTup, cList, gApp, gN, gT, gsC, gsN, Sl.isRef, if_true, if_false, if_pos, List.length_cons, List.length_nil, Bx.at, Bx.put, List.any_cons, List.any_nil, Bool.not_true, Bool.not_false, Nat.reduceAdd, Nat.reduceLeDiff, reduceIte, reduceCtorEq, and_self, and_true, true_and, if_s_non, if_s_bl, if_s_int, if_s_str, if_s_tup, if_s_lst, if_i_non, if_i_bl, if_i_int, if_i_str, if_i_tup, if_i_lst, if_b_non, if_b_bl, if_b_int, if_b_str, if_b_tup, if_b_lst, if_t_non, if_t_bl, if_t_int, if_t_str, if_t_tup, if_t_lst, if_l_non, if_l_bl, if_l_int, if_l_str, if_l_tup, if_l_lst, if_lt2_non, if_lt2_bl, if_lt2_int, if_lt2_str, if_lt2_tup, if_lt2_lst, mRaise, mTryAs, tryOut, mXf, mIsE, mLenO, mGetO, mIxSet, mSwapIx, ixSt, mNeg, isFO, gIns, SO.foX, SO.foJ, one_self, is1_self, at1_self, noRefAt, List.all_cons, List.all_nil, Sl.noBox, D.flat, Bool.and_self, Bool.and_true, Bool.true_and, List.zip_cons_cons, List.zip_nil_right, mTru, List.contains_nil, mIE, mIZ, mBrk, mCnt, decide_true, decide_false, Bool.false_eq_true, Bool.not_eq_true, ht, z0, m1]
    · have z0 := eq_int r 0
      rw [decide_eq_false c] at z0
      simp only [mSeq, mSet, mRet, mRetN, mIf, mExp, mBad, mNext, mPar, W.sl, mFor, Out.bindS, MX.bind, Out.bind, mK, mVar, mFz, mFf, mOp, mTest, mNotT, mNotV, mAndT, mOrT, mAndV, mOrV, mIfE, mChain, mNil, mCons, mTup, mLst, mCB, mFld, mFldSet, mCallP, mCallB, mMethP, mMakeP, mMut, mSl, mPart, mNoPart, mIsi, mIL, mIT, mIR, mIEn, mIS, mBGet, mBSet, mNewBox, mComp, mYes, Out.bindN, bindA, env0, envA, envI, FO.outP, FO.outL, FO.out, SO.fo0, SO.foF, SO.foI, lensW, lensL, resO_some, Rs.w_v, Rs.w_f, W.rd_v, W.rd_t, W.rd_f, W.rd_l, W.kp_v, List.mapM_cons, List.mapM_nil, Option.bind_eq_bind, Option.bind_some, Option.pure_def, Option.map_some, List.replicate_succ, List.replicate_zero, List.cons_append, List.nil_append, List.getElem?_cons_zero, List.getElem?_cons_succ, List.set_cons_zero, List.set_cons_succ, rb, ri, fI, fC, fAdd, fSub, fMod, fMul, fDiv, fIx, fIsN, fNotN, D.isN, cl_lst, cl_tup, cInt, cTup, cList, gApp, gN, gT, gsC, gsN, Sl.isRef, if_true, if_false, if_pos, List.length_cons, List.length_nil, Bx.at, Bx.put, List.any_cons, List.any_nil, Bool.not_true, Bool.not_false, Nat.reduceAdd, Nat.reduceLeDiff, reduceIte, reduceCtorEq, and_self, and_true, true_and, if_s_non, if_s_bl, if_s_int, if_s_str, if_s_tup, if_s_lst, if_i_non, if_i_bl, if_i_int, if_i_str, if_i_tup, if_i_lst, if_b_non, if_b_bl, if_b_int, if_b_str, if_b_tup, if_b_lst, if_t_non, if_t_bl, if_t_int, if_t_str, if_t_tup, if_t_lst, if_l_non, if_l_bl, if_l_int, if_l_str, if_l_tup, if_l_lst, if_lt2_non, if_lt2_bl, if_lt2_int, if_lt2_str, if_lt2_tup, if_lt2_lst, mRaise, mTryAs, tryOut, mXf, mIsE, mLenO, mGetO, mIxSet, mSwapIx, ixSt, mNeg, isFO, gIns, SO.foX, SO.foJ, one_self, is1_self, at1_self, noRefAt, List.all_cons, List.all_nil, Sl.noBox, D.flat, Bool.and_self, Bool.and_true, Bool.true_and, List.zip_cons_cons, List.zip_nil_right, mTru, List.contains_nil, mIE, mIZ, mBrk, mCnt, decide_true, decide_false, Bool.false_eq_true, Bool.not_eq_true, ht, z0, m2, ct]
  rw [seq_nx e2]
  have hl8 := hg.2
  have e3 : w1_7_3 T [sc, k, .box, ws, x4, x5, .own (ds ++ [eD T l]), .val (tD l), .own (l.map enc), x9, .no, .no, .no] (some s1) = .nx [sc, k, .box, ws, x4, x5, .own (ds ++ [eD T l]), .val (tD l), .own (l.map enc ++ [.tup [.str "zzzy", .non]]), x9, .no, .no, .no] (some s1) := by
    unfold w1_7_3
    refine exp_w (w := .v .non) ?_
    refine mut_l (i := 8) (ds0 := l.map enc) (ds := l.map enc) (e1 := [sc, k, .box, ws, x4, x5, .own (ds ++ [eD T l]), .val (tD l), .own (l.map enc), x9, .no, .no, .no]) (s1 := some s1) (e2 := [sc, k, .box, ws, x4, x5, .own (ds ++ [eD T l]), .val (tD l), .own (l.map enc), x9, .no, .no, .no]) (s2 := some s1) (ws := [.v (.tup [.str "zzzy", .non])]) (es := [.tup [.str "zzzy", .non]]) rfl rfl rfl rfl rfl rfl (by rw [List.length_append, len_map, List.length_singleton]; omega)
  rw [seq_nx e3]
  have e4 : w1_7_4 T [sc, k, .box, ws, x4, x5, .own (ds ++ [eD T l]), .val (tD l), .own (l.map enc ++ [.tup [.str "zzzy", .non]]), x9, .no, .no, .no] (some s1) = .nx [sc, k, .box, ws, x4, x5, .own (ds ++ [eD T l]), .val (tD l), .own ((l.map enc ++ [D.tup [D.str "zzzy", D.non]]).reverse), x9, .no, .no, .no] (some s1) := by
    unfold w1_7_4
    refine exp_w (w := .v .non) ?_
    refine mut_l (i := 8) (ds0 := l.map enc ++ [.tup [.str "zzzy", .non]]) (ds := l.map enc ++ [.tup [.str "zzzy", .non]]) (e1 := [sc, k, .box, ws, x4, x5, .own (ds ++ [eD T l]), .val (tD l), .own (l.map enc ++ [.tup [.str "zzzy", .non]]), x9, .no, .no, .no]) (s1 := some s1) (e2 := [sc, k, .box, ws, x4, x5, .own (ds ++ [eD T l]), .val (tD l), .own (l.map enc ++ [.tup [.str "zzzy", .non]]), x9, .no, .no, .no]) (s2 := some s1) (ws := []) (es := []) rfl rfl rfl rfl rfl rfl (by rw [List.length_reverse, List.length_append, len_map, List.length_singleton]; omega)
  exact ⟨_, s1, e4, rfl⟩
theorem made_loop (T : Tx K mg) (sc k ws x4 x5 x9 : Sl) : ∀ (todo done : List (List P)) (x7 x8 : Sl) (s : Bx), (∀ l ∈ todo, G8 l) → done.length + todo.length ≤ 50 → Vl x7 → x8.noBox = true →
    ∃ y7 y8 s', mForL (gN 7) (w1_7b T) (todo.map tD) [sc, k, .box, ws, x4, x5, .own (done.map (eD T)), x7, x8, x9, .no, .no, .no] (some s) = .nx [sc, k, .box, ws, x4, x5, .own ((done ++ todo).map (eD T)), y7, y8, x9, .no, .no, .no] (some s') ∧ Vl y7 ∧ y8.noBox = true
  | [], done, x7, x8, s, _, _, h7, h8 => ⟨x7, x8, s, by rw [List.append_nil]; rfl, h7, h8⟩
  | l :: todo, done, x7, x8, s, hg, hl, h7, h8 => by
    rw [List.length_cons] at hl
    obtain ⟨y8, s1, hb, n8⟩ := w17b_ok T sc k ws x4 x5 x8 x9 l (hg l List.mem_cons_self) (done.map (eD T)) (by rw [List.length_map]; omega) s
    have e : done.map (eD T) ++ [eD T l] = (done ++ [l]).map (eD T) := by rw [List.map_append]; rfl
    rw [e] at hb
    obtain ⟨z7, z8, s2, hr, v7, v8⟩ := made_loop T sc k ws x4 x5 x9 todo (done ++ [l]) (.val (tD l)) y8 s1 (fun q hq => hg q (List.mem_cons_of_mem _ hq)) (by rw [List.length_append, List.length_singleton]; omega) (vl_v _) n8
    refine ⟨z7, z8, s2, ?_, v7, v8⟩
    have g1 : gN 7 (tD l) [sc, k, .box, ws, x4, x5, .own (done.map (eD T)), x7, x8, x9, .no, .no, .no] = some [sc, k, .box, ws, x4, x5, .own (done.map (eD T)), .val (tD l), x8, x9, .no, .no, .no] := gN_ok rfl h7.1 _
    rw [List.map_cons]
    unfold mForL
    rw [g1]
    simp only [hb]
    rw [hr, List.append_assoc]
    rfl
end
end ledmarks_k13_editions_made

namespace ledmarks_k13_editions_made
open PySem L2 LM
section
variable {K : PySem.W.Frag} {mg : Str → Option Value}
/-! ### an edition and its rows -/
abbrev Ev (T : Tx K mg) (sc k ws x5 x8 x12 : Sl) (ls : List (List P)) (l : List P) : List Sl := [sc, k, .box, ws, .fz (ls.map tD), x5, .fz (ls.map (eD T)), .val (tD l), x8, .val (eD T l), .no, .no, x12]
theorem c1_ok (T : Tx K mg) (sc k ws x5 x8 x12 : Sl) (ls : List (List P)) (l : List P) (hg : G8 l) (s : Option Bx) : w1_8_1 T (Ev T sc k ws x5 x8 x12 ls l) s = .nx (Ev T sc k ws x5 x8 x12 ls l) s := by
  have hl8 := hg.2
  have hgd : ∀ p ∈ l, Gd p := hg.1.1
  have r1 := rep_ok (show_tup hgd (by omega))
  have h1 := len_sp T (l.map enc)
  have h2 := str_sp T l hgd (by omega)
  have h3 := text_sp T l hgd (by omega)
  have n1 := ne_str (D.tup (l.map enc)).py.shown (D.tup (l.map enc)).py.shown
  have n2 := ne_int (l.map enc).length (l.map enc).length
  have n3 := ne_str (txt l) (txt l)
  rw [decide_eq_true rfl] at n1 n2 n3
  have lk := lk_rows (l.map enc)
  have ct : cTup [.lst (l.map enc)] = some (.v (.tup (l.map enc))) := rfl
  have b1 : (0 : Int) ≤ ((l.map enc).length : Int) ∧ ((l.map enc).length : Int) < 9223372036854775808 := by rw [len_map]; omega
  have cl := cl_lst (l.map enc)
  have et : tD l = .lst (l.map enc) := rfl
  have ee : eD T l = .ins T.c_Edition ["rows"] [.tup (l.map enc)] := rfl
  unfold edT at h1 h2
  unfold w1_8_1 Ev
  rw [et, ee]
  generalize (D.tup (l.map enc)).py.shown = sh at *
  generalize txt l = tx at *
  generalize ((l.map enc).length : Int) = L at *
  generalize l.map enc = es at *
  generalize ls.map tD = q1
  generalize ls.map (eD T) = q2
  simp only [mSeq, mSet, mRet, mRetN, mIf, mExp, mBad, mNext, mPar, W.sl, mFor, Out.bindS, MX.bind, Out.bind, mK, mVar, mFz, mFf, mOp, mTest, mNotT, mNotV, mAndT, mOrT, mAndV, mOrV, mIfE, mChain, mNil, mCons, mTup, mLst, mCB, mFld, mFldSet, mCallP, mCallB, mMethP, mMakeP, mMut, mSl, mPart, mNoPart, mIsi, mIL, mIT, mIR, mIEn, mIS, mBGet, mBSet, mNewBox, mComp, mYes, Out.bindN, bindA, env0, envA, envI, FO.outP, FO.outL, FO.out, SO.fo0, SO.foF, SO.foI, lensW, lensL, resO_some, Rs.w_v, Rs.w_f, W.rd_v, W.rd_t, W.rd_f, W.rd_l, W.kp_v, List.mapM_cons, List.mapM_nil, Option.bind_eq_bind, Option.bind_some, Option.pure_def, Option.map_some, List.replicate_succ, List.replicate_zero, List.cons_append, List.nil_append, List.getElem?_cons_zero, List.getElem?_cons_succ, List.set_cons_zero, List.set_cons_succ, rb, ri, fI, fC, fAdd, fSub, fMod, fMul, fDiv, fIx, fIsN, fNotN, D.isN, cl_lst, cl_tup, cInt, cTup, cList, gApp, gN, gT, gsC, gsN, Sl.isRef, if_true, if_false, if_pos, List.length_cons, List.length_nil, Bx.at, Bx.put, List.any_cons, List.any_nil, Bool.not_true, Bool.not_false, Nat.reduceAdd, Nat.reduceLeDiff, reduceIte, reduceCtorEq, and_self, and_true, true_and, if_s_non, if_s_bl, if_s_int, if_s_str, if_s_tup, if_s_lst, if_i_non, if_i_bl, if_i_int, if_i_str, if_i_tup, if_i_lst, if_b_non, if_b_bl, if_b_int, if_b_str, if_b_tup, if_b_lst, if_t_non, if_t_bl, if_t_int, if_t_str, if_t_tup, if_t_lst, if_l_non, if_l_bl, if_l_int, if_l_str, if_l_tup, if_l_lst, if_lt2_non, if_lt2_bl, if_lt2_int, if_lt2_str, if_lt2_tup, if_lt2_lst, mRaise, mTryAs, tryOut, mXf, mIsE, mLenO, mGetO, mIxSet, mSwapIx, ixSt, mNeg, isFO, gIns, SO.foX, SO.foJ, one_self, is1_self, at1_self, noRefAt, List.all_cons, List.all_nil, Sl.noBox, D.flat, Bool.and_self, Bool.and_true, Bool.true_and, List.zip_cons_cons, List.zip_nil_right, mTru, List.contains_nil, mIE, mIZ, mBrk, mCnt, decide_true, decide_false, Bool.false_eq_true, Bool.not_eq_true, mLenO, mStrO, lk, r1, ct, n1, h1, b1, cl, n2, h2, h3, n3, Bool.not_true]
theorem c5_ok (T : Tx K mg) (sc k ws x5 x8 x12 : Sl) (ls : List (List P)) (l : List P) (hg : G8 l) (s : Option Bx) : w1_8_5 T (Ev T sc k ws x5 x8 x12 ls l) s = .nx (Ev T sc k ws x5 x8 x12 ls l) s := by
  have hl8 := hg.2
  have hgd : ∀ p ∈ l, Gd p := hg.1.1
  have h2 := str_sp T l hgd (by omega)
  have h3 := text_sp T l hgd (by omega)
  have n3 := ne_str (txt l) (txt l)
  rw [decide_eq_true rfl] at n3
  have et : tD l = .lst (l.map enc) := rfl
  have ee : eD T l = .ins T.c_Edition ["rows"] [.tup (l.map enc)] := rfl
  unfold edT at h2
  unfold w1_8_5 Ev
  rw [et, ee]
  generalize txt l = tx at *
  generalize l.map enc = es at *
  generalize ls.map tD = q1
  generalize ls.map (eD T) = q2
  simp only [mSeq, mSet, mRet, mRetN, mIf, mExp, mBad, mNext, mPar, W.sl, mFor, Out.bindS, MX.bind, Out.bind, mK, mVar, mFz, mFf, mOp, mTest, mNotT, mNotV, mAndT, mOrT, mAndV, mOrV, mIfE, mChain, mNil, mCons, mTup, mLst, mCB, mFld, mFldSet, mCallP, mCallB, mMethP, mMakeP, mMut, mSl, mPart, mNoPart, mIsi, mIL, mIT, mIR, mIEn, mIS, mBGet, mBSet, mNewBox, mComp, mYes, Out.bindN, bindA, env0, envA, envI, FO.outP, FO.outL, FO.out, SO.fo0, SO.foF, SO.foI, lensW, lensL, resO_some, Rs.w_v, Rs.w_f, W.rd_v, W.rd_t, W.rd_f, W.rd_l, W.kp_v, List.mapM_cons, List.mapM_nil, Option.bind_eq_bind, Option.bind_some, Option.pure_def, Option.map_some, List.replicate_succ, List.replicate_zero, List.cons_append, List.nil_append, List.getElem?_cons_zero, List.getElem?_cons_succ, List.set_cons_zero, List.set_cons_succ, rb, ri, fI, fC, fAdd, fSub, fMod, fMul, fDiv, fIx, fIsN, fNotN, D.isN, cl_lst, cl_tup, cInt, cTup, cList, gApp, gN, gT, gsC, gsN, Sl.isRef, if_true, if_false, if_pos, List.length_cons, List.length_nil, Bx.at, Bx.put, List.any_cons, List.any_nil, Bool.not_true, Bool.not_false, Nat.reduceAdd, Nat.reduceLeDiff, reduceIte, reduceCtorEq, and_self, and_true, true_and, if_s_non, if_s_bl, if_s_int, if_s_str, if_s_tup, if_s_lst, if_i_non, if_i_bl, if_i_int, if_i_str, if_i_tup, if_i_lst, if_b_non, if_b_bl, if_b_int, if_b_str, if_b_tup, if_b_lst, if_t_non, if_t_bl, if_t_int, if_t_str, if_t_tup, if_t_lst, if_l_non, if_l_bl, if_l_int, if_l_str, if_l_tup, if_l_lst, if_lt2_non, if_lt2_bl, if_lt2_int, if_lt2_str, if_lt2_tup, if_lt2_lst, mRaise, mTryAs, tryOut, mXf, mIsE, mLenO, mGetO, mIxSet, mSwapIx, ixSt, mNeg, isFO, gIns, SO.foX, SO.foJ, one_self, is1_self, at1_self, noRefAt, List.all_cons, List.all_nil, Sl.noBox, D.flat, Bool.and_self, Bool.and_true, Bool.true_and, List.zip_cons_cons, List.zip_nil_right, mTru, List.contains_nil, mIE, mIZ, mBrk, mCnt, decide_true, decide_false, Bool.false_eq_true, Bool.not_eq_true, mStrO, h2, h3, n3, Bool.not_true]
theorem each (T : Tx K mg) (sc k ws x5 x8 x12 : Sl) (ls : List (List P)) (l : List P) (hg : G8 l) (s : Option Bx) :
    (mComp (mIR (mLenO T.c_Edition (f_Edition___len__ T) (mVar 9))) [10] (gN 10) mYes (mGetO T.c_Edition (f_Edition___getitem__ T) (mVar 9) (mVar 10)) : MX (Option Bx) W) (Ev T sc k ws x5 x8 x12 ls l) s = .ok (.f (l.map enc)) (Ev T sc k ws x5 x8 x12 ls l) s := by
  have hl8 := hg.2
  have ee : eD T l = .ins T.c_Edition ["rows"] [.tup (l.map enc)] := rfl
  have i1 : (mIR (mLenO T.c_Edition (f_Edition___len__ T) (mVar 9)) : MX (Option Bx) (List D)) (Ev T sc k ws x5 x8 x12 ls l) s = .ok ((List.range l.length).map fun i => .int (i : Nat)) (Ev T sc k ws x5 x8 x12 ls l) s := by
    refine ir_nat ?_ (by omega)
    have h1 := len_sp T (l.map enc)
    have hL : ((l.map enc).length : Int) = (l.length : Int) := by rw [len_map]
    rw [hL] at h1
    have b1 : (0 : Int) ≤ (l.length : Int) ∧ (l.length : Int) < 9223372036854775808 := by omega
    unfold Ev edT at *
    rw [ee]
    generalize tD l = t
    generalize (l.length : Int) = L at *
    generalize l.map enc = es at *
    generalize ls.map tD = q1
    generalize ls.map (eD T) = q2
    simp only [mSeq, mSet, mRet, mRetN, mIf, mExp, mBad, mNext, mPar, W.sl, mFor, Out.bindS, MX.bind, Out.bind, mK, mVar, mFz, mFf, mOp, mTest, mNotT, mNotV, mAndT, mOrT, mAndV, mOrV, mIfE, mChain, mNil, mCons, mTup, mLst, mCB, mFld, mFldSet, mCallP, mCallB, mMethP, mMakeP, mMut, mSl, mPart, mNoPart, mIsi, mIL, mIT, mIR, mIEn, mIS, mBGet, mBSet, mNewBox, mComp, mYes, Out.bindN, bindA, env0, envA, envI, FO.outP, FO.outL, FO.out, SO.fo0, SO.foF, SO.foI, lensW, lensL, resO_some, Rs.w_v, Rs.w_f, W.rd_v, W.rd_t, W.rd_f, W.rd_l, W.kp_v, List.mapM_cons, List.mapM_nil, Option.bind_eq_bind, Option.bind_some, Option.pure_def, Option.map_some, List.replicate_succ, List.replicate_zero, List.cons_append, List.nil_append, List.getElem?_cons_zero, List.getElem?_cons_succ, List.set_cons_zero, List.set_cons_succ, rb, ri, fI, fC, fAdd, fSub, fMod, fMul, fDiv, fIx, fIsN, fNotN, D.isN, cl_lst, cl_tup, cInt, cTup, cList, gApp, gN, gT, gsC, gsN, Sl.isRef, if_true, if_false, if_pos, List.length_cons, List.length_nil, Bx.at, Bx.put, List.any_cons, List.any_nil, Bool.not_true, Bool.not_false, Nat.reduceAdd, Nat.reduceLeDiff, reduceIte, reduceCtorEq, and_self, and_true, true_and, if_s_non, if_s_bl, if_s_int, if_s_str, if_s_tup, if_s_lst, if_i_non, if_i_bl, if_i_int, if_i_str, if_i_tup, if_i_lst, if_b_non, if_b_bl, if_b_int, if_b_str, if_b_tup, if_b_lst, if_t_non, if_t_bl, if_t_int, if_t_str, if_t_tup, if_t_lst, if_l_non, if_l_bl, if_l_int, if_l_str, if_l_tup, if_l_lst, if_lt2_non, if_lt2_bl, if_lt2_int, if_lt2_str, if_lt2_tup, if_lt2_lst, mRaise, mTryAs, tryOut, mXf, mIsE, mLenO, mGetO, mIxSet, mSwapIx, ixSt, mNeg, isFO, gIns, SO.foX, SO.foJ, one_self, is1_self, at1_self, noRefAt, List.all_cons, List.all_nil, Sl.noBox, D.flat, Bool.and_self, Bool.and_true, Bool.true_and, List.zip_cons_cons, List.zip_nil_right, mTru, List.contains_nil, mIE, mIZ, mBrk, mCnt, decide_true, decide_false, Bool.false_eq_true, Bool.not_eq_true, mLenO, h1, b1]
  refine (comp_x i1 rfl).trans ?_
  have hm := comp_map (S := Option Bx) (vs := [10]) (g := gN 10) (mt := mYes) (me := mGetO T.c_Edition (f_Edition___getitem__ T) (mVar 9) (mVar 10)) (f := fun d => match f_Edition___getitem__ T [eD T l, d] () with
    | .ok r _ => r
    | _ => .non) (L := (List.range l.length).map fun i => D.int (i : Nat)) (Ev T sc k ws x5 x8 x12 ls l) s (fun d hd => by
      obtain ⟨i, hi, rfl⟩ := List.mem_map.mp hd
      have hi := List.mem_range.mp hi
      have hw := get_sp T l i hi
      refine ⟨[sc, k, .box, ws, .fz (ls.map tD), x5, .fz (ls.map (eD T)), .val (tD l), x8, .val (eD T l), .val (.int (i : Nat)), .no, x12], _, [sc, k, .box, ws, .fz (ls.map tD), x5, .fz (ls.map (eD T)), .val (tD l), x8, .val (eD T l), .val (.int (i : Nat)), .no, x12], .v (enc l[i]), rfl, rfl, ?_, ?_, rfl, rfl⟩
      · have hw : f_Edition___getitem__ T [.ins T.c_Edition ["rows"] [.tup (l.map enc)], .int (i : Int)] () = .ok (enc l[i]) () := hw
        rw [ee]
        generalize tD l = t
        generalize enc l[i] = en at *
        generalize (i : Int) = z at *
        generalize l.map enc = es at *
        generalize ls.map tD = q1
        generalize ls.map (eD T) = q2
        simp only [mSeq, mSet, mRet, mRetN, mIf, mExp, mBad, mNext, mPar, W.sl, mFor, Out.bindS, MX.bind, Out.bind, mK, mVar, mFz, mFf, mOp, mTest, mNotT, mNotV, mAndT, mOrT, mAndV, mOrV, mIfE, mChain, mNil, mCons, mTup, mLst, mCB, mFld, mFldSet, mCallP, mCallB, mMethP, mMakeP, mMut, mSl, mPart, mNoPart, mIsi, mIL, mIT, mIR, mIEn, mIS, mBGet, mBSet, mNewBox, mComp, mYes, Out.bindN, bindA, env0, envA, envI, FO.outP, FO.outL, FO.out, SO.fo0, SO.foF, SO.foI, lensW, lensL, resO_some, Rs.w_v, Rs.w_f, W.rd_v, W.rd_t, W.rd_f, W.rd_l, W.kp_v, List.mapM_cons, List.mapM_nil, Option.bind_eq_bind, Option.bind_some, Option.pure_def, Option.map_some, List.replicate_succ, List.replicate_zero, List.cons_append, List.nil_append, List.getElem?_cons_zero, List.getElem?_cons_succ, List.set_cons_zero, List.set_cons_succ, rb, ri, fI, fC, fAdd, fSub, fMod, fMul, fDiv, fIx, fIsN, fNotN, D.isN, cl_lst, cl_tup, cInt, cTup, cList, gApp, gN, gT, gsC, gsN, Sl.isRef, if_true, if_false, if_pos, List.length_cons, List.length_nil, Bx.at, Bx.put, List.any_cons, List.any_nil, Bool.not_true, Bool.not_false, Nat.reduceAdd, Nat.reduceLeDiff, reduceIte, reduceCtorEq, and_self, and_true, true_and, if_s_non, if_s_bl, if_s_int, if_s_str, if_s_tup, if_s_lst, if_i_non, if_i_bl, if_i_int, if_i_str, if_i_tup, if_i_lst, if_b_non, if_b_bl, if_b_int, if_b_str, if_b_tup, if_b_lst, if_t_non, if_t_bl, if_t_int, if_t_str, if_t_tup, if_t_lst, if_l_non, if_l_bl, if_l_int, if_l_str, if_l_tup, if_l_lst, if_lt2_non, if_lt2_bl, if_lt2_int, if_lt2_str, if_lt2_tup, if_lt2_lst, mRaise, mTryAs, tryOut, mXf, mIsE, mLenO, mGetO, mIxSet, mSwapIx, ixSt, mNeg, isFO, gIns, SO.foX, SO.foJ, one_self, is1_self, at1_self, noRefAt, List.all_cons, List.all_nil, Sl.noBox, D.flat, Bool.and_self, Bool.and_true, Bool.true_and, List.zip_cons_cons, List.zip_nil_right, mTru, List.contains_nil, mIE, mIZ, mBrk, mCnt, decide_true, decide_false, Bool.false_eq_true, Bool.not_eq_true, mGetO, hw]
      · show some (enc l[i]) = some (match f_Edition___getitem__ T [edT T (l.map enc), .int (i : Int)] () with | .ok r _ => r | _ => .non)
        rw [hw]) [] (by rw [List.length_map, List.length_range, List.length_nil]; omega)
  refine hm.trans ?_
  rw [List.nil_append, List.map_map]
  congr 2
  apply List.ext_getElem
  · simp
  · intro i h1 h2
    rw [List.getElem_map, List.getElem_map, List.getElem_range]
    rw [List.length_map] at h2
    show (match f_Edition___getitem__ T [edT T (l.map enc), .int (i : Int)] () with | .ok r _ => r | _ => .non) = enc l[i]
    rw [get_sp T l i h2]
theorem c2_ok (T : Tx K mg) (sc k ws x5 x8 x12 : Sl) (ls : List (List P)) (l : List P) (hg : G8 l) (s : Option Bx) : w1_8_2 T (Ev T sc k ws x5 x8 x12 ls l) s = .nx (Ev T sc k ws x5 x8 x12 ls l) s := by
  have hl8 := hg.2
  have hgd : ∀ p ∈ l, Gd p := hg.1.1
  have hc := each T sc k ws x5 x8 x12 ls l hg s
  have n1 := ne_self _ (ok_lst hgd)
  have h2 := str_sp T l hgd (by omega)
  have hi := in_no T (.ins T.c_Edition ["rows"] [.tup (l.map enc)]) (txt l) (l.map enc)
  have ct : cTup [.lst (l.map enc)] = some (.v (.tup (l.map enc))) := rfl
  have et : tD l = .lst (l.map enc) := rfl
  have ee : eD T l = .ins T.c_Edition ["rows"] [.tup (l.map enc)] := rfl
  have hh : 1 + 1 + 1 ≤ 16777216 := by decide
  unfold edT at h2
  unfold w1_8_2
  generalize (mComp (mIR (mLenO T.c_Edition (f_Edition___len__ T) (mVar 9))) [10] (gN 10) mYes (mGetO T.c_Edition (f_Edition___getitem__ T) (mVar 9) (mVar 10)) : MX (Option Bx) W) = cm at hc ⊢
  unfold Ev at *
  rw [et, ee] at *
  generalize txt l = tx at *
  generalize l.map enc = es at *
  generalize ls.map tD = q1 at *
  generalize ls.map (eD T) = q2 at *
  simp only [mSeq, mSet, mRet, mRetN, mIf, mExp, mBad, mNext, mPar, W.sl, mFor, Out.bindS, MX.bind, Out.bind, mK, mVar, mFz, mFf, mOp, mTest, mNotT, mNotV, mAndT, mOrT, mAndV, mOrV, mIfE, mChain, mNil, mCons, mTup, mLst, mCB, mFld, mFldSet, mCallP, mCallB, mMethP, mMakeP, mMut, mSl, mPart, mNoPart, mIsi, mIL, mIT, mIR, mIEn, mIS, mBGet, mBSet, mNewBox, mComp, mYes, Out.bindN, bindA, env0, envA, envI, FO.outP, FO.outL, FO.out, SO.fo0, SO.foF, SO.foI, lensW, lensL, resO_some, Rs.w_v, Rs.w_f, W.rd_v, W.rd_t, W.rd_f, W.rd_l, W.kp_v, List.mapM_cons, List.mapM_nil, Option.bind_eq_bind, Option.bind_some, Option.pure_def, Option.map_some, List.replicate_succ, List.replicate_zero, List.cons_append, List.nil_append, List.getElem?_cons_zero, List.getElem?_cons_succ, List.set_cons_zero, List.set_cons_succ, rb, ri, fI, fC, fAdd, fSub, fMod, fMul, fDiv, fIx, fIsN, fNotN, D.isN, cl_lst, cl_tup, cInt, cTup, cList, gApp, gN, gT, gsC, gsN, Sl.isRef, if_true, if_false, if_pos, List.length_cons, List.length_nil, Bx.at, Bx.put, List.any_cons, List.any_nil, Bool.not_true, Bool.not_false, Nat.reduceAdd, Nat.reduceLeDiff, reduceIte, reduceCtorEq, and_self, and_true, true_and, if_s_non, if_s_bl, if_s_int, if_s_str, if_s_tup, if_s_lst, if_i_non, if_i_bl, if_i_int, if_i_str, if_i_tup, if_i_lst, if_b_non, if_b_bl, if_b_int, if_b_str, if_b_tup, if_b_lst, if_t_non, if_t_bl, if_t_int, if_t_str, if_t_tup, if_t_lst, if_l_non, if_l_bl, if_l_int, if_l_str, if_l_tup, if_l_lst, if_lt2_non, if_lt2_bl, if_lt2_int, if_lt2_str, if_lt2_tup, if_lt2_lst, mRaise, mTryAs, tryOut, mXf, mIsE, mLenO, mGetO, mIxSet, mSwapIx, ixSt, mNeg, isFO, gIns, SO.foX, SO.foJ, one_self, is1_self, at1_self, noRefAt, List.all_cons, List.all_nil, Sl.noBox, D.flat, Bool.and_self, Bool.and_true, Bool.true_and, List.zip_cons_cons, List.zip_nil_right, mTru, List.contains_nil, mIE, mIZ, mBrk, mCnt, decide_true, decide_false, Bool.false_eq_true, Bool.not_eq_true, mInO, mStrO, hc, n1, h2, ct, hi, hh]
theorem cmpA (T : Tx K mg) (sc k ws x5 x8 x12 : Sl) (ls : List (List P)) (l : List P) (hg : G8 l) (hgs : ∀ q ∈ ls, G8 q) (hl : ls.length ≤ 50) (s : Option Bx) :
    (mComp (mIL (mFz 6)) [11] (gN 11) mYes (mEqO T.c_Edition (f_Edition___eq__ T) (mVar 9) (mVar 11)) : MX (Option Bx) W) (Ev T sc k ws x5 x8 x12 ls l) s = .ok (.f ((ls.map (eqR l)).map .bl)) (Ev T sc k ws x5 x8 x12 ls l) s := by
  have ee : eD T l = .ins T.c_Edition ["rows"] [.tup (l.map enc)] := rfl
  refine (comp_x (xs := ls.map (eD T)) (e1 := Ev T sc k ws x5 x8 x12 ls l) (s1 := s) rfl rfl).trans ?_
  have hm := comp_map (S := Option Bx) (vs := [11]) (g := gN 11) (mt := mYes) (me := mEqO T.c_Edition (f_Edition___eq__ T) (mVar 9) (mVar 11)) (f := fun d => match f_Edition___eq__ T [eD T l, d] () with
    | .ok r _ => r
    | _ => .non) (L := ls.map (eD T)) (Ev T sc k ws x5 x8 x12 ls l) s (fun d hd => by
      obtain ⟨q, hq, rfl⟩ := List.mem_map.mp hd
      have hw := eq_sp T hg.1.1 (hgs q hq).1.1
      have eq : eD T q = .ins T.c_Edition ["rows"] [.tup (q.map enc)] := rfl
      refine ⟨[sc, k, .box, ws, .fz (ls.map tD), x5, .fz (ls.map (eD T)), .val (tD l), x8, .val (eD T l), .no, .val (eD T q), x12], _, [sc, k, .box, ws, .fz (ls.map tD), x5, .fz (ls.map (eD T)), .val (tD l), x8, .val (eD T l), .no, .val (eD T q), x12], .v (.bl (eqR l q)), rfl, rfl, ?_, ?_, rfl, rfl⟩
      · unfold edT at hw
        rw [ee, eq]
        generalize tD l = t
        generalize eqR l q = b at *
        generalize l.map enc = es at *
        generalize q.map enc = es2 at *
        generalize ls.map tD = q1
        generalize ls.map (eD T) = q2
        simp only [mSeq, mSet, mRet, mRetN, mIf, mExp, mBad, mNext, mPar, W.sl, mFor, Out.bindS, MX.bind, Out.bind, mK, mVar, mFz, mFf, mOp, mTest, mNotT, mNotV, mAndT, mOrT, mAndV, mOrV, mIfE, mChain, mNil, mCons, mTup, mLst, mCB, mFld, mFldSet, mCallP, mCallB, mMethP, mMakeP, mMut, mSl, mPart, mNoPart, mIsi, mIL, mIT, mIR, mIEn, mIS, mBGet, mBSet, mNewBox, mComp, mYes, Out.bindN, bindA, env0, envA, envI, FO.outP, FO.outL, FO.out, SO.fo0, SO.foF, SO.foI, lensW, lensL, resO_some, Rs.w_v, Rs.w_f, W.rd_v, W.rd_t, W.rd_f, W.rd_l, W.kp_v, List.mapM_cons, List.mapM_nil, Option.bind_eq_bind, Option.bind_some, Option.pure_def, Option.map_some, List.replicate_succ, List.replicate_zero, List.cons_append, List.nil_append, List.getElem?_cons_zero, List.getElem?_cons_succ, List.set_cons_zero, List.set_cons_succ, rb, ri, fI, fC, fAdd, fSub, fMod, fMul, fDiv, fIx, fIsN, fNotN, D.isN, cl_lst, cl_tup, cInt, cTup, cList, gApp, gN, gT, gsC, gsN, Sl.isRef, if_true, if_false, if_pos, List.length_cons, List.length_nil, Bx.at, Bx.put, List.any_cons, List.any_nil, Bool.not_true, Bool.not_false, Nat.reduceAdd, Nat.reduceLeDiff, reduceIte, reduceCtorEq, and_self, and_true, true_and, if_s_non, if_s_bl, if_s_int, if_s_str, if_s_tup, if_s_lst, if_i_non, if_i_bl, if_i_int, if_i_str, if_i_tup, if_i_lst, if_b_non, if_b_bl, if_b_int, if_b_str, if_b_tup, if_b_lst, if_t_non, if_t_bl, if_t_int, if_t_str, if_t_tup, if_t_lst, if_l_non, if_l_bl, if_l_int, if_l_str, if_l_tup, if_l_lst, if_lt2_non, if_lt2_bl, if_lt2_int, if_lt2_str, if_lt2_tup, if_lt2_lst, mRaise, mTryAs, tryOut, mXf, mIsE, mLenO, mGetO, mIxSet, mSwapIx, ixSt, mNeg, isFO, gIns, SO.foX, SO.foJ, one_self, is1_self, at1_self, noRefAt, List.all_cons, List.all_nil, Sl.noBox, D.flat, Bool.and_self, Bool.and_true, Bool.true_and, List.zip_cons_cons, List.zip_nil_right, mTru, List.contains_nil, mIE, mIZ, mBrk, mCnt, decide_true, decide_false, Bool.false_eq_true, Bool.not_eq_true, mEqO, hw]
      · show some (D.bl (eqR l q)) = some (match f_Edition___eq__ T [edT T (l.map enc), edT T (q.map enc)] () with | .ok r _ => r | _ => .non)
        rw [hw]) [] (by rw [List.length_map, List.length_nil]; omega)
  refine hm.trans ?_
  rw [List.nil_append, List.map_map, List.map_map]
  congr 2
  refine List.map_congr_left fun q hq => ?_
  show (match f_Edition___eq__ T [edT T (l.map enc), edT T (q.map enc)] () with | .ok r _ => r | _ => .non) = D.bl (eqR l q)
  rw [eq_sp T hg.1.1 (hgs q hq).1.1]
theorem cmpB (T : Tx K mg) (sc k ws x5 x8 x12 : Sl) (ls : List (List P)) (l : List P) (hg : G8 l) (hgs : ∀ q ∈ ls, G8 q) (hl : ls.length ≤ 50) (s : Option Bx) :
    (mComp (mIL (mFz 4)) [11] (gN 11) mYes (mOp fEq (mVar 7) (mVar 11)) : MX (Option Bx) W) (Ev T sc k ws x5 x8 x12 ls l) s = .ok (.f ((ls.map (eqR l)).map .bl)) (Ev T sc k ws x5 x8 x12 ls l) s := by
  refine (comp_x (xs := ls.map tD) (e1 := Ev T sc k ws x5 x8 x12 ls l) (s1 := s) rfl rfl).trans ?_
  have hm := comp_map (S := Option Bx) (vs := [11]) (g := gN 11) (mt := mYes) (me := mOp fEq (mVar 7) (mVar 11)) (f := fun d => match fEq (tD l) d with
    | some (.v r) => r
    | _ => .non) (L := ls.map tD) (Ev T sc k ws x5 x8 x12 ls l) s (fun d hd => by
      obtain ⟨q, hq, rfl⟩ := List.mem_map.mp hd
      have hw : fEq (tD l) (tD q) = some (.v (.bl (eqR l q))) := feq_lst hg.1.1 (hgs q hq).1.1
      refine ⟨[sc, k, .box, ws, .fz (ls.map tD), x5, .fz (ls.map (eD T)), .val (tD l), x8, .val (eD T l), .no, .val (tD q), x12], _, [sc, k, .box, ws, .fz (ls.map tD), x5, .fz (ls.map (eD T)), .val (tD l), x8, .val (eD T l), .no, .val (tD q), x12], .v (.bl (eqR l q)), rfl, rfl, ?_, ?_, rfl, rfl⟩
      · generalize tD l = t at *
        generalize tD q = t2 at *
        generalize eD T l = u
        generalize ls.map tD = q1
        generalize ls.map (eD T) = q2
        simp only [mSeq, mSet, mRet, mRetN, mIf, mExp, mBad, mNext, mPar, W.sl, mFor, Out.bindS, MX.bind, Out.bind, mK, mVar, mFz, mFf, mOp, mTest, mNotT, mNotV, mAndT, mOrT, mAndV, mOrV, mIfE, mChain, mNil, mCons, mTup, mLst, mCB, mFld, mFldSet, mCallP, mCallB, mMethP, mMakeP, mMut, mSl, mPart, mNoPart, mIsi, mIL, mIT, mIR, mIEn, mIS, mBGet, mBSet, mNewBox, mComp, mYes, Out.bindN, bindA, env0, envA, envI, FO.outP, FO.outL, FO.out, SO.fo0, SO.foF, SO.foI, lensW, lensL, resO_some, Rs.w_v, Rs.w_f, W.rd_v, W.rd_t, W.rd_f, W.rd_l, W.kp_v, List.mapM_cons, List.mapM_nil, Option.bind_eq_bind, Option.bind_some, Option.pure_def, Option.map_some, List.replicate_succ, List.replicate_zero, List.cons_append, List.nil_append, List.getElem?_cons_zero, List.getElem?_cons_succ, List.set_cons_zero, List.set_cons_succ, rb, ri, fI, fC, fAdd, fSub, fMod, fMul, fDiv, fIx, fIsN, fNotN, D.isN, cl_lst, cl_tup, cInt, cTup, cList, gApp, gN, gT, gsC, gsN, Sl.isRef, if_true, if_false, if_pos, List.length_cons, List.length_nil, Bx.at, Bx.put, List.any_cons, List.any_nil, Bool.not_true, Bool.not_false, Nat.reduceAdd, Nat.reduceLeDiff, reduceIte, reduceCtorEq, and_self, and_true, true_and, if_s_non, if_s_bl, if_s_int, if_s_str, if_s_tup, if_s_lst, if_i_non, if_i_bl, if_i_int, if_i_str, if_i_tup, if_i_lst, if_b_non, if_b_bl, if_b_int, if_b_str, if_b_tup, if_b_lst, if_t_non, if_t_bl, if_t_int, if_t_str, if_t_tup, if_t_lst, if_l_non, if_l_bl, if_l_int, if_l_str, if_l_tup, if_l_lst, if_lt2_non, if_lt2_bl, if_lt2_int, if_lt2_str, if_lt2_tup, if_lt2_lst, mRaise, mTryAs, tryOut, mXf, mIsE, mLenO, mGetO, mIxSet, mSwapIx, ixSt, mNeg, isFO, gIns, SO.foX, SO.foJ, one_self, is1_self, at1_self, noRefAt, List.all_cons, List.all_nil, Sl.noBox, D.flat, Bool.and_self, Bool.and_true, Bool.true_and, List.zip_cons_cons, List.zip_nil_right, mTru, List.contains_nil, mIE, mIZ, mBrk, mCnt, decide_true, decide_false, Bool.false_eq_true, Bool.not_eq_true, hw]
      · show some (D.bl (eqR l q)) = some (match fEq (tD l) (tD q) with | some (.v r) => r | _ => .non)
        rw [hw]) [] (by rw [List.length_map, List.length_nil]; omega)
  refine hm.trans ?_
  rw [List.nil_append, List.map_map, List.map_map]
  congr 2
  refine List.map_congr_left fun q hq => ?_
  show (match fEq (tD l) (tD q) with | some (.v r) => r | _ => .non) = D.bl (eqR l q)
  rw [show fEq (tD l) (tD q) = some (.v (.bl (eqR l q))) from feq_lst hg.1.1 (hgs q hq).1.1]
theorem cmpC (T : Tx K mg) (sc k ws x5 x8 x12 : Sl) (ls : List (List P)) (l : List P) (hg : G8 l) (hgs : ∀ q ∈ ls, G8 q) (hl : ls.length ≤ 50) (s : Option Bx) :
    (mComp (mIL (mFz 6)) [11] (gN 11) mYes (mNeO T.c_Edition (f_Edition___eq__ T) (mVar 9) (mVar 11)) : MX (Option Bx) W) (Ev T sc k ws x5 x8 x12 ls l) s = .ok (.f ((ls.map fun q => !eqR l q).map .bl)) (Ev T sc k ws x5 x8 x12 ls l) s := by
  have ee : eD T l = .ins T.c_Edition ["rows"] [.tup (l.map enc)] := rfl
  refine (comp_x (xs := ls.map (eD T)) (e1 := Ev T sc k ws x5 x8 x12 ls l) (s1 := s) rfl rfl).trans ?_
  have hm := comp_map (S := Option Bx) (vs := [11]) (g := gN 11) (mt := mYes) (me := mNeO T.c_Edition (f_Edition___eq__ T) (mVar 9) (mVar 11)) (f := fun d => match f_Edition___eq__ T [eD T l, d] () with
    | .ok (.bl b) _ => .bl (!b)
    | _ => .non) (L := ls.map (eD T)) (Ev T sc k ws x5 x8 x12 ls l) s (fun d hd => by
      obtain ⟨q, hq, rfl⟩ := List.mem_map.mp hd
      have hw := eq_sp T hg.1.1 (hgs q hq).1.1
      have eq : eD T q = .ins T.c_Edition ["rows"] [.tup (q.map enc)] := rfl
      refine ⟨[sc, k, .box, ws, .fz (ls.map tD), x5, .fz (ls.map (eD T)), .val (tD l), x8, .val (eD T l), .no, .val (eD T q), x12], _, [sc, k, .box, ws, .fz (ls.map tD), x5, .fz (ls.map (eD T)), .val (tD l), x8, .val (eD T l), .no, .val (eD T q), x12], .v (.bl (!eqR l q)), rfl, rfl, ?_, ?_, rfl, rfl⟩
      · unfold edT at hw
        rw [ee, eq]
        generalize tD l = t
        generalize eqR l q = b at *
        generalize l.map enc = es at *
        generalize q.map enc = es2 at *
        generalize ls.map tD = q1
        generalize ls.map (eD T) = q2
        simp only [mSeq, mSet, mRet, mRetN, mIf, mExp, mBad, mNext, mPar, W.sl, mFor, Out.bindS, MX.bind, Out.bind, mK, mVar, mFz, mFf, mOp, mTest, mNotT, mNotV, mAndT, mOrT, mAndV, mOrV, mIfE, mChain, mNil, mCons, mTup, mLst, mCB, mFld, mFldSet, mCallP, mCallB, mMethP, mMakeP, mMut, mSl, mPart, mNoPart, mIsi, mIL, mIT, mIR, mIEn, mIS, mBGet, mBSet, mNewBox, mComp, mYes, Out.bindN, bindA, env0, envA, envI, FO.outP, FO.outL, FO.out, SO.fo0, SO.foF, SO.foI, lensW, lensL, resO_some, Rs.w_v, Rs.w_f, W.rd_v, W.rd_t, W.rd_f, W.rd_l, W.kp_v, List.mapM_cons, List.mapM_nil, Option.bind_eq_bind, Option.bind_some, Option.pure_def, Option.map_some, List.replicate_succ, List.replicate_zero, List.cons_append, List.nil_append, List.getElem?_cons_zero, List.getElem?_cons_succ, List.set_cons_zero, List.set_cons_succ, rb, ri, fI, fC, fAdd, fSub, fMod, fMul, fDiv, fIx, fIsN, fNotN, D.isN, cl_lst, cl_tup, cInt, cTup, cList, gApp, gN, gT, gsC, gsN, Sl.isRef, if_true, if_false, if_pos, List.length_cons, List.length_nil, Bx.at, Bx.put, List.any_cons, List.any_nil, Bool.not_true, Bool.not_false, Nat.reduceAdd, Nat.reduceLeDiff, reduceIte, reduceCtorEq, and_self, and_true, true_and, if_s_non, if_s_bl, if_s_int, if_s_str, if_s_tup, if_s_lst, if_i_non, if_i_bl, if_i_int, if_i_str, if_i_tup, if_i_lst, if_b_non, if_b_bl, if_b_int, if_b_str, if_b_tup, if_b_lst, if_t_non, if_t_bl, if_t_int, if_t_str, if_t_tup, if_t_lst, if_l_non, if_l_bl, if_l_int, if_l_str, if_l_tup, if_l_lst, if_lt2_non, if_lt2_bl, if_lt2_int, if_lt2_str, if_lt2_tup, if_lt2_lst, mRaise, mTryAs, tryOut, mXf, mIsE, mLenO, mGetO, mIxSet, mSwapIx, ixSt, mNeg, isFO, gIns, SO.foX, SO.foJ, one_self, is1_self, at1_self, noRefAt, List.all_cons, List.all_nil, Sl.noBox, D.flat, Bool.and_self, Bool.and_true, Bool.true_and, List.zip_cons_cons, List.zip_nil_right, mTru, List.contains_nil, mIE, mIZ, mBrk, mCnt, decide_true, decide_false, Bool.false_eq_true, Bool.not_eq_true, mNeO, hw]
      · show some (D.bl (!eqR l q)) = some (match f_Edition___eq__ T [edT T (l.map enc), edT T (q.map enc)] () with | .ok (.bl b) _ => .bl (!b) | _ => .non)
        rw [hw]) [] (by rw [List.length_map, List.length_nil]; omega)
  refine hm.trans ?_
  rw [List.nil_append, List.map_map, List.map_map]
  congr 2
  refine List.map_congr_left fun q hq => ?_
  show (match f_Edition___eq__ T [edT T (l.map enc), edT T (q.map enc)] () with | .ok (.bl b) _ => .bl (!b) | _ => .non) = D.bl (!eqR l q)
  rw [eq_sp T hg.1.1 (hgs q hq).1.1]
theorem cmpD (T : Tx K mg) (sc k ws x5 x8 x12 : Sl) (ls : List (List P)) (l : List P) (hg : G8 l) (hgs : ∀ q ∈ ls, G8 q) (hl : ls.length ≤ 50) (s : Option Bx) :
    (mComp (mIL (mFz 4)) [11] (gN 11) mYes (mOp fNe (mVar 7) (mVar 11)) : MX (Option Bx) W) (Ev T sc k ws x5 x8 x12 ls l) s = .ok (.f ((ls.map fun q => !eqR l q).map .bl)) (Ev T sc k ws x5 x8 x12 ls l) s := by
  refine (comp_x (xs := ls.map tD) (e1 := Ev T sc k ws x5 x8 x12 ls l) (s1 := s) rfl rfl).trans ?_
  have hm := comp_map (S := Option Bx) (vs := [11]) (g := gN 11) (mt := mYes) (me := mOp fNe (mVar 7) (mVar 11)) (f := fun d => match fNe (tD l) d with
    | some (.v r) => r
    | _ => .non) (L := ls.map tD) (Ev T sc k ws x5 x8 x12 ls l) s (fun d hd => by
      obtain ⟨q, hq, rfl⟩ := List.mem_map.mp hd
      have hw : fNe (tD l) (tD q) = some (.v (.bl (!eqR l q))) := fne_lst hg.1.1 (hgs q hq).1.1
      refine ⟨[sc, k, .box, ws, .fz (ls.map tD), x5, .fz (ls.map (eD T)), .val (tD l), x8, .val (eD T l), .no, .val (tD q), x12], _, [sc, k, .box, ws, .fz (ls.map tD), x5, .fz (ls.map (eD T)), .val (tD l), x8, .val (eD T l), .no, .val (tD q), x12], .v (.bl (!eqR l q)), rfl, rfl, ?_, ?_, rfl, rfl⟩
      · generalize tD l = t at *
        generalize tD q = t2 at *
        generalize eD T l = u
        generalize ls.map tD = q1
        generalize ls.map (eD T) = q2
        simp only [mSeq, mSet, mRet, mRetN, mIf, mExp, mBad, mNext, mPar, W.sl, mFor, Out.bindS, MX.bind, Out.bind, mK, mVar, mFz, mFf, mOp, mTest, mNotT, mNotV, mAndT, mOrT, mAndV, mOrV, mIfE, mChain, mNil, mCons, mTup, mLst, mCB, mFld, mFldSet, mCallP, mCallB, mMethP, mMakeP, mMut, mSl, mPart, mNoPart, mIsi, mIL, mIT, mIR, mIEn, mIS, mBGet, mBSet, mNewBox, mComp, mYes, Out.bindN, bindA, env0, envA, envI, FO.outP, FO.outL, FO.out, SO.fo0, SO.foF, SO.foI, lensW, lensL, resO_some, Rs.w_v, Rs.w_f, W.rd_v, W.rd_t, W.rd_f, W.rd_l, W.kp_v, List.mapM_cons, List.mapM_nil, Option.bind_eq_bind, Option.bind_some, Option.pure_def, Option.map_some, List.replicate_succ, List.replicate_zero, List.cons_append, List.nil_append, List.getElem?_cons_zero, List.getElem?_cons_succ, List.set_cons_zero, List.set_cons_succ, rb, ri, fI, fC, fAdd, fSub, fMod, fMul, fDiv, fIx, fIsN, fNotN, D.isN, cl_lst, cl_tup, cInt, cTup, cList, gApp, gN, gT, gsC, gsN, Sl.isRef, if_true, if_false, if_pos, List.length_cons, List.length_nil, Bx.at, Bx.put, List.any_cons, List.any_nil, Bool.not_true, Bool.not_false, Nat.reduceAdd, Nat.reduceLeDiff, reduceIte, reduceCtorEq, and_self, and_true, true_and, if_s_non, if_s_bl, if_s_int, if_s_str, if_s_tup, if_s_lst, if_i_non, if_i_bl, if_i_int, if_i_str, if_i_tup, if_i_lst, if_b_non, if_b_bl, if_b_int, if_b_str, if_b_tup, if_b_lst, if_t_non, if_t_bl, if_t_int, if_t_str, if_t_tup, if_t_lst, if_l_non, if_l_bl, if_l_int, if_l_str, if_l_tup, if_l_lst, if_lt2_non, if_lt2_bl, if_lt2_int, if_lt2_str, if_lt2_tup, if_lt2_lst, mRaise, mTryAs, tryOut, mXf, mIsE, mLenO, mGetO, mIxSet, mSwapIx, ixSt, mNeg, isFO, gIns, SO.foX, SO.foJ, one_self, is1_self, at1_self, noRefAt, List.all_cons, List.all_nil, Sl.noBox, D.flat, Bool.and_self, Bool.and_true, Bool.true_and, List.zip_cons_cons, List.zip_nil_right, mTru, List.contains_nil, mIE, mIZ, mBrk, mCnt, decide_true, decide_false, Bool.false_eq_true, Bool.not_eq_true, hw]
      · show some (D.bl (!eqR l q)) = some (match fNe (tD l) (tD q) with | some (.v r) => r | _ => .non)
        rw [hw]) [] (by rw [List.length_map, List.length_nil]; omega)
  refine hm.trans ?_
  rw [List.nil_append, List.map_map, List.map_map]
  congr 2
  refine List.map_congr_left fun q hq => ?_
  show (match fNe (tD l) (tD q) with | some (.v r) => r | _ => .non) = D.bl (!eqR l q)
  rw [show fNe (tD l) (tD q) = some (.v (.bl (!eqR l q))) from fne_lst hg.1.1 (hgs q hq).1.1]
theorem c3_ok (T : Tx K mg) (sc k ws x5 x8 x12 : Sl) (ls : List (List P)) (l : List P) (hg : G8 l) (hgs : ∀ q ∈ ls, G8 q) (hl : ls.length ≤ 50) (s : Option Bx) : w1_8_3 T (Ev T sc k ws x5 x8 x12 ls l) s = .nx (Ev T sc k ws x5 x8 x12 ls l) s := by
  have ha := cmpA T sc k ws x5 x8 x12 ls l hg hgs hl s
  have hb := cmpB T sc k ws x5 x8 x12 ls l hg hgs hl s
  have n1 := ne_self _ (ok_bls (ls.map (eqR l)))
  unfold w1_8_3
  refine if_no (test_w (op_w ha hb rfl rfl n1))
theorem c4_ok (T : Tx K mg) (sc k ws x5 x8 x12 : Sl) (ls : List (List P)) (l : List P) (hg : G8 l) (hgs : ∀ q ∈ ls, G8 q) (hl : ls.length ≤ 50) (s : Option Bx) : w1_8_4 T (Ev T sc k ws x5 x8 x12 ls l) s = .nx (Ev T sc k ws x5 x8 x12 ls l) s := by
  have ha := cmpC T sc k ws x5 x8 x12 ls l hg hgs hl s
  have hb := cmpD T sc k ws x5 x8 x12 ls l hg hgs hl s
  have n1 := ne_self _ (ok_bls (ls.map fun q => !eqR l q))
  unfold w1_8_4
  refine if_no (test_w (op_w ha hb rfl rfl n1))
theorem c_ok (T : Tx K mg) (sc k ws x5 x8 x12 : Sl) (ls : List (List P)) (l : List P) (hg : G8 l) (hgs : ∀ q ∈ ls, G8 q) (hl : ls.length ≤ 50) (s : Option Bx) : w1_8b T (Ev T sc k ws x5 x8 x12 ls l) s = .nx (Ev T sc k ws x5 x8 x12 ls l) s := by
  rw [w1_8b_eq, seq_nx (c1_ok T sc k ws x5 x8 x12 ls l hg s), seq_nx (c2_ok T sc k ws x5 x8 x12 ls l hg s), seq_nx (c3_ok T sc k ws x5 x8 x12 ls l hg hgs hl s), seq_nx (c4_ok T sc k ws x5 x8 x12 ls l hg hgs hl s)]
  exact c5_ok T sc k ws x5 x8 x12 ls l hg s
end
end ledmarks_k13_editions_made

namespace ledmarks_k13_editions_made
open PySem L2 LM
section
variable {K : PySem.W.Frag} {mg : Str → Option Value}
theorem w17_ok (T : Tx K mg) (sc k ws x5 x7 x8 x9 : Sl) (h7 : Vl x7) (h8 : x8.noBox = true) (ls : List (List P)) (hg : ∀ l ∈ ls, G8 l) (hl : ls.length ≤ 50) (s : Bx) :
    ∃ y7 y8 s', w1_7 T [sc, k, .box, ws, .own (ls.map tD), x5, .own [], x7, x8, x9, .no, .no, .no] (some s) = .nx [sc, k, .box, ws, .fz (ls.map tD), x5, .own (ls.map (eD T)), y7, y8, x9, .no, .no, .no] (some s') ∧ Vl y7 ∧ y8.noBox = true := by
  have e1 : w1_7i T [sc, k, .box, ws, .own (ls.map tD), x5, .own [], x7, x8, x9, .no, .no, .no] (some s) = .ok (ls.map tD) [sc, k, .box, ws, .fz (ls.map tD), x5, .own [], x7, x8, x9, .no, .no, .no] (some s) := rfl
  obtain ⟨y7, y8, s', h, v7, v8⟩ := made_loop T sc k ws (.fz (ls.map tD)) x5 x9 ls [] x7 x8 s hg (by simpa using hl) h7 h8
  exact ⟨y7, y8, s', (for_x e1).trans h, v7, v8⟩
theorem w18_ok (T : Tx K mg) (sc k ws x5 x7 x8 x9 : Sl) (h7 : Vl x7) (h9 : Vl x9) (ls : List (List P)) (hg : ∀ l ∈ ls, G8 l) (hl : ls.length ≤ 50) (s : Option Bx) :
    ∃ y7 y9, w1_8 T [sc, k, .box, ws, .fz (ls.map tD), x5, .own (ls.map (eD T)), x7, x8, x9, .no, .no, .no] s = .nx [sc, k, .box, ws, .fz (ls.map tD), x5, .fz (ls.map (eD T)), y7, x8, y9, .no, .no, .no] s ∧ Vl y7 ∧ Vl y9 := by
  have e1 : w1_8i T [sc, k, .box, ws, .fz (ls.map tD), x5, .own (ls.map (eD T)), x7, x8, x9, .no, .no, .no] s = .ok (zipD (ls.map (eD T)) (ls.map tD)) [sc, k, .box, ws, .fz (ls.map tD), x5, .fz (ls.map (eD T)), x7, x8, x9, .no, .no, .no] s := rfl
  obtain ⟨e2, s2, h2, y7, y9, rfl, rfl, v7, v9⟩ := forL_inv (S := Option Bx) (g := gT 2 (gsC (gN 9) (gsC (gN 7) gsN))) (body := w1_8b T) (L := zipD (ls.map (eD T)) (ls.map tD))
    (fun env s' => ∃ y7 y9, env = [sc, k, .box, ws, .fz (ls.map tD), x5, .fz (ls.map (eD T)), y7, x8, y9, .no, .no, .no] ∧ s' = s ∧ Vl y7 ∧ Vl y9) (by
      rintro d hd env s' ⟨y7, y9, rfl, rfl, v7, v9⟩
      obtain ⟨i, hi⟩ := List.mem_iff_getElem?.mp hd
      obtain ⟨a, b, ha, hb, rfl⟩ := zipD_get hi
      rw [List.getElem?_map] at ha hb
      obtain ⟨l, hl1, rfl⟩ := Option.map_eq_some_iff.mp ha
      rw [hl1] at hb
      obtain rfl : tD l = b := by simpa using hb
      have hm : l ∈ ls := List.mem_of_getElem? hl1
      refine ⟨Ev T sc k ws x5 x8 .no ls l, Ev T sc k ws x5 x8 .no ls l, s', ?_, c_ok T sc k ws x5 x8 .no ls l (hg l hm) hg hl s', .val (tD l), .val (eD T l), rfl, rfl, vl_v _, vl_v _⟩
      have g9 : gN 9 (eD T l) [sc, k, .box, ws, .fz (ls.map tD), x5, .fz (ls.map (eD T)), y7, x8, y9, .no, .no, .no] = some [sc, k, .box, ws, .fz (ls.map tD), x5, .fz (ls.map (eD T)), y7, x8, .val (eD T l), .no, .no, .no] := gN_ok rfl v9.1 _
      have g7 : gN 7 (tD l) [sc, k, .box, ws, .fz (ls.map tD), x5, .fz (ls.map (eD T)), y7, x8, .val (eD T l), .no, .no, .no] = some [sc, k, .box, ws, .fz (ls.map tD), x5, .fz (ls.map (eD T)), .val (tD l), x8, .val (eD T l), .no, .no, .no] := gN_ok rfl v7.1 _
      simp only [gT, gsC, gsN, List.length_cons, List.length_nil, g9, g7, Option.bind_some, if_true]) [sc, k, .box, ws, .fz (ls.map tD), x5, .fz (ls.map (eD T)), x7, x8, x9, .no, .no, .no] s ⟨x7, x9, rfl, rfl, h7, h9⟩
  exact ⟨y7, y9, (for_x e1).trans h2, v7, v9⟩
theorem w1b_ok (T : Tx K mg) (ns : List Int) (n : Nat) (s : Option Bx) (x2 x3 x4 x5 x6 x7 x8 x9 : Sl) (h3 : x3.noBox = true) (h4 : x4.noBox = true) (h5 : Vl x5) (h6 : x6.noBox = true) (h7 : Vl x7) (h8 : x8.noBox = true) (h9 : Vl x9) :
    ∃ y3 y4 y5 y6 y7 y8 y9 s', w1b T [.val (.lst (ns.map .int)), .val (.int (n : Int)), x2, x3, x4, x5, x6, x7, x8, x9, .no, .no, .no] s = .nx [.val (.lst (ns.map .int)), .val (.int (n : Int)), .box, y3, y4, y5, y6, y7, y8, y9, .no, .no, .no] s' ∧ y3.noBox = true ∧ y4.noBox = true ∧ Vl y5 ∧ y6.noBox = true ∧ Vl y7 ∧ y8.noBox = true ∧ Vl y9 := by
  rw [w1b_eq]
  obtain ⟨s1, e1⟩ := w11_ok T ns n s x2 x3 x4 x5 x6 x7 x8 x9 h3 h4 h5.2 h6 h7.2 h8 h9.2
  generalize D.lst (ns.map D.int) = sc at *
  generalize (n : Int) = z at *
  obtain ⟨ws, s2, e2, w0, w1, wm⟩ := w12_ok T (.val sc) (.val (.int z)) x3 x4 x5 x6 x7 x8 x9 s1
  obtain ⟨l, s3, e3, g3⟩ := w13_ok T (.val sc) (.val (.int z)) x4 x5 x6 x7 x8 x9 ws w0 w1 wm s2
  obtain ⟨ls, y5, s4, e4, v5, hne, hgs, hl⟩ := w14_ok T (.val sc) (.val (.int z)) x5 x6 x7 x8 x9 h5 ws w0 w1 wm l g3 s3
  obtain ⟨l', e5, g5⟩ := w15_ok T (.val sc) (.val (.int z)) (.val (.lst ws)) y5 x6 x7 x8 x9 ls hne hgs (by omega) (some s4)
  have hg' : ∀ q ∈ ls ++ [l'], G8 q := fun q hq => by
    rcases List.mem_append.mp hq with hq | hq
    · exact hgs q hq
    · rw [List.mem_singleton.mp hq]; exact g5
  have hl' : (ls ++ [l']).length ≤ 50 := by rw [List.length_append, List.length_singleton]; omega
  generalize ls ++ [l'] = L at *
  have e6 : w1_6 T [.val sc, .val (.int z), .box, .val (.lst ws), .own (L.map tD), y5, x6, x7, x8, x9, .no, .no, .no] (some s4) = .nx [.val sc, .val (.int z), .box, .val (.lst ws), .own (L.map tD), y5, .own [], x7, x8, x9, .no, .no, .no] (some s4) := set_f rfl
  obtain ⟨y7, y8, s7, e7, v7, v8⟩ := w17_ok T (.val sc) (.val (.int z)) (.val (.lst ws)) y5 x7 x8 x9 h7 h8 L hg' hl' s4
  obtain ⟨z7, y9, e8, u7, v9⟩ := w18_ok T (.val sc) (.val (.int z)) (.val (.lst ws)) y5 y7 y8 x9 v7 h9 L hg' hl' (some s7)
  rw [seq_nx e1, seq_nx e2, seq_nx e3, seq_nx e4, seq_nx e5, seq_nx e6, seq_nx e7]
  exact ⟨_, _, _, _, _, _, _, _, e8, rfl, rfl, v5, rfl, u7, v8, v9⟩
theorem good_nil : Good [] := ⟨fun _ h => (nomatch h), List.nodup_nil⟩
theorem end_ok (T : Tx K mg) (x0 x1 x2 x3 x4 x5 x6 x7 x8 x9 : Sl) (s : Option Bx) : ∃ env, (mSeq (w2 T) (w3 T)) [x0, x1, x2, x3, x4, x5, x6, x7, x8, x9, .no, .no, .no] s = .rt (.bl true) env s := by
  have m1 := made T (.lst []) good_nil (by decide) (.inl rfl)
  have m2 := made T (.tup []) good_nil (by decide) (.inr rfl)
  have m1 : f_Edition_init T [.lst []] = .ok (["rows"], [.tup []]) () := m1
  have m2 : f_Edition_init T [.tup []] = .ok (["rows"], [.tup []]) () := m2
  have e1 : w2 T [x0, x1, x2, x3, x4, x5, x6, x7, x8, x9, .no, .no, .no] s = .nx [x0, x1, x2, x3, x4, x5, x6, x7, x8, x9, .no, .no, .val (edT T [])] s := by
    have hh : 0 ≤ 16777216 := by decide
    unfold w2 edT
    simp only [mSeq, mSet, mRet, mRetN, mIf, mExp, mBad, mNext, mPar, W.sl, mFor, Out.bindS, MX.bind, Out.bind, mK, mVar, mFz, mFf, mOp, mTest, mNotT, mNotV, mAndT, mOrT, mAndV, mOrV, mIfE, mChain, mNil, mCons, mTup, mLst, mCB, mFld, mFldSet, mCallP, mCallB, mMethP, mMakeP, mMut, mSl, mPart, mNoPart, mIsi, mIL, mIT, mIR, mIEn, mIS, mBGet, mBSet, mNewBox, mComp, mYes, Out.bindN, bindA, env0, envA, envI, FO.outP, FO.outL, FO.out, SO.fo0, SO.foF, SO.foI, lensW, lensL, resO_some, Rs.w_v, Rs.w_f, W.rd_v, W.rd_t, W.rd_f, W.rd_l, W.kp_v, List.mapM_cons, List.mapM_nil, Option.bind_eq_bind, Option.bind_some, Option.pure_def, Option.map_some, List.replicate_succ, List.replicate_zero, List.cons_append, List.nil_append, List.getElem?_cons_zero, List.getElem?_cons_succ, List.set_cons_zero, List.set_cons_succ, rb, ri, fI, fC, fAdd, fSub, fMod, fMul, fDiv, fIx, fIsN, fNotN, D.isN, cl_lst, cl_tup, cInt, cTup, cList, gApp, gN, gT, gsC, gsN, Sl.isRef, if_true, if_false, if_pos, List.length_cons, List.length_nil, Bx.at, Bx.put, List.any_cons, List.any_nil, Bool.not_true, Bool.not_false, Nat.reduceAdd, Nat.reduceLeDiff, reduceIte, reduceCtorEq, and_self, and_true, true_and, if_s_non, if_s_bl, if_s_int, if_s_str, if_s_tup, if_s_lst, if_i_non, if_i_bl, if_i_int, if_i_str, if_i_tup, if_i_lst, if_b_non, if_b_bl, if_b_int, if_b_str, if_b_tup, if_b_lst, if_t_non, if_t_bl, if_t_int, if_t_str, if_t_tup, if_t_lst, if_l_non, if_l_bl, if_l_int, if_l_str, if_l_tup, if_l_lst, if_lt2_non, if_lt2_bl, if_lt2_int, if_lt2_str, if_lt2_tup, if_lt2_lst, mRaise, mTryAs, tryOut, mXf, mIsE, mLenO, mGetO, mIxSet, mSwapIx, ixSt, mNeg, isFO, gIns, SO.foX, SO.foJ, one_self, is1_self, at1_self, noRefAt, List.all_cons, List.all_nil, Sl.noBox, D.flat, Bool.and_self, Bool.and_true, Bool.true_and, List.zip_cons_cons, List.zip_nil_right, mTru, List.contains_nil, mIE, mIZ, mBrk, mCnt, decide_true, decide_false, Bool.false_eq_true, Bool.not_eq_true, m1, hh]
  have h1 : f_Edition___str__ T [edT T []] () = .ok (.str "-") () := by
    have q := str_sp T [] (fun _ h => nomatch h) (by decide)
    rw [txt_nil] at q
    exact q
  have h2 := eq_sp T (a := []) (b := []) (fun _ h => nomatch h) (fun _ h => nomatch h)
  have h2 : f_Edition___eq__ T [edT T [], edT T []] () = .ok (.bl true) () := h2
  have h3 : f_Edition___len__ T [edT T []] () = .ok (.int 0) () := len_sp T []
  have z1 := eq_str "-" "-"
  have z2 := eq_int 0 0
  have hh : 0 ≤ 16777216 := by decide
  have b1 : (0 : Int) ≤ 0 ∧ (0 : Int) < 9223372036854775808 := by decide
  refine ⟨[x0, x1, x2, x3, x4, x5, x6, x7, x8, x9, .no, .no, .val (edT T [])], ?_⟩
  rw [seq_nx e1]
  unfold edT at h1 h2 h3 ⊢
  unfold w3
  simp only [mSeq, mSet, mRet, mRetN, mIf, mExp, mBad, mNext, mPar, W.sl, mFor, Out.bindS, MX.bind, Out.bind, mK, mVar, mFz, mFf, mOp, mTest, mNotT, mNotV, mAndT, mOrT, mAndV, mOrV, mIfE, mChain, mNil, mCons, mTup, mLst, mCB, mFld, mFldSet, mCallP, mCallB, mMethP, mMakeP, mMut, mSl, mPart, mNoPart, mIsi, mIL, mIT, mIR, mIEn, mIS, mBGet, mBSet, mNewBox, mComp, mYes, Out.bindN, bindA, env0, envA, envI, FO.outP, FO.outL, FO.out, SO.fo0, SO.foF, SO.foI, lensW, lensL, resO_some, Rs.w_v, Rs.w_f, W.rd_v, W.rd_t, W.rd_f, W.rd_l, W.kp_v, List.mapM_cons, List.mapM_nil, Option.bind_eq_bind, Option.bind_some, Option.pure_def, Option.map_some, List.replicate_succ, List.replicate_zero, List.cons_append, List.nil_append, List.getElem?_cons_zero, List.getElem?_cons_succ, List.set_cons_zero, List.set_cons_succ, rb, ri, fI, fC, fAdd, fSub, fMod, fMul, fDiv, fIx, fIsN, fNotN, D.isN, cl_lst, cl_tup, cInt, cTup, cList, gApp, gN, gT, gsC, gsN, Sl.isRef, if_true, if_false, if_pos, List.length_cons, List.length_nil, Bx.at, Bx.put, List.any_cons, List.any_nil, Bool.not_true, Bool.not_false, Nat.reduceAdd, Nat.reduceLeDiff, reduceIte, reduceCtorEq, and_self, and_true, true_and, if_s_non, if_s_bl, if_s_int, if_s_str, if_s_tup, if_s_lst, if_i_non, if_i_bl, if_i_int, if_i_str, if_i_tup, if_i_lst, if_b_non, if_b_bl, if_b_int, if_b_str, if_b_tup, if_b_lst, if_t_non, if_t_bl, if_t_int, if_t_str, if_t_tup, if_t_lst, if_l_non, if_l_bl, if_l_int, if_l_str, if_l_tup, if_l_lst, if_lt2_non, if_lt2_bl, if_lt2_int, if_lt2_str, if_lt2_tup, if_lt2_lst, mRaise, mTryAs, tryOut, mXf, mIsE, mLenO, mGetO, mIxSet, mSwapIx, ixSt, mNeg, isFO, gIns, SO.foX, SO.foJ, one_self, is1_self, at1_self, noRefAt, List.all_cons, List.all_nil, Sl.noBox, D.flat, Bool.and_self, Bool.and_true, Bool.true_and, List.zip_cons_cons, List.zip_nil_right, mTru, List.contains_nil, mIE, mIZ, mBrk, mCnt, decide_true, decide_false, Bool.false_eq_true, Bool.not_eq_true, mStrO, mEqO, mLenO, h1, h2, h3, z1, z2, m2, hh, b1]
theorem law_ok (T : Tx K mg) : LawOk (m_law T) 12 := by
  intro ns hl
  rw [m_law_eq]
  obtain ⟨env, henv⟩ : ∃ env, env = ([.val (.lst (ns.map D.int)), .no, .no, .no, .no, .no, .no, .no, .no, .no, .no, .no, .no] : List Sl) := ⟨_, rfl⟩
  show ∃ e1 s1, mSeq (w1 T) (mSeq (w2 T) (w3 T)) [.val (.lst (ns.map D.int)), .no, .no, .no, .no, .no, .no, .no, .no, .no, .no, .no, .no] none = .rt (.bl true) e1 s1
  rw [← henv]
  obtain ⟨n, hn, e1⟩ : ∃ n : Nat, n < 100 ∧ w1i T env none = .ok ((List.range n).map fun i => .int (i : Nat)) env none := by
    obtain ⟨L, hL⟩ : ∃ L : Int, ((ns.map D.int).length : Int) = L := ⟨_, rfl⟩
    have h := ir_int (S := Option Bx) (env := env) (s := none) (e1 := env) (s1 := none) (n := if (if L < 3 then L else 3) > 1 then (if L < 3 then L else 3) else 1) (ma := mCB cMax (mCons (mK (.int 1)) (mCons (mCB cMin (mCons (mK (.int 3)) (mCons (mCB cLen (mCons (mVar 0) mNil)) mNil))) mNil))) (by
      rw [← hL, henv]
      rfl) (by split <;> (try split) <;> omega) (by split <;> (try split) <;> omega)
    exact ⟨_, by split <;> (try split) <;> omega, h⟩
  obtain ⟨e2, s2, h2, x1, x2, x3, x4, x5, x6, x7, x8, x9, rfl, -⟩ := forL_inv (S := Option Bx) (g := gN 1) (body := w1b T) (L := (List.range n).map fun i => D.int (i : Nat))
    (fun env _ => ∃ x1 x2 x3 x4 x5 x6 x7 x8 x9, env = [.val (.lst (ns.map D.int)), x1, x2, x3, x4, x5, x6, x7, x8, x9, .no, .no, .no] ∧ Vl x1 ∧ x3.noBox = true ∧ x4.noBox = true ∧ Vl x5 ∧ x6.noBox = true ∧ Vl x7 ∧ x8.noBox = true ∧ Vl x9) (by
      rintro d hd env s' ⟨x1, x2, x3, x4, x5, x6, x7, x8, x9, rfl, v1, v3, v4, v5, v6, v7, v8, v9⟩
      obtain ⟨k, hk, rfl⟩ := List.mem_map.mp hd
      obtain ⟨y3, y4, y5, y6, y7, y8, y9, s1, hb, u3, u4, u5, u6, u7, u8, u9⟩ := w1b_ok T ns k s' x2 x3 x4 x5 x6 x7 x8 x9 v3 v4 v5 v6 v7 v8 v9
      exact ⟨_, _, _, gN_ok rfl v1.1 _, hb, _, _, _, _, _, _, _, _, _, rfl, vl_v _, u3, u4, u5, u6, u7, u8, u9⟩) env none ⟨_, _, _, _, _, _, _, _, _, henv, vl_n, rfl, rfl, vl_n, rfl, vl_n, rfl, vl_n⟩
  obtain ⟨e3, h3⟩ := end_ok T (.val (.lst (ns.map D.int))) x1 x2 x3 x4 x5 x6 x7 x8 x9 s2
  exact ⟨_, _, (seq_nx ((for_x e1).trans h2)).trans h3⟩
end
end ledmarks_k13_editions_made

namespace ledmarks_k13_editions_made
open PySem L2 LM
theorem tx_mk {P : Program} {w : World} {K : PySem.W.Frag} {h : Heap} {mg : Str → Option Value} {fa : Addr} (X : K.In h) (G : h.Ns mainGlobals mg) (hfa : mg "law" = some (.ref fa))
    {C_Edition : Addr} {f_Edition___len___ : Addr} {od_Edition___len__ an_Edition___len__ : Option Addr} {sl_Edition___len__ : Array (Option Value)} {oc_Edition___len__ kV_Edition___len__ dc_Edition___len__ pm_Edition___len__ cd_Edition___len__ ct_Edition___len__ : Value} {f_Edition___eq___ : Addr} {od_Edition___eq__ an_Edition___eq__ : Option Addr} {sl_Edition___eq__ : Array (Option Value)} {oc_Edition___eq__ kV_Edition___eq__ dc_Edition___eq__ pm_Edition___eq__ cd_Edition___eq__ ct_Edition___eq__ : Value} {f_is_number_ : Addr} {od_is_number an_is_number : Option Addr} {sl_is_number : Array (Option Value)} {oc_is_number kV_is_number dc_is_number pm_is_number cd_is_number ct_is_number : Value} {f_is_name_ : Addr} {od_is_name an_is_name : Option Addr} {sl_is_name : Array (Option Value)} {oc_is_name kV_is_name dc_is_name pm_is_name cd_is_name ct_is_name : Value} {f__is_pair_ : Addr} {od__is_pair an__is_pair : Option Addr} {sl__is_pair : Array (Option Value)} {oc__is_pair kV__is_pair dc__is_pair pm__is_pair cd__is_pair ct__is_pair : Value} {f__first_wrong_ : Addr} {od__first_wrong an__first_wrong : Option Addr} {sl__first_wrong : Array (Option Value)} {oc__first_wrong kV__first_wrong dc__first_wrong pm__first_wrong cd__first_wrong ct__first_wrong : Value} {f_is_sequence_ : Addr} {od_is_sequence an_is_sequence : Option Addr} {sl_is_sequence : Array (Option Value)} {oc_is_sequence kV_is_sequence dc_is_sequence pm_is_sequence cd_is_sequence ct_is_sequence : Value} {f_Edition_init_ : Addr} {od_Edition_init an_Edition_init : Option Addr} {sl_Edition_init : Array (Option Value)} {oc_Edition_init kV_Edition_init dc_Edition_init pm_Edition_init cd_Edition_init ct_Edition_init : Value} {f__word_ : Addr} {od__word an__word : Option Addr} {sl__word : Array (Option Value)} {oc__word kV__word dc__word pm__word cd__word ct__word : Value} {f_Edition___str___ : Addr} {od_Edition___str__ an_Edition___str__ : Option Addr} {sl_Edition___str__ : Array (Option Value)} {oc_Edition___str__ kV_Edition___str__ dc_Edition___str__ pm_Edition___str__ cd_Edition___str__ ct_Edition___str__ : Value} {f__law_text_ : Addr} {od__law_text an__law_text : Option Addr} {sl__law_text : Array (Option Value)} {oc__law_text kV__law_text dc__law_text pm__law_text cd__law_text ct__law_text : Value} {f_check_row_ : Addr} {od_check_row an_check_row : Option Addr} {sl_check_row : Array (Option Value)} {oc_check_row kV_check_row dc_check_row pm_check_row cd_check_row ct_check_row : Value} {f_Edition___getitem___ : Addr} {od_Edition___getitem__ an_Edition___getitem__ : Option Addr} {sl_Edition___getitem__ : Array (Option Value)} {oc_Edition___getitem__ kV_Edition___getitem__ dc_Edition___getitem__ pm_Edition___getitem__ cd_Edition___getitem__ ct_Edition___getitem__ : Value} {f__law_take_ : Addr} {od__law_take an__law_take : Option Addr} {sl__law_take : Array (Option Value)} {oc__law_take kV__law_take dc__law_take pm__law_take cd__law_take ct__law_take : Value} {f__law_pick_ : Addr} {od__law_pick an__law_pick : Option Addr} {sl__law_pick : Array (Option Value)} {oc__law_pick kV__law_pick dc__law_pick pm__law_pick cd__law_pick ct__law_pick : Value} {f__law_edited_ : Addr} {od__law_edited an__law_edited : Option Addr} {sl__law_edited : Array (Option Value)} {oc__law_edited kV__law_edited dc__law_edited pm__law_edited cd__law_edited ct__law_edited : Value} {f__law_rows_ : Addr} {od__law_rows an__law_rows : Option Addr} {sl__law_rows : Array (Option Value)} {oc__law_rows kV__law_rows dc__law_rows pm__law_rows cd__law_rows ct__law_rows : Value} {f__law_shuffled_ : Addr} {od__law_shuffled an__law_shuffled : Option Addr} {sl__law_shuffled : Array (Option Value)} {oc__law_shuffled kV__law_shuffled dc__law_shuffled pm__law_shuffled cd__law_shuffled ct__law_shuffled : Value} {f__law_words_ : Addr} {od__law_words an__law_words : Option Addr} {sl__law_words : Array (Option Value)} {oc__law_words kV__law_words dc__law_words pm__law_words cd__law_words ct__law_words : Value} {f__law_box_ : Addr} {od__law_box an__law_box : Option Addr} {sl__law_box : Array (Option Value)} {oc__law_box kV__law_box dc__law_box pm__law_box cd__law_box ct__law_box : Value} {f_law_ : Addr} {od_law an_law : Option Addr} {sl_law : Array (Option Value)} {oc_law kV_law dc_law pm_law cd_law ct_law : Value} {tk_LETTERS : Tok} {t_TAKEN n_TAKEN : Nat} {od_TAKEN : Option Addr} {sl_TAKEN : Array (Option Value)} {tk_TAKEN_0 tk_TAKEN_1 tk_TAKEN_2 tk_TAKEN_3 tk_TAKEN_4 tk_TAKEN_5 tk_TAKEN_6 : Tok}
    (aC_Edition : PySem.W.nsIn K mainGlobals "Edition" = some (some (.ref C_Edition)))
    (a_Edition___len__ : PySem.W.findIn K (.ref C_Edition) "__len__" = some (some (.ref f_Edition___len___)))
    (i_Edition___len__ : PySem.W.isFn K (.ref f_Edition___len___) = true)
    (l_Edition___len__ : K.lookup f_Edition___len___ = some ⟨oc_Edition___len__, od_Edition___len__, .func (PySem.W.fnOf "__len__" "Edition.__len__" (defArgs s_Edition___len__) (defBody s_Edition___len__) (defScope s_Edition___len__) .none kV_Edition___len__ dc_Edition___len__ pm_Edition___len__ an_Edition___len__ cd_Edition___len__ ct_Edition___len__), sl_Edition___len__⟩)
    (c_Edition___len__ : PySem.W.codeIn K cd_Edition___len__ "Edition.__len__" = true)
    (k_Edition___len__ : PySem.W.keepIn K (.ref f_Edition___len___) = true)
    (a_Edition___eq__ : PySem.W.findIn K (.ref C_Edition) "__eq__" = some (some (.ref f_Edition___eq___)))
    (i_Edition___eq__ : PySem.W.isFn K (.ref f_Edition___eq___) = true)
    (l_Edition___eq__ : K.lookup f_Edition___eq___ = some ⟨oc_Edition___eq__, od_Edition___eq__, .func (PySem.W.fnOf "__eq__" "Edition.__eq__" (defArgs s_Edition___eq__) (defBody s_Edition___eq__) (defScope s_Edition___eq__) .none kV_Edition___eq__ dc_Edition___eq__ pm_Edition___eq__ an_Edition___eq__ cd_Edition___eq__ ct_Edition___eq__), sl_Edition___eq__⟩)
    (c_Edition___eq__ : PySem.W.codeIn K cd_Edition___eq__ "Edition.__eq__" = true)
    (k_Edition___eq__ : PySem.W.keepIn K (.ref f_Edition___eq___) = true)
    (a_is_number : PySem.W.nsIn K mainGlobals "is_number" = some (some (.ref f_is_number_)))
    (l_is_number : K.lookup f_is_number_ = some ⟨oc_is_number, od_is_number, .func (PySem.W.fnOf "is_number" "is_number" (defArgs s_is_number) (defBody s_is_number) (defScope s_is_number) .none kV_is_number dc_is_number pm_is_number an_is_number cd_is_number ct_is_number), sl_is_number⟩)
    (c_is_number : PySem.W.codeIn K cd_is_number "is_number" = true)
    (k_is_number : PySem.W.keepIn K (.ref f_is_number_) = true)
    (a_is_name : PySem.W.nsIn K mainGlobals "is_name" = some (some (.ref f_is_name_)))
    (l_is_name : K.lookup f_is_name_ = some ⟨oc_is_name, od_is_name, .func (PySem.W.fnOf "is_name" "is_name" (defArgs s_is_name) (defBody s_is_name) (defScope s_is_name) .none kV_is_name dc_is_name pm_is_name an_is_name cd_is_name ct_is_name), sl_is_name⟩)
    (c_is_name : PySem.W.codeIn K cd_is_name "is_name" = true)
    (k_is_name : PySem.W.keepIn K (.ref f_is_name_) = true)
    (a__is_pair : PySem.W.nsIn K mainGlobals "_is_pair" = some (some (.ref f__is_pair_)))
    (l__is_pair : K.lookup f__is_pair_ = some ⟨oc__is_pair, od__is_pair, .func (PySem.W.fnOf "_is_pair" "_is_pair" (defArgs s__is_pair) (defBody s__is_pair) (defScope s__is_pair) .none kV__is_pair dc__is_pair pm__is_pair an__is_pair cd__is_pair ct__is_pair), sl__is_pair⟩)
    (c__is_pair : PySem.W.codeIn K cd__is_pair "_is_pair" = true)
    (k__is_pair : PySem.W.keepIn K (.ref f__is_pair_) = true)
    (a__first_wrong : PySem.W.nsIn K mainGlobals "_first_wrong" = some (some (.ref f__first_wrong_)))
    (l__first_wrong : K.lookup f__first_wrong_ = some ⟨oc__first_wrong, od__first_wrong, .func (PySem.W.fnOf "_first_wrong" "_first_wrong" (defArgs s__first_wrong) (defBody s__first_wrong) (defScope s__first_wrong) .none kV__first_wrong dc__first_wrong pm__first_wrong an__first_wrong cd__first_wrong ct__first_wrong), sl__first_wrong⟩)
    (c__first_wrong : PySem.W.codeIn K cd__first_wrong "_first_wrong" = true)
    (k__first_wrong : PySem.W.keepIn K (.ref f__first_wrong_) = true)
    (a_is_sequence : PySem.W.nsIn K mainGlobals "is_sequence" = some (some (.ref f_is_sequence_)))
    (l_is_sequence : K.lookup f_is_sequence_ = some ⟨oc_is_sequence, od_is_sequence, .func (PySem.W.fnOf "is_sequence" "is_sequence" (defArgs s_is_sequence) (defBody s_is_sequence) (defScope s_is_sequence) .none kV_is_sequence dc_is_sequence pm_is_sequence an_is_sequence cd_is_sequence ct_is_sequence), sl_is_sequence⟩)
    (c_is_sequence : PySem.W.codeIn K cd_is_sequence "is_sequence" = true)
    (k_is_sequence : PySem.W.keepIn K (.ref f_is_sequence_) = true)
    (a_Edition_init : PySem.W.findIn K (.ref C_Edition) "__init__" = some (some (.ref f_Edition_init_)))
    (i_Edition_init : PySem.W.isFn K (.ref f_Edition_init_) = true)
    (l_Edition_init : K.lookup f_Edition_init_ = some ⟨oc_Edition_init, od_Edition_init, .func (PySem.W.fnOf "__init__" "Edition.__init__" (defArgs s_Edition_init) (defBody s_Edition_init) (defScope s_Edition_init) .none kV_Edition_init dc_Edition_init pm_Edition_init an_Edition_init cd_Edition_init ct_Edition_init), sl_Edition_init⟩)
    (c_Edition_init : PySem.W.codeIn K cd_Edition_init "Edition.__init__" = true)
    (k_Edition_init : PySem.W.keepIn K (.ref f_Edition_init_) = true)
    (a__word : PySem.W.nsIn K mainGlobals "_word" = some (some (.ref f__word_)))
    (l__word : K.lookup f__word_ = some ⟨oc__word, od__word, .func (PySem.W.fnOf "_word" "_word" (defArgs s__word) (defBody s__word) (defScope s__word) .none kV__word dc__word pm__word an__word cd__word ct__word), sl__word⟩)
    (c__word : PySem.W.codeIn K cd__word "_word" = true)
    (k__word : PySem.W.keepIn K (.ref f__word_) = true)
    (a_Edition___str__ : PySem.W.findIn K (.ref C_Edition) "__str__" = some (some (.ref f_Edition___str___)))
    (i_Edition___str__ : PySem.W.isFn K (.ref f_Edition___str___) = true)
    (l_Edition___str__ : K.lookup f_Edition___str___ = some ⟨oc_Edition___str__, od_Edition___str__, .func (PySem.W.fnOf "__str__" "Edition.__str__" (defArgs s_Edition___str__) (defBody s_Edition___str__) (defScope s_Edition___str__) .none kV_Edition___str__ dc_Edition___str__ pm_Edition___str__ an_Edition___str__ cd_Edition___str__ ct_Edition___str__), sl_Edition___str__⟩)
    (c_Edition___str__ : PySem.W.codeIn K cd_Edition___str__ "Edition.__str__" = true)
    (k_Edition___str__ : PySem.W.keepIn K (.ref f_Edition___str___) = true)
    (a__law_text : PySem.W.nsIn K mainGlobals "_law_text" = some (some (.ref f__law_text_)))
    (l__law_text : K.lookup f__law_text_ = some ⟨oc__law_text, od__law_text, .func (PySem.W.fnOf "_law_text" "_law_text" (defArgs s__law_text) (defBody s__law_text) (defScope s__law_text) .none kV__law_text dc__law_text pm__law_text an__law_text cd__law_text ct__law_text), sl__law_text⟩)
    (c__law_text : PySem.W.codeIn K cd__law_text "_law_text" = true)
    (k__law_text : PySem.W.keepIn K (.ref f__law_text_) = true)
    (a_check_row : PySem.W.nsIn K mainGlobals "check_row" = some (some (.ref f_check_row_)))
    (l_check_row : K.lookup f_check_row_ = some ⟨oc_check_row, od_check_row, .func (PySem.W.fnOf "check_row" "check_row" (defArgs s_check_row) (defBody s_check_row) (defScope s_check_row) .none kV_check_row dc_check_row pm_check_row an_check_row cd_check_row ct_check_row), sl_check_row⟩)
    (c_check_row : PySem.W.codeIn K cd_check_row "check_row" = true)
    (k_check_row : PySem.W.keepIn K (.ref f_check_row_) = true)
    (a_Edition___getitem__ : PySem.W.findIn K (.ref C_Edition) "__getitem__" = some (some (.ref f_Edition___getitem___)))
    (i_Edition___getitem__ : PySem.W.isFn K (.ref f_Edition___getitem___) = true)
    (l_Edition___getitem__ : K.lookup f_Edition___getitem___ = some ⟨oc_Edition___getitem__, od_Edition___getitem__, .func (PySem.W.fnOf "__getitem__" "Edition.__getitem__" (defArgs s_Edition___getitem__) (defBody s_Edition___getitem__) (defScope s_Edition___getitem__) .none kV_Edition___getitem__ dc_Edition___getitem__ pm_Edition___getitem__ an_Edition___getitem__ cd_Edition___getitem__ ct_Edition___getitem__), sl_Edition___getitem__⟩)
    (c_Edition___getitem__ : PySem.W.codeIn K cd_Edition___getitem__ "Edition.__getitem__" = true)
    (k_Edition___getitem__ : PySem.W.keepIn K (.ref f_Edition___getitem___) = true)
    (a__law_take : PySem.W.nsIn K mainGlobals "_law_take" = some (some (.ref f__law_take_)))
    (l__law_take : K.lookup f__law_take_ = some ⟨oc__law_take, od__law_take, .func (PySem.W.fnOf "_law_take" "_law_take" (defArgs s__law_take) (defBody s__law_take) (defScope s__law_take) .none kV__law_take dc__law_take pm__law_take an__law_take cd__law_take ct__law_take), sl__law_take⟩)
    (c__law_take : PySem.W.codeIn K cd__law_take "_law_take" = true)
    (k__law_take : PySem.W.keepIn K (.ref f__law_take_) = true)
    (a__law_pick : PySem.W.nsIn K mainGlobals "_law_pick" = some (some (.ref f__law_pick_)))
    (l__law_pick : K.lookup f__law_pick_ = some ⟨oc__law_pick, od__law_pick, .func (PySem.W.fnOf "_law_pick" "_law_pick" (defArgs s__law_pick) (defBody s__law_pick) (defScope s__law_pick) .none kV__law_pick dc__law_pick pm__law_pick an__law_pick cd__law_pick ct__law_pick), sl__law_pick⟩)
    (c__law_pick : PySem.W.codeIn K cd__law_pick "_law_pick" = true)
    (k__law_pick : PySem.W.keepIn K (.ref f__law_pick_) = true)
    (a__law_edited : PySem.W.nsIn K mainGlobals "_law_edited" = some (some (.ref f__law_edited_)))
    (l__law_edited : K.lookup f__law_edited_ = some ⟨oc__law_edited, od__law_edited, .func (PySem.W.fnOf "_law_edited" "_law_edited" (defArgs s__law_edited) (defBody s__law_edited) (defScope s__law_edited) .none kV__law_edited dc__law_edited pm__law_edited an__law_edited cd__law_edited ct__law_edited), sl__law_edited⟩)
    (c__law_edited : PySem.W.codeIn K cd__law_edited "_law_edited" = true)
    (k__law_edited : PySem.W.keepIn K (.ref f__law_edited_) = true)
    (a__law_rows : PySem.W.nsIn K mainGlobals "_law_rows" = some (some (.ref f__law_rows_)))
    (l__law_rows : K.lookup f__law_rows_ = some ⟨oc__law_rows, od__law_rows, .func (PySem.W.fnOf "_law_rows" "_law_rows" (defArgs s__law_rows) (defBody s__law_rows) (defScope s__law_rows) .none kV__law_rows dc__law_rows pm__law_rows an__law_rows cd__law_rows ct__law_rows), sl__law_rows⟩)
    (c__law_rows : PySem.W.codeIn K cd__law_rows "_law_rows" = true)
    (k__law_rows : PySem.W.keepIn K (.ref f__law_rows_) = true)
    (a__law_shuffled : PySem.W.nsIn K mainGlobals "_law_shuffled" = some (some (.ref f__law_shuffled_)))
    (l__law_shuffled : K.lookup f__law_shuffled_ = some ⟨oc__law_shuffled, od__law_shuffled, .func (PySem.W.fnOf "_law_shuffled" "_law_shuffled" (defArgs s__law_shuffled) (defBody s__law_shuffled) (defScope s__law_shuffled) .none kV__law_shuffled dc__law_shuffled pm__law_shuffled an__law_shuffled cd__law_shuffled ct__law_shuffled), sl__law_shuffled⟩)
    (c__law_shuffled : PySem.W.codeIn K cd__law_shuffled "_law_shuffled" = true)
    (k__law_shuffled : PySem.W.keepIn K (.ref f__law_shuffled_) = true)
    (a__law_words : PySem.W.nsIn K mainGlobals "_law_words" = some (some (.ref f__law_words_)))
    (l__law_words : K.lookup f__law_words_ = some ⟨oc__law_words, od__law_words, .func (PySem.W.fnOf "_law_words" "_law_words" (defArgs s__law_words) (defBody s__law_words) (defScope s__law_words) .none kV__law_words dc__law_words pm__law_words an__law_words cd__law_words ct__law_words), sl__law_words⟩)
    (c__law_words : PySem.W.codeIn K cd__law_words "_law_words" = true)
    (k__law_words : PySem.W.keepIn K (.ref f__law_words_) = true)
    (a__law_box : PySem.W.nsIn K mainGlobals "_law_box" = some (some (.ref f__law_box_)))
    (l__law_box : K.lookup f__law_box_ = some ⟨oc__law_box, od__law_box, .func (PySem.W.fnOf "_law_box" "_law_box" (defArgs s__law_box) (defBody s__law_box) (defScope s__law_box) .none kV__law_box dc__law_box pm__law_box an__law_box cd__law_box ct__law_box), sl__law_box⟩)
    (c__law_box : PySem.W.codeIn K cd__law_box "_law_box" = true)
    (k__law_box : PySem.W.keepIn K (.ref f__law_box_) = true)
    (a_law : PySem.W.nsIn K mainGlobals "law" = some (some (.ref f_law_)))
    (l_law : K.lookup f_law_ = some ⟨oc_law, od_law, .func (PySem.W.fnOf "law" "law" (defArgs s_law) (defBody s_law) (defScope s_law) .none kV_law dc_law pm_law an_law cd_law ct_law), sl_law⟩)
    (c_law : PySem.W.codeIn K cd_law "law" = true)
    (k_law : PySem.W.keepIn K (.ref f_law_) = true)
    (pg_Edition : PySem.W.plainGet K C_Edition Str.empty = true)
    (hd_Edition : PySem.W.hasDictIn K C_Edition = true)
    (po_Edition : PySem.W.plainOver K C_Edition = true)
    (sa_Edition : PySem.W.findIn K (.ref C_Edition) "__setattr__" = some (some (.builtin "object.__setattr__")))
    (mk_Edition : PySem.W.makesIn K C_Edition = true)
    (kc_Edition : PySem.W.keepIn K (.ref C_Edition) = true)
    (na_Edition_rows : PySem.W.findIn K (.ref C_Edition) "rows" = some none)
    (qa_Edition : PySem.W.findIn K (.ref C_Edition) "__class__" = some (some (.builtin "object.__class__")))
    (qm_Edition : PySem.W.mroIn K C_Edition (.type "object") = some true)
    (qn_ : PySem.W.specialIn K (.builtin "object.__class__") "__get__" = some (some (.builtin "getset_descriptor.__get__")))
    (qt_ : PySem.W.takesIn K (.builtin "object.__class__") = some true)
    (sa_Edition___eq__ : PySem.W.findIn K (.ref C_Edition) "__eq__" = some (some (.ref f_Edition___eq___)))
    (st_Edition___eq__ : PySem.W.typeIn K (.ref f_Edition___eq___) = some (.type "function"))
    (sa_Edition___getitem__ : PySem.W.findIn K (.ref C_Edition) "__getitem__" = some (some (.ref f_Edition___getitem___)))
    (st_Edition___getitem__ : PySem.W.typeIn K (.ref f_Edition___getitem___) = some (.type "function"))
    (sa_Edition___len__ : PySem.W.findIn K (.ref C_Edition) "__len__" = some (some (.ref f_Edition___len___)))
    (st_Edition___len__ : PySem.W.typeIn K (.ref f_Edition___len___) = some (.type "function"))
    (sa_Edition___str__ : PySem.W.findIn K (.ref C_Edition) "__str__" = some (some (.ref f_Edition___str___)))
    (st_Edition___str__ : PySem.W.typeIn K (.ref f_Edition___str___) = some (.type "function"))
    (fi_Edition___getitem__ : PySem.W.fnIn K f_Edition___getitem___ = true)
    (ne_Edition : PySem.W.findIn K (.ref C_Edition) "__ne__" = some (some (.builtin "object.__ne__")))
    (nbs_Edition : PySem.W.mroIn K C_Edition (.type "str") = some false)
    (nbt_Edition : PySem.W.mroIn K C_Edition (.type "tuple") = some false)
    (nbl_Edition : PySem.W.mroIn K C_Edition (.type "list") = some false)
    (nbn_Edition : PySem.W.mroIn K C_Edition (.type "NoneType") = some false)
    (ik_Edition__NoneType : PySem.W.kitAny K (.type "NoneType") [.ref C_Edition] = some false)
    (ik_Edition__bool : PySem.W.kitAny K (.type "bool") [.ref C_Edition] = some false)
    (ik_Edition__int : PySem.W.kitAny K (.type "int") [.ref C_Edition] = some false)
    (ik_Edition__str : PySem.W.kitAny K (.type "str") [.ref C_Edition] = some false)
    (ik_Edition__tuple : PySem.W.kitAny K (.type "tuple") [.ref C_Edition] = some false)
    (ik_Edition__list : PySem.W.kitAny K (.type "list") [.ref C_Edition] = some false)
    (z_abs : PySem.W.nsIn K mainGlobals "abs" = some none)
    (z_all : PySem.W.nsIn K mainGlobals "all" = some none)
    (z_bool : PySem.W.nsIn K mainGlobals "bool" = some none)
    (z_enumerate : PySem.W.nsIn K mainGlobals "enumerate" = some none)
    (z_int : PySem.W.nsIn K mainGlobals "int" = some none)
    (z_isinstance : PySem.W.nsIn K mainGlobals "isinstance" = some none)
    (z_len : PySem.W.nsIn K mainGlobals "len" = some none)
    (z_list : PySem.W.nsIn K mainGlobals "list" = some none)
    (z_max : PySem.W.nsIn K mainGlobals "max" = some none)
    (z_min : PySem.W.nsIn K mainGlobals "min" = some none)
    (z_range : PySem.W.nsIn K mainGlobals "range" = some none)
    (z_repr : PySem.W.nsIn K mainGlobals "repr" = some none)
    (z_str : PySem.W.nsIn K mainGlobals "str" = some none)
    (z_tuple : PySem.W.nsIn K mainGlobals "tuple" = some none)
    (z_zip : PySem.W.nsIn K mainGlobals "zip" = some none)
    (u_LETTERS : PySem.W.nsIn K mainGlobals "LETTERS" = some (some (.str "abcdefghijklmnopqrstuvwxyz" tk_LETTERS)))
    (u_TAKEN : PySem.W.nsIn K mainGlobals "TAKEN" = some (some (.ref t_TAKEN)))
    (l_TAKEN : K.lookup t_TAKEN = some ⟨.type "tuple", od_TAKEN, .seq #[.str "and" tk_TAKEN_0, .str "any" tk_TAKEN_1, .str "came" tk_TAKEN_2, .str "here" tk_TAKEN_3, .str "not" tk_TAKEN_4, .str "own" tk_TAKEN_5, .str "to" tk_TAKEN_6] n_TAKEN, sl_TAKEN⟩) :
    ∃ (fd : FuncData) (m : MS (Option Bx)) (qual : Str), Fun K qual qual s_law fa fd ∧ (∀ (s : Shared) (u : Value), BindsTo s fd ⟨[u], []⟩ [("_law_script", u)]) ∧ LawOk m 12 ∧
      ∀ (base : Heap) (cdv : Value) (s : Shared) (H : Hp) (E : XK), K.In base → base.Ns mainGlobals mg → Room 5 (callerA.deeper (PyProof.Rows.envOfC qual (defScope s_law) s.heap.objs.size fa cdv)) →
        PSs (cxOf CX0 P w K mg base ["_law_script", "_law_k", "_law_box_here", "_law_words_here", "_law_told", "_law_turn", "_law_made", "_law_rows_here", "_law_given", "_law_one", "_law_at", "_law_other", "_law_bare"] qual (defScope s_law) fa cdv callerA [] s H E).nox (defBody s_law) (tS K boxW W0 m) := by
  have e := hfa.symm.trans (PySem.W.mg_of X G a_law)
  cases e
  have F_Edition___len__ := fun_mk (st := s_Edition___len__) l_Edition___len__ c_Edition___len__ k_Edition___len__
  have b_Edition___len__ := F_Edition___len__.binds (ps := ["self"]) fun _ _ _ _ _ _ us hl => match us, hl with | [_], _ => rfl
  have F_Edition___eq__ := fun_mk (st := s_Edition___eq__) l_Edition___eq__ c_Edition___eq__ k_Edition___eq__
  have b_Edition___eq__ := F_Edition___eq__.binds (ps := ["self", "other"]) fun _ _ _ _ _ _ us hl => match us, hl with | [_, _], _ => rfl
  have F_is_number := fun_mk (st := s_is_number) l_is_number c_is_number k_is_number
  have b_is_number := F_is_number.binds (ps := ["value"]) fun _ _ _ _ _ _ us hl => match us, hl with | [_], _ => rfl
  have F_is_name := fun_mk (st := s_is_name) l_is_name c_is_name k_is_name
  have b_is_name := F_is_name.binds (ps := ["value"]) fun _ _ _ _ _ _ us hl => match us, hl with | [_], _ => rfl
  have F__is_pair := fun_mk (st := s__is_pair) l__is_pair c__is_pair k__is_pair
  have b__is_pair := F__is_pair.binds (ps := ["row"]) fun _ _ _ _ _ _ us hl => match us, hl with | [_], _ => rfl
  have F__first_wrong := fun_mk (st := s__first_wrong) l__first_wrong c__first_wrong k__first_wrong
  have b__first_wrong := F__first_wrong.binds (ps := ["rows"]) fun _ _ _ _ _ _ us hl => match us, hl with | [_], _ => rfl
  have F_is_sequence := fun_mk (st := s_is_sequence) l_is_sequence c_is_sequence k_is_sequence
  have b_is_sequence := F_is_sequence.binds (ps := ["value"]) fun _ _ _ _ _ _ us hl => match us, hl with | [_], _ => rfl
  have F_Edition_init := fun_mk (st := s_Edition_init) l_Edition_init c_Edition_init k_Edition_init
  have b_Edition_init := F_Edition_init.binds (ps := ["self", "rows"]) fun _ _ _ _ _ _ us hl => match us, hl with | [_, _], _ => rfl
  have F__word := fun_mk (st := s__word) l__word c__word k__word
  have b__word := F__word.binds (ps := ["content", "elder"]) fun _ _ _ _ _ _ us hl => match us, hl with | [_, _], _ => rfl
  have F_Edition___str__ := fun_mk (st := s_Edition___str__) l_Edition___str__ c_Edition___str__ k_Edition___str__
  have b_Edition___str__ := F_Edition___str__.binds (ps := ["self"]) fun _ _ _ _ _ _ us hl => match us, hl with | [_], _ => rfl
  have F__law_text := fun_mk (st := s__law_text) l__law_text c__law_text k__law_text
  have b__law_text := F__law_text.binds (ps := ["_law_rows_here"]) fun _ _ _ _ _ _ us hl => match us, hl with | [_], _ => rfl
  have F_check_row := fun_mk (st := s_check_row) l_check_row c_check_row k_check_row
  have b_check_row := F_check_row.binds (ps := ["rows", "at"]) fun _ _ _ _ _ _ us hl => match us, hl with | [_, _], _ => rfl
  have F_Edition___getitem__ := fun_mk (st := s_Edition___getitem__) l_Edition___getitem__ c_Edition___getitem__ k_Edition___getitem__
  have b_Edition___getitem__ := F_Edition___getitem__.binds (ps := ["self", "at"]) fun _ _ _ _ _ _ us hl => match us, hl with | [_, _], _ => rfl
  have F__law_take := fun_mk (st := s__law_take) l__law_take c__law_take k__law_take
  have b__law_take := F__law_take.binds (ps := ["_law_box_here", "_law_many"]) fun _ _ _ _ _ _ us hl => match us, hl with | [_, _], _ => rfl
  have F__law_pick := fun_mk (st := s__law_pick) l__law_pick c__law_pick k__law_pick
  have b__law_pick := F__law_pick.binds (ps := ["_law_box_here", "_law_some"]) fun _ _ _ _ _ _ us hl => match us, hl with | [_, _], _ => rfl
  have F__law_edited := fun_mk (st := s__law_edited) l__law_edited c__law_edited k__law_edited
  have b__law_edited := F__law_edited.binds (ps := ["_law_box_here", "_law_words_here", "_law_elder_rows", "_law_most"]) fun _ _ _ _ _ _ us hl => match us, hl with | [_, _, _, _], _ => rfl
  have F__law_rows := fun_mk (st := s__law_rows) l__law_rows c__law_rows k__law_rows
  have b__law_rows := F__law_rows.binds (ps := ["_law_box_here", "_law_words_here", "_law_most"]) fun _ _ _ _ _ _ us hl => match us, hl with | [_, _, _], _ => rfl
  have F__law_shuffled := fun_mk (st := s__law_shuffled) l__law_shuffled c__law_shuffled k__law_shuffled
  have b__law_shuffled := F__law_shuffled.binds (ps := ["_law_box_here", "_law_some"]) fun _ _ _ _ _ _ us hl => match us, hl with | [_, _], _ => rfl
  have F__law_words := fun_mk (st := s__law_words) l__law_words c__law_words k__law_words
  have b__law_words := F__law_words.binds (ps := ["_law_box_here", "_law_many"]) fun _ _ _ _ _ _ us hl => match us, hl with | [_, _], _ => rfl
  have F__law_box := fun_mk (st := s__law_box) l__law_box c__law_box k__law_box
  have b__law_box := F__law_box.binds (ps := ["_law_script", "_law_k"]) fun _ _ _ _ _ _ us hl => match us, hl with | [_, _], _ => rfl
  have F_law := fun_mk (st := s_law) l_law c_law k_law
  have T : Tx K mg := {
    a_Edition___len__ := f_Edition___len___,
    fd_Edition___len__ := _,
    F_Edition___len__ := F_Edition___len__,
    b_Edition___len__ := b_Edition___len__,
    a_Edition___eq__ := f_Edition___eq___,
    fd_Edition___eq__ := _,
    F_Edition___eq__ := F_Edition___eq__,
    b_Edition___eq__ := b_Edition___eq__,
    a_is_number := f_is_number_,
    fd_is_number := _,
    F_is_number := F_is_number,
    b_is_number := b_is_number,
    g_is_number := PySem.W.mg_of X G a_is_number,
    a_is_name := f_is_name_,
    fd_is_name := _,
    F_is_name := F_is_name,
    b_is_name := b_is_name,
    g_is_name := PySem.W.mg_of X G a_is_name,
    a__is_pair := f__is_pair_,
    fd__is_pair := _,
    F__is_pair := F__is_pair,
    b__is_pair := b__is_pair,
    g__is_pair := PySem.W.mg_of X G a__is_pair,
    a__first_wrong := f__first_wrong_,
    fd__first_wrong := _,
    F__first_wrong := F__first_wrong,
    b__first_wrong := b__first_wrong,
    g__first_wrong := PySem.W.mg_of X G a__first_wrong,
    a_is_sequence := f_is_sequence_,
    fd_is_sequence := _,
    F_is_sequence := F_is_sequence,
    b_is_sequence := b_is_sequence,
    g_is_sequence := PySem.W.mg_of X G a_is_sequence,
    a_Edition_init := f_Edition_init_,
    fd_Edition_init := _,
    F_Edition_init := F_Edition_init,
    b_Edition_init := b_Edition_init,
    a__word := f__word_,
    fd__word := _,
    F__word := F__word,
    b__word := b__word,
    g__word := PySem.W.mg_of X G a__word,
    a_Edition___str__ := f_Edition___str___,
    fd_Edition___str__ := _,
    F_Edition___str__ := F_Edition___str__,
    b_Edition___str__ := b_Edition___str__,
    a__law_text := f__law_text_,
    fd__law_text := _,
    F__law_text := F__law_text,
    b__law_text := b__law_text,
    g__law_text := PySem.W.mg_of X G a__law_text,
    a_check_row := f_check_row_,
    fd_check_row := _,
    F_check_row := F_check_row,
    b_check_row := b_check_row,
    g_check_row := PySem.W.mg_of X G a_check_row,
    a_Edition___getitem__ := f_Edition___getitem___,
    fd_Edition___getitem__ := _,
    F_Edition___getitem__ := F_Edition___getitem__,
    b_Edition___getitem__ := b_Edition___getitem__,
    a__law_take := f__law_take_,
    fd__law_take := _,
    F__law_take := F__law_take,
    b__law_take := b__law_take,
    g__law_take := PySem.W.mg_of X G a__law_take,
    a__law_pick := f__law_pick_,
    fd__law_pick := _,
    F__law_pick := F__law_pick,
    b__law_pick := b__law_pick,
    g__law_pick := PySem.W.mg_of X G a__law_pick,
    a__law_edited := f__law_edited_,
    fd__law_edited := _,
    F__law_edited := F__law_edited,
    b__law_edited := b__law_edited,
    g__law_edited := PySem.W.mg_of X G a__law_edited,
    a__law_rows := f__law_rows_,
    fd__law_rows := _,
    F__law_rows := F__law_rows,
    b__law_rows := b__law_rows,
    g__law_rows := PySem.W.mg_of X G a__law_rows,
    a__law_shuffled := f__law_shuffled_,
    fd__law_shuffled := _,
    F__law_shuffled := F__law_shuffled,
    b__law_shuffled := b__law_shuffled,
    g__law_shuffled := PySem.W.mg_of X G a__law_shuffled,
    a__law_words := f__law_words_,
    fd__law_words := _,
    F__law_words := F__law_words,
    b__law_words := b__law_words,
    g__law_words := PySem.W.mg_of X G a__law_words,
    a__law_box := f__law_box_,
    fd__law_box := _,
    F__law_box := F__law_box,
    b__law_box := b__law_box,
    g__law_box := PySem.W.mg_of X G a__law_box,
    c_Edition := C_Edition,
    g_Edition := PySem.W.mg_of X G aC_Edition,
    cl_Edition := ⟨pg_Edition, hd_Edition, po_Edition, sa_Edition⟩,
    mk_Edition := ⟨mk_Edition, a_Edition_init, i_Edition_init, kc_Edition⟩,
    na_Edition_rows := na_Edition_rows,
    sp_Edition___eq__ := ⟨sa_Edition___eq__, st_Edition___eq__⟩,
    sp_Edition___getitem__ := ⟨sa_Edition___getitem__, st_Edition___getitem__⟩,
    sp_Edition___len__ := ⟨sa_Edition___len__, st_Edition___len__⟩,
    sp_Edition___str__ := ⟨sa_Edition___str__, st_Edition___str__⟩,
    fi_Edition___getitem__ := fi_Edition___getitem__,
    if_Edition___eq__ := i_Edition___eq__,
    if_Edition___str__ := i_Edition___str__,
    it_Edition := ⟨⟨pg_Edition, hd_Edition, po_Edition, sa_Edition⟩, qa_Edition, qn_, qt_, qm_Edition⟩,
    ne_Edition := ne_Edition,
    nb_Edition := ⟨nbs_Edition, nbt_Edition, nbl_Edition, nbn_Edition⟩,
    kb_Edition := fun t ht => by simp only [List.mem_cons, List.not_mem_nil, or_false] at ht; rcases ht with rfl | rfl | rfl | rfl | rfl | rfl <;> assumption,
    n_abs := PySem.W.mg_none_of X G z_abs,
    n_all := PySem.W.mg_none_of X G z_all,
    n_bool := PySem.W.mg_none_of X G z_bool,
    n_enumerate := PySem.W.mg_none_of X G z_enumerate,
    n_int := PySem.W.mg_none_of X G z_int,
    n_isinstance := PySem.W.mg_none_of X G z_isinstance,
    n_len := PySem.W.mg_none_of X G z_len,
    n_list := PySem.W.mg_none_of X G z_list,
    n_max := PySem.W.mg_none_of X G z_max,
    n_min := PySem.W.mg_none_of X G z_min,
    n_range := PySem.W.mg_none_of X G z_range,
    n_repr := PySem.W.mg_none_of X G z_repr,
    n_str := PySem.W.mg_none_of X G z_str,
    n_tuple := PySem.W.mg_none_of X G z_tuple,
    n_zip := PySem.W.mg_none_of X G z_zip,
    gk_LETTERS := PySem.W.mg_of X G u_LETTERS,
    u_LETTERS := _,
    v_LETTERS := .str "abcdefghijklmnopqrstuvwxyz",
    rk_LETTERS := ⟨_, rfl⟩,
    dk_LETTERS := fun _ _ => .str _,
    gk_TAKEN := PySem.W.mg_of X G u_TAKEN,
    u_TAKEN := _,
    v_TAKEN := .ref t_TAKEN,
    rk_TAKEN := rfl,
    dk_TAKEN := fun _ _ => .wtup (xs := [V.str "and", V.str "any", V.str "came", V.str "here", V.str "not", V.str "own", V.str "to"]) ⟨_, _, _, l_TAKEN, rfl, rfl, (by show 7 ≤ sizeLine; decide), (.cons ⟨_, rfl⟩ (.cons ⟨_, rfl⟩ (.cons ⟨_, rfl⟩ (.cons ⟨_, rfl⟩ (.cons ⟨_, rfl⟩ (.cons ⟨_, rfl⟩ (.cons ⟨_, rfl⟩ .nil)))))))⟩ (.cons (.str _) (.cons (.str _) (.cons (.str _) (.cons (.str _) (.cons (.str _) (.cons (.str _) (.cons (.str _) .nil))))))) }
  exact ⟨_, m_law T, "law", F_law, fun s v => .of_eq rfl, law_ok T, fun base cdv s H E _ _ hr => pf_law T hr⟩
end ledmarks_k13_editions_made
open PySem PySem.W PyProof.Rows in
set_option maxRecDepth 100000 in
set_option maxHeartbeats 0 in
theorem PySem.Challenge.cw_ledmarks_k13_editions_made_holds : PySem.Challenge.rw_ledmarks_k13_editions_made.Holds := by
  w_on; o_law; k_head; (case hw => w_witness2)
  k_fill
  refine LM.walk_law (l := PySem.Challenge.rw_ledmarks_k13_editions_made) (k := 5) (st := ledmarks_k13_editions_made.s_law) (N := ["_law_script", "_law_k", "_law_box_here", "_law_words_here", "_law_told", "_law_turn", "_law_made", "_law_rows_here", "_law_given", "_law_one", "_law_at", "_law_other", "_law_bare"]) (x := "_law_script") rfl rfl ⟨rfl, by decide, by decide⟩ (fun w h Y => PySem.W.kIn_of Y) ledmarks_k13_editions_made.sc_law ?F
  case F =>
    intro w mg fa h KX G hmg
    refine' ledmarks_k13_editions_made.tx_mk KX G hmg ?aC_Edition ?a_Edition___len__ ?i_Edition___len__ ?l_Edition___len__ ?c_Edition___len__ ?k_Edition___len__ ?a_Edition___eq__ ?i_Edition___eq__ ?l_Edition___eq__ ?c_Edition___eq__ ?k_Edition___eq__ ?a_is_number ?l_is_number ?c_is_number ?k_is_number ?a_is_name ?l_is_name ?c_is_name ?k_is_name ?a__is_pair ?l__is_pair ?c__is_pair ?k__is_pair ?a__first_wrong ?l__first_wrong ?c__first_wrong ?k__first_wrong ?a_is_sequence ?l_is_sequence ?c_is_sequence ?k_is_sequence ?a_Edition_init ?i_Edition_init ?l_Edition_init ?c_Edition_init ?k_Edition_init ?a__word ?l__word ?c__word ?k__word ?a_Edition___str__ ?i_Edition___str__ ?l_Edition___str__ ?c_Edition___str__ ?k_Edition___str__ ?a__law_text ?l__law_text ?c__law_text ?k__law_text ?a_check_row ?l_check_row ?c_check_row ?k_check_row ?a_Edition___getitem__ ?i_Edition___getitem__ ?l_Edition___getitem__ ?c_Edition___getitem__ ?k_Edition___getitem__ ?a__law_take ?l__law_take ?c__law_take ?k__law_take ?a__law_pick ?l__law_pick ?c__law_pick ?k__law_pick ?a__law_edited ?l__law_edited ?c__law_edited ?k__law_edited ?a__law_rows ?l__law_rows ?c__law_rows ?k__law_rows ?a__law_shuffled ?l__law_shuffled ?c__law_shuffled ?k__law_shuffled ?a__law_words ?l__law_words ?c__law_words ?k__law_words ?a__law_box ?l__law_box ?c__law_box ?k__law_box ?a_law ?l_law ?c_law ?k_law ?pg_Edition ?hd_Edition ?po_Edition ?sa_Edition ?mk_Edition ?kc_Edition ?na_Edition_rows ?qa_Edition ?qm_Edition ?qn_ ?qt_ ?sa_Edition___eq__ ?st_Edition___eq__ ?sa_Edition___getitem__ ?st_Edition___getitem__ ?sa_Edition___len__ ?st_Edition___len__ ?sa_Edition___str__ ?st_Edition___str__ ?fi_Edition___getitem__ ?ne_Edition ?nbs_Edition ?nbt_Edition ?nbl_Edition ?nbn_Edition ?ik_Edition__NoneType ?ik_Edition__bool ?ik_Edition__int ?ik_Edition__str ?ik_Edition__tuple ?ik_Edition__list ?z_abs ?z_all ?z_bool ?z_enumerate ?z_int ?z_isinstance ?z_len ?z_list ?z_max ?z_min ?z_range ?z_repr ?z_str ?z_tuple ?z_zip ?u_LETTERS ?u_TAKEN ?l_TAKEN
    (case aC_Edition => k_is)
    (case a_Edition___len__ => k_is)
    (case i_Edition___len__ => k_is)
    (case l_Edition___len__ => k_is)
    (case c_Edition___len__ => k_is)
    (case k_Edition___len__ => k_is)
    (case a_Edition___eq__ => k_is)
    (case i_Edition___eq__ => k_is)
    (case l_Edition___eq__ => k_is)
    (case c_Edition___eq__ => k_is)
    (case k_Edition___eq__ => k_is)
    (case a_is_number => k_is)
    (case l_is_number => k_is)
    (case c_is_number => k_is)
    (case k_is_number => k_is)
    (case a_is_name => k_is)
    (case l_is_name => k_is)
    (case c_is_name => k_is)
    (case k_is_name => k_is)
    (case a__is_pair => k_is)
    (case l__is_pair => k_is)
    (case c__is_pair => k_is)
    (case k__is_pair => k_is)
    (case a__first_wrong => k_is)
    (case l__first_wrong => k_is)
    (case c__first_wrong => k_is)
    (case k__first_wrong => k_is)
    (case a_is_sequence => k_is)
    (case l_is_sequence => k_is)
    (case c_is_sequence => k_is)
    (case k_is_sequence => k_is)
    (case a_Edition_init => k_is)
    (case i_Edition_init => k_is)
    (case l_Edition_init => k_is)
    (case c_Edition_init => k_is)
    (case k_Edition_init => k_is)
    (case a__word => k_is)
    (case l__word => k_is)
    (case c__word => k_is)
    (case k__word => k_is)
    (case a_Edition___str__ => k_is)
    (case i_Edition___str__ => k_is)
    (case l_Edition___str__ => k_is)
    (case c_Edition___str__ => k_is)
    (case k_Edition___str__ => k_is)
    (case a__law_text => k_is)
    (case l__law_text => k_is)
    (case c__law_text => k_is)
    (case k__law_text => k_is)
    (case a_check_row => k_is)
    (case l_check_row => k_is)
    (case c_check_row => k_is)
    (case k_check_row => k_is)
    (case a_Edition___getitem__ => k_is)
    (case i_Edition___getitem__ => k_is)
    (case l_Edition___getitem__ => k_is)
    (case c_Edition___getitem__ => k_is)
    (case k_Edition___getitem__ => k_is)
    (case a__law_take => k_is)
    (case l__law_take => k_is)
    (case c__law_take => k_is)
    (case k__law_take => k_is)
    (case a__law_pick => k_is)
    (case l__law_pick => k_is)
    (case c__law_pick => k_is)
    (case k__law_pick => k_is)
    (case a__law_edited => k_is)
    (case l__law_edited => k_is)
    (case c__law_edited => k_is)
    (case k__law_edited => k_is)
    (case a__law_rows => k_is)
    (case l__law_rows => k_is)
    (case c__law_rows => k_is)
    (case k__law_rows => k_is)
    (case a__law_shuffled => k_is)
    (case l__law_shuffled => k_is)
    (case c__law_shuffled => k_is)
    (case k__law_shuffled => k_is)
    (case a__law_words => k_is)
    (case l__law_words => k_is)
    (case c__law_words => k_is)
    (case k__law_words => k_is)
    (case a__law_box => k_is)
    (case l__law_box => k_is)
    (case c__law_box => k_is)
    (case k__law_box => k_is)
    (case a_law => k_is)
    (case l_law => k_is)
    (case c_law => k_is)
    (case k_law => k_is)
    (case pg_Edition => k_is)
    (case hd_Edition => k_is)
    (case po_Edition => k_is)
    (case sa_Edition => k_is)
    (case mk_Edition => k_is)
    (case kc_Edition => k_is)
    (case na_Edition_rows => k_is)
    (case qa_Edition => k_is)
    (case qm_Edition => k_is)
    (case qn_ => k_is)
    (case qt_ => k_is)
    (case sa_Edition___eq__ => k_is)
    (case st_Edition___eq__ => k_is)
    (case sa_Edition___getitem__ => k_is)
    (case st_Edition___getitem__ => k_is)
    (case sa_Edition___len__ => k_is)
    (case st_Edition___len__ => k_is)
    (case sa_Edition___str__ => k_is)
    (case st_Edition___str__ => k_is)
    (case fi_Edition___getitem__ => k_is)
    (case ne_Edition => k_is)
    (case nbs_Edition => k_is)
    (case nbt_Edition => k_is)
    (case nbl_Edition => k_is)
    (case nbn_Edition => k_is)
    (case ik_Edition__NoneType => kit_is)
    (case ik_Edition__bool => kit_is)
    (case ik_Edition__int => kit_is)
    (case ik_Edition__str => kit_is)
    (case ik_Edition__tuple => kit_is)
    (case ik_Edition__list => kit_is)
    (case z_abs => k_is)
    (case z_all => k_is)
    (case z_bool => k_is)
    (case z_enumerate => k_is)
    (case z_int => k_is)
    (case z_isinstance => k_is)
    (case z_len => k_is)
    (case z_list => k_is)
    (case z_max => k_is)
    (case z_min => k_is)
    (case z_range => k_is)
    (case z_repr => k_is)
    (case z_str => k_is)
    (case z_tuple => k_is)
    (case z_zip => k_is)
    (case u_LETTERS => k_is)
    (case u_TAKEN => k_is)
    (case l_TAKEN => k_is)

