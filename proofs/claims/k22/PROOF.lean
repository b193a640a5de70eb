import PyProof.Rows.All
import Wide.All
import OpenK.AllK
import Wide.FinOn
import HandS.ForMost
import HandS.IsInst
import HandS.TupAny
import HandS.TupMul
import HandS.Style
import HandS.NoneIn
import HandS.NestedK
import HandS.EndTab
import HandS.RevRange
import HandS.Rev
import HandS.TupLe
import PyProof.ReprReads
import PyProof.EqKinds
import PyProof.NeKinds
import HandS.RaiseMore
import PyProof.ReprBulk
import HandS.ReplaceLit
import HandS.CallLocal
import HandS.FStr
import HandS.StrMore
import PyProof.Rows.StrAscii
import KE.KLam
import HandS.Exc
import HandS.ExcOwn
import HandS.TryMany
import HandS.ExcIs
import HandS.Text
import PyProof.Rows.StrRev
import HandS.Strs
import KE.GoesEnum
import PyProof.ListNew
import PySem.Challenge.RW_kindsbyworth_k22_lifted_and_filled
set_option Elab.async false
set_option linter.all false
set_option maxRecDepth 100000
/-! DN: the functions that this law's text makes within others, by the place of their words. -/
namespace DL
open PySem
def nmG (l c : Nat) : Str :=
  if l = 75 then "lifted_with.<locals>.lifted_body"
  else if l = 78 then "lifted_with.<locals>.lifted_body.<locals>.lifted_hole"
  else if l = 85 then "with_hole_filled.<locals>.filled_body"
  else if l = 86 then "with_hole_filled.<locals>.filled_body.<locals>.<lambda>"
  else "_law_put.<locals>.<lambda>"
end DL
set_option Elab.async false
set_option linter.all false
set_option maxRecDepth 100000
/-! DL: the program's data as trees; readings without a heap but for lists that change. -/
namespace DL
open PySem PySem.Spec PyProof.Rows L2

/-- a value as a tree; ref: an object that may change, by its address -/
inductive D where
  | non | bl (b : Bool) | int (i : Int) | str (s : Str)
  | tup (xs : List D) | lst (xs : List D) | dic (kvs : List (Key × D)) | ref (a : Addr) | ty (n : String)

/-- a list that stays: left as it is, or the module's own -/
def SqF (K : PySem.W.Frag) (H : Hp) (a : Addr) (vs : List V) : Prop :=
  (∃ o, H a = some (.frz o (.lst vs))) ∨ ∃ (o : Obj) (its : Array Value) (n : Nat), K.lookup a = some o ∧ o.cls = .type "list" ∧ o.dict = none ∧ o.data = .seq its n ∧ its.size ≤ sizeLine ∧ Vals vs its.toList
theorem SqF.sq {K : PySem.W.Frag} {H : Hp} {a : Addr} {vs : List V} (h : SqF K H a vs) : SqL K H a vs := h.elim (fun ⟨o, e⟩ => .inl (.inr ⟨o, e⟩)) .inr
section
variable (K : PySem.W.Frag) (H : Hp)
mutual
def Rp : D → V → Prop
  | .non, v => v = .non
  | .bl b, v => v = .bl b
  | .int i, v => v = .int i
  | .str s, v => v = .str s
  | .ref a, v => v = .ref a
  | .ty n, v => v = .ty n
  | .tup ds, v => ∃ a vs, v = .ref a ∧ SqT K H a vs ∧ RpA ds vs
  | .lst ds, v => ∃ a vs, v = .ref a ∧ SqF K H a vs ∧ RpA ds vs
  | .dic kvs, v => ∃ a o ws, v = .ref a ∧ H a = some (.frz o (.dK ws)) ∧ RpK kvs ws
def RpA : List D → List V → Prop
  | [], vs => vs = []
  | d :: ds, vs => ∃ v ws, vs = v :: ws ∧ Rp d v ∧ RpA ds ws
def RpK : List (Key × D) → List (Key × V) → Prop
  | [], ws => ws = []
  | (k, d) :: r, ws => ∃ v ws', ws = (k, v) :: ws' ∧ Rp d v ∧ RpK r ws'
end
end

/-- a function that was made: its words, the cells that it captured, its code object -/
structure FF where
  name : Str
  qual : Str
  params : Arguments
  body : FuncBody
  scope : Scope
  cl : List (Str × Addr)
  c : Addr
abbrev FF.fd (F : FF) (doc pm ctv : Value) : FuncData :=
  { name := F.name, qualname := F.qual, params := F.params, body := F.body, scope := F.scope, globals := mainGlobals, closure := F.cl,
    defaults := .none, kwdefaults := .none, doc, pyModule := pm, annotations := none, code := .ref F.c, closureTuple := ctv, builtins := builtinsNs }
/-- the object at f is the function F -/
def FnG (f : Addr) (F : FF) : HO := .ext fun h => ∃ (od : Option Addr) (sl : Array (Option Value)) (doc pm ctv : Value), h.get? f = some (⟨.type "function", od, .func (F.fd doc pm ctv), sl⟩ : Obj)
/-- the object at c is a code object of the name q, its table at P -/
def CodeX (c P : Addr) (q : Str) : HO := .ext fun h => PySem.W.CodeHd h c P ∧ ∃ (oc : Obj) (vs : Array Value) (t : Tok), h.get? c = some oc ∧ oc.data = .fields vs ∧ vs[1]? = some (.str q t)
/-- the table at a, and the tables of the code objects that it tells, so many levels deep -/
def TWn (H : Hp) : Nat → Addr → Prop
  | 0, a => ∃ ps : Array Value, H a = some (.tbl ps)
  | k + 1, a => ∃ ps : Array Value, H a = some (.tbl ps) ∧ TriplesOk ps.toList ∧ ∀ (pos : Pos) (cv : Value), codeAmong pos ps.toList = some cv →
      ∃ c P, cv = .ref c ∧ H c = some (CodeX c P (nmG pos.line pos.col)) ∧ TWn H k P
theorem TWn.stay {H H' : Hp} (e1 : ∀ a ps, H a = some (.tbl ps) → H' a = some (.tbl ps)) (e2 : ∀ a φ, H a = some (.ext φ) → H' a = some (.ext φ)) : ∀ {k : Nat} {a : Addr}, TWn H k a → TWn H' k a
  | 0, a, ⟨ps, h⟩ => ⟨ps, e1 _ _ h⟩
  | k + 1, a, ⟨ps, h1, h2, h3⟩ => ⟨ps, e1 _ _ h1, h2, fun pos cv hc => by
    obtain ⟨c, P, q1, q2, q3⟩ := h3 pos cv hc
    exact ⟨c, P, q1, e2 _ _ q2, q3.stay e1 e2⟩⟩
theorem TWn.at_ {H : Hp} {k : Nat} {a : Addr} (h : TWn H k a) : ∃ ps, H a = some (.tbl ps) := by
  cases k with
  | zero => exact h
  | succ k => obtain ⟨ps, h1, _⟩ := h; exact ⟨ps, h1⟩
theorem TWn.nil {H : Hp} {a : Addr} (h : H a = some (.tbl #[])) : ∀ k, TWn H k a
  | 0 => ⟨_, h⟩
  | k + 1 => ⟨#[], h, True.intro, fun pos cv hc => by
    have z : codeAmong pos [] = some cv := hc
    simp [codeAmong] at z⟩
/-- what may not change stands -/
structure Ext (H H' : Hp) : Prop where
  t : ∀ a xs, H a = some (.tup xs) → H' a = some (.tup xs)
  f : ∀ a o u, H a = some (.frz o u) → H' a = some (.frz o u)
  x : ∀ a φ, H a = some (.ext φ) → H' a = some (.ext φ)
  n : ∀ k a, TWn H k a → TWn H' k a
theorem Ext.refl (H : Hp) : Ext H H := ⟨fun _ _ h => h, fun _ _ _ h => h, fun _ _ h => h, fun _ _ h => h⟩
theorem Ext.trans {H H1 H2 : Hp} (a : Ext H H1) (b : Ext H1 H2) : Ext H H2 := ⟨fun c o h => b.t c o (a.t c o h), fun c o u h => b.f c o u (a.f c o u h), fun c o h => b.x c o (a.x c o h), fun k c h => b.n k c (a.n k c h)⟩
theorem Ext.new {H : Hp} {p : Addr} {o : HO} (h : H p = none) : Ext H (upd H p o) :=
  ⟨fun a xs e => by rw [upd_ne (ne_of_none e h)]; exact e, fun a u x e => by rw [upd_ne (ne_of_none e h)]; exact e, fun a x e => by rw [upd_ne (ne_of_none e h)]; exact e,
   fun k a q => q.stay (fun b u e => by rw [upd_ne (ne_of_none e h)]; exact e) fun b u e => by rw [upd_ne (ne_of_none e h)]; exact e⟩
theorem Ext.mut {H : Hp} {a : Addr} {o : HO} {u : HO} (h : H a = some u) (h1 : ∀ xs, u ≠ .tup xs) (h2 : ∀ o w, u ≠ .frz o w) (h3 : ∀ φ, u ≠ .ext φ) (h4 : ∀ ps, u ≠ .tbl ps) : Ext H (upd H a o) :=
  ⟨fun b xs e => by rw [upd_ne (fun z => by subst z; rw [h] at e; exact h1 _ (Option.some.inj e))]; exact e,
   fun b w x e => by rw [upd_ne (fun z => by subst z; rw [h] at e; exact h2 _ _ (Option.some.inj e))]; exact e,
   fun b w e => by rw [upd_ne (fun z => by subst z; rw [h] at e; exact h3 _ (Option.some.inj e))]; exact e,
   fun k b q => q.stay (fun c ps e => by rw [upd_ne (fun z => by subst z; rw [h] at e; exact h4 _ (Option.some.inj e))]; exact e)
     fun c φ e => by rw [upd_ne (fun z => by subst z; rw [h] at e; exact h3 _ (Option.some.inj e))]; exact e⟩
theorem Ext.mutL {H : Hp} {a : Addr} {o : HO} {vs : List V} (h : H a = some (.lst vs)) : Ext H (upd H a o) := .mut h (fun _ z => by cases z) (fun _ _ z => by cases z) (fun _ z => by cases z) (fun _ z => by cases z)
theorem Ext.sqT {K : PySem.W.Frag} {H H' : Hp} {a : Addr} {xs : List V} (e : Ext H H') (h : SqT K H a xs) : SqT K H' a xs := by
  rcases h with (h | ⟨o, h⟩) | h
  · exact .inl (.inl (e.t _ _ h))
  · exact .inl (.inr ⟨o, e.f _ _ _ h⟩)
  · exact .inr h
theorem Ext.sqF {K : PySem.W.Frag} {H H' : Hp} {a : Addr} {xs : List V} (e : Ext H H') (h : SqF K H a xs) : SqF K H' a xs := h.elim (fun ⟨o, q⟩ => .inl ⟨o, e.f _ _ _ q⟩) .inr
section
variable {K : PySem.W.Frag} {H H' : Hp}
mutual
theorem Rp.ext (e : Ext H H') : ∀ {d : D} {v : V}, Rp K H d v → Rp K H' d v
  | .non, _, h => h
  | .bl _, _, h => h
  | .int _, _, h => h
  | .str _, _, h => h
  | .ref _, _, h => h
  | .ty _, _, h => h
  | .tup _, _, ⟨a, vs, h1, h2, h3⟩ => ⟨a, vs, h1, e.sqT h2, RpA.ext e h3⟩
  | .lst _, _, ⟨a, vs, h1, h2, h3⟩ => ⟨a, vs, h1, e.sqF h2, RpA.ext e h3⟩
  | .dic _, _, ⟨a, o, vs, h1, h2, h3⟩ => ⟨a, o, vs, h1, e.f _ _ _ h2, RpK.ext e h3⟩
theorem RpA.ext (e : Ext H H') : ∀ {ds : List D} {vs : List V}, RpA K H ds vs → RpA K H' ds vs
  | [], _, h => h
  | _ :: _, _, ⟨v, ws, h1, h2, h3⟩ => ⟨v, ws, h1, Rp.ext e h2, RpA.ext e h3⟩
theorem RpK.ext (e : Ext H H') : ∀ {ds : List (Key × D)} {vs : List (Key × V)}, RpK K H ds vs → RpK K H' ds vs
  | [], _, h => h
  | _ :: _, _, ⟨v, ws, h1, h2, h3⟩ => ⟨v, ws, h1, Rp.ext e h2, RpK.ext e h3⟩
end
theorem RpA.length : ∀ {ds : List D} {vs : List V}, RpA K H ds vs → vs.length = ds.length
  | [], _, h => by cases h; rfl
  | _ :: _, _, ⟨v, ws, h1, _, h3⟩ => by subst h1; simp [RpA.length h3]
theorem RpA.get : ∀ {ds : List D} {vs : List V} {i : Nat} {d : D}, RpA K H ds vs → ds[i]? = some d → ∃ v, vs[i]? = some v ∧ Rp K H d v
  | [], _, _, _, _, e => by simp at e
  | _ :: _, _, 0, _, ⟨v, ws, h1, h2, h3⟩, e => by subst h1; simp at e; subst e; exact ⟨v, rfl, h2⟩
  | _ :: _, _, i + 1, _, ⟨v, ws, h1, h2, h3⟩, e => by
    subst h1
    obtain ⟨x, a, b⟩ := RpA.get (i := i) h3 (by simpa using e)
    exact ⟨x, by simpa using a, b⟩
theorem RpA.append : ∀ {ds es : List D} {vs ws : List V}, RpA K H ds vs → RpA K H es ws → RpA K H (ds ++ es) (vs ++ ws)
  | [], _, _, _, h, h' => by cases h; exact h'
  | _ :: _, _, _, _, ⟨v, us, h1, h2, h3⟩, h' => by subst h1; exact ⟨v, _, rfl, h2, RpA.append h3 h'⟩
theorem RpA.take : ∀ {ds : List D} {vs : List V} (n : Nat), RpA K H ds vs → RpA K H (ds.take n) (vs.take n)
  | _, _, 0, _ => by simp [RpA]
  | [], _, n + 1, h => by cases h; simp [RpA]
  | _ :: _, _, n + 1, ⟨v, us, h1, h2, h3⟩ => by subst h1; exact ⟨v, _, rfl, h2, RpA.take n h3⟩
theorem RpA.drop : ∀ {ds : List D} {vs : List V} (n : Nat), RpA K H ds vs → RpA K H (ds.drop n) (vs.drop n)
  | _, _, 0, h => by simpa using h
  | [], _, n + 1, h => by cases h; simp [RpA]
  | _ :: _, _, n + 1, ⟨v, us, h1, h2, h3⟩ => by subst h1; simpa using RpA.drop n h3
theorem RpA.set : ∀ {ds : List D} {vs : List V} (i : Nat) {d : D} {v : V}, RpA K H ds vs → Rp K H d v → RpA K H (ds.set i d) (vs.set i v)
  | [], _, _, _, _, h, _ => by cases h; simp [RpA]
  | _ :: _, _, 0, _, _, ⟨v, us, h1, h2, h3⟩, r => by subst h1; exact ⟨_, _, rfl, r, h3⟩
  | _ :: _, _, i + 1, _, _, ⟨v, us, h1, h2, h3⟩, r => by subst h1; exact ⟨_, _, rfl, h2, RpA.set i h3 r⟩
theorem RpA.rev : ∀ {ds : List D} {vs : List V}, RpA K H ds vs → RpA K H ds.reverse vs.reverse
  | [], _, h => by cases h; simp [RpA]
  | _ :: _, _, ⟨v, us, h1, h2, h3⟩ => by subst h1; simp only [List.reverse_cons]; exact RpA.append (RpA.rev h3) ⟨_, _, rfl, h2, rfl⟩
theorem RpA.dropLast {ds : List D} {vs : List V} (h : RpA K H ds vs) : RpA K H ds.dropLast vs.dropLast := by
  rw [List.dropLast_eq_take, List.dropLast_eq_take, h.length]; exact h.take _
theorem RpA.single {d : D} {v : V} (h : Rp K H d v) : RpA K H [d] [v] := ⟨v, [], rfl, h, rfl⟩
theorem RpA.strs : ∀ {ds : List Str} {vs : List V}, RpA K H (ds.map D.str) vs → vs = ds.map V.str
  | [], _, h => h
  | _ :: _, _, ⟨v, us, h1, h2, h3⟩ => by subst h1; cases h2; simp [RpA.strs h3]
theorem RpA.ints : ∀ {ds : List Int} {vs : List V}, RpA K H (ds.map D.int) vs → vs = ds.map V.int
  | [], _, h => h
  | _ :: _, _, ⟨v, us, h1, h2, h3⟩ => by subst h1; cases h2; simp [RpA.ints h3]
theorem RpA.bls : ∀ {ds : List Bool} {vs : List V}, RpA K H (ds.map D.bl) vs → vs = ds.map V.bl
  | [], _, h => h
  | _ :: _, _, ⟨v, us, h1, h2, h3⟩ => by subst h1; cases h2; simp [RpA.bls h3]
theorem RpA.of_strs : ∀ (ds : List Str), RpA K H (ds.map D.str) (ds.map V.str)
  | [] => rfl
  | _ :: r => ⟨_, _, rfl, rfl, RpA.of_strs r⟩
theorem RpA.of_ints : ∀ (ds : List Int), RpA K H (ds.map D.int) (ds.map V.int)
  | [] => rfl
  | _ :: r => ⟨_, _, rfl, rfl, RpA.of_ints r⟩
end

/-! ### the store of what changes -/
inductive SO where
  | lst (xs : List D)
  | dic (kvs : List (Key × D))
  | fn (F : FF) (n : Nat)
  | cell (d : D)
  | tab (n : Nat)
  | gho (u : HO)
abbrev Sto := Addr → Option SO
def sup (S : Sto) (a : Addr) (o : SO) : Sto := fun b => if b = a then some o else S b
theorem sup_same {S : Sto} {a : Addr} {o : SO} : sup S a o a = some o := by unfold sup; rw [if_pos rfl]
theorem sup_ne {S : Sto} {a b : Addr} {o : SO} (h : b ≠ a) : sup S a o b = S b := by unfold sup; rw [if_neg h]
theorem sup_sup {S : Sto} {a : Addr} {o u : SO} : sup (sup S a o) a u = sup S a u := by
  funext b; unfold sup; split <;> rfl
def Stays (u : HO) : Prop := (∃ xs, u = .tup xs) ∨ (∃ o w, u = .frz o w) ∨ ∃ φ, u = .ext φ
/-- a cell that holds v -/
def CellO (c : Addr) (v : V) : HO := .ext fun h => ∃ u, RelV v u ∧ h.IsCell c (some u)
def SRo (K : PySem.W.Frag) (H : Hp) (a : Addr) : SO → Prop
  | .lst ds => ∃ vs, H a = some (.lst vs) ∧ RpA K H ds vs
  | .dic kvs => ∃ ws, H a = some (.dK ws) ∧ RpK K H kvs ws
  | .fn F n => H a = some (FnG a F) ∧ ∃ P, H F.c = some (CodeX F.c P F.qual) ∧ TWn H n P
  | .cell d => ∃ o v, H a = some (.frz o (CellO a v)) ∧ Rp K H d v
  | .tab n => TWn H n a
  | .gho u => H a = some u ∧ Stays u
def SR (K : PySem.W.Frag) (H : Hp) (S : Sto) : Prop := ∀ a o, S a = some o → SRo K H a o
section
variable {K : PySem.W.Frag} {H H' : Hp} {S : Sto} {a p : Addr}
theorem SRo.keep {o : SO} (h : SRo K H a o) (e : Ext H H') (q : H' a = H a) : SRo K H' a o := by
  cases o with
  | lst ds => obtain ⟨vs, h1, h2⟩ := h; exact ⟨vs, q.trans h1, h2.ext e⟩
  | dic ds => obtain ⟨vs, h1, h2⟩ := h; exact ⟨vs, q.trans h1, h2.ext e⟩
  | fn F n => obtain ⟨h1, P, h2, h3⟩ := h; exact ⟨e.x _ _ h1, P, e.x _ _ h2, e.n _ _ h3⟩
  | cell d => obtain ⟨o, v, h1, h2⟩ := h; exact ⟨o, v, e.f _ _ _ h1, h2.ext e⟩
  | tab n => exact e.n _ _ h
  | gho u => exact ⟨q.trans h.1, h.2⟩
theorem SRo.some {o : SO} (h : SRo K H a o) : ∃ u, H a = .some u := by
  cases o with
  | lst ds => obtain ⟨vs, h1, h2⟩ := h; exact ⟨_, h1⟩
  | dic ds => obtain ⟨vs, h1, h2⟩ := h; exact ⟨_, h1⟩
  | fn F n => exact ⟨_, h.1⟩
  | cell d => obtain ⟨o, v, h1, h2⟩ := h; exact ⟨_, h1⟩
  | tab n => obtain ⟨ps, h1⟩ := TWn.at_ h; exact ⟨_, h1⟩
  | gho u => exact ⟨_, h.1⟩
theorem SR.none (h : SR K H S) (e : H p = Option.none) : S p = Option.none := by
  cases q : S p with
  | none => rfl
  | some o =>
    obtain ⟨u, z⟩ := (h p _ q).some
    rw [e] at z; cases z
theorem SR.lst (h : SR K H S) {ds : List D} (e : S a = some (.lst ds)) : ∃ vs, H a = some (.lst vs) ∧ RpA K H ds vs := h a _ e
theorem SR.new {o : HO} (h : SR K H S) (e : H p = Option.none) : SR K (upd H p o) S := fun b u q => by
  obtain ⟨w, z⟩ := (h b _ q).some
  exact (h b u q).keep (.new e) (upd_ne (ne_of_none z e))
theorem SR.add {ds : List D} {vs : List V} (h : SR K H S) (e : H p = Option.none) (r : RpA K H ds vs) : SR K (upd H p (.lst vs)) (sup S p (.lst ds)) := fun b u q => by
  by_cases hb : b = p
  · subst hb; rw [sup_same] at q; cases q; exact ⟨vs, upd_same, r.ext (.new e)⟩
  · rw [sup_ne hb] at q; exact (h.new e) b u q
theorem SR.mut {ds ds' : List D} {vs : List V} (h : SR K H S) (e : S a = some (.lst ds')) (r : RpA K H ds vs) : SR K (upd H a (.lst vs)) (sup S a (.lst ds)) := fun b u q => by
  obtain ⟨ws, h1, _⟩ := h.lst e
  by_cases hb : b = a
  · subst hb; rw [sup_same] at q; cases q; exact ⟨vs, upd_same, r.ext (.mutL h1)⟩
  · rw [sup_ne hb] at q
    exact (h b u q).keep (.mutL h1) (upd_ne hb)
end

/-! ### slots -/
abbrev DSt := List (Option D)
def RS (K : PySem.W.Frag) (H : Hp) (σ : L2.St) (δ : DSt) : Prop := σ.length = δ.length ∧ ∀ (i : Nat) (d : D), δ[i]? = some (some d) → ∃ v, σ[i]? = some (some v) ∧ Rp K H d v
section
variable {K : PySem.W.Frag} {H H' : Hp} {σ : L2.St} {δ : DSt}
theorem RS.ext (h : RS K H σ δ) (e : Ext H H') : RS K H' σ δ := ⟨h.1, fun i d q => let ⟨v, a, b⟩ := h.2 i d q; ⟨v, a, b.ext e⟩⟩
theorem RS.set {i : Nat} {d : D} {v : V} (h : RS K H σ δ) (r : Rp K H d v) : RS K H (σ.set i (some v)) (δ.set i (some d)) := by
  refine ⟨by simp [h.1], fun j e q => ?_⟩
  by_cases hj : i = j
  · subst hj
    by_cases hl : i < δ.length
    · rw [List.getElem?_set_self hl] at q
      rw [List.getElem?_set_self (by rw [h.1]; exact hl)]
      cases q
      exact ⟨v, rfl, r⟩
    · rw [List.getElem?_eq_none (by simp; omega)] at q; cases q
  · rw [List.getElem?_set_ne hj] at q ⊢
    exact h.2 j e q
theorem RS.start {N : List Str} : ∀ {ds : List D} {vs : List V}, RpA K H ds vs → RS K H (start N vs) (ds.map some ++ List.replicate (N.length - ds.length) none) := by
  intro ds vs r
  have hl := r.length
  refine ⟨by unfold L2.start; simp [hl], fun i d q => ?_⟩
  have hi : i < ds.length := by
    by_cases hi : i < ds.length
    · exact hi
    · rw [List.getElem?_append_right (by simpa using hi), List.getElem?_replicate] at q
      split at q <;> cases q
  rw [List.getElem?_append_left (by simpa using hi), List.getElem?_map] at q
  cases e : ds[i]? with
  | none => rw [e] at q; cases q
  | some x =>
    rw [e] at q; cases q
    obtain ⟨v, h1, h2⟩ := r.get e
    refine ⟨v, ?_, h2⟩
    unfold L2.start
    rw [List.getElem?_append_left (by simpa [hl] using hi), List.getElem?_map, h1]
    rfl
end

/-! ### readings -/
abbrev DK := D → Sto → Prop
abbrev DE := DSt → Sto → DK → Prop
abbrev DT := DSt → Sto → (Bool → Sto → Prop) → Prop
abbrev DA := DSt → Sto → (List D → Sto → Prop) → Prop
structure DEnds where
  nx : DSt → Sto → Prop
  rt : DK
  bk : DSt → Sto → Prop := fun _ _ => False
  ct : DSt → Sto → Prop := fun _ _ => False
abbrev DS := DEnds → DSt → Sto → Prop

/-- what comes behind, in trees -/
def Fin (K : PySem.W.Frag) (H : Hp) (P : DK) (Q : VK) : Prop := ∀ d S' v H', P d S' → Rp K H' d v → SR K H' S' → Ext H H' → Q v H'
def lE (K : PySem.W.Frag) (t : DE) : TE := fun σ H Q => ∃ δ S P, RS K H σ δ ∧ SR K H S ∧ t δ S P ∧ Fin K H P Q
def lT (K : PySem.W.Frag) (t : DT) : TT := fun σ H Q => ∃ δ S P, RS K H σ δ ∧ SR K H S ∧ t δ S P ∧ ∀ b S' H', P b S' → SR K H' S' → Ext H H' → Q b H'
def lA (K : PySem.W.Frag) (t : DA) : TA := fun σ H Q => ∃ δ S P, RS K H σ δ ∧ SR K H S ∧ t δ S P ∧ ∀ ds S' vs H', P ds S' → RpA K H' ds vs → SR K H' S' → Ext H H' → Q vs H'
def NxF (K : PySem.W.Frag) (H : Hp) (P : DSt → Sto → Prop) (Q : L2.St → Hp → Prop) : Prop := ∀ δ S' σ H', P δ S' → RS K H' σ δ → SR K H' S' → Ext H H' → Q σ H'
structure EndF (K : PySem.W.Frag) (H : Hp) (P : DEnds) (D : Ends) : Prop where
  nx : NxF K H P.nx D.nx
  rt : Fin K H P.rt D.rt
  bk : NxF K H P.bk D.bk
  ct : NxF K H P.ct D.ct
def lS (K : PySem.W.Frag) (t : DS) : TS := fun D σ H => ∃ δ S P, RS K H σ δ ∧ SR K H S ∧ t P δ S ∧ EndF K H P D
theorem Fin.ext {K : PySem.W.Frag} {H H' : Hp} {P : DK} {Q : VK} (h : Fin K H P Q) (e : Ext H H') : Fin K H' P Q := fun d S v H2 p r s x => h d S v H2 p r s (e.trans x)
theorem NxF.ext {K : PySem.W.Frag} {H H' : Hp} {P : DSt → Sto → Prop} {Q : L2.St → Hp → Prop} (h : NxF K H P Q) (e : Ext H H') : NxF K H' P Q := fun d S v H2 p r s x => h d S v H2 p r s (e.trans x)
theorem EndF.ext {K : PySem.W.Frag} {H H' : Hp} {P : DEnds} {D : Ends} (h : EndF K H P D) (e : Ext H H') : EndF K H' P D := ⟨h.nx.ext e, h.rt.ext e, h.bk.ext e, h.ct.ext e⟩

/-! ### weaker readings -/
section
variable {X : Cx}
theorem PE.imp {e : Expr} {t t' : TE} (h : L2.PE X e t) (f : ∀ σ H Q, t' σ H Q → t σ H Q) : L2.PE X e t' := ⟨fun pins s σ H Q I q => h.run pins s σ H Q I (f _ _ _ q)⟩
theorem PT.imp {e : Expr} {t t' : TT} (h : L2.PT X e t) (f : ∀ σ H Q, t' σ H Q → t σ H Q) : L2.PT X e t' := ⟨fun pins s σ H Q I q => h.run pins s σ H Q I (f _ _ _ q)⟩
theorem PW.imp {e : Expr} {t t' : TT} (h : L2.PW X e t) (f : ∀ σ H Q, t' σ H Q → t σ H Q) : L2.PW X e t' := ⟨fun wh pins s σ H Q I q => h.run wh pins s σ H Q I (f _ _ _ q)⟩
theorem PA.imp {e : List Expr} {t t' : TA} (h : L2.PA X e t) (f : ∀ σ H Q, t' σ H Q → t σ H Q) : L2.PA X e t' := ⟨fun pos pins s σ H Q I q => h.run pos pins s σ H Q I (f _ _ _ q)⟩
theorem PS.imp {e : Stmt} {t t' : TS} (h : L2.PS X e t) (f : ∀ D σ H, t' D σ H → t D σ H) : L2.PS X e t' := ⟨fun pins s σ H D I q => h.run pins s σ H D I (f _ _ _ q)⟩
theorem PSs.imp {e : List Stmt} {t t' : TS} (h : L2.PSs X e t) (f : ∀ D σ H, t' D σ H → t D σ H) : L2.PSs X e t' := ⟨fun pins s σ H D I q => h.run pins s σ H D I (f _ _ _ q)⟩
end

/-! ### judgements over trees -/
abbrev QE (X : Cx) (e : Expr) (t : DE) : Prop := L2.PE X e (lE X.K t)
abbrev QT (X : Cx) (e : Expr) (t : DT) : Prop := L2.PT X e (lT X.K t)
abbrev QW (X : Cx) (e : Expr) (t : DT) : Prop := L2.PW X e (lT X.K t)
abbrev QA (X : Cx) (e : List Expr) (t : DA) : Prop := L2.PA X e (lA X.K t)
abbrev QS (X : Cx) (e : Stmt) (t : DS) : Prop := L2.PS X e (lS X.K t)
abbrev QSs (X : Cx) (e : List Stmt) (t : DS) : Prop := L2.PSs X e (lS X.K t)
end DL
set_option Elab.async false
set_option linter.all false
set_option maxRecDepth 100000
set_option maxHeartbeats 1000000
namespace DL
open PySem PySem.Spec PyProof.Rows L2

/-! ### operations by trees -/
abbrev DR := D → D → Sto → DK → Prop
def l2 (K : PySem.W.Frag) (r : DR) : R2 := fun x y H Q => ∃ d e S P, Rp K H d x ∧ Rp K H e y ∧ SR K H S ∧ r d e S P ∧ Fin K H P Q
abbrev OpD (X : Cx) (f : Value → Value → Sem Value) (r : DR) : Prop := OpR X f (l2 X.K r)
theorem OpR.imp {X : Cx} {f : Value → Value → Sem Value} {r r' : R2} (h : OpR X f r) (g : ∀ x y H Q, r' x y H Q → r x y H Q) : OpR X f r' := fun pins s σ H x y v u Q I a b q => h pins s σ H x y v u Q I a b (g _ _ _ _ q)
def l1 (K : PySem.W.Frag) (r : D → Sto → DK → Prop) : V → Hp → VK → Prop := fun x H Q => ∃ d S P, Rp K H d x ∧ SR K H S ∧ r d S P ∧ Fin K H P Q
abbrev UnD (X : Cx) (f : Value → Sem Value) (r : D → Sto → DK → Prop) : Prop := UnR X f (l1 X.K r)
theorem UnR.imp {X : Cx} {f : Value → Sem Value} {r r' : V → Hp → VK → Prop} (h : UnR X f r) (g : ∀ x H Q, r' x H Q → r x H Q) : UnR X f r' := fun pins s σ H x v Q I a q => h pins s σ H x v Q I a (g _ _ _ q)
def lC (K : PySem.W.Frag) (r : List D → Sto → DK → Prop) : List V → Hp → VK → Prop := fun xs H Q => ∃ ds S P, RpA K H ds xs ∧ SR K H S ∧ r ds S P ∧ Fin K H P Q
abbrev CallD (X : Cx) (f : Value) (r : List D → Sto → DK → Prop) : Prop := CallR X f (lC X.K r)
theorem CallR.imp {X : Cx} {f : Value} {r r' : List V → Hp → VK → Prop} (h : CallR X f r) (g : ∀ x H Q, r' x H Q → r x H Q) : CallR X f r' := fun pins s σ H xs us Q I a q => h pins s σ H xs us Q I a (g _ _ _ q)
def lM (K : PySem.W.Frag) (r : D → List D → Sto → DK → Prop) : V → List V → Hp → VK → Prop := fun x xs H Q => ∃ d ds S P, Rp K H d x ∧ RpA K H ds xs ∧ SR K H S ∧ r d ds S P ∧ Fin K H P Q
abbrev MtD (X : Cx) (id : String) (r : D → List D → Sto → DK → Prop) : Prop := MtR X id (lM X.K r)
theorem MtR.imp {X : Cx} {id : String} {r r' : V → List V → Hp → VK → Prop} (h : MtR X id r) (g : ∀ x xs H Q, r' x xs H Q → r x xs H Q) : MtR X id r' := fun pins s σ H x xs v us Q I a b q => h pins s σ H x xs v us Q I a b (g _ _ _ _ q)
abbrev IxD (X : Cx) (r : DR) : Prop := IxR X (l2 X.K r)
theorem IxR.imp {X : Cx} {r r' : R2} (h : IxR X r) (g : ∀ x y H Q, r' x y H Q → r x y H Q) : IxR X r' := fun a b pins s σ H x y v u Q I c d q => h a b pins s σ H x y v u Q I c d (g _ _ _ _ q)
def lSl (K : PySem.W.Frag) (r : D → Option Int → Option Int → Sto → DK → Prop) : V → Option Int → Option Int → Hp → VK → Prop := fun x lo hi H Q => ∃ d S P, Rp K H d x ∧ SR K H S ∧ r d lo hi S P ∧ Fin K H P Q
abbrev SlD (X : Cx) (r : D → Option Int → Option Int → Sto → DK → Prop) : Prop := SlR X (lSl X.K r)
theorem SlR.imp {X : Cx} {r r' : V → Option Int → Option Int → Hp → VK → Prop} (h : SlR X r) (g : ∀ x lo hi H Q, r' x lo hi H Q → r x lo hi H Q) : SlR X r' := fun pins s σ H x v vl vu lo hi sl Q I a b c d q => h pins s σ H x v vl vu lo hi sl Q I a b c d (g _ _ _ _ _ q)

/-- the i-th slot -/
def slot : DSt → Nat → Option D
  | [], _ => none
  | x :: _, 0 => x
  | _ :: r, i + 1 => slot r i
theorem slot_get : ∀ {δ : DSt} {i : Nat} {d : D}, slot δ i = some d → δ[i]? = some (some d)
  | _ :: _, 0, _, h => by simp only [slot] at h; subst h; rfl
  | _ :: r, i + 1, _, h => by simp only [slot] at h; simpa using slot_get (δ := r) h
def dVar (i : Nat) : DE := fun δ S P => (slot δ i).elim False fun d => P d S
def dC (d : D) : DE := fun _ S P => P d S
def dOp (r : DR) (ta tb : DE) : DE := fun δ S P => ta δ S fun d S1 => tb δ S1 fun e S2 => r d e S2 P
def dUn (r : D → Sto → DK → Prop) (ta : DE) : DE := fun δ S P => ta δ S fun d S1 => r d S1 P
/-- a truth as it is -/
def asB : D → (Bool → Prop) → Prop
  | .bl b, f => f b
  | _, _ => False
theorem asB_of {d : D} {f : Bool → Prop} (h : asB d f) : ∃ b, d = .bl b ∧ f b := by
  cases d <;> first | exact ⟨_, rfl, h⟩ | exact h.elim
def dTest (t : DE) : DT := fun δ S P => t δ S fun d S1 => asB d fun b => P b S1
def dChain (r r' : DR) (ta tb tc : DE) : DE := fun δ S P => ta δ S fun d S1 => tb δ S1 fun e S2 => r d e S2 fun z S3 => asB z fun k => bif k then tc δ S3 fun f S4 => r' e f S4 P else P (.bl false) S3
def dAnd (t u : DT) : DT := fun δ S P => t δ S fun c S1 => bif c then u δ S1 P else P false S1
def dOr (t u : DT) : DT := fun δ S P => t δ S fun c S1 => bif c then P true S1 else u δ S1 P
def dNot (t : DT) : DT := fun δ S P => t δ S fun c S1 => P (!c) S1
def dAndV (ta tb : DE) : DE := fun δ S P => ta δ S fun x S1 => asB x fun c => bif c then tb δ S1 P else P (.bl false) S1
def dOrV (ta tb : DE) : DE := fun δ S P => ta δ S fun x S1 => asB x fun c => bif c then P (.bl true) S1 else tb δ S1 P
def dNotV (ta : DE) : DE := fun δ S P => ta δ S fun x S1 => asB x fun c => P (.bl (!c)) S1
def dIf (t : DT) (ta tb : DE) : DE := fun δ S P => t δ S fun c S1 => bif c then ta δ S1 P else tb δ S1 P
def dNil : DA := fun _ S P => P [] S
def dCons (ta : DE) (tr : DA) : DA := fun δ S P => ta δ S fun d S1 => tr δ S1 fun ds S2 => P (d :: ds) S2
def dTup (t : DA) : DE := fun δ S P => t δ S fun ds S1 => ds.length ≤ sizeLine ∧ P (.tup ds) S1
def dLst (t : DA) : DE := fun δ S P => t δ S fun ds S1 => ds.length ≤ sizeLine ∧ P (.lst ds) S1
def dLstM (t : DA) : DE := fun δ S P => t δ S fun ds S1 => ds.length ≤ sizeLine ∧ ∀ p, S1 p = none → P (.ref p) (sup S1 p (.lst ds))

theorem bif_if {c : Bool} {A B : Prop} : (bif c then A else B) = (if c = true then A else B) := by cases c <;> rfl

section
variable {X : Cx} {pins : List (Addr × Obj)} {σ : L2.St} {H : Hp} {s : Shared}
/-- a list is left as it is from here on -/
theorem Inv.freeze {a : Addr} {u : HO} (I : L2.Inv X pins σ H s) (h : H a = some u) (n1 : ∀ xs, u ≠ .tup xs) (n2 : ∀ o w, u ≠ .frz o w) (n3 : ∀ ps, u ≠ .tbl ps) (n4 : ∀ x, u ≠ .own x) :
    ∃ o, s.heap.get? a = some o ∧ L2.Inv X pins σ (upd H a (.frz o u)) s := by
  have ok := I.hok a u h
  obtain ⟨o, ho⟩ : ∃ o, s.heap.get? a = some o := by
    have := ok.lt
    cases e : s.heap.get? a with
    | some o => exact ⟨o, rfl⟩
    | none =>
      cases u with
      | lst xs => obtain ⟨_, _, _, _, q⟩ := ok; rw [e] at q; cases q
      | tup xs => exact absurd rfl (n1 _)
      | dK kvs => obtain ⟨_, _, _, _, _, _, _, q, _⟩ := ok; rw [e] at q; cases q
      | dT kvs => obtain ⟨_, _, _, _, _, _, _, q, _⟩ := ok; rw [e] at q; cases q
      | set S n => obtain ⟨_, _, _, _, q, _⟩ := ok; rw [e] at q; cases q
      | ins C dx fs => obtain ⟨_, _, _, q, _⟩ := ok; rw [e] at q; cases q
      | own y => exact absurd rfl (n4 _)
      | xd fs => obtain ⟨_, ⟨_, _, _, q, _⟩, _⟩ := ok; rw [e] at q; cases q
      | rng lo hi => obtain ⟨_, _, _, q⟩ := ok; rw [e] at q; cases q
      | frz ob w => exact absurd rfl (n2 _ _)
      | tbl ps => exact absurd rfl (n3 _)
      | met f y => have q : s.heap.get? a = some _ := ok; rw [e] at q; cases q
      | ext φ => obtain ⟨_, ⟨_, q⟩, _⟩ := ok; rw [e] at q; cases q
  refine ⟨o, ho, ⟨I.ok, I.os, I.bare, ⟨I.base.keep, I.base.slot, fun b ob q n hx => ?_, I.base.there, fun b xs q => ?_, fun b ob w q => ?_, fun b ps q => ?_⟩, I.loc, I.cell, ?_, fun x c q => ?_, fun p hp => ?_, fun b w q => ?_, I.len⟩⟩
  · have z := I.base.free b ob q n hx
    rw [upd_ne (fun e => by subst e; rw [h] at z; cases z)]; exact z
  · have z := I.base.tups b xs q
    rw [upd_ne (fun e => by subst e; rw [h] at z; exact n1 _ (Option.some.inj z))]; exact z
  · have z := I.base.frzs b ob w q
    rw [upd_ne (fun e => by subst e; rw [h] at z; exact n2 _ _ (Option.some.inj z))]; exact z
  · obtain ⟨more, z⟩ := I.base.tbls b ps q
    exact ⟨more, by rw [upd_ne (fun e => by subst e; rw [h] at z; exact n3 _ (Option.some.inj z))]; exact z⟩
  · rw [upd_ne (fun e => by have z := I.free; rw [e, h] at z; cases z)]; exact I.free
  · rw [upd_ne (fun e => by have z := I.freeC x c q; rw [e, h] at z; cases z)]; exact I.freeC x c q
  · obtain ⟨a1, a2, a3⟩ := I.pin p hp
    exact ⟨a1, by rw [upd_ne (fun e => by rw [e, h] at a2; cases a2)]; exact a2, a3⟩
  · have own : ∀ c x, H c = some (.own x) → upd H a (.frz o u) c = some (.own x) := fun c x z => by
      rw [upd_ne (fun e => by subst e; rw [h] at z; exact n4 _ (Option.some.inj z))]; exact z
    have tup : ∀ c x, H c = some (.tup x) → upd H a (.frz o u) c = some (.tup x) := fun c x z => by
      rw [upd_ne (fun e => by subst e; rw [h] at z; exact n1 _ (Option.some.inj z))]; exact z
    by_cases hb : b = a
    · subst hb
      rw [upd_same] at q; cases q
      exact ⟨ho, ok.stay (fun _ _ _ q => q) (fun c q => own c _ q) tup⟩
    · rw [upd_ne hb] at q
      exact (I.hok b w q).stay (fun _ _ _ q => q) (fun c q => own c _ q) tup
theorem freezeL {a : Addr} {xs : List V} (I : L2.Inv X pins σ H s) (h : H a = some (.lst xs)) : ∃ o, L2.Inv X pins σ (upd H a (.frz o (.lst xs))) s := by
  obtain ⟨o, _, J⟩ := Inv.freeze I h (fun _ z => by cases z) (fun _ _ z => by cases z) (fun _ z => by cases z) (fun _ z => by cases z)
  exact ⟨o, J⟩
theorem freezeD {a : Addr} {xs : List (Key × V)} (I : L2.Inv X pins σ H s) (h : H a = some (.dK xs)) : ∃ o, L2.Inv X pins σ (upd H a (.frz o (.dK xs))) s := by
  obtain ⟨o, _, J⟩ := Inv.freeze I h (fun _ z => by cases z) (fun _ _ z => by cases z) (fun _ z => by cases z) (fun _ z => by cases z)
  exact ⟨o, J⟩
end

section
variable {X : Cx} {a b c e : Expr} {es : List Expr} {ta tb tc te : DE} {pos : Pos}
theorem q_var (i : Nat) {x : Str} (hN : X.N[i]? = some x := by rfl) (hv : Vis X.env.scope x := by first | exact Or.inl rfl | exact Or.inr (Or.inl rfl) | exact Or.inr (Or.inr rfl)) (hd : (x == ("__debug__" : Str)) = false := by decide)
    (hcd : (x == ("__classdict__" : Str)) = false := by decide) : QE X (.Name x pos) (dVar i) :=
  PE.imp (pe_var hN hv hd hcd) fun σ H Q ⟨δ, S, P, rs, sr, h, fin⟩ => by
    unfold dVar at h
    cases q : slot δ i with
    | none => rw [q] at h; exact h.elim
    | some d =>
      rw [q] at h
      obtain ⟨v, e, r⟩ := rs.2 i d (slot_get q)
      exact ⟨v, e, fin d S v H h r sr (.refl H)⟩
theorem qC {d : D} {v : V} (h : L2.PE X e (tC v)) (r : ∀ H, Rp X.K H d v) : QE X e (dC d) := PE.imp h fun σ H Q ⟨δ, S, P, rs, sr, q, fin⟩ => fin d S v H q (r H) sr (.refl H)
theorem q_int {i : Int} {j pos} : QE X (.Constant (.int i) j pos) (dC (.int i)) := qC pe_int fun _ => rfl
theorem q_bl {b j pos} : QE X (.Constant (.bool b) j pos) (dC (.bl b)) := qC pe_bl fun _ => rfl
theorem q_non {j pos} : QE X (.Constant .none j pos) (dC .non) := qC pe_non fun _ => rfl
theorem q_str {x j pos} : QE X (.Constant (.str x) j pos) (dC (.str x)) := qC pe_str fun _ => rfl
/-- a module's constant -/
theorem q_glob {x : Str} {d : D} {v : V} {u : Value} (hg : Gl X x) (hm : X.mg x = some u) (r : RelV v u) (rp : ∀ H, Rp X.K H d v) (hd : (x == ("__debug__" : Str)) = false := by decide) : QE X (.Name x pos) (dC d) := qC (pe_glob hg hm r hd) rp
theorem q_ty {x : Str} {n : String} (hg : Gl X x) (hm : X.mg x = none) (hv : bootBuiltins x = some (.type n)) (hn : x ≠ "__name__" := by decide) (hd : (x == ("__debug__" : Str)) = false := by decide) : QE X (.Name x pos) (dC (.ty n)) := qC (pe_bltn (v := .ty n) hg hm hv rfl hn hd) fun _ => rfl
theorem l2_of {ta tb : DE} {r : DR} {σ : L2.St} {H : Hp} {Q : VK} (h : lE X.K (dOp r ta tb) σ H Q) : lE X.K ta σ H fun x H1 => lE X.K tb σ H1 fun y H2 => l2 X.K r x y H2 Q := by
  obtain ⟨δ, S, P, rs, sr, h, fin⟩ := h
  exact ⟨δ, S, _, rs, sr, h, fun d S1 x H1 h1 r1 s1 e1 => ⟨δ, S1, _, rs.ext e1, s1, h1, fun d2 S2 y H2 h2 r2 s2 e2 => ⟨d, d2, S2, P, r1.ext e2, r2, s2, h2, fin.ext (e1.trans e2)⟩⟩⟩
theorem q_op {op : Operator} {r : DR} (ho : OpD X (binaryOp op) r) (ha : QE X a ta) (hb : QE X b tb) : QE X (.BinOp a op b pos) (dOp r ta tb) := PE.imp (pe_op ho ha hb) fun σ H Q h => l2_of h
theorem q_cmp {op : CmpOp} {r : DR} (ho : OpD X (compareOp op) r) (ha : QE X a ta) (hb : QE X b tb) (hm : behindInMarks op b = false := by first | exact nobehind _ (by decide) (by decide) | rfl) : QE X (.Compare a [op] [b] pos) (dOp r ta tb) := PE.imp (pe_cmpR ho ha hb hm) fun σ H Q h => l2_of h
theorem lT_of_test {t : DE} {σ : L2.St} {H : Hp} {Q : Bool → Hp → Prop} (h : lT X.K (dTest t) σ H Q) : lE X.K t σ H fun x H' => ∃ k, x = .bl k ∧ Q k H' := by
  obtain ⟨δ, S, P, rs, sr, h, fin⟩ := h
  refine ⟨δ, S, _, rs, sr, h, fun d S1 x H1 h1 r1 s1 e1 => ?_⟩
  obtain ⟨k, rfl, q⟩ := asB_of h1
  exact ⟨k, r1, fin k S1 H1 q s1 e1⟩
theorem t_cmp {op : CmpOp} {r : DR} (ho : OpD X (compareOp op) r) (ha : QE X a ta) (hb : QE X b tb) (hm : behindInMarks op b = false := by first | exact nobehind _ (by decide) (by decide) | rfl) : QT X (.Compare a [op] [b] pos) (dTest (dOp r ta tb)) :=
  PT.imp (pt_cmpR ho ha hb hm) fun σ H Q h => by
    obtain ⟨δ, S, P, rs, sr, h, fin⟩ := lT_of_test h
    exact l2_of ⟨δ, S, P, rs, sr, h, fin⟩
theorem l2_chain {r r' : DR} {σ : L2.St} {H : Hp} {Q : VK} (h : lE X.K (dChain r r' ta tb tc) σ H Q) : tChain (l2 X.K r) (l2 X.K r') (lE X.K ta) (lE X.K tb) (lE X.K tc) σ H Q := by
  obtain ⟨δ, S, P, rs, sr, h, fin⟩ := h
  refine ⟨δ, S, _, rs, sr, h, fun d S1 x H1 h1 r1 s1 e1 => ⟨δ, S1, _, rs.ext e1, s1, h1, fun d2 S2 y H2 h2 r2 s2 e2 => ⟨d, d2, S2, _, r1.ext e2, r2, s2, h2, fun z S3 v H3 h3 r3 s3 e3 => ?_⟩⟩⟩
  obtain ⟨k, rfl, q⟩ := asB_of h3
  refine ⟨k, r3, ?_⟩
  rw [bif_if] at q
  have e := e1.trans (e2.trans e3)
  split
  · rename_i hk
    rw [if_pos hk] at q
    exact ⟨δ, S3, _, rs.ext e, s3, q, fun f S4 w H4 h4 r4 s4 e4 => ⟨d2, f, S4, P, r2.ext (e3.trans e4), r4, s4, h4, fin.ext (e.trans e4)⟩⟩
  · rename_i hk
    rw [if_neg hk] at q
    exact fin _ S3 _ H3 q rfl s3 e
theorem q_chain {op op' : CmpOp} {r r' : DR} (ho : OpD X (compareOp op) r) (ho' : OpD X (compareOp op') r') (ha : QE X a ta) (hb : QE X b tb) (hc : QE X c tc)
    (hm : lastMarks [op, op'] [b, c] = false := by with_unfolding_all rfl) : QE X (.Compare a [op, op'] [b, c] pos) (dChain r r' ta tb tc) := PE.imp (pe_chain ho ho' ha hb hc hm) fun σ H Q h => l2_chain h
theorem t_chain {op op' : CmpOp} {r r' : DR} (ho : OpD X (compareOp op) r) (ho' : OpD X (compareOp op') r') (ha : QE X a ta) (hb : QE X b tb) (hc : QE X c tc)
    (hm : lastMarks [op, op'] [b, c] = false := by with_unfolding_all rfl) : QT X (.Compare a [op, op'] [b, c] pos) (dTest (dChain r r' ta tb tc)) := PT.imp (pt_chain ho ho' ha hb hc hm) fun σ H Q h => l2_chain (lT_of_test h)
/-- a truth as a test -/
theorem t_val (h : QE X e te) (he : ∀ whole, isTrue e X.env whole = (do let v ← whole; standAt e.pos; holding [v] (truthy v)) := by intro _; rfl) : QT X e (dTest te) := PT.imp (pt_val h he) fun σ H Q h => lT_of_test h
variable {tA tB' : DT} {rest : List Expr}
theorem w_and1 (ha : QT X a tA) : QW X (.BoolOp .And [a] pos) tA := pw_and1 ha
theorem w_or1 (ha : QT X a tA) : QW X (.BoolOp .Or [a] pos) tA := pw_or1 ha
theorem w_and (ha : QT X a tA) (hb : QW X (.BoolOp .And (b :: rest) pos) tB') : QW X (.BoolOp .And (a :: b :: rest) pos) (dAnd tA tB') :=
  PW.imp (pw_and ha hb) fun σ H Q ⟨δ, S, P, rs, sr, h, fin⟩ => ⟨δ, S, _, rs, sr, h, fun c S1 H1 h1 s1 e1 => by
    rw [bif_if] at h1
    split
    · rename_i hc; rw [if_pos hc] at h1; exact ⟨δ, S1, P, rs.ext e1, s1, h1, fun b S2 H2 h2 s2 e2 => fin b S2 H2 h2 s2 (e1.trans e2)⟩
    · rename_i hc; rw [if_neg hc] at h1; exact fin _ S1 H1 h1 s1 e1⟩
theorem w_or (ha : QT X a tA) (hb : QW X (.BoolOp .Or (b :: rest) pos) tB') : QW X (.BoolOp .Or (a :: b :: rest) pos) (dOr tA tB') :=
  PW.imp (pw_or ha hb) fun σ H Q ⟨δ, S, P, rs, sr, h, fin⟩ => ⟨δ, S, _, rs, sr, h, fun c S1 H1 h1 s1 e1 => by
    rw [bif_if] at h1
    split
    · rename_i hc; rw [if_pos hc] at h1; exact fin _ S1 H1 h1 s1 e1
    · rename_i hc; rw [if_neg hc] at h1; exact ⟨δ, S1, P, rs.ext e1, s1, h1, fun b S2 H2 h2 s2 e2 => fin b S2 H2 h2 s2 (e1.trans e2)⟩⟩
theorem t_w (h : QW X e tA) : QT X e tA := h.pt
theorem t_not (ha : QT X a tA) : QT X (.UnaryOp .Not a pos) (dNot tA) := PT.imp (pt_not ha) fun σ H Q ⟨δ, S, P, rs, sr, h, fin⟩ => ⟨δ, S, _, rs, sr, h, fun c S1 H1 h1 s1 e1 => fin _ S1 H1 h1 s1 e1⟩
theorem q_one {op} (h : QE X a ta) : QE X (.BoolOp op [a] pos) ta := pe_one h
theorem q_and (ha : QE X a ta) (hb : QE X (.BoolOp .And (b :: rest) pos) tb) : QE X (.BoolOp .And (a :: b :: rest) pos) (dAndV ta tb) :=
  PE.imp (pe_and ha hb) fun σ H Q ⟨δ, S, P, rs, sr, h, fin⟩ => ⟨δ, S, _, rs, sr, h, fun x S1 v H1 h1 r1 s1 e1 => by
    obtain ⟨k, rfl, q⟩ := asB_of h1
    rw [bif_if] at q
    refine ⟨k, r1, ?_⟩
    split
    · rename_i hc; rw [if_pos hc] at q; exact ⟨δ, S1, P, rs.ext e1, s1, q, fin.ext e1⟩
    · rename_i hc; rw [if_neg hc] at q; exact fin _ S1 _ H1 q rfl s1 e1⟩
theorem q_or (ha : QE X a ta) (hb : QE X (.BoolOp .Or (b :: rest) pos) tb) : QE X (.BoolOp .Or (a :: b :: rest) pos) (dOrV ta tb) :=
  PE.imp (pe_or ha hb) fun σ H Q ⟨δ, S, P, rs, sr, h, fin⟩ => ⟨δ, S, _, rs, sr, h, fun x S1 v H1 h1 r1 s1 e1 => by
    obtain ⟨k, rfl, q⟩ := asB_of h1
    rw [bif_if] at q
    refine ⟨k, r1, ?_⟩
    split
    · rename_i hc; rw [if_pos hc] at q; exact fin _ S1 _ H1 q rfl s1 e1
    · rename_i hc; rw [if_neg hc] at q; exact ⟨δ, S1, P, rs.ext e1, s1, q, fin.ext e1⟩⟩
theorem q_not (ha : QE X a ta) : QE X (.UnaryOp .Not a pos) (dNotV ta) :=
  PE.imp (pe_not ha) fun σ H Q ⟨δ, S, P, rs, sr, h, fin⟩ => ⟨δ, S, _, rs, sr, h, fun x S1 v H1 h1 r1 s1 e1 => by
    obtain ⟨k, rfl, q⟩ := asB_of h1
    exact ⟨k, r1, fin _ S1 _ H1 q rfl s1 e1⟩⟩
theorem q_ifExp (hc : QT X c tA) (ha : QE X a ta) (hb : QE X b tb) : QE X (.IfExp c a b pos) (dIf tA ta tb) :=
  PE.imp (pe_ifExp hc ha hb) fun σ H Q ⟨δ, S, P, rs, sr, h, fin⟩ => ⟨δ, S, _, rs, sr, h, fun k S1 H1 q s1 e1 => by
    rw [bif_if] at q
    split
    · rename_i hc; rw [if_pos hc] at q; exact ⟨δ, S1, P, rs.ext e1, s1, q, fin.ext e1⟩
    · rename_i hc; rw [if_neg hc] at q; exact ⟨δ, S1, P, rs.ext e1, s1, q, fin.ext e1⟩⟩
theorem q_un {op : UnaryOp} {r : D → Sto → DK → Prop} (ho : UnD X (unaryOp op) r) (ha : QE X a ta) : QE X (.UnaryOp op a pos) (dUn r ta) :=
  PE.imp (pe_un ho ha) fun σ H Q ⟨δ, S, P, rs, sr, h, fin⟩ => ⟨δ, S, _, rs, sr, h, fun d S1 x H1 h1 r1 s1 e1 => ⟨d, S1, P, r1, s1, h1, fin.ext e1⟩⟩
/-! arguments, displays -/
variable {t : DA}
theorem a_nil : QA X [] dNil := PA.imp pa_nil fun σ H Q ⟨δ, S, P, rs, sr, h, fin⟩ => fin [] S [] H h rfl sr (.refl H)
theorem a_cons (ha : QE X e te) (hr : QA X es t) (hs : starEach (e :: es) X.env = (false, eval e X.env) :: starEach es X.env := by rfl) : QA X (e :: es) (dCons te t) :=
  PA.imp (pa_cons ha hr hs) fun σ H Q ⟨δ, S, P, rs, sr, h, fin⟩ => ⟨δ, S, _, rs, sr, h, fun d S1 v H1 h1 r1 s1 e1 => ⟨δ, S1, _, rs.ext e1, s1, h1, fun ds S2 vs H2 h2 r2 s2 e2 => fin _ S2 _ H2 h2 ⟨v, vs, rfl, r1.ext e2, r2⟩ s2 (e1.trans e2)⟩⟩
theorem q_tup {x1} (h : QA X es t) : QE X (.Tuple es x1 pos) (dTup t) :=
  PE.imp (pe_tup h) fun σ H Q ⟨δ, S, P, rs, sr, h, fin⟩ => ⟨δ, S, _, rs, sr, h, fun ds S1 vs H1 ⟨h0, h1⟩ r1 s1 e1 => ⟨by rw [r1.length]; exact h0, fun p np => fin _ S1 _ _ h1 ⟨p, vs, rfl, .of upd_same, r1.ext (.new np)⟩ (s1.new np) (e1.trans (.new np))⟩⟩
theorem q_lstM (h : QA X es t) : QE X (.List es pos) (dLstM t) :=
  PE.imp (pe_lst h) fun σ H Q ⟨δ, S, P, rs, sr, h, fin⟩ => ⟨δ, S, _, rs, sr, h, fun ds S1 vs H1 ⟨h0, h1⟩ r1 s1 e1 => ⟨by rw [r1.length]; exact h0, fun p np => fin _ _ _ _ (h1 p (s1.none np)) rfl (s1.add np r1) (e1.trans (.new np))⟩⟩
/-- a value that is a new list, kept as it is -/
def tFrz (t : TE) : TE := fun σ H Q => t σ H fun v H1 => ∃ a xs, v = .ref a ∧ H1 a = some (.lst xs) ∧ ∀ o, Q v (upd H1 a (.frz o (.lst xs)))
theorem pe_frz {t : TE} (h : L2.PE X e t) : L2.PE X e (tFrz t) := ⟨fun pins s σ H Q I q => thn (h.run pins s σ H _ I q) fun v s1 ⟨x, H1, I1, r1, a, xs, e1, h1, q1⟩ => by
  obtain ⟨o, J⟩ := freezeL I1 h1
  exact ⟨x, _, J, r1, q1 o⟩⟩
theorem Ext.frz {H : Hp} {p : Addr} {o : Obj} {u w : HO} (h : H p = none) : Ext H (upd (upd H p u) p (.frz o w)) := by rw [upd_upd]; exact .new h
theorem q_lst (h : QA X es t) : QE X (.List es pos) (dLst t) :=
  PE.imp (pe_frz (pe_lst h)) fun σ H Q ⟨δ, S, P, rs, sr, h, fin⟩ => ⟨δ, S, _, rs, sr, h, fun ds S1 vs H1 ⟨h0, h1⟩ r1 s1 e1 => ⟨by rw [r1.length]; exact h0, fun p np => ⟨p, vs, rfl, upd_same, fun o => by
    rw [upd_upd]
    exact fin _ S1 _ _ h1 ⟨p, vs, rfl, .inl ⟨o, upd_same⟩, r1.ext (.new np)⟩ (s1.new np) (e1.trans (.new np))⟩⟩⟩
end

/-! ### subscripts, slices, calls, methods -/
section
variable {X : Cx} {a b c e o : Expr} {es : List Expr} {ta tb tc te to : DE} {t : DA} {pos apos cpos : Pos}
theorem q_ix {r : DR} (hr : IxD X r) (ha : QE X a ta) (hb : QE X b tb) (hs : PlainIx b := by exact fun _ _ => rfl) : QE X (.Subscript a b pos) (dOp r ta tb) := PE.imp (pe_ix hr ha hb hs) fun σ H Q h => l2_of h
abbrev DO := DSt → Sto → (Option Int → Sto → Prop) → Prop
def lO (K : PySem.W.Frag) (t : DO) : TO := fun σ H Q => ∃ δ S P, RS K H σ δ ∧ SR K H S ∧ t δ S P ∧ ∀ i S' H', P i S' → SR K H' S' → Ext H H' → Q i H'
theorem PO.imp {e : Option Expr} {t t' : TO} (h : L2.PO X e t) (f : ∀ σ H Q, t' σ H Q → t σ H Q) : L2.PO X e t' := ⟨fun pins s σ H Q I q => h.run pins s σ H Q I (f _ _ _ q)⟩
abbrev QO (X : Cx) (e : Option Expr) (t : DO) : Prop := L2.PO X e (lO X.K t)
def asI : D → (Int → Prop) → Prop
  | .int i, f => f i
  | _, _ => False
theorem asI_of {d : D} {f : Int → Prop} (h : asI d f) : ∃ b, d = .int b ∧ f b := by
  cases d <;> first | exact ⟨_, rfl, h⟩ | exact h.elim
def dNoPart : DO := fun _ S P => P none S
def dPart (t : DE) : DO := fun δ S P => t δ S fun d S1 => asI d fun i => P (some i) S1
theorem o_none : QO X none dNoPart := PO.imp po_none fun σ H Q ⟨δ, S, P, rs, sr, h, fin⟩ => fin _ S H h sr (.refl H)
theorem o_some (h : QE X e te) : QO X (some e) (dPart te) := PO.imp (po_some h) fun σ H Q ⟨δ, S, P, rs, sr, h, fin⟩ => ⟨δ, S, _, rs, sr, h, fun d S1 v H1 h1 r1 s1 e1 => by
  obtain ⟨i, rfl, q⟩ := asI_of h1
  exact ⟨i, r1, fin _ S1 H1 q s1 e1⟩⟩
def dSl (r : D → Option Int → Option Int → Sto → DK → Prop) (te : DE) (tl th : DO) : DE := fun δ S P => te δ S fun d S1 => tl δ S1 fun lo S2 => th δ S2 fun hi S3 => r d lo hi S3 P
theorem q_slice {lo hi : Option Expr} {p2 : Pos} {tl th : DO} {r : D → Option Int → Option Int → Sto → DK → Prop} (hr : SlD X r) (he : QE X e te) (hl : QO X lo tl) (hu : QO X hi th) : QE X (.Subscript e (.Slice lo hi none p2) pos) (dSl r te tl th) :=
  PE.imp (pe_slice hr he hl hu) fun σ H Q ⟨δ, S, P, rs, sr, h, fin⟩ => ⟨δ, S, _, rs, sr, h, fun d S1 v H1 h1 r1 s1 e1 => ⟨δ, S1, _, rs.ext e1, s1, h1, fun i S2 H2 h2 s2 e2 => ⟨δ, S2, _, rs.ext (e1.trans e2), s2, h2, fun j S3 H3 h3 s3 e3 =>
    ⟨d, S3, P, r1.ext (e2.trans e3), s3, h3, fin.ext (e1.trans (e2.trans e3))⟩⟩⟩⟩
def dCB (r : List D → Sto → DK → Prop) (t : DA) : DE := fun δ S P => t δ S fun ds S1 => r ds S1 P
theorem lC_of {r : List D → Sto → DK → Prop} {σ : L2.St} {H : Hp} {Q : VK} (h : lE X.K (dCB r t) σ H Q) : lA X.K t σ H fun vs H1 => lC X.K r vs H1 Q := by
  obtain ⟨δ, S, P, rs, sr, h, fin⟩ := h
  exact ⟨δ, S, _, rs, sr, h, fun ds S1 vs H1 h1 r1 s1 e1 => ⟨ds, S1, P, r1, s1, h1, fin.ext e1⟩⟩
theorem q_callB {x : Str} {id : String} {p : Pos} {r : List D → Sto → DK → Prop} (hc : CallD X (.builtin id) r) (hg : Gl X x) (hm : X.mg x = none) (hv : bootBuiltins x = some (.builtin id)) (ha : QA X (e :: es) t) (hn : x ≠ "__name__" := by decide) (hdb : (x == ("__debug__" : Str)) = false := by decide)
    (he : starEach (e :: es) X.env = (false, eval e X.env) :: starEach es X.env := by rfl) (hpl : (backTo pos (starEach es X.env)).any (·.1) = false := by rfl) : QE X (.Call (.Name x p) (e :: es) [] pos) (dCB r t) :=
  PE.imp (pe_callB hc hg hm hv ha hn hdb he hpl) fun σ H Q h => lC_of h
theorem q_callTy {x : Str} {T : String} {p : Pos} {r : List D → Sto → DK → Prop} (hc : CallD X (.type T) r) (hg : Gl X x) (hm : X.mg x = none) (hv : bootBuiltins x = some (.type T)) (ha : QA X (e :: es) t) (hn : x ≠ "__name__" := by decide) (hdb : (x == ("__debug__" : Str)) = false := by decide)
    (he : starEach (e :: es) X.env = (false, eval e X.env) :: starEach es X.env := by rfl) (hpl : (backTo pos (starEach es X.env)).any (·.1) = false := by rfl) : QE X (.Call (.Name x p) (e :: es) [] pos) (dCB r t) :=
  PE.imp (pe_callTy hc hg hm hv ha hn hdb he hpl) fun σ H Q h => lC_of h
/-- a method of a list that may change -/
def dMtL (r : D → List D → Sto → DK → Prop) (to : DE) (t : DA) : DE := fun δ S P => to δ S fun d S1 => (∃ a xs, d = .ref a ∧ S1 a = some (.lst xs)) ∧ t δ S1 fun ds S2 => r d ds S2 P
def dMt0 (r : D → List D → Sto → DK → Prop) (to : DE) : DE := fun δ S P => to δ S fun d S1 => (∃ a xs, d = .ref a ∧ S1 a = some (.lst xs)) ∧ r d [] S1 P
theorem q_mtL {id : String} {name : Str} {r : D → List D → Sto → DK → Prop} (slot : Slot "list" name id) (hty : typeOf (.builtin id) = pure (.type "method_descriptor")) (hm : MtD X id r) (ho : QE X o to) (ha : QA X (e :: es) t)
    (hbase : attributeBase o name X.env (eval o X.env) = eval o X.env := by rfl)
    (hfew : ((backTo cpos (starEach (e :: es) X.env)).all (fun x => !x.1) && (backToKw cpos (keywordEach [] X.env)).all (fun x => x.1.isSome)
      && decide ((e :: es).length + ([] : List Keyword).length + (if ([] : List Keyword).isEmpty then 0 else 1) < 30)) = true := by rfl)
    (hline : (apos.endLine == cpos.line) = true := by rfl) (hs : starEach (e :: es) X.env = (false, eval e X.env) :: starEach es X.env := by rfl) (hplain : (backTo cpos (starEach es X.env)).any (·.1) = false := by rfl) :
    QE X (.Call (.Attribute o name apos) (e :: es) [] cpos) (dMtL r to t) :=
  PE.imp (pe_bm PySem.F.plainAttrs_list slot hty hm ho ha hbase hfew hline hs hplain) fun σ H Q ⟨δ, S, P, rs, sr, h, fin⟩ => ⟨δ, S, _, rs, sr, h, fun d S1 v H1 ⟨⟨p, xs, e0, h0⟩, h1⟩ r1 s1 e1 => by
    subst e0
    cases r1
    obtain ⟨vs, hv, _⟩ := s1.lst h0
    exact ⟨.inl ⟨rfl, vs, .of hv⟩, δ, S1, _, rs.ext e1, s1, h1, fun ds S2 ws H2 h2 r2 s2 e2 => ⟨.ref p, ds, S2, P, rfl, r2, s2, h2, fin.ext (e1.trans e2)⟩⟩⟩
theorem q_mtL0 {id : String} {name : Str} {r : D → List D → Sto → DK → Prop} (slot : Slot "list" name id) (hty : typeOf (.builtin id) = pure (.type "method_descriptor")) (hm : MtD X id r) (ho : QE X o to)
    (hbase : attributeBase o name X.env (eval o X.env) = eval o X.env := by rfl) (hline : (apos.endLine == cpos.line) = true := by rfl) : QE X (.Call (.Attribute o name apos) [] [] cpos) (dMt0 r to) :=
  PE.imp (pe_bm0 PySem.F.plainAttrs_list slot hty hm ho hbase hline) fun σ H Q ⟨δ, S, P, rs, sr, h, fin⟩ => ⟨δ, S, _, rs, sr, h, fun d S1 v H1 ⟨⟨p, xs, e0, h0⟩, h1⟩ r1 s1 e1 => by
    subst e0
    cases r1
    obtain ⟨vs, hv, _⟩ := s1.lst h0
    exact ⟨.inl ⟨rfl, vs, .of hv⟩, .ref p, [], S1, P, rfl, rfl, s1, h1, fin.ext e1⟩⟩
/-- a method of a text -/
def asS : D → (Str → Prop) → Prop
  | .str z, f => f z
  | _, _ => False
theorem asS_of {d : D} {f : Str → Prop} (h : asS d f) : ∃ b, d = .str b ∧ f b := by
  cases d <;> first | exact ⟨_, rfl, h⟩ | exact h.elim
def dMtS (r : D → List D → Sto → DK → Prop) (to : DE) (t : DA) : DE := fun δ S P => to δ S fun d S1 => asS d fun _ => t δ S1 fun ds S2 => r d ds S2 P
def dMtS0 (r : D → List D → Sto → DK → Prop) (to : DE) : DE := fun δ S P => to δ S fun d S1 => asS d fun _ => r d [] S1 P
theorem q_mtS {id : String} {name : Str} {r : D → List D → Sto → DK → Prop} (slot : Slot "str" name id) (hty : typeOf (.builtin id) = pure (.type "method_descriptor")) (hm : MtD X id r) (ho : QE X o to) (ha : QA X (e :: es) t)
    (hbase : attributeBase o name X.env (eval o X.env) = eval o X.env := by rfl)
    (hfew : ((backTo cpos (starEach (e :: es) X.env)).all (fun x => !x.1) && (backToKw cpos (keywordEach [] X.env)).all (fun x => x.1.isSome)
      && decide ((e :: es).length + ([] : List Keyword).length + (if ([] : List Keyword).isEmpty then 0 else 1) < 30)) = true := by rfl)
    (hline : (apos.endLine == cpos.line) = true := by rfl) (hs : starEach (e :: es) X.env = (false, eval e X.env) :: starEach es X.env := by rfl) (hplain : (backTo cpos (starEach es X.env)).any (·.1) = false := by rfl) :
    QE X (.Call (.Attribute o name apos) (e :: es) [] cpos) (dMtS r to t) :=
  PE.imp (pe_bm PySem.F.plainAttrs_str slot hty hm ho ha hbase hfew hline hs hplain) fun σ H Q ⟨δ, S, P, rs, sr, h, fin⟩ => ⟨δ, S, _, rs, sr, h, fun d S1 v H1 h1 r1 s1 e1 => by
    obtain ⟨z, rfl, h1⟩ := asS_of h1
    cases r1
    exact ⟨rfl, δ, S1, _, rs.ext e1, s1, h1, fun ds S2 ws H2 h2 r2 s2 e2 => ⟨.str z, ds, S2, P, rfl, r2, s2, h2, fin.ext (e1.trans e2)⟩⟩⟩
theorem q_mtS0 {id : String} {name : Str} {r : D → List D → Sto → DK → Prop} (slot : Slot "str" name id) (hty : typeOf (.builtin id) = pure (.type "method_descriptor")) (hm : MtD X id r) (ho : QE X o to)
    (hbase : attributeBase o name X.env (eval o X.env) = eval o X.env := by rfl) (hline : (apos.endLine == cpos.line) = true := by rfl) : QE X (.Call (.Attribute o name apos) [] [] cpos) (dMtS0 r to) :=
  PE.imp (pe_bm0 PySem.F.plainAttrs_str slot hty hm ho hbase hline) fun σ H Q ⟨δ, S, P, rs, sr, h, fin⟩ => ⟨δ, S, _, rs, sr, h, fun d S1 v H1 h1 r1 s1 e1 => by
    obtain ⟨z, rfl, h1⟩ := asS_of h1
    cases r1
    exact ⟨rfl, .str z, [], S1, P, rfl, rfl, s1, h1, fin.ext e1⟩⟩
end

/-! ### defs -/
abbrev DSp := List D → Sto → DK → Prop
section
variable {X : Cx} {CX : CXT} {k : Nat} {f : Addr} {fd : FuncData} {ps : List Str} {sp : DSp} {E : XK} {x : Str} {p pos : Pos} {e : Expr} {es : List Expr} {t : DA}
/-- a def keeps its promise, told in trees; no repr is under way -/
structure FnD (P : Program) (w : World) (K : PySem.W.Frag) (mg : Str → Option Value) (base : Heap) (k : Nat) (f : Addr) (fd : FuncData) (ps : List Str) (sp : DSp) : Prop where
  len : ∀ ds S P', sp ds S P' → ds.length = ps.length
  run : ∀ (A : Around) (outer : List Env) (s : Shared) (H : Hp) (args : Args) (us : List Value) (vs : List V) (Q : VK), Room k A → A.guards = some [] → Env0 P w K mg base A outer s H → BindsTo s fd args (ps.zip us) → Vals vs us →
    (∃ ds S P', RpA K H ds vs ∧ SR K H S ∧ sp ds S P' ∧ Fin K H P' Q) → codeAny (model P w) A (.call (.ref f) args) (CR CX0 outer P w H s Q E0) s
theorem FnD.mono {P : Program} {w : World} {K : PySem.W.Frag} {mg : Str → Option Value} {base : Heap} {j k : Nat} {f : Addr} {fd : FuncData} {ps : List Str} {sp : DSp} (F : FnD P w K mg base j f fd ps sp) (h : j ≤ k) : FnD P w K mg base k f fd ps sp :=
  ⟨F.len, fun A outer s H args us vs Q hr => F.run A outer s H args us vs Q (hr.mono h)⟩
theorem FnD.imp {P : Program} {w : World} {K : PySem.W.Frag} {mg : Str → Option Value} {base : Heap} {k : Nat} {f : Addr} {fd : FuncData} {ps : List Str} {sp sp' : DSp} (F : FnD P w K mg base k f fd ps sp) (h : ∀ ds S P', sp' ds S P' → sp ds S P') : FnD P w K mg base k f fd ps sp' :=
  ⟨fun ds S P' q => F.len ds S P' (h _ _ _ q), fun A outer s H args us vs Q hr hg he hb hv ⟨ds, S, P', a, b, c, d⟩ => F.run A outer s H args us vs Q hr hg he hb hv ⟨ds, S, P', a, b, h _ _ _ c, d⟩⟩
theorem q_call (F : FnD X.prog X.w X.K X.mg X.base k f fd ps sp) (hr : Room k X.A) (hgd : X.A.guards = some []) (hg : Gl X x) (hm : X.mg x = some (.ref f)) (hk : PySem.W.keepIn X.K (.ref f) = true) (hb : Binds X.K fd ps [])
    (ha : QA X (e :: es) t) (hdb : (x == ("__debug__" : Str)) = false := by decide) (he : starEach (e :: es) X.env = (false, eval e X.env) :: starEach es X.env := by rfl) (hpl : (backTo pos (starEach es X.env)).any (·.1) = false := by rfl) :
    QE X (.Call (.Name x p) (e :: es) [] pos) (dCB sp t) := by
  refine ⟨fun pins s σ H Q I ⟨δ, S, P, rs, sr, h, fin⟩ => wpAny_Call_Name_kw (ld_glob I hg hm ?_ hdb)⟩
  refine PySem.W.callWith_K (h₀ := X.base) I.ok.mod.kin hk ?_ he hpl
  refine thn (ha.run pos pins s σ H (fun vs H1 => ∃ ds S1, RpA X.K H1 ds vs ∧ SR X.K H1 S1 ∧ sp ds S1 P ∧ Fin X.K H1 P Q) I ⟨δ, S, _, rs, sr, h, fun ds S1 vs H1 h1 r1 s1 e1 => ⟨ds, S1, r1, s1, h1, fin.ext e1⟩⟩) fun us s1 ⟨vs, H1, I1, r, ds, S1, r1, s2, q, fin1⟩ => ⟨I1.kIn, ?_⟩
  have hl : us.length = ps.length := by rw [← r.length, r1.length]; exact F.len _ _ _ q
  have hb' : BindsTo s1 fd ⟨us, []⟩ (ps.zip us) := by have z := hb s1 us I1.kIn (by simpa using hl); rw [List.append_nil] at z; exact z
  refine wpAny_call (codeAny_mono (F.run X.A X.stack s1 H1 ⟨us, []⟩ us vs Q hr hgd I1.env0 hb' r ⟨ds, S1, P, r1, s2, q, fin1⟩) fun r s' hq => ?_)
  cases r with
  | error e => exact False.elim hq
  | ok fl => cases fl with
    | ret u => exact I1.after hq
    | _ => exact False.elim hq
end
end DL
set_option Elab.async false
set_option linter.all false
set_option maxRecDepth 100000
set_option maxHeartbeats 1000000
namespace DL
open PySem PySem.Spec PyProof.Rows L2

/-! ### statements -/
def dNext : DS := fun E δ S => E.nx δ S
def dSeq (t u : DS) : DS := fun E δ S => t { E with nx := u E } δ S
def dDrop (t : DE) : DS := fun E δ S => t δ S fun _ S1 => E.nx δ S1
def dRet (t : DE) : DS := fun E δ S => t δ S E.rt
def dRetN : DS := fun E _ S => E.rt .non S
def dIfS (c : DT) (t u : DS) : DS := fun E δ S => c δ S fun b S1 => bif b then t E δ S1 else u E δ S1
def dCont : DS := fun E δ S => E.ct δ S
def dBreak : DS := fun E δ S => E.bk δ S
def dSet (i : Nat) (t : DE) : DS := fun E δ S => t δ S fun d S1 => E.nx (δ.set i (some d)) S1
def setAll (δ : DSt) : List Nat → List D → DSt
  | i :: is, d :: ds => setAll (δ.set i (some d)) is ds
  | _, _ => δ
def setAllV (σ : L2.St) : List Nat → List V → L2.St
  | i :: is, d :: ds => setAllV (σ.set i (some d)) is ds
  | _, _ => σ
abbrev DG := D → DSt → Sto → (DSt → Sto → Prop) → Prop
def gN (i : Nat) : DG := fun d δ S P => P (δ.set i (some d)) S
/-- a tuple (a list) of so many -/
def gT (is : List Nat) : DG := fun d δ S P => match d with
  | .tup ds => ds.length = is.length ∧ P (setAll δ is ds) S
  | .lst ds => ds.length = is.length ∧ P (setAll δ is ds) S
  | _ => False
def dAsg (t : DE) (g : DG) : DS := fun E δ S => t δ S fun d S1 => g d δ S1 E.nx
def dPar (i j : Nat) (t : DA) : DS := fun E δ S => t δ S fun ds S1 => match ds with
  | [d, e] => E.nx ((δ.set i (some d)).set j (some e)) S1
  | _ => False
/-- o[i] = v, o a list that changes -/
def setD (o i v : D) (S : Sto) (P : Sto → Prop) : Prop := match o, i with
  | .ref a, .int k => match S a with
    | some (.lst xs) => match ixN xs.length k with
      | some j => P (sup S a (.lst (xs.set j v)))
      | none => False
    | _ => False
  | _, _ => False
theorem setD_of {o i v : D} {S : Sto} {P : Sto → Prop} (h : setD o i v S P) : ∃ a k xs j, o = .ref a ∧ i = .int k ∧ S a = some (.lst xs) ∧ ixN xs.length k = some j ∧ P (sup S a (.lst (xs.set j v))) := by
  unfold setD at h
  split at h
  · split at h
    · split at h
      · exact ⟨_, _, _, _, rfl, rfl, by assumption, by assumption, h⟩
      · exact h.elim
    · exact h.elim
  · exact h.elim
def dSetI (tv to ti : DE) : DS := fun E δ S => tv δ S fun v S1 => to δ S1 fun o S2 => ti δ S2 fun i S3 => setD o i v S3 fun S4 => E.nx δ S4
abbrev DI := DSt → Sto → (List D → Sto → Prop) → Prop
def forB (g : DG) (tb : DS) (E : DEnds) (δ : DSt) (ds : List D) (S : Sto) : Prop := ∃ Inv : Nat → DSt → Sto → Prop, Inv 0 δ S ∧
  (∀ i d δ' S', ds[i]? = some d → Inv i δ' S' → g d δ' S' fun δ2 S2 => tb { nx := Inv (i + 1), ct := Inv (i + 1), rt := E.rt, bk := E.nx } δ2 S2) ∧
  ∀ δ' S', Inv ds.length δ' S' → E.nx δ' S'
def dFor (t : DI) (g : DG) (tb : DS) : DS := fun E δ S => t δ S fun ds S1 => forB g tb E δ ds S1
def dWhile (c : DT) (tb : DS) : DS := fun E δ S => ∃ Inv : Nat → DSt → Sto → Prop, (∃ m, Inv m δ S) ∧ ∀ m δ' S', Inv m δ' S' →
  c δ' S' fun b S1 => bif b then tb { nx := fun δ2 S2 => ∃ m', m' < m ∧ Inv m' δ2 S2, ct := fun δ2 S2 => ∃ m', m' < m ∧ Inv m' δ2 S2, rt := E.rt, bk := E.nx } δ' S1 else E.nx δ' S1
def dwipe (δ : DSt) : List Nat → DSt
  | [] => δ
  | v :: vs => (dwipe δ vs).set v none
def sdel (S : Sto) (p : Addr) : Sto := fun b => if b = p then none else S b
theorem sdel_sup {S : Sto} {p : Addr} {o : SO} (h : S p = none) : sdel (sup S p o) p = S := by
  funext b; unfold sdel sup
  by_cases e : b = p
  · subst e; rw [if_pos rfl]; exact h.symm
  · rw [if_neg e, if_neg e]
/-- a list comprehension: the list stands at p meanwhile -/
def lcB (g : DG) (tt : DT) (te : DE) (vs : List Nat) (δ : DSt) (ds : List D) (S1 : Sto) (P : DK) : Prop := ∀ p, S1 p = none → ∃ Inv : Nat → List D → Sto → Prop, Inv 0 [] (sup S1 p (.lst [])) ∧
  (∀ i acc S', Inv i acc S' → S' p = some (.lst acc)) ∧
  (∀ i d acc S', ds[i]? = some d → Inv i acc S' → g d (dwipe δ vs) S' fun δ2 S2 => tt δ2 S2 fun b S3 =>
    bif b then te δ2 S3 fun y S4 => S4 p = some (.lst acc) ∧ acc.length < sizeLine ∧ Inv (i + 1) (acc ++ [y]) (sup S4 p (.lst (acc ++ [y]))) else Inv (i + 1) acc S3) ∧
  ∀ acc S', Inv ds.length acc S' → P (.lst acc) (sdel S' p)
def dLc (t : DI) (g : DG) (tt : DT) (te : DE) (vs : List Nat) : DE := fun δ S P => t δ S fun ds S1 => lcB g tt te vs δ ds S1 P

section
variable {X : Cx} {st : Stmt} {rest : List Stmt} {t u : DS} {e : Expr} {te : DE} {pos : Pos}
theorem ss_nil : QSs X [] dNext := PSs.imp pss_nil fun D σ H ⟨δ, S, P, rs, sr, h, fin⟩ => fin.nx δ S σ H h rs sr (.refl H)
theorem EndF.seq {K : PySem.W.Frag} {H : Hp} {P : DEnds} {D : Ends} {u : DS} (f : EndF K H P D) : EndF K H { P with nx := u P } { D with nx := lS K u D } :=
  ⟨fun δ S σ H' h rs sr e => ⟨δ, S, P, rs, sr, h, f.ext e⟩, f.rt, f.bk, f.ct⟩
theorem ss_cons (h1 : QS X st t) (h2 : QSs X rest u) : QSs X (st :: rest) (dSeq t u) := PSs.imp (pss_cons h1 h2) fun D σ H ⟨δ, S, P, rs, sr, h, fin⟩ => ⟨δ, S, { P with nx := u P }, rs, sr, h, fin.seq⟩
theorem ss_one (h1 : QS X st t) : QSs X [st] t := pss_one h1
theorem s_expr (he : QE X e te) (hs : swapsWith e none pos.line X.env = pure false := by rfl) : QS X (.Expr e pos) (dDrop te) :=
  PS.imp (ps_expr he hs) fun D σ H ⟨δ, S, P, rs, sr, h, fin⟩ => ⟨δ, S, _, rs, sr, h, fun d S1 v H1 h1 r1 s1 e1 => fin.nx δ S1 σ H1 h1 (rs.ext e1) s1 e1⟩
theorem s_ret (he : QE X e te) : QS X (.Return (some e) pos) (dRet te) := PS.imp (ps_ret he) fun D σ H ⟨δ, S, P, rs, sr, h, fin⟩ => ⟨δ, S, _, rs, sr, h, fin.rt⟩
theorem s_retN : QS X (.Return none pos) dRetN := PS.imp ps_retN fun D σ H ⟨δ, S, P, rs, sr, h, fin⟩ => fin.rt .non S .non H h rfl sr (.refl H)
theorem s_cont : QS X (.Continue pos) dCont := PS.imp ps_continue fun D σ H ⟨δ, S, P, rs, sr, h, fin⟩ => fin.ct δ S σ H h rs sr (.refl H)
theorem s_break : QS X (.Break pos) dBreak := PS.imp ps_break fun D σ H ⟨δ, S, P, rs, sr, h, fin⟩ => fin.bk δ S σ H h rs sr (.refl H)
theorem s_if {c : Expr} {a b : List Stmt} {tc : DT} (hc : QT X c tc) (ha : QSs X a t) (hb : QSs X b u) : QS X (.If c a b pos) (dIfS tc t u) :=
  PS.imp (ps_if hc ha hb) fun D σ H ⟨δ, S, P, rs, sr, h, fin⟩ => ⟨δ, S, _, rs, sr, h, fun k S1 H1 q s1 e1 => by
    rw [bif_if] at q
    split
    · rename_i hc; rw [if_pos hc] at q; exact ⟨δ, S1, P, rs.ext e1, s1, q, fin.ext e1⟩
    · rename_i hc; rw [if_neg hc] at q; exact ⟨δ, S1, P, rs.ext e1, s1, q, fin.ext e1⟩⟩
theorem s_set (i : Nat) {x : Str} {pos' : Pos} (hN : X.N.Nodup) (he : QE X e te) (hi : X.N[i]? = some x := by rfl) (hx : Loc X.env.scope x := by first | exact Or.inl rfl | exact Or.inr rfl) (hs : swapsWith e (some (.Name x pos')) pos.line X.env = pure false := by rfl)
    (hf : X.fn x = true ∨ X.env.scope.names.lookup x = some .local := by first | exact .inl rfl | exact .inr rfl | assumption) : QS X (.Assign [.Name x pos'] e pos) (dSet i te) :=
  PS.imp (ps_set hN hi hx he hs hf) fun D σ H ⟨δ, S, P, rs, sr, h, fin⟩ => ⟨δ, S, _, rs, sr, h, fun d S1 v H1 h1 r1 s1 e1 => fin.nx _ S1 _ H1 h1 ((rs.ext e1).set r1) s1 e1⟩
/-! targets -/
def lG (K : PySem.W.Frag) (g : DG) : TG := fun v σ H Q => ∃ d δ S P, Rp K H d v ∧ RS K H σ δ ∧ SR K H S ∧ g d δ S P ∧ NxF K H P Q
theorem PG.imp {e : Expr} {t t' : TG} (h : L2.PG X e t) (f : ∀ v σ H Q, t' v σ H Q → t v σ H Q) : L2.PG X e t' := ⟨fun pins s σ H v u Q I r q => h.run pins s σ H v u Q I r (f _ _ _ _ q)⟩
theorem PGs.imp {e : List Expr} {t t' : TGs} (h : L2.PGs X e t) (f : ∀ v σ H Q, t' v σ H Q → t v σ H Q) : L2.PGs X e t' := ⟨fun pins s σ H v u Q I r q => h.run pins s σ H v u Q I r (f _ _ _ _ q)⟩
abbrev QG (X : Cx) (e : Expr) (g : DG) : Prop := L2.PG X e (lG X.K g)
theorem g_name (i : Nat) {x : Str} (hN : X.N.Nodup) (hi : X.N[i]? = some x := by rfl) (hx : Loc X.env.scope x := by first | exact Or.inl rfl | exact Or.inr rfl) (hf : X.fn x = true ∨ X.env.scope.names.lookup x = some .local := by first | exact .inl rfl | exact .inr rfl | assumption) : QG X (.Name x pos) (gN i) :=
  PG.imp (pg_name hN hi hx hf) fun v σ H Q ⟨d, δ, S, P, r, rs, sr, h, fin⟩ => fin _ S _ H h (rs.set r) sr (.refl H)
def gAll (is : List Nat) : TGs := fun vs σ H Q => vs.length = is.length ∧ Q (setAllV σ is vs) H
theorem gs_nil : L2.PGs X [] (gAll []) := PGs.imp pgs_nil fun vs σ H Q ⟨h, q⟩ => by
  cases vs with
  | nil => exact ⟨rfl, q⟩
  | cons a b => cases h
theorem gs_cons (i : Nat) {x : Str} {es : List Expr} {is : List Nat} {p : Pos} (hN : X.N.Nodup) (h2 : L2.PGs X es (gAll is)) (hi : X.N[i]? = some x := by rfl) (hx : Loc X.env.scope x := by first | exact Or.inl rfl | exact Or.inr rfl) (hf : X.fn x = true ∨ X.env.scope.names.lookup x = some .local := by first | exact .inl rfl | exact .inr rfl | assumption)
    (hs : (assignEach (.Name x p :: es) X.env).map (·.2) = assign (.Name x p) X.env :: (assignEach es X.env).map (·.2) := by rfl) : L2.PGs X (.Name x p :: es) (gAll (i :: is)) :=
  PGs.imp (pgs_cons (pg_name hN hi hx hf) h2 hs) fun vs σ H Q ⟨h, q⟩ => by
    cases vs with
    | nil => cases h
    | cons a b => exact ⟨a, b, rfl, Nat.succ.inj h, q⟩
theorem RS.setAll {K : PySem.W.Frag} {H : Hp} : ∀ {is : List Nat} {ds : List D} {vs : List V} {σ : L2.St} {δ : DSt}, RS K H σ δ → RpA K H ds vs → RS K H (setAllV σ is vs) (DL.setAll δ is ds)
  | [], _, _, _, _, h, r => by unfold setAllV DL.setAll; exact h
  | _ :: _, [], _, _, _, h, r => by cases r; exact h
  | i :: is, d :: ds, _, _, _, h, ⟨v, ws, e, h1, h2⟩ => by subst e; exact RS.setAll (is := is) (h.set h1) h2
theorem g_tup {es : List Expr} {k : Nat} {is : List Nat} (hc : X.calm = true) (h : L2.PGs X es (gAll is)) (hn : (assignEach es X.env).length = is.length := by rfl) (hst : (assignEach es X.env).findIdx? (·.1) = none := by rfl) : QG X (.Tuple es k pos) (gT is) := by
  have a := pg_tup (k := k) (pos := pos) hc h hn hst
  have b := pg_unl (k := k) (pos := pos) hc h hn hst
  refine ⟨fun pins s σ H v u Q I r ⟨d, δ, S, P, rp, rs, sr, q, fin⟩ => ?_⟩
  cases d with
  | tup ds =>
    obtain ⟨p, vs, rfl, hq, r2⟩ := rp
    obtain ⟨hl, q⟩ := q
    exact a.run pins s σ H _ u Q I r ⟨p, vs, rfl, hq, by rw [r2.length, hl], by rw [r2.length, hl], fin _ S _ H q (rs.setAll r2) sr (.refl H)⟩
  | lst ds =>
    obtain ⟨p, vs, rfl, hq, r2⟩ := rp
    obtain ⟨hl, q⟩ := q
    exact b.run pins s σ H _ u Q I r ⟨p, vs, rfl, hq.sq, by rw [r2.length, hl], by rw [r2.length, hl], fin _ S _ H q (rs.setAll r2) sr (.refl H)⟩
  | _ => exact q.elim
theorem s_asg {tg : Expr} {g : DG} (he : QE X e te) (hg : QG X tg g) (hs : swapsWithSole [tg] e pos.line X.env = pure false := by rfl) (hw : swappedStores [tg] e X.env = pure none := by rfl)
    (h1 : (assignEach [tg] X.env).map (·.2) = [assign tg X.env] := by rfl) : QS X (.Assign [tg] e pos) (dAsg te g) :=
  PS.imp (ps_asg he hg hs hw h1) fun D σ H ⟨δ, S, P, rs, sr, h, fin⟩ => ⟨δ, S, _, rs, sr, h, fun d S1 v H1 q r1 s1 e1 => ⟨d, δ, S1, P.nx, r1, rs.ext e1, s1, q, fin.nx.ext e1⟩⟩
theorem s_par (i j : Nat) {x y : Str} {a b : Expr} {ta : DA} {px py pt : Pos} {kt k2 pt2} (hc : X.calm = true) (hN : X.N.Nodup) (ha : QA X [a, b] ta)
    (hw : swappedStores [.Tuple [.Name x px, .Name y py] kt pt] (.Tuple [a, b] k2 pt2) X.env = pure (some [x, y]) := by rfl) (hi : X.N[i]? = some x := by rfl) (hj : X.N[j]? = some y := by rfl) (hij : i ≠ j := by decide)
    (hx : X.env.scope.names.lookup x = some .local := by rfl) (hy : X.env.scope.names.lookup y = some .local := by rfl)
    (hs : swapsWithSole [.Tuple [.Name x px, .Name y py] kt pt] (.Tuple [a, b] k2 pt2) pos.line X.env = pure false := by rfl) :
    QS X (.Assign [.Tuple [.Name x px, .Name y py] kt pt] (.Tuple [a, b] k2 pt2) pos) (dPar i j ta) :=
  PS.imp (ps_par hc hN hi hj hij hx hy ha hw hs) fun D σ H ⟨δ, S, P, rs, sr, h, fin⟩ => ⟨δ, S, _, rs, sr, h, fun ds S1 vs H1 q r1 s1 e1 => by
    match ds, q, r1 with
    | [d, e], q, ⟨v, _, h4, r2, w, _, h5, r3, h6⟩ =>
      subst h6
      subst h5
      subst h4
      exact ⟨v, w, rfl, fin.nx _ S1 _ H1 q (((rs.ext e1).set r2).set r3) s1 e1⟩⟩
theorem s_setI {o i v : Expr} {to ti tv : DE} {p : Pos} (hv : QE X v tv) (ho : QE X o to) (hi : QE X i ti)
    (ha : ∀ v, assign (.Subscript o i p) X.env v = (do
      let ov ← holding [v] (eval o X.env)
      let iv ← holding [v, ov] (eval i X.env)
      standAt p
      holding [v, ov, iv] (setItem ov iv v)
      release [v, ov, iv] []) := by intro _; rfl)
    (hs : swapsWithSole [.Subscript o i p] v pos.line X.env = pure false := by rfl) (hw : swappedStores [.Subscript o i p] v X.env = pure none := by rfl)
    (h1 : (assignEach [.Subscript o i p] X.env).map (·.2) = [assign (.Subscript o i p) X.env] := by rfl) : QS X (.Assign [.Subscript o i p] v pos) (dSetI tv to ti) :=
  PS.imp (ps_asg hv (pg_sub ho hi set_list ha) hs hw h1) fun D σ H ⟨δ, S, P, rs, sr, h, fin⟩ => ⟨δ, S, _, rs, sr, h, fun d S1 v H1 q r1 s1 e1 => ⟨δ, S1, _, rs.ext e1, s1, q, fun o S2 ov H2 q2 r2 s2 e2 =>
    ⟨δ, S2, _, rs.ext (e1.trans e2), s2, q2, fun i S3 iv H3 q3 r3 s3 e3 => by
      obtain ⟨a, k, xs, j, rfl, rfl, hS, hj, q3⟩ := setD_of q3
      cases r2
      cases r3
      obtain ⟨vs, hv, r4⟩ := s3.lst hS
      refine ⟨a, vs, k, j, rfl, rfl, hv, by rw [r4.length]; exact hj, ?_⟩
      have x : Ext H3 (upd H3 a (.lst (vs.set j v))) := .mutL hv
      exact fin.nx δ _ σ _ q3 (rs.ext (e1.trans (e2.trans (e3.trans x)))) (s3.mut hS ((r4.set j (r1.ext (e2.trans e3))))) (e1.trans (e2.trans (e3.trans x)))⟩⟩⟩
end

/-! ### what is walked -/
structure ItOk (K : PySem.W.Frag) (J : It) (ds : List D) (H0 : Hp) : Prop where
  go : ∀ i d H, Ext H0 H → ds[i]? = some d → J.go i H ∧ ∀ x H', J.yld i H x H' → Ext H H' ∧ Rp K H' d x ∧ ∀ S, SR K H S → SR K H' S
  stop : ∀ i H, Ext H0 H → ds.length ≤ i → J.stop i H
def lI (K : PySem.W.Frag) (t : DI) : TI := fun σ H R => ∃ δ S P, RS K H σ δ ∧ SR K H S ∧ t δ S P ∧ ∀ ds S' J H', P ds S' → SR K H' S' → Ext H H' → ItOk K J ds H' → R J H'
section
variable {X : Cx} {tg iter : Expr} {pos : Pos}
theorem PI.imp {t t' : TI} (h : L2.PI X tg iter t) (f : ∀ σ H Q, t' σ H Q → t σ H Q) : L2.PI X tg iter t' := ⟨fun pins s σ H Q I q => h.run pins s σ H Q I (f _ _ _ q)⟩
abbrev QI (X : Cx) (tg iter : Expr) (t : DI) : Prop := L2.PI X tg iter (lI X.K t)
theorem s_for {body : List Stmt} {t : DI} {g : DG} {tb : DS} (hp : PassesOwn (model X.prog X.w) X.A X.env X.xe) (hc : X.calm = true) (hi : QI X tg iter t) (hg : QG X tg g) (hb : QSs X body tb)
    (hs : ∀ x, foldedSetIterable iter X.env x = pure x := by intro _; rfl) : QS X (.For tg iter body [] pos) (dFor t g tb) :=
  PS.imp (ps_for hp hc hi hg hb hs) fun D σ H ⟨δ, S, P, rs, sr, h, fin⟩ => ⟨δ, S, _, rs, sr, h, fun ds S1 J H1 ⟨Iv, i0, turn, last⟩ s1 e1 it => by
    refine ⟨fun i m σ' H' => m = ds.length - i ∧ i ≤ ds.length ∧ Ext H1 H' ∧ ∃ δ' S', RS X.K H' σ' δ' ∧ SR X.K H' S' ∧ Iv i δ' S', ⟨_, rfl, Nat.zero_le _, .refl _, δ, S1, rs.ext e1, s1, i0⟩, ?_⟩
    rintro i m σ' H' ⟨rfl, hi, e2, δ', S', rs2, sr2, iv⟩
    by_cases hlt : i < ds.length
    · obtain ⟨d, hd⟩ : ∃ d, ds[i]? = some d := ⟨_, List.getElem?_eq_getElem hlt⟩
      obtain ⟨g1, g2⟩ := it.go i d H' e2 hd
      refine .inr ⟨g1, fun σ2 H2 => Ext H1 H2 ∧ ∃ δ' S', RS X.K H2 σ2 δ' ∧ SR X.K H2 S' ∧ Iv (i + 1) δ' S', fun σ2 H2 ⟨x1, x2⟩ => ⟨ds.length - (i + 1), by omega, rfl, hlt, x1, x2⟩, fun x H2 y => ?_⟩
      obtain ⟨y1, y2, y3⟩ := g2 x H2 y
      have q := turn i d δ' S' hd iv
      refine ⟨d, δ', S', _, y2, rs2.ext y1, y3 _ sr2, q, fun δ3 S3 σ3 H3 q3 rs3 sr3 e3 => ⟨δ3, S3, _, rs3, sr3, q3, ?_⟩⟩
      have e4 := e2.trans (y1.trans e3)
      have nx : NxF X.K H3 (Iv (i + 1)) fun σ2 H2 => Ext H1 H2 ∧ ∃ δ' S', RS X.K H2 σ2 δ' ∧ SR X.K H2 S' ∧ Iv (i + 1) δ' S' := fun δ5 S5 σ5 H5 q5 rs5 sr5 e5 => ⟨e4.trans e5, δ5, S5, rs5, sr5, q5⟩
      exact ⟨nx, (fin.ext (e1.trans e4)).rt, (fin.ext (e1.trans e4)).nx, nx⟩
    · have : i = ds.length := by omega
      subst this
      exact .inl ⟨it.stop _ H' e2 (Nat.le_refl _), fin.nx δ' S' σ' H' (last δ' S' iv) rs2 sr2 (e1.trans e2)⟩⟩
theorem s_while {c : Expr} {body : List Stmt} {tc : DT} {tb : DS} (hp : PassesOwn (model X.prog X.w) X.A X.env X.xe) (hc : QT X c tc) (hb : QSs X body tb) : QS X (.While c body [] pos) (dWhile tc tb) :=
  PS.imp (ps_while hp hc hb) fun D σ H ⟨δ, S, P, rs, sr, ⟨Iv, ⟨m0, i0⟩, turn⟩, fin⟩ => by
    refine ⟨fun m σ' H' => Ext H H' ∧ ∃ δ' S', RS X.K H' σ' δ' ∧ SR X.K H' S' ∧ Iv m δ' S', ⟨m0, .refl _, δ, S, rs, sr, i0⟩, ?_⟩
    rintro m σ' H' ⟨e1, δ', S', rs1, sr1, iv⟩
    refine ⟨δ', S', _, rs1, sr1, turn m δ' S' iv, fun b S2 H2 q2 s2 e2 => ?_⟩
    rw [bif_if] at q2
    split
    · rename_i hb
      rw [if_pos hb] at q2
      have nx : NxF X.K H2 (fun δ2 S2 => ∃ m', m' < m ∧ Iv m' δ2 S2) fun σ2 H2 => ∃ m', m' < m ∧ Ext H H2 ∧ ∃ δ' S', RS X.K H2 σ2 δ' ∧ SR X.K H2 S' ∧ Iv m' δ' S' := fun δ5 S5 σ5 H5 ⟨m', l, q5⟩ rs5 sr5 e5 => ⟨m', l, e1.trans (e2.trans e5), δ5, S5, rs5, sr5, q5⟩
      exact ⟨fun σ2 H2 => ∃ m', m' < m ∧ Ext H H2 ∧ ∃ δ' S', RS X.K H2 σ2 δ' ∧ SR X.K H2 S' ∧ Iv m' δ' S', fun σ2 H2 z => z, δ', S2, _, rs1.ext e2, s2, q2, ⟨nx, (fin.ext (e1.trans e2)).rt, (fin.ext (e1.trans e2)).nx, nx⟩⟩
    · rename_i hb
      rw [if_neg hb] at q2
      exact fin.nx δ' S2 σ' H2 q2 (rs1.ext e2) s2 (e1.trans e2)
end
end DL
set_option Elab.async false
set_option linter.all false
set_option maxRecDepth 100000
set_option maxHeartbeats 1000000
namespace DL
open PySem PySem.Spec PyProof.Rows L2

section
variable {X : Cx} {tg iter : Expr} {pos : Pos} {te : DE} {t : DA}
theorem ItOk.tup {K : PySem.W.Frag} {H : Hp} {a : Addr} {vs : List V} {ds : List D} (h : SqT K H a vs) (r : RpA K H ds vs) : ItOk K (Itt K a) ds H where
  go := fun i d H' e hd => by
    obtain ⟨v, hv, rv⟩ := r.get hd
    exact ⟨⟨vs, v, e.sqT h, hv⟩, fun x H2 ⟨e1, y⟩ => by subst e1; cases Option.some.inj ((y vs (e.sqT h)).symm.trans hv); exact ⟨.refl _, rv.ext e, fun S s => s⟩⟩
  stop := fun i H' e hi => ⟨vs, e.sqT h, by rw [r.length]; exact hi⟩
theorem ItOk.lst {K : PySem.W.Frag} {H : Hp} {a : Addr} {vs : List V} {ds : List D} (h : SqF K H a vs) (r : RpA K H ds vs) : ItOk K (Itl K a) ds H where
  go := fun i d H' e hd => by
    obtain ⟨v, hv, rv⟩ := r.get hd
    exact ⟨⟨vs, v, (e.sqF h).sq, hv⟩, fun x H2 ⟨e1, y⟩ => by subst e1; cases Option.some.inj ((y vs ((e.sqF h).sq)).symm.trans hv); exact ⟨.refl _, rv.ext e, fun S s => s⟩⟩
  stop := fun i H' e hi => ⟨vs, (e.sqF h).sq, by rw [r.length]; exact hi⟩
theorem PI.or {t t' : TI} (h : L2.PI X tg iter t) (h' : L2.PI X tg iter t') : L2.PI X tg iter (fun σ H R => t σ H R ∨ t' σ H R) := ⟨fun pins s σ H R I q => q.elim (h.run pins s σ H R I) (h'.run pins s σ H R I)⟩
def iota (lo : Int) (n : Nat) : List D := (List.range n).map fun i => .int (lo + (i : Nat))
theorem ItOk.rng {K : PySem.W.Frag} {H : Hp} {lo : Int} {n : Nat} : ItOk K (Itr lo n) (iota lo n) H where
  go := fun i d H' e hd => by
    unfold iota at hd
    rw [List.getElem?_map] at hd
    by_cases hi : i < n
    · rw [List.getElem?_range hi] at hd
      cases hd
      exact ⟨hi, fun x H2 ⟨e1, y⟩ => by subst e1; subst y; exact ⟨.refl _, rfl, fun S s => s⟩⟩
    · rw [List.getElem?_eq_none (by simpa using hi)] at hd; cases hd
  stop := fun i H' e hi => (show n ≤ i by simpa [iota] using hi)
def revInts (lo : Int) (n : Nat) : List D := (List.range n).map fun i => .int (lo + (i : Nat) * (-1))
theorem ItOk.rngC {K : PySem.W.Frag} {H : Hp} {lo : Int} {n : Nat} : ItOk K (Itc lo (-1) n) (revInts lo n) H where
  go := fun i d H' e hd => by
    unfold revInts at hd
    rw [List.getElem?_map] at hd
    by_cases hi : i < n
    · rw [List.getElem?_range hi] at hd
      cases hd
      exact ⟨hi, fun x H2 ⟨e1, y⟩ => by subst e1; subst y; exact ⟨.refl _, rfl, fun S s => s⟩⟩
    · rw [List.getElem?_eq_none (by simpa using hi)] at hd; cases hd
  stop := fun i H' e hi => (show n ≤ i by simpa [revInts] using hi)
def signs (z : Str) : List D := z.cps.toList.map fun c => .str ⟨#[c]⟩
/-- over a tuple, a list that stays -/
def dItS (t : DE) : DI := fun δ S P => t δ S fun d S1 => match d with
  | .tup ds => P ds S1
  | .lst ds => P ds S1
  | _ => False
theorem i_seq (h : QE X iter te) : QI X tg iter (dItS te) := by
  refine ⟨fun pins s σ H R I ⟨δ, S, P, rs, sr, q, fin⟩ => ?_⟩
  have a := PI.or (pi_tup (tg := tg) h) (pi_list (tg := tg) h)
  by_cases hh : True
  · refine thn (h.run pins s σ H (fun v H1 => ∃ d S1, Rp X.K H1 d v ∧ SR X.K H1 S1 ∧ Ext H H1 ∧ (match d with | .tup ds => P ds S1 | .lst ds => P ds S1 | _ => False)) I ⟨δ, S, _, rs, sr, q, fun d S1 v H1 h1 r1 s1 e1 => ⟨d, S1, r1, s1, e1, h1⟩⟩) fun v s1 ⟨x, H1, I1, rv, d, S1, r1, s2, e1, h1⟩ => ?_
    cases d with
    | tup ds =>
      obtain ⟨p, vs, rfl, hq, r2⟩ := r1
      cases rv
      obtain ⟨its, rv, p1, hz⟩ := I1.tuple hq
      refine wpAny_pyIter_tuple (show s1.heap.IsTuple p its.toArray from p1) ?_
      refine ⟨s1.heap.objs.size, [s1.heap.objs.size], _, _, H1, rfl, I1.kept (t' := s1.toks) fun b o e => Heap.get?_push_of_some _ e, turn_tuple p _, ⟨_, Heap.get?_push_size _ rfl, rfl, rfl⟩, fun b hb => ?_, fin ds S1 _ H1 h1 s2 e1 (.tup hq r2)⟩
      have e : b = s1.heap.objs.size := by simpa using hb
      subst e
      exact I1.fpOk (Nat.le_refl _) (I1.hok.fresh (Nat.le_refl _))
    | lst ds =>
      obtain ⟨p, vs, rfl, hq, r2⟩ := r1
      cases rv
      obtain ⟨its, rv, p1, hz⟩ := I1.list hq.sq
      refine wpAny_pyIter_list p1.isList ?_
      refine ⟨s1.heap.objs.size, [s1.heap.objs.size], _, _, H1, rfl, I1.kept (t' := s1.toks) fun b o e => Heap.get?_push_of_some _ e, turn_list p _, ⟨_, Heap.get?_push_size _ rfl, rfl, rfl⟩, fun b hb => ?_, fin ds S1 _ H1 h1 s2 e1 (.lst hq r2)⟩
      have e : b = s1.heap.objs.size := by simpa using hb
      subst e
      exact I1.fpOk (Nat.le_refl _) (I1.hok.fresh (Nat.le_refl _))
    | _ => exact h1.elim
  · exact absurd True.intro hh
def dItStr (t : DE) : DI := fun δ S P => t δ S fun d S1 => asS d fun z => P (signs z) S1
theorem ItOk.str {K : PySem.W.Frag} {H : Hp} {z : Str} : ItOk K (Its z) (signs z) H where
  go := fun i d H' e hd => by
    unfold signs at hd
    rw [List.getElem?_map] at hd
    cases hc : z.cps.toList[i]? with
    | none => rw [hc] at hd; cases hd
    | some c =>
      rw [hc] at hd
      cases hd
      refine ⟨?_, fun x H2 y => ?_⟩
      · simp only [Its]
        have : i < z.cps.toList.length := by
          rcases Nat.lt_or_ge i z.cps.toList.length with q | q
          · exact q
          · rw [List.getElem?_eq_none q] at hc; cases hc
        simpa using this
      · obtain ⟨e1, c', hc', y⟩ := y
        subst e1
        have : c' = c := by
          have q : z.cps[i]? = some c := by rw [← Array.getElem?_toList]; exact hc
          rw [hc'] at q; exact Option.some.inj q
        subst this
        subst y
        exact ⟨.refl _, rfl, fun S s => s⟩
  stop := fun i H' e hi => by unfold signs at hi; simpa [Its] using hi
theorem i_str (h : QE X iter te) : QI X tg iter (dItStr te) := PI.imp (pi_str h) fun σ H R ⟨δ, S, P, rs, sr, q, fin⟩ => ⟨δ, S, _, rs, sr, q, fun d S1 v H1 h1 r1 s1 e1 => by
  obtain ⟨z, rfl, h1⟩ := asS_of h1
  cases r1
  exact ⟨z, rfl, fin _ S1 _ H1 h1 s1 e1 .str⟩⟩
def big (j : Int) : Prop := -(2 ^ 62) ≤ j ∧ j < 2 ^ 62
def dRng1 (t : DA) : DI := fun δ S P => t δ S fun ds S1 => match ds with
  | [.int j] => big j ∧ P (iota 0 j.toNat) S1
  | _ => False
def dRng2 (t : DA) : DI := fun δ S P => t δ S fun ds S1 => match ds with
  | [.int i, .int j] => (big i ∧ big j) ∧ P (iota i (j - i).toNat) S1
  | _ => False
theorem i_rng1 {a : Expr} {p : Pos} (hg : Gl X "range") (hm : X.mg "range" = none) (ha : QA X [a] t) (hs : starEach [a] X.env = [(false, eval a X.env)] := by rfl) : QI X tg (.Call (.Name "range" p) [a] [] pos) (dRng1 t) :=
  PI.imp (pi_range1 hg hm ha hs) fun σ H R ⟨δ, S, P, rs, sr, q, fin⟩ => ⟨δ, S, _, rs, sr, q, fun ds S1 vs H1 h1 r1 s1 e1 => by
    split at h1
    · obtain ⟨v, ws, rfl, rv, rw'⟩ := r1
      cases rv
      cases rw'
      exact ⟨_, rfl, h1.1.1, h1.1.2, fin _ S1 _ H1 h1.2 s1 e1 .rng⟩
    · exact h1.elim⟩
theorem i_rng2 {a b : Expr} {p : Pos} (hg : Gl X "range") (hm : X.mg "range" = none) (ha : QA X [a, b] t) (hs : starEach [a, b] X.env = [(false, eval a X.env), (false, eval b X.env)] := by rfl) (hs2 : starEach [b] X.env = [(false, eval b X.env)] := by rfl) : QI X tg (.Call (.Name "range" p) [a, b] [] pos) (dRng2 t) :=
  PI.imp (pi_range2 hg hm ha hs hs2) fun σ H R ⟨δ, S, P, rs, sr, q, fin⟩ => ⟨δ, S, _, rs, sr, q, fun ds S1 vs H1 h1 r1 s1 e1 => by
    split at h1
    · obtain ⟨v, ws, rfl, rv, v2, ws2, rfl, rv2, rw2⟩ := r1
      cases rv
      cases rv2
      cases rw2
      exact ⟨_, _, rfl, ⟨h1.1.1.1, h1.1.1.2, h1.1.2.1, h1.1.2.2⟩, fin _ S1 _ H1 h1.2 s1 e1 .rng⟩
    · exact h1.elim⟩

/-! ### list comprehensions -/
theorem dwipe_length (δ : DSt) : ∀ vs : List Nat, (dwipe δ vs).length = δ.length
  | [] => rfl
  | v :: vs => by unfold dwipe; rw [List.length_set, dwipe_length δ vs]
theorem dwipe_some {δ : DSt} {i : Nat} {x : D} : ∀ {vs : List Nat}, (dwipe δ vs)[i]? = some (some x) → δ[i]? = some (some x) ∧ i ∉ vs
  | [], h => ⟨h, by simp⟩
  | v :: vs, h => by
    unfold dwipe at h
    by_cases hi : v = i
    · subst hi
      by_cases hv : v < (dwipe δ vs).length
      · rw [List.getElem?_set_self hv] at h; cases h
      · rw [List.getElem?_eq_none (by simpa using hv)] at h; cases h
    · rw [List.getElem?_set_ne hi] at h
      obtain ⟨a, b⟩ := dwipe_some h
      exact ⟨a, by simp [b, Ne.symm hi]⟩
theorem wipe_at {σ : L2.St} {i : Nat} : ∀ {vs : List Nat}, i ∉ vs → (wipe σ vs)[i]? = σ[i]?
  | [], _ => rfl
  | v :: vs, h => by
    unfold wipe
    rw [List.getElem?_set_ne (fun e => h (by simp [e]))]
    exact wipe_at (fun z => h (by simp [z]))
theorem RS.wipe {K : PySem.W.Frag} {H : Hp} {σ : L2.St} {δ : DSt} {vs : List Nat} (h : RS K H σ δ) : RS K H (L2.wipe σ vs) (dwipe δ vs) := by
  refine ⟨by rw [wipe_length, dwipe_length, h.1], fun i d q => ?_⟩
  obtain ⟨a, b⟩ := dwipe_some q
  rw [wipe_at b]
  exact h.2 i d a
theorem wipe_in {σ : L2.St} {j : Nat} : ∀ {vs : List Nat}, j ∈ vs → (wipe σ vs)[j]? = if j < σ.length then some none else none
  | v :: vs, h => by
    unfold wipe
    by_cases e : v = j
    · subst e
      by_cases hv : v < (wipe σ vs).length
      · rw [List.getElem?_set_self hv, if_pos (by rw [← wipe_length σ vs]; exact hv)]
      · rw [List.getElem?_eq_none (by simpa using hv), if_neg (by rw [← wipe_length σ vs]; exact hv)]
    · rw [List.getElem?_set_ne e]
      exact wipe_in (by rcases List.mem_cons.mp h with z | z; exact absurd z.symm e; exact z)
theorem wipe_ext {σ τ : L2.St} {vs : List Nat} (hl : τ.length = σ.length) (h : ∀ j, j ∉ vs → τ[j]? = (wipe σ vs)[j]?) : wipe τ vs = wipe σ vs := by
  apply List.ext_getElem?
  intro j
  by_cases hj : j ∈ vs
  · rw [wipe_in hj, wipe_in hj, hl]
  · rw [wipe_at hj]; exact h j hj
theorem setAllV_length : ∀ {is : List Nat} {xs : List V} {σ : L2.St}, (setAllV σ is xs).length = σ.length
  | [], _, _ => by unfold setAllV; rfl
  | _ :: _, [], _ => rfl
  | i :: is, x :: xs, σ => by show (setAllV (σ.set i (some x)) is xs).length = _; rw [setAllV_length, List.length_set]
theorem setAllV_ne {j : Nat} : ∀ {is : List Nat} {xs : List V} {σ : L2.St}, j ∉ is → (setAllV σ is xs)[j]? = σ[j]?
  | [], _, _, _ => by unfold setAllV; rfl
  | _ :: _, [], _, _ => rfl
  | i :: is, x :: xs, σ, h => by
    show (setAllV (σ.set i (some x)) is xs)[j]? = _
    rw [setAllV_ne (fun z => h (by simp [z])), List.getElem?_set_ne (fun e => h (by simp [e]))]
theorem wipe_setAll {σ : L2.St} {is : List Nat} {xs : List V} : wipe (setAllV (wipe σ is) is xs) is = wipe σ is :=
  wipe_ext (by rw [setAllV_length, wipe_length]) fun j hj => setAllV_ne hj
theorem SR.del {K : PySem.W.Frag} {H : Hp} {S : Sto} {p : Addr} {o : Obj} {vs : List V} (s : SR K H S) (h : H p = some (.lst vs)) : SR K (upd H p (.frz o (.lst vs))) (sdel S p) := fun b u q => by
  by_cases hb : b = p
  · subst hb; unfold sdel at q; rw [if_pos rfl] at q; cases q
  · unfold sdel at q; rw [if_neg hb] at q
    exact (s b u q).keep (.mutL h) (upd_ne hb)
/-- the target of a comprehension, its slots is -/
def LcG (K : PySem.W.Frag) (g : TG) (dg : DG) (is : List Nat) : Prop := ∀ (d : D) (v : V) (σ : L2.St) (H : Hp) (δ : DSt) (S : Sto) (P : DSt → Sto → Prop) (Q : L2.St → Hp → Prop), Rp K H d v → RS K H (L2.wipe σ is) (dwipe δ is) → dg d (dwipe δ is) S P →
  (∀ δ2 σ2, wipe σ2 is = wipe σ is → RS K H σ2 δ2 → P δ2 S → Q σ2 H) → g v (L2.wipe σ is) H Q
theorem lcg_name {K : PySem.W.Frag} {i : Nat} : LcG K (gName i) (gN i) [i] := fun d v σ H δ S P Q r rs h f => f _ _ (wipe_setAll (is := [i]) (xs := [v])) (rs.set r) h
def gTT (is : List Nat) : DG := fun d δ S P => match d with
  | .tup ds => ds.length = is.length ∧ P (setAll δ is ds) S
  | _ => False
theorem lcg_tup {K : PySem.W.Frag} {is : List Nat} {n : Nat} (hn : n = is.length) : LcG K (gTup K n (gAll is)) (gTT is) is := fun d v σ H δ S P Q r rs h f => by
  cases d with
  | tup ds =>
    obtain ⟨p, vs, rfl, hq, r2⟩ := r
    obtain ⟨hl, q⟩ := h
    exact ⟨p, vs, rfl, hq, by rw [r2.length, hl, hn], by rw [r2.length, hl], f _ _ wipe_setAll (rs.setAll r2) q⟩
  | _ => exact h.elim
theorem lc_core {t : DI} {g : TG} {dg : DG} {tt : DT} {is : List Nat} {σ : L2.St} {H : Hp} {Q Q' : VK} (G : LcG X.K g dg is) (h : lE X.K (dLc t dg tt te is) σ H Q)
    (hQ : ∀ v H1 a xs, v = V.ref a → H1 a = some (.lst xs) → (∀ o, Q v (upd H1 a (.frz o (.lst xs)))) → Q' v H1) : tLc (lI X.K t) g (lT X.K tt) (lE X.K te) is σ H Q' := by
  obtain ⟨δ, S, P, rs, sr, h, fin⟩ := h
  refine ⟨δ, S, _, rs, sr, h, fun ds S1 J H1 hp s1 e1 it => fun Dd nD => ?_⟩
  obtain ⟨Iv, i0, ip, turn, last⟩ := hp Dd (s1.none nD)
  refine ⟨fun i m H' => m = ds.length - i ∧ i ≤ ds.length ∧ Ext H1 H' ∧ ∃ acc S', SR X.K H' S' ∧ Iv i acc S', ⟨_, rfl, Nat.zero_le _, .new nD, [], _, s1.add (ds := []) nD (by simp [RpA]), i0⟩, ?_⟩
  rintro i m H' ⟨rfl, hi, e2, acc, S', sr2, iv⟩
  have hS := ip i acc S' iv
  by_cases hlt : i < ds.length
  · obtain ⟨d, hd⟩ : ∃ d, ds[i]? = some d := ⟨_, List.getElem?_eq_getElem hlt⟩
    obtain ⟨g1, g2⟩ := it.go i d H' e2 hd
    refine .inr ⟨g1, fun H2 => Ext H1 H2 ∧ ∃ acc S', SR X.K H2 S' ∧ Iv (i + 1) acc S', fun H2 ⟨x1, x2⟩ => ⟨ds.length - (i + 1), by omega, rfl, hlt, x1, x2⟩, fun x H2 y => ?_⟩
    obtain ⟨y1, y2, y3⟩ := g2 x H2 y
    refine G d x σ H2 δ S' _ _ y2 ((rs.ext (e1.trans (e2.trans y1))).wipe) (turn i d acc S' hd iv) fun δ2 σ2 hw rs2 q => ⟨hw, δ2, S', _, rs2, y3 _ sr2, q, fun b S3 H3 q3 s3 e3 => ?_⟩
    rw [bif_if] at q3
    split
    · rename_i hb
      rw [if_pos hb] at q3
      refine ⟨δ2, S3, _, rs2.ext e3, s3, q3, fun y S4 v H4 ⟨h0, hl, h4⟩ r4 s4 e4 => ?_⟩
      obtain ⟨vs, hv, r5⟩ := s4.lst h0
      exact ⟨vs, hv, by rw [r5.length]; exact hl, e2.trans (y1.trans (e3.trans (e4.trans (.mutL hv)))), _, _, s4.mut h0 (r5.append (.single r4)), h4⟩
    · rename_i hb
      rw [if_neg hb] at q3
      exact ⟨e2.trans (y1.trans e3), acc, S3, s3, q3⟩
  · have : i = ds.length := by omega
    subst this
    obtain ⟨vs, hv, r5⟩ := sr2.lst hS
    refine .inl ⟨it.stop _ H' e2 (Nat.le_refl _), hQ _ _ Dd vs rfl hv fun o => ?_⟩
    exact fin _ _ _ _ (last acc S' iv) ⟨Dd, vs, rfl, .inl ⟨o, upd_same⟩, r5.ext (.mutL hv)⟩ (sr2.del hv) (e1.trans (e2.trans (.mutL hv)))
/-- behind a statement a list is left as it is -/
theorem ps_frz {st : Stmt} {t : TS} (h : L2.PS X st t) : L2.PS X st (fun D σ H => t { D with nx := fun σ' H' => ∃ a xs, H' a = some (.lst xs) ∧ ∀ o, D.nx σ' (upd H' a (.frz o (.lst xs))) } σ H) := ⟨fun pins s σ H D I q => thn (h.run pins s σ H _ I q) fun f s1 q1 => by
  cases f with
  | next =>
    obtain ⟨σ', H', I1, a, xs, h1, h2⟩ := q1
    obtain ⟨o, J⟩ := freezeL I1 h1
    exact ⟨σ', _, J, h2 o⟩
  | ret v => exact q1
  | brk => exact q1
  | cont => exact q1⟩
variable {elt : Expr} {ifs : List Expr} {scope : Scope} {di : DI} {dt : DT}
def dYes : DT := fun _ S P => P true S
theorem ts_nil : PTs X [] (lT X.K dYes) := ⟨fun pins s σ H Q I ⟨δ, S, P, rs, sr, h, fin⟩ => pts_nil.run pins s σ H Q I (fin true S H h sr (.refl H))⟩
theorem ts_one {c : Expr} (h : QT X c dt) : PTs X [c] (lT X.K dt) := pts_one h
theorem q_lc {g : TG} {dg : DG} {own : List (Str × Nat)} {is : List Nat} (hown : own.map (·.2) = is) (G : LcG X.K g dg is) (hc : X.calm = true) (hN : X.N.Nodup) (hi : QI X tg iter di) (ok : BlkOk X.N X.env.scope scope own)
    (hg : ∀ (s : Shared) (H : Hp) (C : Addr) (cl : List (Str × Addr)) (fp : List Addr), L2.PG (X.blk s H scope (compEnvC scope cl C X.env) fp) tg g) (ht : ∀ (s : Shared) (H : Hp) (C : Addr) (cl : List (Str × Addr)) (fp : List Addr), PTs (X.blk s H scope (compEnvC scope cl C X.env) fp) ifs (lT X.K dt))
    (he : ∀ (s : Shared) (H : Hp) (C : Addr) (cl : List (Str × Addr)) (fp : List Addr), L2.PE (X.blk s H scope (compEnvC scope cl C X.env) fp) elt (lE X.K te)) (hs : ∀ x, foldedSetIterable iter X.env x = pure x := by intro _; rfl) :
    QE X (.ListComp elt [⟨tg, iter, ifs, 0⟩] scope pos) (dLc di dg dt te is) :=
  PE.imp (pe_frz (pe_lc hc hN hi ok hg ht he hs)) fun σ H Q h => by
    subst hown
    exact lc_core G h fun v H1 a xs e1 e2 q => ⟨a, xs, e1, e2, q⟩
theorem s_setLc {g : TG} {dg : DG} {own : List (Str × Nat)} {is : List Nat} (i : Nat) {y : Str} {py spos : Pos} (hown : own.map (·.2) = is) (G : LcG X.K g dg is) (hc : X.calm = true) (hN : X.N.Nodup) (hi : QI X tg iter di) (ok : BlkOk X.N X.env.scope scope own)
    (hg : ∀ (s : Shared) (H : Hp) (C : Addr) (cl : List (Str × Addr)) (fp : List Addr), L2.PG (X.blk s H scope (compEnvC scope cl C X.env) fp) tg g) (ht : ∀ (s : Shared) (H : Hp) (C : Addr) (cl : List (Str × Addr)) (fp : List Addr), PTs (X.blk s H scope (compEnvC scope cl C X.env) fp) ifs (lT X.K dt))
    (he : ∀ (s : Shared) (H : Hp) (C : Addr) (cl : List (Str × Addr)) (fp : List Addr), L2.PE (X.blk s H scope (compEnvC scope cl C X.env) fp) elt (lE X.K te))
    (hsw : swapsWith (.ListComp elt [⟨tg, iter, ifs, 0⟩] scope pos) (some (.Name y py)) spos.line X.env = pure true) (hy : X.N[i]? = some y := by rfl) (hyl : X.env.scope.names.lookup y = some .local := by rfl) (hs : ∀ x, foldedSetIterable iter X.env x = pure x := by intro _; rfl) :
    QS X (.Assign [.Name y py] (.ListComp elt [⟨tg, iter, ifs, 0⟩] scope pos) spos) (dSet i (dLc di dg dt te is)) :=
  PS.imp (ps_frz (ps_setLc hc hN hy hyl hsw hi ok hg ht he hs)) fun D σ H ⟨δ, S, P, rs, sr, h, fin⟩ => by
    subst hown
    exact lc_core (Q := fun v H2 => D.nx (σ.set i (some v)) H2) G ⟨δ, S, _, rs, sr, h, fun d S1 v H1 h1 r1 s1 e1 => fin.nx _ S1 _ H1 h1 ((rs.ext e1).set r1) s1 e1⟩ fun v H1 a xs e1 e2 q => ⟨a, xs, e2, q⟩
end

/-! ### a def by its body -/
section
variable {P : Program} {w : World} {K : PySem.W.Frag} {mg : Str → Option Value} {base : Heap}
def dstart (N : List Str) (ds : List D) : DSt := ds.map some ++ List.replicate (N.length - ds.length) none
theorem okD {x qual : Str} {st : Stmt} {f : Addr} {fd : FuncData} {N ps : List Str} {k : Nat} {sp : DSp} (F : Fun K x qual st f fd) (S : FnScope N ps (defScope st)) (len : ∀ ds S P, sp ds S P → ds.length = ps.length)
    (hbody : ∀ (cdv : Value) (A : Around) (outer : List Env) (s : Shared) (H : Hp), Room k (A.deeper (envOfC qual (defScope st) s.heap.objs.size f cdv)) → A.guards = some [] →
      ∃ t, QSs (cxOf CX0 P w K mg base N qual (defScope st) f cdv A outer s H E0).nox (defBody st) t ∧ ∀ ds S' P', sp ds S' P' → t { nx := fun _ S2 => P' .non S2, rt := P' } (dstart N ds) S') : FnD P w K mg base (k + 1) f fd ps sp := by
  obtain ⟨oc, od, kV, doc, pm, an, cdv, ct, osl, rfl, lk, hcd⟩ := F.ex
  refine ⟨len, fun A outer s H args us vs Q hr hgd e0 hb r ⟨ds, S', P', rp, sr, hsp, fin⟩ => ?_⟩
  have hl : vs.length = ps.length := by rw [rp.length]; exact len _ _ _ hsp
  have KX : K.In s.heap := e0.mod.kin.keeps fun b o e => (e0.bs b o e).1
  refine codeAny_call_function hr.depth (KX _ _ lk) rfl S.co S.gen rfl (PySem.W.codeRec_of KX hcd) (hb _ _ _ _ ?_)
  refine wpAny_newFunctionEnv_cells S.kind (fun ⟨n, v⟩ hy => ?_) fun env he s1 x => ?_
  · rcases S.par n (List.of_mem_zip hy).1 with q | q
    · exact Or.inl q
    · exact Or.inr ⟨q, PySem.W.cellsFrom_some _ _ _ (Or.inl q)⟩
  subst he
  refine ⟨(e0.mod.nolimit.keeps fun b o e => (e0.bs b o e).1).keeps x.toInCall.keep, codeAny_func ?_⟩
  obtain ⟨t, ht, hq⟩ := hbody cdv A outer s H (hr.deeper _) hgd
  have I := inv_start (CX := CX0) (E := E0) S hr.hd e0 hl r x
  refine wpAny_mono (ht.nox.run [] s1 (start N vs) H { nx := fun _ H' => Q .non H', rt := Q } I ⟨dstart N ds, S', _, RS.start rp, sr, hq ds S' P' hsp, ⟨fun δ S2 σ H2 p rs sr e => fin _ S2 _ H2 p rfl sr e, fin, fun _ _ _ _ p => p.elim, fun _ _ _ _ p => p.elim⟩⟩) (fun fl s' hs => ?_) fun e s' hs => hs
  cases fl with
  | ret u => obtain ⟨v, σ', H', J, rv, q⟩ := hs; exact ⟨v, H', J.os, J.bare, J.base, J.hok, rv, q⟩
  | next => obtain ⟨σ', H', J, q⟩ := hs; exact ⟨.non, H', J.os, J.bare, J.base, J.hok, rfl, q⟩
  | brk => obtain ⟨_, _, _, q⟩ := hs; exact False.elim q
  | cont => obtain ⟨_, _, _, q⟩ := hs; exact False.elim q
end

/-! ### the end of a law -/
theorem law_end {P : Program} {w : World} {K : PySem.W.Frag} {mg mb : Str → Option Value} {k : Nat} {fa a : Addr} {fd : FuncData} {x : Str} {sp : DSp} {s1 : Shared} {vs : List Value} {ns : List Int}
    (KX : K.In s1.heap) (hns : s1.heap.Ns mainGlobals mg) (hb : s1.heap.Ns builtinsNs mb) (hbb : ∀ x : Str, x ≠ "__name__" → mb x = bootBuiltins x) (hlim : s1.heap.NoLimit) (hg : s1.gens = #[])
    (ha : s1.heap.get? a = some { cls := .type "list", data := .seq vs.toArray }) (hi : IntsAre vs ns) (hl : ns.length ≤ sizeLine) (hr : Room k callerA)
    (F : ∀ base : Heap, K.In base → base.Ns mainGlobals mg → FnD P w K mg base k fa fd [x] sp) (hbind : ∀ (s : Shared) (u : Value), BindsTo s fd ⟨[u], []⟩ [(x, u)])
    (hsp : sp [.lst (ns.map .int)] (fun _ => none) fun d _ => d = .bl true) :
    codeAny (model P w) callerA (.call (.ref fa) ⟨[.ref a], []⟩) (fun r s' => r = .ok (.ret (.bool true)) ∧ OldK s1.heap s'.heap ∧ s'.os = s1.os ∧ AllBare s'.gens) s1 := by
  have rv := vals_ints hi
  have core : ∀ H : Hp, Only H → SqF K H a (ns.map V.int) → HOk P w H s1.heap → (∀ b, H b ≠ none → b = a) → (H a ≠ none → K.lookup a = none) →
      codeAny (model P w) callerA (.call (.ref fa) ⟨[.ref a], []⟩) (fun r s' => r = .ok (.ret (.bool true)) ∧ OldK s1.heap s'.heap ∧ s'.os = s1.os ∧ AllBare s'.gens) s1 := by
    intro H hO hS hok hA hK
    have noA : ∀ {b : Addr} {o : Obj} {es : Array DictEntry} {ep : Nat}, s1.heap.get? b = some o → o.data = .dict es ep → H b = none := fun {b o es ep} e d => by
      rcases hO b with z | ⟨u, xs, z⟩
      · exact z
      · cases hA b (by rw [z]; intro q; cases q)
        rw [ha] at e; cases e; cases d
    have nsK : ∀ {b : Addr} {m : Str → Option Value}, s1.heap.Ns b m → (hidT s1.heap H).Ns b m := fun {b m} ⟨o, es, ep, e, d, r⟩ => ⟨o, es, ep, hidT_get e (noA e d), d, r⟩
    have hKb : K.In (hidT s1.heap H) := fun b o e => hidT_get (KX b o e) (by
      rcases hO b with z | ⟨u, xs, z⟩
      · exact z
      · have zz : H b ≠ none := by rw [z]; intro q; cases q
        have ea := hA b zz
        subst ea
        rw [hK zz] at e; cases e)
    have hM : Mod K mg (hidT s1.heap H) := ⟨hKb, nsK hns, ⟨mb, nsK hb, hbb⟩, let ⟨mc, h1, h2⟩ := hlim; ⟨mc, nsK h1, h2⟩⟩
    have e0 : Env0 P w K mg (hidT s1.heap H) callerA [] s1 H := ⟨rfl, hM, fun b o e => of_hidT e, Nat.le_of_eq (hidT_size _ _), trivial, fun b hb => (List.not_mem_nil hb).elim, hok, .of_eq hg⟩
    refine codeAny_mono ((F _ hKb (nsK hns)).run callerA [] s1 H ⟨[.ref a], []⟩ [.ref a] [.ref a] (fun v _ => v = .bl true) hr rfl e0 (hbind s1 (.ref a)) (.cons rfl .nil)
      ⟨[.lst (ns.map .int)], fun _ => none, _, ⟨_, _, rfl, ⟨a, _, rfl, hS, RpA.of_ints ns⟩, rfl⟩, fun _ _ q => (by cases q), hsp, fun d S' v H' q r _ _ => by subst q; exact r⟩) fun r s' h => ?_
    cases r with
    | error e => exact False.elim h
    | ok fl =>
      cases fl with
      | ret u =>
        obtain ⟨v, H', os, bare, un, hok', r', q⟩ := h
        subst q
        cases r'
        refine ⟨rfl, OldK.of_keep fun b o e => ?_, os, bare⟩
        rcases hO b with z | ⟨ob, xs, z⟩
        · exact un.keep b o e z List.not_mem_nil List.not_mem_nil
        · have z1 := (hok b _ z).1
          have z2 := (hok' b _ (un.frzs b ob _ z)).1
          rw [e] at z1; cases z1
          exact z2
      | _ => exact False.elim h
  cases hk : K.lookup a with
  | some o =>
    have e := KX a o hk
    rw [ha] at e
    cases e
    exact core (fun _ => none) (fun _ => .inl rfl) (.inr ⟨_, vs.toArray, _, hk, rfl, rfl, rfl, by rw [List.size_toArray, hi.length]; exact hl, by simpa using rv⟩) (fun b u z => by cases z) (fun b z => absurd rfl z) fun z => absurd rfl z
  | none =>
    have at1 : ∀ b, (fun b => if b = a then some (HO.frz { cls := .type "list", data := .seq vs.toArray } (.lst (ns.map V.int))) else none) b = if b = a then some (HO.frz { cls := .type "list", data := .seq vs.toArray } (.lst (ns.map V.int))) else none := fun b => rfl
    refine core (fun b => if b = a then some (HO.frz { cls := .type "list", data := .seq vs.toArray } (.lst (ns.map V.int))) else none) (fun b => ?_) (.inl ⟨_, if_pos rfl⟩) (fun b u z => ?_) (fun b z => ?_) fun _ => hk
    · by_cases hb : b = a
      · exact .inr ⟨_, _, if_pos hb⟩
      · exact .inl (if_neg hb)
    · by_cases hb : b = a
      · rw [at1, if_pos hb] at z
        cases z
        subst hb
        exact ⟨ha, by rw [List.length_map]; exact hl, vs, _, rv, ha⟩
      · rw [at1, if_neg hb] at z; cases z
    · by_cases hb : b = a
      · exact hb
      · exact absurd (if_neg hb) z
theorem walkD {l : PySem.W.OpenLaw} {n k : Nat} {q : Program} {loose : List Str} {XP : (Str → Option Value) → Heap → Prop} {YP : World → Heap → Prop} {d : DefRec} {K : Params → PySem.W.Frag} {sp : DSp} {x : Str}
    (hn : l.most = some n) (hn2 : n ≤ sizeLine) (hdf : d.params.defaults = []) (hr : Room k callerA) (hY : ∀ (w : World) (h : Heap), YP w h → (K w.params).In h)
    (F : ∀ (w : World) (mg : Str → Option Value) (fa : Addr) (h : Heap), (K w.params).In h → h.Ns mainGlobals mg → mg d.name = some (.ref fa) →
      ∃ fd : FuncData, (∀ (s : Shared) (u : Value), BindsTo s fd ⟨[u], []⟩ [(x, u)]) ∧ ∀ base : Heap, (K w.params).In base → base.Ns mainGlobals mg → FnD l.prog w (K w.params) mg base k fa fd [x] sp)
    (hsp : ∀ ns : List Int, ns.length ≤ n → sp [.lst (ns.map .int)] (fun _ => none) fun d _ => d = .bl true) :
    PySem.W.WalkO q loose XP YP l.row.toRowW d [] (fun f vs => PySem.call f vs) := by
  refine Att.attach_call hn hdf fun w s0 s1 mg mb fa o pm cd doc a vs ns G Y ho hd hcd hmg hobj hints hlen hg => ?_
  obtain ⟨fd, hb, hF⟩ := F w mg fa _ (hY w _ Y) G.T.g hmg
  exact law_end (hY w _ Y) G.T.g G.T.b G.T.builtins G.T.nolimit hg hobj hints (Nat.le_trans hlen hn2) hr hF hb (hsp ns hlen)
end DL
set_option Elab.async false
set_option linter.all false
set_option maxRecDepth 100000
set_option maxHeartbeats 4000000
namespace DM
open PySem PySem.Spec PyProof.Rows L2
open AutoSeq1 (wpAny_loadPart')
/-- list + list, whatever their slots -/
theorem add_any (l b : Addr) (xs ys : Array Value) (n m : Nat) (sl sl2 : Array (Option Value)) (hz : xs.size + ys.size ≤ sizeLine) :
    Meets (Builtin.«list.__add__» ⟨[.ref l, .ref b], []⟩) (fun _ R s => (s.heap.get? l = some ⟨.type "list", none, .seq xs n, sl⟩ ∧ s.heap.get? b = some ⟨.type "list", none, .seq ys m, sl2⟩) ∧
      R (.ok (.ret (Value.ref s.heap.objs.size))) { s with heap := s.heap.push { cls := Value.type "list", data := Data.seq (xs ++ ys) } }) :=
  .of_wp fun prog w A R s h => by
    obtain ⟨hp, g, d, tk, os⟩ := s
    obtain ⟨⟨h1, h2⟩, h⟩ := h
    have f1 := AutoSeq1.sub_list_list
    have f2 := AutoSeq1.sub_list_tuple
    wp_walk using wpAny_loadPart' h1, wpAny_loadPart' h2
    exact ⟨_, rfl, h⟩
theorem cat_any {prog : Program} {w : World} {A : Around} {E : Value → Shared → Prop} {s : Shared} {l b : Addr} {xs ys : Array Value} {n m : Nat} {sl sl2 : Array (Option Value)} {Q : Value → Shared → Prop}
    (h1 : s.heap.get? l = some ⟨.type "list", none, .seq xs n, sl⟩) (h2 : s.heap.get? b = some ⟨.type "list", none, .seq ys m, sl2⟩) (hz : xs.size + ys.size ≤ sizeLine)
    (h : Q (.ref s.heap.objs.size) { s with heap := s.heap.push { cls := .type "list", data := .seq (xs ++ ys) } }) : wpAny (model prog w) A (binaryOp .Add (.ref l) (.ref b)) Q E s :=
  concat_meets ⟨_, h1, rfl⟩ ⟨_, h2, rfl⟩ noFill_list_add seq_list_add F.slot_list_add F.entry_list_add (F.args_list_add_2 _ _) (add_any l b xs ys n m sl sl2 hz) ⟨⟨h1, h2⟩, h⟩
/-- list.extend(tuple), whatever the tuple's slots -/
theorem ext_tup (l b : Addr) (xs ys : Array Value) (n m : Nat) (dd : Option Addr) (sl : Array (Option Value)) (hl : ¬ (!xs.isEmpty && Builtin.List.listTooLong (xs.size + ys.size)) = true) (hx : xs.size ≤ sizeLine) (hz : xs.size + ys.size ≤ sizeLine + 1) :
    Meets (Builtin.«list.extend» ⟨[.ref l, .ref b], []⟩) (fun _ R s => (s.heap.get? l = some ⟨.type "list", none, .seq xs n, #[]⟩ ∧ s.heap.get? b = some ⟨.type "tuple", dd, .seq ys m, sl⟩) ∧
      R (.ok (.ret Value.none)) { s with heap := s.heap.update l (Obj.mapSeq fun x => x ++ ys) }) :=
  .of_wp fun prog w A R s h => by
    obtain ⟨hp, g, d, tk, os⟩ := s
    obtain ⟨⟨h1, h2⟩, h⟩ := h
    have f2 := AutoSeq1.sub_tuple_tuple
    have f3 := AutoSeq1.sub_list_list
    have f4 := AutoSeq1.sub_tuple_list
    have f5 := AutoSeq1.sub_list_tuple
    have hz' : (xs ++ ys).size ≤ sizeLine + 1 := by rw [Array.size_append]; exact hz
    wp_walk using (wpAny_updateSeq h1 rfl (hz := hx) (_hz' := hz')), wpAny_loadPart' h1, wpAny_loadPart' h2
    exact ⟨_, rfl, h⟩
/-! a dict beside a text -/
theorem dict_eq_str (l : Addr) (es : Array DictEntry) (n : Nat) (dd : Option Addr) (sl : Array (Option Value)) (b : Str) (u : Tok) :
    Meets (Builtin.«dict.__eq__» ⟨[.ref l, .str b u], []⟩) (fun _ R s => s.heap.get? l = some ⟨.type "dict", dd, .dict es n, sl⟩ ∧ R (.ok (.ret .notImplemented)) s) :=
  .of_wp fun prog w A R s h => by
    obtain ⟨hp, g, d, tk, os⟩ := s
    obtain ⟨hl, h⟩ := h
    have f1 := F.sub_str_dict
    wp_walk using wpAny_loadPart' hl
    exact ⟨_, rfl, h⟩
theorem str_eq_dict (b : Str) (u : Tok) (l : Addr) (es : Array DictEntry) (n : Nat) (dd : Option Addr) (sl : Array (Option Value)) :
    Meets (Builtin.«str.__eq__» ⟨[.str b u, .ref l], []⟩) (fun _ R s => s.heap.get? l = some ⟨.type "dict", dd, .dict es n, sl⟩ ∧ R (.ok (.ret .notImplemented)) s) :=
  .of_wp fun prog w A R s h => by
    obtain ⟨hp, g, d, tk, os⟩ := s
    obtain ⟨hl, h⟩ := h
    have f1 := F.sub_dict_str
    wp_walk using wpAny_loadPart' hl
    exact ⟨_, rfl, h⟩
section
open SeqAt
variable {A : Around} {s : Shared}
theorem rc_dict_str {l : Addr} {es : Array DictEntry} {n : Nat} {dd : Option Addr} {sl : Array (Option Value)} (b : Str) (u : Tok) (hl : s.heap.get? l = some ⟨.type "dict", dd, .dict es n, sl⟩) (hu : A.units < cLine) : RcAt A s (.ref l) (.str b u) false := fun prog w E Q h =>
  rc_eq_decline_or (k := false) ⟨_, hl, rfl⟩ (typeIs_str s b u) (by decide) F.sub_str_dict F.slot_dict_eq F.slot_str_eq_refl
    (fun _ hq => call_meets F.slot_dict_eq ⟨_, hl, rfl⟩ F.entry_dict_eq (F.args_dict_eq_2 _ _) (dict_eq_str l es n dd sl b u) ⟨hl, hq⟩)
    (fun _ hq => call_meets F.slot_str_eq_refl (typeIs_str s b u) F.entry_str_eq (F.args_str_eq_2 _ _) (str_eq_dict b u l es n dd sl) ⟨hl, hq⟩)
    (fun _ hq => wpAny_of_eq (rfl : isSame (.ref l) (.str b u) = pure false) hq) (.inr hu) h
theorem rc_str_dict {l : Addr} {es : Array DictEntry} {n : Nat} {dd : Option Addr} {sl : Array (Option Value)} (b : Str) (u : Tok) (hl : s.heap.get? l = some ⟨.type "dict", dd, .dict es n, sl⟩) (hu : A.units < cLine) : RcAt A s (.str b u) (.ref l) false := fun prog w E Q h =>
  rc_eq_decline_or (k := false) (typeIs_str s b u) ⟨_, hl, rfl⟩ (by decide) F.sub_dict_str F.slot_str_eq F.slot_dict_eq_refl
    (fun _ hq => call_meets F.slot_str_eq (typeIs_str s b u) F.entry_str_eq (F.args_str_eq_2 _ _) (str_eq_dict b u l es n dd sl) ⟨hl, hq⟩)
    (fun _ hq => call_meets F.slot_dict_eq_refl ⟨_, hl, rfl⟩ F.entry_dict_eq (F.args_dict_eq_2 _ _) (dict_eq_str l es n dd sl b u) ⟨hl, hq⟩)
    (fun _ hq => wpAny_of_eq (rfl : isSame (.str b u) (.ref l) = pure false) hq) (.inr hu) h
end
end DM
set_option Elab.async false
set_option linter.all false
set_option maxRecDepth 100000
set_option maxHeartbeats 1000000
namespace DL
open PySem PySem.Spec PyProof.Rows L2

section
variable {X : Cx}
/-! ### ints, texts, tuples, lists added and so on -/
def b2i (b : Bool) : Int := if b = true then 1 else 0
def addD : DR := fun x y S P => match x, y with
  | .int i, .int j => P (.int (i + j)) S
  | .int i, .bl j => P (.int (i + b2i j)) S
  | .bl i, .int j => P (.int (b2i i + j)) S
  | .str a, .str b => a.length + b.length ≤ sizeLine ∧ P (.str (a ++ b)) S
  | .tup xs, .tup ys => xs.length + ys.length ≤ sizeLine ∧ P (.tup (xs ++ ys)) S
  | .lst xs, .lst ys => xs.length + ys.length ≤ sizeLine ∧ P (.lst (xs ++ ys)) S
  | _, _ => False
theorem sqF_at {pins : List (Addr × Obj)} {σ : L2.St} {H : Hp} {s : Shared} {a : Addr} {vs : List V} (I : L2.Inv X pins σ H s) (h : SqF X.K H a vs) : ∃ its : List Value, ∃ n, ∃ sl, Vals vs its ∧ vs.length ≤ sizeLine ∧ s.heap.get? a = some { cls := .type "list", data := .seq its.toArray n, slots := sl } := by
  obtain ⟨its, r, ⟨⟨cls, dd, data, sl⟩, n, e, hc, hd, hs⟩, hz⟩ := I.list h.sq
  simp only at hc hd hs
  subst hc hd hs
  exact ⟨its, n, sl, r, hz, e⟩
theorem freezeE {pins : List (Addr × Obj)} {σ : L2.St} {Q : VK} {u : Value} {s : Shared} (h : EP X pins σ (fun v H1 => ∃ a xs, v = .ref a ∧ H1 a = some (.lst xs) ∧ ∀ o, Q v (upd H1 a (.frz o (.lst xs)))) u s) : EP X pins σ Q u s := by
  obtain ⟨v, H1, I1, r1, a, xs, e1, h1, q⟩ := h
  obtain ⟨o, J⟩ := freezeL I1 h1
  exact ⟨v, _, J, r1, q o⟩
theorem op_addD : OpD X (binaryOp .Add) addD := by
  intro pins s σ H x y v u Q I rx ry ⟨d, e, S, P, r1, r2, sr, h, fin⟩
  unfold addD at h
  split at h
  · cases r1; cases r2
    exact op_add pins s σ H _ _ v u Q I rx ry ⟨_, _, rfl, rfl, fin _ S _ H h rfl sr (.refl H)⟩
  · cases r1; cases r2
    obtain ⟨t, rfl⟩ := rx
    cases ry
    exact PySem.add_int_bool ⟨.int _, H, I.tok _, ⟨_, rfl⟩, fin _ S _ H h rfl sr (.refl H)⟩
  · cases r1; cases r2
    obtain ⟨t, rfl⟩ := ry
    cases rx
    exact IntBool.add_bool_int ⟨.int _, H, I.tok _, ⟨_, rfl⟩, fin _ S _ H h rfl sr (.refl H)⟩
  · cases r1; cases r2
    exact op_add_str pins s σ H _ _ v u Q I rx ry ⟨_, _, rfl, rfl, h.1, fin _ S _ H h.2 rfl sr (.refl H)⟩
  · obtain ⟨a, vs, rfl, ha, r3⟩ := r1
    obtain ⟨b, ws, rfl, hb, r4⟩ := r2
    obtain ⟨hz, q⟩ := h
    refine op_catA pins s σ H _ _ v u Q I rx ry ⟨a, b, vs, ws, rfl, rfl, ha, hb, by rw [r3.length, r4.length]; exact hz, fun e => ?_, fun _ e => ?_, fun _ _ p np => ?_⟩
    · subst e
      exact fin _ S _ H q ⟨b, ws, rfl, hb, by simpa using r3.append r4⟩ sr (.refl H)
    · subst e
      exact fin _ S _ H q ⟨a, vs, rfl, ha, by simpa using r3.append r4⟩ sr (.refl H)
    · exact fin _ S _ _ q ⟨p, _, rfl, .of upd_same, (r3.append r4).ext (.new np)⟩ (sr.new np) (.new np)
  · obtain ⟨a, vs, rfl, ha, r3⟩ := r1
    obtain ⟨b, ws, rfl, hb, r4⟩ := r2
    obtain ⟨hz, q⟩ := h
    cases rx; cases ry
    obtain ⟨its, n, sl, rv, z1, e1⟩ := sqF_at I ha
    obtain ⟨its2, n2, sl2, rv2, z2, e2⟩ := sqF_at I hb
    have l1 := r3.length
    have l2 := r4.length
    have l3 := rv.length
    have l4 := rv2.length
    have hsz : its.toArray.size + its2.toArray.size ≤ sizeLine := by rw [List.size_toArray, List.size_toArray]; omega
    refine DM.cat_any e1 e2 hsz ?_
    have ea : its.toArray ++ its2.toArray = (its ++ its2).toArray := by simp
    rw [ea]
    refine freezeE ⟨.ref _, _, I.lnew (t' := s.toks) (rv.append rv2) (by rw [List.length_append]; omega), rfl, _, _, rfl, upd_same, fun o => ?_⟩
    rw [upd_upd]
    exact fin _ S _ _ q ⟨_, _, rfl, .inl ⟨o, upd_same⟩, (r3.append r4).ext (.new I.fresh)⟩ (sr.new I.fresh) (.new I.fresh)
  · exact h.elim
def subD : DR := fun x y S P => match x, y with
  | .int i, .int j => P (.int (i - j)) S
  | .int i, .bl j => P (.int (i - b2i j)) S
  | .bl i, .int j => P (.int (b2i i - j)) S
  | _, _ => False
theorem op_subD : OpD X (binaryOp .Sub) subD := by
  intro pins s σ H x y v u Q I rx ry ⟨d, e, S, P, r1, r2, sr, h, fin⟩
  unfold subD at h
  split at h
  · cases r1; cases r2
    exact op_sub pins s σ H _ _ v u Q I rx ry ⟨_, _, rfl, rfl, fin _ S _ H h rfl sr (.refl H)⟩
  · cases r1; cases r2
    obtain ⟨t, rfl⟩ := rx
    cases ry
    exact IntBool.sub_int_bool ⟨.int _, H, I.tok _, ⟨_, rfl⟩, fin _ S _ H h rfl sr (.refl H)⟩
  · cases r1; cases r2
    obtain ⟨t, rfl⟩ := ry
    cases rx
    exact IntBool.sub_bool_int ⟨.int _, H, I.tok _, ⟨_, rfl⟩, fin _ S _ H h rfl sr (.refl H)⟩
  · exact h.elim
def iiD (C : Int → Int → Prop) (g : Int → Int → Int) : DR := fun x y S P => match x, y with
  | .int i, .int j => C i j ∧ P (.int (g i j)) S
  | _, _ => False
theorem op_iiD {f : Value → Value → Sem Value} {C : Int → Int → Prop} {g : Int → Int → Int} (h0 : OpR X f (rI C fun i j => .int (g i j))) : OpD X f (iiD C g) := by
  intro pins s σ H x y v u Q I rx ry ⟨d, e, S, P, r1, r2, sr, h, fin⟩
  unfold iiD at h
  split at h
  · cases r1; cases r2
    exact h0 pins s σ H _ _ v u Q I rx ry ⟨_, _, rfl, rfl, h.1, fin _ S _ H h.2 rfl sr (.refl H)⟩
  · exact h.elim
theorem op_fdivD : OpD X (binaryOp .FloorDiv) (iiD CDiv fun i j => i / j) := op_iiD op_fdiv
theorem op_modD : OpD X (binaryOp .Mod) (iiD (fun _ j => 0 < j) fun i j => i % j) := op_iiD op_mod
theorem op_powD : OpD X (binaryOp .Pow) (iiD CPow fun i j => i ^ j.toNat) := op_iiD op_pow
def mulD : DR := fun x y S P => match x, y with
  | .int i, .int j => CMul i j ∧ P (.int (i * j)) S
  | .tup xs, .int k => (xs ≠ [] ∧ 2 ≤ k ∧ k ≤ 1000 ∧ xs.length ≤ 1000) ∧ P (.tup (List.replicate k.toNat xs).flatten) S
  | .str z, .int k => (1 < k ∧ k ≤ 1000 ∧ z.length ≤ 1000 ∧ z.length ≠ 0) ∧ P (.str ⟨(List.replicate k.toNat z.cps).foldl (· ++ ·) #[]⟩) S
  | _, _ => False
theorem RpA.rep {K : PySem.W.Frag} {H : Hp} {ds : List D} {vs : List V} (h : RpA K H ds vs) : ∀ n : Nat, RpA K H (List.replicate n ds).flatten (List.replicate n vs).flatten
  | 0 => by simp [RpA]
  | n + 1 => by rw [List.replicate_succ, List.replicate_succ, List.flatten_cons, List.flatten_cons]; exact h.append (RpA.rep h n)
theorem size_joinN (xs : Array Nat) : ∀ (k : Nat) (acc : Array Nat), (List.foldl (fun x1 x2 => x1 ++ x2) acc (List.replicate k xs)).size = acc.size + k * xs.size
  | 0, acc => by simp
  | k + 1, acc => by
    have e : (k + 1) * xs.size = k * xs.size + xs.size := Nat.succ_mul ..
    rw [List.replicate_succ, List.foldl_cons, size_joinN xs k, Array.size_append, e]; omega
theorem op_mulD : OpD X (binaryOp .Mult) mulD := by
  intro pins s σ H x y v u Q I rx ry ⟨d, e, S, P, r1, r2, sr, h, fin⟩
  unfold mulD at h
  split at h
  · cases r1; cases r2
    exact op_mul pins s σ H _ _ v u Q I rx ry ⟨_, _, rfl, rfl, h.1, fin _ S _ H h.2 rfl sr (.refl H)⟩
  · obtain ⟨a, vs, rfl, ha, r3⟩ := r1
    cases r2
    obtain ⟨⟨h1, h2, h3, h4⟩, q⟩ := h
    exact op_repT pins s σ H _ _ v u Q I rx ry ⟨a, _, vs, rfl, rfl, ha, fun e => h1 (by subst e; exact List.eq_nil_of_length_eq_zero r3.length.symm), h2, h3, by rw [r3.length]; exact h4, fun p np => fin _ S _ _ q ⟨p, _, rfl, .of upd_same, (r3.rep _).ext (.new np)⟩ (sr.new np) (.new np)⟩
  · rename_i z k
    cases r1; cases r2
    obtain ⟨t, rfl⟩ := rx
    obtain ⟨t', rfl⟩ := ry
    obtain ⟨⟨h1, h2, h3, h4⟩, q⟩ := h
    have hn : ¬ k < 1 := by omega
    have hk : (k == 1 || z.length == 0) = false := by
      rw [Bool.or_eq_false_iff]; exact ⟨beq_eq_false_iff_ne.mpr (by omega), beq_eq_false_iff_ne.mpr h4⟩
    have hb : z.length * k.toNat ≤ 1000 * 1000 := Nat.mul_le_mul h3 (by omega)
    refine PySem.P.mul_str (by rw [decide_eq_false (by omega), decide_eq_false (by omega)]; rfl) (fun _ _ => ?_) (fun _ _ => ?_) ?_
    · have e : (z.length : Int) * k ≤ 2 ^ 63 - 1 := by
        have e1 : ((z.length * k.toNat : Nat) : Int) = (z.length : Int) * k := by rw [Int.natCast_mul, Int.toNat_of_nonneg (by omega)]
        omega
      have := Int.le_ediv_of_mul_le (show 0 < k by omega) e
      omega
    · unfold Builtin.Str.tooLong; rw [sizeLine_eq]; exact decide_eq_false (by omega)
    · rw [if_neg hn, hk, if_neg Bool.false_ne_true]
      refine ⟨?_, .str _, H, I.tok _, ⟨_, rfl⟩, fin _ S _ H q rfl sr (.refl H)⟩
      show (List.foldl (fun x1 x2 => x1 ++ x2) #[] (List.replicate k.toNat z.cps)).size ≤ sizeLine
      rw [size_joinN, sizeLine_eq]
      have : k.toNat * z.cps.size = z.length * k.toNat := Nat.mul_comm _ _
      simp only [Array.size_empty]
      omega
  · exact h.elim
/-! ### order -/
def cmpI (p : Int → Int → Bool) : DR := fun x y S P => match x, y with
  | .int i, .int j => P (.bl (p i j)) S
  | _, _ => False
theorem op_cmpI {f : Value → Value → Sem Value} {p : Int → Int → Bool} (h0 : OpR X f (rI0 fun i j => .bl (p i j))) : OpD X f (cmpI p) := by
  intro pins s σ H x y v u Q I rx ry ⟨d, e, S, P, r1, r2, sr, h, fin⟩
  unfold cmpI at h
  split at h
  · cases r1; cases r2
    exact h0 pins s σ H _ _ v u Q I rx ry ⟨_, _, rfl, rfl, fin _ S _ H h rfl sr (.refl H)⟩
  · exact h.elim
theorem op_ltD : OpD X (compareOp .Lt) (cmpI fun i j => decide (i < j)) := op_cmpI op_lt
theorem op_gtD : OpD X (compareOp .Gt) (cmpI fun i j => decide (j < i)) := op_cmpI op_gt
theorem op_geD : OpD X (compareOp .GtE) (cmpI fun i j => decide (j ≤ i)) := op_cmpI op_ge
def leD : DR := fun x y S P => match x, y with
  | .int i, .int j => P (.bl (decide (i ≤ j))) S
  | .str i, .str j => P (.bl (!decide (j.cps.toList < i.cps.toList))) S
  | _, _ => False
theorem op_leD : OpD X (compareOp .LtE) leD := by
  intro pins s σ H x y v u Q I rx ry ⟨d, e, S, P, r1, r2, sr, h, fin⟩
  unfold leD at h
  split at h
  · cases r1; cases r2
    exact op_le pins s σ H _ _ v u Q I rx ry ⟨_, _, rfl, rfl, fin _ S _ H h rfl sr (.refl H)⟩
  · cases r1; cases r2
    exact op_le_str pins s σ H _ _ v u Q I rx ry ⟨_, _, rfl, rfl, fin _ S _ H h rfl sr (.refl H)⟩
  · exact h.elim
def isB (neg : Bool) : DR := fun x y S P => match x, y with
  | .bl i, .bl j => P (.bl (neg != decide (i = j))) S
  | _, _ => False
theorem op_isBD : OpD X (compareOp .Is) (isB false) := by
  intro pins s σ H x y v u Q I rx ry ⟨d, e, S, P, r1, r2, sr, h, fin⟩
  unfold isB at h
  split at h
  · cases r1; cases r2
    exact op_isBl pins s σ H _ _ v u Q I rx ry ⟨_, _, rfl, rfl, fin (.bl _) S _ H (by simpa using h) rfl sr (.refl H)⟩
  · exact h.elim
theorem op_isNotBD : OpD X (compareOp .IsNot) (isB true) := by
  intro pins s σ H x y v u Q I rx ry ⟨d, e, S, P, r1, r2, sr, h, fin⟩
  unfold isB at h
  split at h
  · cases r1; cases r2
    exact op_notBl pins s σ H _ _ v u Q I rx ry ⟨_, _, rfl, rfl, fin (.bl _) S _ H (by simpa using h) rfl sr (.refl H)⟩
  · exact h.elim
def negD : D → Sto → DK → Prop := fun x S P => match x with
  | .int i => P (.int (-i)) S
  | _ => False
theorem un_negD : UnD X (unaryOp .USub) negD := by
  intro pins s σ H x v Q I rx ⟨d, S, P, r1, sr, h, fin⟩
  unfold negD at h
  split at h
  · cases r1
    exact un_neg pins s σ H _ v Q I rx ⟨_, rfl, fin _ S _ H h rfl sr (.refl H)⟩
  · exact h.elim
/-! ### subscripts -/
def ixD : DR := fun x y S P => match x, y with
  | .tup xs, .int i => (atI xs i).elim False fun d => P d S
  | .lst xs, .int i => (atI xs i).elim False fun d => P d S
  | .str z, .int i => z.length ≤ sizeLine ∧ (atI z.cps.toList i).elim False fun c => P (.str ⟨#[c]⟩) S
  | .ref a, .int i => match S a with
    | some (.lst xs) => (atI xs i).elim False fun d => P d S
    | _ => False
  | _, _ => False
theorem RpA.atI {K : PySem.W.Frag} {H : Hp} {ds : List D} {vs : List V} {i : Int} {d : D} (h : RpA K H ds vs) (e : L2.atI ds i = some d) : ∃ v, L2.atI vs i = some v ∧ Rp K H d v := by
  unfold L2.atI at e ⊢
  rw [h.length]
  cases q : ixN ds.length i with
  | none => rw [q] at e; cases e
  | some j => rw [q] at e; exact h.get e
theorem ix_D : IxD X ixD := by
  intro value slice pins s σ H x y v u Q I rx ry ⟨d, e, S, P, r1, r2, sr, h, fin⟩ hs
  unfold ixD at h
  have el : ∀ {α : Type} {o : Option α} {f : α → Prop}, o.elim False f → ∃ a, o = some a ∧ f a := fun {α o f} h => by cases o with | none => exact h.elim | some a => exact ⟨a, rfl, h⟩
  split at h
  · obtain ⟨a, vs, rfl, ha, r3⟩ := r1
    cases r2
    obtain ⟨w', hw, q⟩ := el h
    obtain ⟨w2, h2, r4⟩ := r3.atI hw
    exact ix_tup value slice pins s σ H _ _ v u Q I rx ry ⟨a, vs, _, w2, rfl, rfl, ha, h2, fin _ S _ H q r4 sr (.refl H)⟩ hs
  · obtain ⟨a, vs, rfl, ha, r3⟩ := r1
    cases r2
    obtain ⟨w', hw, q⟩ := el h
    obtain ⟨w2, h2, r4⟩ := r3.atI hw
    exact ix_list value slice pins s σ H _ _ v u Q I rx ry ⟨a, vs, _, w2, rfl, rfl, ha.sq, h2, fin _ S _ H q r4 sr (.refl H)⟩ hs
  · cases r1
    cases r2
    obtain ⟨hz, h⟩ := h
    obtain ⟨c, hc, q⟩ := el h
    exact ix_str value slice pins s σ H _ _ v u Q I rx ry ⟨_, _, c, rfl, rfl, hz, hc, fin _ S _ H q rfl sr (.refl H)⟩ hs
  · cases r1
    cases r2
    split at h
    · rename_i xs hS
      obtain ⟨vs, hv, r3⟩ := sr.lst hS
      obtain ⟨w', hw, q⟩ := el h
      obtain ⟨w2, h2, r4⟩ := r3.atI hw
      exact ix_list value slice pins s σ H _ _ v u Q I rx ry ⟨_, vs, _, w2, rfl, rfl, .of hv, h2, fin _ S _ H q r4 sr (.refl H)⟩ hs
    · exact h.elim
  · exact h.elim
def cutD (xs : List D) (lo hi : Option Int) : List D := (xs.drop (HT.sIx xs.length 0 lo)).take (HT.sIx xs.length xs.length hi - HT.sIx xs.length 0 lo)
theorem RpA.cut {K : PySem.W.Frag} {H : Hp} {ds : List D} {vs : List V} {lo hi : Option Int} (h : RpA K H ds vs) : RpA K H (cutD ds lo hi) (cutV vs lo hi) := by
  unfold cutD cutV
  rw [h.length]
  exact (h.drop _).take _
def slD : D → Option Int → Option Int → Sto → DK → Prop := fun x lo hi S P => match x with
  | .tup xs => P (.tup (cutD xs lo hi)) S
  | .lst xs => P (.lst (cutD xs lo hi)) S
  | .str z => z.length ≤ sizeLine ∧ P (.str (cutS z lo hi)) S
  | _ => False
theorem sIx_whole {n : Nat} {lo hi : Option Int} (h : HT.sIx n 0 lo = 0 ∧ HT.sIx n n hi = n) (xs : List D) (hn : xs.length = n) : cutD xs lo hi = xs := by
  unfold cutD
  rw [hn, h.1, h.2, List.drop_zero, Nat.sub_zero, ← hn, List.take_length]
theorem sl_D : SlD X slD := by
  intro pins s σ H x v vl vu lo hi sl Q I rx hs pl pu ⟨d, S, P, r1, sr, h, fin⟩
  unfold slD at h
  split at h
  · obtain ⟨a, vs, rfl, ha, r3⟩ := r1
    refine sl_tupA pins s σ H _ v vl vu lo hi sl Q I rx hs pl pu ⟨a, vs, rfl, ha, fun hw => ?_, fun _ p np => ?_⟩
    · rw [r3.length] at hw
      rw [sIx_whole hw _ rfl] at h
      exact fin _ S _ H h ⟨a, vs, rfl, ha, r3⟩ sr (.refl H)
    · exact fin _ S _ _ h ⟨p, _, rfl, .of upd_same, r3.cut.ext (.new np)⟩ (sr.new np) (.new np)
  · obtain ⟨a, vs, rfl, ha, r3⟩ := r1
    obtain ⟨T, id, t1, t2, t3⟩ := sl_list pins s σ H _ v vl vu lo hi sl (fun v H1 => ∃ a xs, v = .ref a ∧ H1 a = some (.lst xs) ∧ ∀ o, Q v (upd H1 a (.frz o (.lst xs)))) I rx hs pl pu ⟨a, vs, rfl, ha.sq, fun p np => ⟨p, _, rfl, upd_same, fun o => by
      rw [upd_upd]
      exact fin _ S _ _ h ⟨p, _, rfl, .inl ⟨o, upd_same⟩, r3.cut.ext (.new np)⟩ (sr.new np) (.new np)⟩⟩
    exact ⟨T, id, t1, t2, thn t3 fun u s1 q => freezeE q⟩
  · cases r1
    exact sl_str pins s σ H _ v vl vu lo hi sl Q I rx hs pl pu ⟨_, rfl, h.1, fin _ S _ H h.2 rfl sr (.refl H)⟩
  · exact h.elim
/-! ### calls of built-ins -/
def lenD : List D → Sto → DK → Prop := fun ds S P => match ds with
  | [.tup xs] => P (.int xs.length) S
  | [.lst xs] => P (.int xs.length) S
  | [.str z] => z.length ≤ sizeLine ∧ P (.int z.length) S
  | [.ref a] => match S a with
    | some (.lst xs) => P (.int xs.length) S
    | _ => False
  | _ => False
theorem RpA.one {K : PySem.W.Frag} {H : Hp} {d : D} {vs : List V} (h : RpA K H [d] vs) : ∃ v, vs = [v] ∧ Rp K H d v := by
  obtain ⟨v, ws, rfl, r, rfl⟩ := h
  exact ⟨v, rfl, r⟩
theorem RpA.two {K : PySem.W.Frag} {H : Hp} {d e : D} {vs : List V} (h : RpA K H [d, e] vs) : ∃ v w, vs = [v, w] ∧ Rp K H d v ∧ Rp K H e w := by
  obtain ⟨v, ws, rfl, r, h⟩ := h
  obtain ⟨w, rfl, r2⟩ := RpA.one h
  exact ⟨v, w, rfl, r, r2⟩
theorem c_len : CallD X (.builtin "len") lenD := CallR.imp call_len fun xs H Q hh => by
  obtain ⟨ds, S, P, r, sr, h, fin⟩ := hh
  unfold lenD at h
  split at h
  · obtain ⟨v, rfl, a, vs, rfl, ha, r3⟩ := r.one
    exact ⟨_, _, rfl, .inr ⟨vs, ha, rfl⟩, fin (.int _) S _ H (by rw [r3.length]; exact h) rfl sr (.refl H)⟩
  · obtain ⟨v, rfl, a, vs, rfl, ha, r3⟩ := r.one
    exact ⟨_, _, rfl, .inl ⟨vs, ha.sq, rfl⟩, fin (.int _) S _ H (by rw [r3.length]; exact h) rfl sr (.refl H)⟩
  · obtain ⟨v, rfl, r1⟩ := r.one
    cases r1
    exact ⟨_, _, rfl, ⟨h.1, rfl⟩, fin _ S _ H h.2 rfl sr (.refl H)⟩
  · obtain ⟨v, rfl, r1⟩ := r.one
    cases r1
    split at h
    · rename_i xs hS
      obtain ⟨vs, hv, r3⟩ := sr.lst hS
      exact ⟨_, _, rfl, .inl ⟨vs, .of hv, rfl⟩, fin (.int _) S _ H (by rw [r3.length]; exact h) rfl sr (.refl H)⟩
    · exact h.elim
  · exact h.elim
/-- the name of its type -/
def tyD : D → Sto → Option String
  | .non, _ => some "NoneType" | .bl _, _ => some "bool" | .int _, _ => some "int" | .str _, _ => some "str"
  | .tup _, _ => some "tuple" | .lst _, _ => some "list" | .dic _, _ => some "dict"
  | .ref a, S => (S a).bind fun u => match u with | .lst _ => some "list" | _ => none
  | .ty _, _ => none
def isiD : List D → Sto → DK → Prop := fun ds S P => match ds with
  | [d, .ty n] => match tyD d S with
    | some T => match kitB T n with
      | some b => P (.bl b) S
      | none => False
    | none => False
  | _ => False
theorem c_isi : CallD X (.builtin "isinstance") isiD := CallR.imp call_isi fun xs H Q hh => by
  obtain ⟨ds, S, P, r, sr, h, fin⟩ := hh
  unfold isiD at h
  split at h
  · rename_i d n
    obtain ⟨v, w', rfl, r1, r2⟩ := r.two
    cases r2
    split at h
    · rename_i T hT
      split at h
      · rename_i b hb
        refine ⟨v, _, .type T, _, b, rfl, .ty n, ?_, kit_ty hb, fin _ S _ H h rfl sr (.refl H)⟩
        cases d with
        | non => cases r1; cases hT; exact .base .non
        | bl x => cases r1; cases hT; exact .base (.bl x)
        | int x => cases r1; cases hT; exact .base (.int x)
        | str x => cases r1; cases hT; exact .base (.str x)
        | tup x =>
          cases hT
          obtain ⟨a, vs, rfl, ha, r3⟩ := r1
          rcases ha with (e | ⟨o, e⟩) | ⟨o, its, n, e, hc, _⟩
          · exact .base (.tup e)
          · exact .fTuple e
          · exact .kTuple e hc
        | lst x =>
          cases hT
          obtain ⟨a, vs, rfl, ha, r3⟩ := r1
          rcases ha with ⟨o, e⟩ | ⟨o, its, n, e, hc, _⟩
          · exact .base (.frz e)
          · exact .kList e hc
        | dic x =>
          cases hT
          obtain ⟨a, o, vs, rfl, e, r3⟩ := r1
          exact .fDict e
        | ref a =>
          cases r1
          have hT : (S a).bind (fun u => match u with | .lst _ => some "list" | _ => none) = some T := hT
          cases hS : S a with
          | none => rw [hS] at hT; cases hT
          | some u =>
            rw [hS] at hT
            cases u with
            | dic xs => cases hT
            | fn F n => cases hT
            | cell d => cases hT
            | tab n => cases hT
            | gho u => cases hT
            | lst xs =>
              cases hT
              obtain ⟨vs, hv, _⟩ := sr.lst hS
              exact .base (.lst hv)
        | ty n => cases hT
      · exact h.elim
    · exact h.elim
  · exact h.elim
/-- all truths -/
def blsD : List D → Option (List Bool)
  | [] => some []
  | .bl b :: r => (blsD r).map (b :: ·)
  | _ => none
theorem blsD_eq : ∀ {ds : List D} {bs : List Bool}, blsD ds = some bs → ds = bs.map .bl
  | [], _, h => by cases h; rfl
  | .bl b :: r, bs, h => by
    simp only [blsD, Option.map_eq_some_iff] at h
    obtain ⟨cs, h1, rfl⟩ := h
    simp [blsD_eq h1]
def intsD : List D → Option (List Int)
  | [] => some []
  | .int b :: r => (intsD r).map (b :: ·)
  | _ => none
theorem intsD_eq : ∀ {ds : List D} {bs : List Int}, intsD ds = some bs → ds = bs.map .int
  | [], _, h => by cases h; rfl
  | .int b :: r, bs, h => by
    simp only [intsD, Option.map_eq_some_iff] at h
    obtain ⟨cs, h1, rfl⟩ := h
    simp [intsD_eq h1]
def strsD : List D → Option (List Str)
  | [] => some []
  | .str b :: r => (strsD r).map (b :: ·)
  | _ => none
theorem strsD_eq : ∀ {ds : List D} {bs : List Str}, strsD ds = some bs → ds = bs.map .str
  | [], _, h => by cases h; rfl
  | .str b :: r, bs, h => by
    simp only [strsD, Option.map_eq_some_iff] at h
    obtain ⟨cs, h1, rfl⟩ := h
    simp [strsD_eq h1]
def allD : List D → Sto → DK → Prop := fun ds S P => match ds with
  | [.lst xs] => (blsD xs).elim False fun bs => P (.bl (bs.all id)) S
  | _ => False
theorem c_all (hc : X.calm = true) : CallD X (.builtin "all") allD := CallR.imp (cr_all hc) fun xs H Q hh => by
  obtain ⟨ds, S, P, r, sr, h, fin⟩ := hh
  unfold allD at h
  split at h
  · obtain ⟨v, rfl, a, vs, rfl, ha, r3⟩ := r.one
    rename_i zs
    cases hb : blsD zs with
    | none => rw [hb] at h; exact h.elim
    | some bs =>
      rw [hb] at h
      rw [blsD_eq hb] at r3
      rw [r3.bls] at ha
      exact ⟨a, bs, rfl, ha.sq, fin _ S _ H h rfl sr (.refl H)⟩
  · exact h.elim
def sumD : List D → Sto → DK → Prop := fun ds S P => match ds with
  | [.lst xs] => (intsD xs).elim False fun bs => P (.int bs.sum) S
  | _ => False
theorem c_sum (hc : X.calm = true) : CallD X (.builtin "sum") sumD := CallR.imp (cr_sum hc) fun xs H Q hh => by
  obtain ⟨ds, S, P, r, sr, h, fin⟩ := hh
  unfold sumD at h
  split at h
  · obtain ⟨v, rfl, a, vs, rfl, ha, r3⟩ := r.one
    rename_i zs
    cases hb : intsD zs with
    | none => rw [hb] at h; exact h.elim
    | some bs =>
      rw [hb] at h
      rw [intsD_eq hb] at r3
      rw [r3.ints] at ha
      exact ⟨a, bs, rfl, ha.sq, fin _ S _ H h rfl sr (.refl H)⟩
  · exact h.elim
/-- list(x) that may change; list(x) that stays; tuple(x) -/
def listM : List D → Sto → DK → Prop := fun ds S P => match ds with
  | [.tup xs] => ∀ p, S p = none → P (.ref p) (sup S p (.lst xs))
  | [.lst xs] => ∀ p, S p = none → P (.ref p) (sup S p (.lst xs))
  | _ => False
theorem c_listM : CallD X (.type "list") listM := CallR.imp call_list_of fun xs H Q hh => by
  obtain ⟨ds, S, P, r, sr, h, fin⟩ := hh
  unfold listM at h
  split at h
  · obtain ⟨v, rfl, a, vs, rfl, ha, r3⟩ := r.one
    exact ⟨a, vs, rfl, .inr ha, fun p np => fin _ _ _ _ (h p (sr.none np)) rfl (sr.add np r3) (.new np)⟩
  · obtain ⟨v, rfl, a, vs, rfl, ha, r3⟩ := r.one
    exact ⟨a, vs, rfl, .inl ha.sq, fun p np => fin _ _ _ _ (h p (sr.none np)) rfl (sr.add np r3) (.new np)⟩
  · exact h.elim
theorem CallR.frz {f : Value} {r : List V → Hp → VK → Prop} (h : CallR X f r) : CallR X f (fun xs H Q => r xs H fun v H1 => ∃ a ys, v = .ref a ∧ H1 a = some (.lst ys) ∧ ∀ o, Q v (upd H1 a (.frz o (.lst ys)))) :=
  fun pins s σ H xs us Q I a q => thn (h pins s σ H xs us _ I a q) fun u s1 q1 => freezeE q1
def listF : List D → Sto → DK → Prop := fun ds S P => match ds with
  | [.tup xs] => P (.lst xs) S
  | [.lst xs] => P (.lst xs) S
  | [.ref a] => match S a with
    | some (.lst xs) => P (.lst xs) S
    | _ => False
  | _ => False
theorem c_listF : CallD X (.type "list") listF := CallR.imp (CallR.frz call_list_of) fun xs H Q hh => by
  obtain ⟨ds, S, P, r, sr, h, fin⟩ := hh
  unfold listF at h
  split at h
  · obtain ⟨v, rfl, a, vs, rfl, ha, r3⟩ := r.one
    exact ⟨a, vs, rfl, .inr ha, fun p np => ⟨p, vs, rfl, upd_same, fun o => by rw [upd_upd]; exact fin _ S _ _ h ⟨p, vs, rfl, .inl ⟨o, upd_same⟩, r3.ext (.new np)⟩ (sr.new np) (.new np)⟩⟩
  · obtain ⟨v, rfl, a, vs, rfl, ha, r3⟩ := r.one
    exact ⟨a, vs, rfl, .inl ha.sq, fun p np => ⟨p, vs, rfl, upd_same, fun o => by rw [upd_upd]; exact fin _ S _ _ h ⟨p, vs, rfl, .inl ⟨o, upd_same⟩, r3.ext (.new np)⟩ (sr.new np) (.new np)⟩⟩
  · obtain ⟨v, rfl, r1⟩ := r.one
    cases r1
    split at h
    · rename_i ys hS
      obtain ⟨vs, hv, r3⟩ := sr.lst hS
      exact ⟨_, vs, rfl, .inl (.of hv), fun p np => ⟨p, vs, rfl, upd_same, fun o => by rw [upd_upd]; exact fin _ S _ _ h ⟨p, vs, rfl, .inl ⟨o, upd_same⟩, r3.ext (.new np)⟩ (sr.new np) (.new np)⟩⟩
    · exact h.elim
  · exact h.elim
def tupleD : List D → Sto → DK → Prop := fun ds S P => match ds with
  | [.tup xs] => P (.tup xs) S
  | [.lst xs] => P (.tup xs) S
  | [.ref a] => match S a with
    | some (.lst xs) => P (.tup xs) S
    | _ => False
  | _ => False
theorem c_tuple : CallD X (.type "tuple") tupleD := CallR.imp call_tuple_of fun xs H Q hh => by
  obtain ⟨ds, S, P, r, sr, h, fin⟩ := hh
  unfold tupleD at h
  split at h
  · obtain ⟨v, rfl, a, vs, rfl, ha, r3⟩ := r.one
    exact ⟨a, vs, rfl, .inr ⟨ha, fin _ S _ H h ⟨a, vs, rfl, ha, r3⟩ sr (.refl H)⟩⟩
  · obtain ⟨v, rfl, a, vs, rfl, ha, r3⟩ := r.one
    exact ⟨a, vs, rfl, .inl ⟨ha.sq, fun p np => fin _ S _ _ h ⟨p, vs, rfl, .of upd_same, r3.ext (.new np)⟩ (sr.new np) (.new np)⟩⟩
  · obtain ⟨v, rfl, r1⟩ := r.one
    cases r1
    split at h
    · rename_i ys hS
      obtain ⟨vs, hv, r3⟩ := sr.lst hS
      exact ⟨_, vs, rfl, .inl ⟨.of hv, fun p np => fin _ S _ _ h ⟨p, vs, rfl, .of upd_same, r3.ext (.new np)⟩ (sr.new np) (.new np)⟩⟩
    · exact h.elim
  · exact h.elim
def intD : List D → Sto → DK → Prop := fun ds S P => match ds with
  | [.int i] => P (.int i) S
  | [.bl b] => P (.int (if b then 1 else 0)) S
  | _ => False
theorem c_int : CallD X (.type "int") intD := CallR.imp call_int1 fun xs H Q hh => by
  obtain ⟨ds, S, P, r, sr, h, fin⟩ := hh
  unfold intD at h
  split at h
  · obtain ⟨v, rfl, r1⟩ := r.one
    cases r1
    exact .inl ⟨_, rfl, fin _ S _ H h rfl sr (.refl H)⟩
  · obtain ⟨v, rfl, r1⟩ := r.one
    cases r1
    exact .inr ⟨_, rfl, fin _ S _ H h rfl sr (.refl H)⟩
  · exact h.elim
def minD : List D → Sto → DK → Prop := fun ds S P => match ds with
  | [.int i, .int j] => P (.int (if j < i then j else i)) S
  | _ => False
theorem c_min (hc : X.calm = true) : CallD X (.builtin "min") minD := CallR.imp (call_min2 hc) fun xs H Q hh => by
  obtain ⟨ds, S, P, r, sr, h, fin⟩ := hh
  unfold minD at h
  split at h
  · obtain ⟨v, w', rfl, r1, r2⟩ := r.two
    cases r1
    cases r2
    exact ⟨_, _, rfl, fin _ S _ H h rfl sr (.refl H)⟩
  · exact h.elim
/-! ### methods -/
def onL (x : D) (S : Sto) (f : Addr → List D → Prop) : Prop := match x with
  | .ref a => match S a with
    | some (.lst xs) => f a xs
    | _ => False
  | _ => False
theorem onL_of {x : D} {S : Sto} {f : Addr → List D → Prop} (h : onL x S f) : ∃ a xs, x = .ref a ∧ S a = some (.lst xs) ∧ f a xs := by
  unfold onL at h
  split at h
  · split at h
    · exact ⟨_, _, rfl, by assumption, h⟩
    · exact h.elim
  · exact h.elim
def appendD : D → List D → Sto → DK → Prop := fun x ds S P => match ds with
  | [d] => onL x S fun a xs => xs.length < sizeLine ∧ P .non (sup S a (.lst (xs ++ [d])))
  | _ => False
theorem m_append : MtD X "list.append" appendD := fun pins s σ H x xs v us Q I rx rs ⟨d, ds, S, P, r1, r2, sr, h, fin⟩ => by
  unfold appendD at h
  split at h
  · obtain ⟨a, ys, rfl, hS, h1, h2⟩ := onL_of h
    obtain ⟨w', rfl, r3⟩ := r2.one
    cases r1
    obtain ⟨vs, hv, r4⟩ := sr.lst hS
    exact mt_append pins s σ H _ _ v us Q I rx rs ⟨a, vs, w', rfl, rfl, hv, by rw [r4.length]; exact h1, fin _ _ _ _ h2 rfl (sr.mut hS (r4.append (.single r3))) (.mutL hv)⟩
  · exact h.elim
def popD : D → List D → Sto → DK → Prop := fun x ds S P => match ds with
  | [] => onL x S fun a xs => (xs[xs.length - 1]?).elim False fun d => P d (sup S a (.lst xs.dropLast))
  | _ => False
theorem m_pop : MtD X "list.pop" popD := fun pins s σ H x xs v us Q I rx rs ⟨d, ds, S, P, r1, r2, sr, h, fin⟩ => by
  unfold popD at h
  split at h
  · obtain ⟨a, ys, rfl, hS, h1⟩ := onL_of h
    cases r1
    cases r2
    obtain ⟨vs, hv, r4⟩ := sr.lst hS
    cases hy : ys[ys.length - 1]? with
    | none => rw [hy] at h1; exact h1.elim
    | some y =>
      rw [hy] at h1
      obtain ⟨z, hz, r5⟩ := r4.get hy
      exact mt_pop pins s σ H _ _ v us Q I rx rs ⟨a, vs, z, rfl, rfl, hv, by rw [r4.length]; exact hz, fin _ _ _ _ h1 (r5.ext (.mutL hv)) (sr.mut hS r4.dropLast) (.mutL hv)⟩
  · exact h.elim
def extendD : D → List D → Sto → DK → Prop := fun x ds S P => match ds with
  | [.tup zs] => onL x S fun a xs => xs.length + zs.length ≤ sizeLine ∧ P .non (sup S a (.lst (xs ++ zs)))
  | _ => False
theorem m_extend : MtD X "list.extend" extendD := fun pins s σ H x xs v us Q I rx rs ⟨d, ds, S, P, r1, r2, sr, h, fin⟩ => by
  unfold extendD at h
  split at h
  · obtain ⟨a, ys, rfl, hS, h1, h2⟩ := onL_of h
    obtain ⟨w', rfl, b, ws, rfl, hb, r3⟩ := r2.one
    cases r1
    obtain ⟨vs, hv, r4⟩ := sr.lst hS
    cases rx
    obtain ⟨u, rfl, ru⟩ := rs.one
    cases ru
    obtain ⟨z, its, n, r, hl, e⟩ := I.lstM hv
    obtain ⟨its2, rr2, ⟨⟨cls, dd, data, sl⟩, ho, hcl, n2, hd⟩, hz2⟩ := I.tuple hb
    simp only at hcl hd
    subst hcl hd
    have l1 := r4.length
    have l2 := r3.length
    have l3 := rr2.length
    have hsz : its.toArray.size + its2.toArray.size ≤ sizeLine := by rw [List.size_toArray, List.size_toArray]; omega
    have hlong : ¬ (!its.toArray.isEmpty && Builtin.List.listTooLong (its.toArray.size + its2.toArray.size)) = true := by
      rw [notLongL hsz, Bool.and_false]; exact Bool.false_ne_true
    refine call_meets PySem.F.slot_list_extend ⟨_, e, rfl⟩ PySem.F.entry_list_extend (PySem.F.args_list_extend_2 _ _) (DM.ext_tup a b its.toArray its2.toArray n n2 dd sl hlong (by rw [List.size_toArray]; omega) (by omega)) ⟨⟨e, ho⟩, ?_⟩
    exact ⟨.non, _, I.lset (its' := its ++ its2) (t' := s.toks) hv e (by simp) (r.append rr2) (by rw [List.length_append]; omega), rfl, fin _ _ _ _ h2 rfl (sr.mut hS (r4.append r3)) (.mutL hv)⟩
  · exact h.elim
/-! texts -/
def splitD : D → List D → Sto → DK → Prop := fun x ds S P => match x, ds with
  | .str a, [.str b] => ((b.length == 0) = false ∧ a.length + 2 ≤ sizeLine) ∧ P (.lst ((Txt.split a b).map .str)) S
  | _, _ => False
theorem MtR.frz {id : String} {r : V → List V → Hp → VK → Prop} (h : MtR X id r) : MtR X id (fun x xs H Q => r x xs H fun v H1 => ∃ a ys, v = .ref a ∧ H1 a = some (.lst ys) ∧ ∀ o, Q v (upd H1 a (.frz o (.lst ys)))) :=
  fun pins s σ H x xs v us Q I a b q => thn (h pins s σ H x xs v us _ I a b q) fun u s1 q1 => freezeE q1
theorem m_split : MtD X "str.split" splitD := MtR.imp (MtR.frz mt_split) fun x xs H Q hh => by
  obtain ⟨d, ds, S, P, r1, r2, sr, h, fin⟩ := hh
  unfold splitD at h
  split at h
  · cases r1
    obtain ⟨w', rfl, r3⟩ := r2.one
    cases r3
    exact ⟨_, _, rfl, rfl, h.1.1, h.1.2, fun p np => ⟨p, _, rfl, upd_same, fun o => by rw [upd_upd]; exact fin _ S _ _ h.2 ⟨p, _, rfl, .inl ⟨o, upd_same⟩, RpA.of_strs _⟩ (sr.new np) (.new np)⟩⟩
  · exact h.elim
def countD : D → List D → Sto → DK → Prop := fun x ds S P => match x, ds with
  | .str a, [.str b] => P (.int (Txt.count a b)) S
  | _, _ => False
theorem m_count : MtD X "str.count" countD := MtR.imp mt_count fun x xs H Q hh => by
  obtain ⟨d, ds, S, P, r1, r2, sr, h, fin⟩ := hh
  unfold countD at h
  split at h
  · cases r1
    obtain ⟨w', rfl, r3⟩ := r2.one
    cases r3
    exact ⟨_, _, rfl, rfl, fin _ S _ H h rfl sr (.refl H)⟩
  · exact h.elim
def upperD : D → List D → Sto → DK → Prop := fun x ds S P => match x, ds with
  | .str a, [] => a.length ≤ 5592405 ∧ P (.str (Txt.upper a)) S
  | _, _ => False
theorem m_upper : MtD X "str.upper" upperD := MtR.imp mt_upper fun x xs H Q hh => by
  obtain ⟨d, ds, S, P, r1, r2, sr, h, fin⟩ := hh
  unfold upperD at h
  split at h
  · cases r1
    cases r2
    exact ⟨_, rfl, rfl, h.1, fin _ S _ H h.2 rfl sr (.refl H)⟩
  · exact h.elim
def joinD : D → List D → Sto → DK → Prop := fun x ds S P => match x, ds with
  | .str a, [.lst xs] => (strsD xs).elim False fun ys => (ys.map (·.length)).sum + ys.length * a.length ≤ 16777216 ∧ P (.str (Txt.join a ys)) S
  | _, _ => False
theorem m_join : MtD X "str.join" joinD := MtR.imp mt_join fun x xs H Q hh => by
  obtain ⟨d, ds, S, P, r1, r2, sr, h, fin⟩ := hh
  unfold joinD at h
  split at h
  · cases r1
    obtain ⟨w', rfl, a, vs, rfl, ha, r3⟩ := r2.one
    rename_i zs
    cases hb : strsD zs with
    | none => rw [hb] at h; exact h.elim
    | some bs =>
      rw [hb] at h
      rw [strsD_eq hb] at r3
      rw [r3.strs] at ha
      exact ⟨_, a, bs, rfl, rfl, .inl ha.sq, h.1, fin _ S _ H h.2 rfl sr (.refl H)⟩
  · exact h.elim
end
end DL
set_option Elab.async false
set_option linter.all false
set_option maxRecDepth 100000
set_option maxHeartbeats 1000000
namespace DL
open PySem PySem.Spec PyProof.Rows L2

/-- a list that changes, as it stands -/
def norm (S : Sto) : D → D
  | .ref a => match S a with
    | some (.lst xs) => .lst xs
    | _ => .ref a
  | d => d
def KD (K : PySem.W.Frag) (H : Hp) : D → V → Prop
  | .lst xs, v => ∃ a vs, v = .ref a ∧ SqL K H a vs ∧ RpA K H xs vs
  | d, v => Rp K H d v
theorem kd_of {K : PySem.W.Frag} {H : Hp} {S : Sto} {d : D} {v : V} (r : Rp K H d v) (sr : SR K H S) : KD K H (norm S d) v := by
  cases d with
  | ref a =>
    unfold norm
    simp only
    split
    · rename_i xs hS
      obtain ⟨vs, hv, r2⟩ := sr.lst hS
      exact ⟨a, vs, r, .of hv, r2⟩
    · exact r
  | lst xs => obtain ⟨a, vs, e, h, r2⟩ := r; exact ⟨a, vs, e, h.sq, r2⟩
  | _ => exact r
def two (xs ys : List D) : Option Bool := if xs.isEmpty || ys.isEmpty then some (xs.isEmpty && ys.isEmpty) else none
def eqB : D → D → Option Bool
  | .str a, .str b => some (a == b)
  | .int a, .int b => some (a == b)
  | .bl a, .bl b => some (a == b)
  | .bl a, .int b => some (b2i a == b)
  | .int a, .bl b => some (a == b2i b)
  | .tup xs, .tup ys => two xs ys
  | .lst xs, .lst ys => two xs ys
  | .str _, .non => some false
  | .str _, .bl _ => some false
  | .str _, .int _ => some false
  | .str _, .tup _ => some false
  | .str _, .lst _ => some false
  | .str _, .dic _ => some false
  | .non, .str _ => some false
  | .bl _, .str _ => some false
  | .int _, .str _ => some false
  | .tup _, .str _ => some false
  | .lst _, .str _ => some false
  | .dic _, .str _ => some false
  | _, _ => none
section
variable {X : Cx} {pins : List (Addr × Obj)} {σ : L2.St} {H : Hp} {s : Shared} {A : Around}
theorem dic_at {a : Addr} {o : Obj} {ws : List (Key × V)} (I : L2.Inv X pins σ H s) (h : H a = some (.frz o (.dK ws))) : ∃ es n dd sl, s.heap.get? a = some ⟨.type "dict", dd, .dict es n, sl⟩ := by
  obtain ⟨_, _, _, vs, _, ob, es, ep, e, ex, hd, _⟩ := (show ObjOk X.prog X.w H s.heap a (.frz o (.dK ws)) from I.hok a _ h)
  obtain ⟨cls, dd, data, sl⟩ := ob
  have c : cls = .type "dict" := ex.1
  simp only at hd
  subst c hd
  exact ⟨es, ep, dd, sl, e⟩
theorem two_of {xs ys : List D} {vs ws : List V} {its its2 : List Value} {b : Bool} (h : two xs ys = some b) (r1 : RpA X.K H xs vs) (r2 : RpA X.K H ys ws) (q1 : Vals vs its) (q2 : Vals ws its2) :
    ((its.toArray.size = 0 ∨ its2.toArray.size = 0) ∧ b = (its.toArray.size == its2.toArray.size)) := by
  have l1 : xs.length = its.toArray.size := by rw [List.size_toArray, ← q1.length, r1.length]
  have l2 : ys.length = its2.toArray.size := by rw [List.size_toArray, ← q2.length, r2.length]
  unfold two at h
  split at h
  · rename_i hc
    cases h
    cases xs with
    | nil =>
      rw [← l1, ← l2]
      cases ys with
      | nil => exact ⟨.inl rfl, rfl⟩
      | cons y t => exact ⟨.inl rfl, rfl⟩
    | cons x t =>
      cases ys with
      | nil => rw [← l1, ← l2]; exact ⟨.inr rfl, rfl⟩
      | cons y u => cases hc
  · cases h
theorem rc_eq {d e : D} {x y : V} {v u : Value} {b : Bool} (I : L2.Inv X pins σ H s) (hu : A.units < cLine) (h : eqB d e = some b) (k1 : KD X.K H d x) (k2 : KD X.K H e y) (r1 : RelV x v) (r2 : RelV y u) : SeqAt.RcAt A s v u b := by
  unfold eqB at h
  split at h
  all_goals first
    | (cases h; done)
    | skip
  · cases h; cases k1; cases k2; obtain ⟨t, rfl⟩ := r1; obtain ⟨t', rfl⟩ := r2; exact SeqAt.RcAt.str_str _ _ _ _
  · cases h; cases k1; cases k2; obtain ⟨t, rfl⟩ := r1; obtain ⟨t', rfl⟩ := r2; exact SeqAt.RcAt.int_int _ _ _ _
  · cases h; cases k1; cases k2; cases r1; cases r2; exact SeqAt.RcAt.bool_bool _ _
  · cases h; cases k1; cases k2; cases r1; obtain ⟨t', rfl⟩ := r2; exact SeqAt.RcAt.bool_int _ _ _
  · cases h; cases k1; cases k2; cases r2; obtain ⟨t', rfl⟩ := r1; exact SeqAt.RcAt.int_bool _ _ _
  · obtain ⟨a, vs, rfl, ha, r3⟩ := k1
    obtain ⟨c, ws, rfl, hc, r4⟩ := k2
    cases r1; cases r2
    obtain ⟨its, q1, p1, _⟩ := I.tuple ha
    obtain ⟨its2, q2, p2, _⟩ := I.tuple hc
    obtain ⟨hz, rfl⟩ := two_of h r3 r4 q1 q2
    have z := SeqAt.RcAt.tuples (A := A) (s := s) (e := fun _ => true) (show s.heap.IsTuple a its.toArray from p1) (show s.heap.IsTuple c its2.toArray from p2) hu (fun j h1 h2 => by omega)
    have z2 : (List.range (min its.toArray.size its2.toArray.size)).all (fun _ => true) = true := by simp
    rw [z2, Bool.true_and] at z
    exact z
  · obtain ⟨a, vs, rfl, ha, r3⟩ := k1
    obtain ⟨c, ws, rfl, hc, r4⟩ := k2
    cases r1; cases r2
    obtain ⟨its, q1, p1, _⟩ := I.list ha
    obtain ⟨its2, q2, p2, _⟩ := I.list hc
    obtain ⟨hz, rfl⟩ := two_of h r3 r4 q1 q2
    by_cases hs : its.toArray.size = its2.toArray.size
    · have z := SeqAt.RcAt.lists (A := A) (s := s) (e := fun _ => true) p1.isList p2.isList hs hu (fun j h1 h2 => by omega)
      have z2 : (List.range its.toArray.size).all (fun _ => true) = true := by simp
      rw [z2] at z
      rw [beq_iff_eq.mpr hs]
      exact z
    · rw [beq_eq_false_iff_ne.mpr hs]
      exact SeqAt.RcAt.lists_lengths p1.isList p2.isList (by simpa using hs) hu
  · cases h; cases k1; cases k2; obtain ⟨t, rfl⟩ := r1; cases r2; exact SeqAt.RcAt.str_none _ _
  · cases h; cases k1; cases k2; obtain ⟨t, rfl⟩ := r1; cases r2; exact SeqAt.RcAt.str_bool _ _ _
  · cases h; cases k1; cases k2; obtain ⟨t, rfl⟩ := r1; obtain ⟨t', rfl⟩ := r2; exact SeqAt.RcAt.str_int _ _ _ _
  · cases h; cases k1; obtain ⟨t, rfl⟩ := r1; obtain ⟨c, ws, rfl, hc, r4⟩ := k2; cases r2
    obtain ⟨its2, q2, p2, _⟩ := I.tuple hc
    exact SeqAt.RcAt.str_tuple _ _ (show s.heap.IsTuple c its2.toArray from p2) hu
  · cases h; cases k1; obtain ⟨t, rfl⟩ := r1; obtain ⟨c, ws, rfl, hc, r4⟩ := k2; cases r2
    obtain ⟨its2, q2, p2, _⟩ := I.list hc
    exact SeqAt.RcAt.str_list _ _ p2.isList hu
  · cases h; cases k1; obtain ⟨t, rfl⟩ := r1; obtain ⟨c, o, ws, rfl, hc, r4⟩ := k2; cases r2
    obtain ⟨es, n, dd, sl, q⟩ := dic_at I hc
    exact DM.rc_str_dict _ _ q hu
  · cases h; cases k1; cases k2; obtain ⟨t, rfl⟩ := r2; cases r1; exact SeqAt.RcAt.none_str _ _
  · cases h; cases k1; cases k2; obtain ⟨t, rfl⟩ := r2; cases r1; exact SeqAt.RcAt.bool_str _ _ _
  · cases h; cases k1; cases k2; obtain ⟨t, rfl⟩ := r1; obtain ⟨t', rfl⟩ := r2; exact SeqAt.RcAt.int_str _ _ _ _
  · cases h; cases k2; obtain ⟨t, rfl⟩ := r2; obtain ⟨c, ws, rfl, hc, r4⟩ := k1; cases r1
    obtain ⟨its2, q2, p2, _⟩ := I.tuple hc
    exact SeqAt.RcAt.tuple_str _ _ (show s.heap.IsTuple c its2.toArray from p2) hu
  · cases h; cases k2; obtain ⟨t, rfl⟩ := r2; obtain ⟨c, ws, rfl, hc, r4⟩ := k1; cases r1
    obtain ⟨its2, q2, p2, _⟩ := I.list hc
    exact SeqAt.RcAt.list_str _ _ p2.isList hu
  · cases h; cases k2; obtain ⟨t, rfl⟩ := r2; obtain ⟨c, o, ws, rfl, hc, r4⟩ := k1; cases r1
    obtain ⟨es, n, dd, sl, q⟩ := dic_at I hc
    exact DM.rc_dict_str _ _ q hu
def eqD : DR := fun x y S P => (eqB (norm S x) (norm S y)).elim False fun b => P (.bl b) S
theorem el_of {α : Type} {o : Option α} {f : α → Prop} (h : o.elim False f) : ∃ a, o = some a ∧ f a := by cases o with | none => exact h.elim | some a => exact ⟨a, rfl, h⟩
theorem op_eqD (hu : X.A.units < cLine) : OpD X (compareOp .Eq) eqD := by
  intro pins s σ H x y v u Q I rx ry ⟨d, e, S, P, r1, r2, sr, h, fin⟩
  obtain ⟨b, hb, q⟩ := el_of h
  exact rc_eq I hu hb (kd_of r1 sr) (kd_of r2 sr) rx ry X.prog X.w _ _ ⟨.bl b, H, I, rfl, fin (.bl b) S _ H q rfl sr (.refl H)⟩
/-- != : as ==, but not of a dict -/
def neB : D → D → Option Bool
  | .str _, .dic _ => none
  | .dic _, .str _ => none
  | x, y => eqB x y
def neD : DR := fun x y S P => (neB (norm S x) (norm S y)).elim False fun b => P (.bl (!b)) S
theorem rc_ne {d e : D} {x y : V} {v u : Value} {b : Bool} (I : L2.Inv X pins σ H s) (hu : A.units < cLine) (h : neB d e = some b) (k1 : KD X.K H d x) (k2 : KD X.K H e y) (r1 : RelV x v) (r2 : RelV y u) : SeqAt.RcNeAt A s v u (!b) := by
  unfold neB at h
  split at h
  · cases h
  · cases h
  rename_i n1 n2
  unfold eqB at h
  split at h
  all_goals first
    | (cases h; done)
    | skip
  · cases h; cases k1; cases k2; obtain ⟨t, rfl⟩ := r1; obtain ⟨t', rfl⟩ := r2; exact SeqAt.RcNeAt.str_str _ _ _ _
  · cases h; cases k1; cases k2; obtain ⟨t, rfl⟩ := r1; obtain ⟨t', rfl⟩ := r2; exact SeqAt.RcNeAt.int_int _ _ _ _
  · cases h; cases k1; cases k2; cases r1; cases r2; exact SeqAt.RcNeAt.bool_bool _ _
  · cases h; cases k1; cases k2; cases r1; obtain ⟨t', rfl⟩ := r2; exact SeqAt.RcNeAt.bool_int _ _ _
  · cases h; cases k1; cases k2; cases r2; obtain ⟨t', rfl⟩ := r1; exact SeqAt.RcNeAt.int_bool _ _ _
  · obtain ⟨a, vs, rfl, ha, r3⟩ := k1
    obtain ⟨c, ws, rfl, hc, r4⟩ := k2
    cases r1; cases r2
    obtain ⟨its, q1, p1, _⟩ := I.tuple ha
    obtain ⟨its2, q2, p2, _⟩ := I.tuple hc
    obtain ⟨hz, rfl⟩ := two_of h r3 r4 q1 q2
    have z := SeqAt.RcNeAt.tuples (A := A) (s := s) (e := fun _ => true) (show s.heap.IsTuple a its.toArray from p1) (show s.heap.IsTuple c its2.toArray from p2) hu (fun j h1 h2 => by omega)
    have z2 : (List.range (min its.toArray.size its2.toArray.size)).all (fun _ => true) = true := by simp
    rw [z2, Bool.true_and] at z
    exact z
  · obtain ⟨a, vs, rfl, ha, r3⟩ := k1
    obtain ⟨c, ws, rfl, hc, r4⟩ := k2
    cases r1; cases r2
    obtain ⟨its, q1, p1, _⟩ := I.list ha
    obtain ⟨its2, q2, p2, _⟩ := I.list hc
    obtain ⟨hz, rfl⟩ := two_of h r3 r4 q1 q2
    by_cases hs : its.toArray.size = its2.toArray.size
    · have z := SeqAt.RcNeAt.lists (A := A) (s := s) (e := fun _ => true) p1.isList p2.isList hs hu (fun j h1 h2 => by omega)
      have z2 : (List.range its.toArray.size).all (fun _ => true) = true := by simp
      rw [z2] at z
      rw [beq_iff_eq.mpr hs]
      exact z
    · rw [beq_eq_false_iff_ne.mpr hs]
      exact SeqAt.RcNeAt.lists_lengths p1.isList p2.isList (by simpa using hs) hu
  · cases h; cases k1; cases k2; obtain ⟨t, rfl⟩ := r1; cases r2; exact SeqAt.RcNeAt.str_none _ _
  · cases h; cases k1; cases k2; obtain ⟨t, rfl⟩ := r1; cases r2; exact SeqAt.RcNeAt.str_bool _ _ _
  · cases h; cases k1; cases k2; obtain ⟨t, rfl⟩ := r1; obtain ⟨t', rfl⟩ := r2; exact SeqAt.RcNeAt.str_int _ _ _ _
  · cases h; cases k1; obtain ⟨t, rfl⟩ := r1; obtain ⟨c, ws, rfl, hc, r4⟩ := k2; cases r2
    obtain ⟨its2, q2, p2, _⟩ := I.tuple hc
    exact SeqAt.RcNeAt.str_tuple _ _ (show s.heap.IsTuple c its2.toArray from p2) hu
  · cases h; cases k1; obtain ⟨t, rfl⟩ := r1; obtain ⟨c, ws, rfl, hc, r4⟩ := k2; cases r2
    obtain ⟨its2, q2, p2, _⟩ := I.list hc
    exact SeqAt.RcNeAt.str_list _ _ p2.isList hu
  · exact absurd rfl (n1 _ _ rfl)
  · cases h; cases k1; cases k2; obtain ⟨t, rfl⟩ := r2; cases r1; exact SeqAt.RcNeAt.none_str _ _
  · cases h; cases k1; cases k2; obtain ⟨t, rfl⟩ := r2; cases r1; exact SeqAt.RcNeAt.bool_str _ _ _
  · cases h; cases k1; cases k2; obtain ⟨t, rfl⟩ := r1; obtain ⟨t', rfl⟩ := r2; exact SeqAt.RcNeAt.int_str _ _ _ _
  · cases h; cases k2; obtain ⟨t, rfl⟩ := r2; obtain ⟨c, ws, rfl, hc, r4⟩ := k1; cases r1
    obtain ⟨its2, q2, p2, _⟩ := I.tuple hc
    exact SeqAt.RcNeAt.tuple_str _ _ (show s.heap.IsTuple c its2.toArray from p2) hu
  · cases h; cases k2; obtain ⟨t, rfl⟩ := r2; obtain ⟨c, ws, rfl, hc, r4⟩ := k1; cases r1
    obtain ⟨its2, q2, p2, _⟩ := I.list hc
    exact SeqAt.RcNeAt.list_str _ _ p2.isList hu
  · exact absurd rfl (n2 _ _ rfl)
theorem op_neD (hu : X.A.units < cLine) : OpD X (compareOp .NotEq) neD := by
  intro pins s σ H x y v u Q I rx ry ⟨d, e, S, P, r1, r2, sr, h, fin⟩
  obtain ⟨b, hb, q⟩ := el_of h
  exact rc_ne I hu hb (kd_of r1 sr) (kd_of r2 sr) rx ry X.prog X.w _ _ ⟨.bl _, H, I, rfl, fin (.bl _) S _ H q rfl sr (.refl H)⟩
end
end DL
set_option Elab.async false
set_option linter.all false
set_option maxRecDepth 100000
set_option maxHeartbeats 1000000
namespace DL
open PySem PySem.Spec PyProof.Rows L2

/-! ### trees as the model's plain data, and their texts -/
def keyPy : Key → PyData
  | .inl i => .int i
  | .inr x => .str x
mutual
def py : D → PyData
  | .non => .none
  | .bl b => .bool b
  | .int i => .int i
  | .str s => .str s
  | .ref _ => .none
  | .ty _ => .none
  | .tup xs => .tuple (pyA xs)
  | .lst xs => .list (pyA xs)
  | .dic kvs => .dict (pyK kvs)
def pyA : List D → List PyData
  | [] => []
  | d :: r => py d :: pyA r
def pyK : List (Key × D) → List (PyData × PyData)
  | [] => []
  | (k, d) :: r => (keyPy k, py d) :: pyK r
end
mutual
/-- nothing in it may change -/
def still : D → Bool
  | .ref _ => false
  | .ty _ => false
  | .tup xs => stillA xs
  | .lst xs => stillA xs
  | .dic kvs => stillK kvs
  | _ => true
def stillA : List D → Bool
  | [] => true
  | d :: r => still d && stillA r
def stillK : List (Key × D) → Bool
  | [] => true
  | (_, d) :: r => still d && stillK r
end
/-- what a value gives for its repr -/
def Both (P : Program) (w : World) (h : Heap) (u : Value) (d : PyData) : Prop :=
  ∃ as bs, Reads h u d as ∧ ReadAtMost h d.depth bs ∧ ReprK P w bs h d.depth u d.shown
def BothA (P : Program) (w : World) (h : Heap) (us : List Value) (ds : List PyData) : Prop :=
  ∃ as bs, ReadsAll h us ds as ∧ ReadAtMost h (PyData.depthAll ds) bs ∧ ReprAllK P w bs h (PyData.depthAll ds) us (PyData.shownAll ds)
theorem noAddr {h : Heap} {n : Nat} : ReadAtMost h n [] := fun _ q => nomatch q
section
variable {P : Program} {w : World} {h : Heap}
theorem BothA.nil : BothA P w h [] [] := ⟨[], [], .nil, noAddr, by simp only [PyData.shownAll]; exact .nil⟩
theorem BothA.cons {u : Value} {d : PyData} {us : List Value} {ds : List PyData} (a : Both P w h u d) (b : BothA P w h us ds) : BothA P w h (u :: us) (d :: ds) := by
  obtain ⟨as, bs, r, m, k⟩ := a
  obtain ⟨as', bs', r', m', k'⟩ := b
  refine ⟨as ++ as', bs ++ bs', .cons r r', ?_, ?_⟩
  · simp only [PyData.depthAll]
    exact (m.mono (Nat.le_max_left _ _)).append (m'.mono (Nat.le_max_right _ _))
  · simp only [PyData.depthAll, PyData.shownAll]
    exact .cons ((k.more fun _ z => List.mem_append_left _ z).level_le (Nat.le_max_left _ _)) (k'.more_le (fun _ z => List.mem_append_right _ z) (Nat.le_max_right _ _))
theorem Both.tup {a : Addr} {o : Obj} {its : Array Value} {n : Nat} {ds : List PyData} (e : h.get? a = some o) (c : o.cls = .type "tuple") (q : o.data = .seq its n) (b : BothA P w h its.toList ds) : Both P w h (.ref a) (.tuple ds) := by
  obtain ⟨as, bs, r, m, k⟩ := b
  have R : Reads h (.ref a) (.tuple ds) as := .tuple e c q r
  have na : a ∉ bs := not_mem_of_deeper R (by simp only [PyData.depth]; exact Nat.lt_succ_self _) m
  refine ⟨as, a :: bs, R, .cons R (by simp only [PyData.depth]; exact Nat.le_succ _) m, ?_⟩
  simp only [PyData.depth, PyData.shown]
  exact .tuple e c q na k
theorem Both.lst {a : Addr} {o : Obj} {its : Array Value} {n : Nat} {ds : List PyData} (e : h.get? a = some o) (c : o.cls = .type "list") (q : o.data = .seq its n) (b : BothA P w h its.toList ds) : Both P w h (.ref a) (.list ds) := by
  obtain ⟨as, bs, r, m, k⟩ := b
  have R : Reads h (.ref a) (.list ds) (a :: as) := .list e c q r
  have na : a ∉ bs := not_mem_of_deeper R (by simp only [PyData.depth]; exact Nat.lt_succ_self _) m
  refine ⟨a :: as, a :: bs, R, .cons R (by simp only [PyData.depth]; exact Nat.le_succ _) m, ?_⟩
  simp only [PyData.depth, PyData.shown]
  obtain ⟨its⟩ := its
  cases its with
  | nil =>
    cases ds with
    | nil => simp only [PyData.shownAll, listText_nil]; exact .listEmpty e c q
    | cons x t => cases r
  | cons x t => exact .list e c q na (by simpa using k.length_eq) fun i y z => k.item i y (by simpa using z)
theorem Both.dic {a : Addr} {o : Obj} {es : Array DictEntry} {n : Nat} {kvs : List (PyData × PyData)} (e : h.get? a = some o) (c : o.cls = .type "dict") (q : o.data = .dict es n) (low : (a == sysModules) = false)
    (b1 : BothA P w h (es.toList.map (·.key)) (kvs.map (·.1))) (b2 : BothA P w h (es.toList.map (·.val)) (kvs.map (·.2))) : Both P w h (.ref a) (.dict kvs) := by
  obtain ⟨as, bs, r, m, k⟩ := b1
  obtain ⟨as', bs', r', m', k'⟩ := b2
  have R : Reads h (.ref a) (.dict kvs) _ := .dict e c q r r'
  have l1 := PyData.depthAll_keys_le kvs
  have l2 := PyData.depthAll_vals_le kvs
  have M : ReadAtMost h (PyData.depthKv kvs) (bs ++ bs') := (m.mono l1).append (m'.mono l2)
  have na : a ∉ bs ++ bs' := not_mem_of_deeper R (by simp only [PyData.depth]; exact Nat.lt_succ_self _) M
  refine ⟨_, a :: (bs ++ bs'), R, .cons R (by simp only [PyData.depth]; exact Nat.le_succ _) M, ?_⟩
  simp only [PyData.depth, PyData.shown, PyData.shownKv_eq]
  exact .dict e c q low na (.of_two es.toList _ _ (k.more_le (fun _ z => List.mem_append_left _ z) l1) (k'.more_le (fun _ z => List.mem_append_right _ z) l2))
end
def fitsKey : Key → Bool
  | .inl i => decide (i.natAbs.log2 < 1920)
  | .inr x => decide ((reprText x).length ≤ sizeLine)
mutual
/-- no number, no text too long -/
def fits : D → Bool
  | .int i => decide (i.natAbs.log2 < 1920)
  | .str x => decide ((reprText x).length ≤ sizeLine)
  | .tup xs => fitsA xs
  | .lst xs => fitsA xs
  | .dic kvs => fitsK kvs
  | .ref _ => false
  | .ty _ => false
  | _ => true
def fitsA : List D → Bool
  | [] => true
  | d :: r => fits d && fitsA r
def fitsK : List (Key × D) → Bool
  | [] => true
  | (k, d) :: r => fitsKey k && fits d && fitsK r
end
section
variable {X : Cx} {pins : List (Addr × Obj)} {σ : L2.St} {H : Hp} {s : Shared}
theorem both_leaf {u : Value} {d : PyData} {t : Str} {as : List Addr} (r : Reads s.heap u d as) (e : d.shown = t) (k : ReprIs X.prog X.w u t) : Both X.prog X.w s.heap u d := ⟨as, [], r, noAddr, by rw [e]; exact .of_is k _ _ _⟩
theorem both_int (i : Int) (t : Tok) (h : i.natAbs.log2 < 1920) : Both X.prog X.w s.heap (.int i t) (.int i) := both_leaf (.int i t) (by simp only [PyData.shown]) (ReprIs.int t h)
theorem both_str (x : Str) (t : Tok) (h : (reprText x).length ≤ sizeLine) : Both X.prog X.w s.heap (.str x t) (.str x) := both_leaf (.str x t) (by simp only [PyData.shown]) (ReprIs.str x t h)
theorem both_key {k : Key} {v : Value} (e : keyIs k v = true) (hk : fitsKey k = true) : Both X.prog X.w s.heap v (keyPy k) := by
  have r := keyIs_rel e
  cases k with
  | inl i => obtain ⟨t, rfl⟩ := r; exact both_int i t (of_decide_eq_true hk)
  | inr x => obtain ⟨t, rfl⟩ := r; exact both_str x t (of_decide_eq_true hk)
mutual
theorem both (I : L2.Inv X pins σ H s) : ∀ (d : D) (v : V) (u : Value), Rp X.K H d v → RelV v u → fits d = true → Both X.prog X.w s.heap u (py d)
  | .non, _, _, r, ru, _ => by cases r; cases ru; simp only [py]; exact both_leaf .none (by simp only [PyData.shown]) ReprIs.none
  | .bl b, _, _, r, ru, _ => by cases r; cases ru; simp only [py]; exact both_leaf (.bool b) (by simp only [PyData.shown]) (ReprIs.bool b)
  | .int i, _, _, r, ru, f => by cases r; obtain ⟨t, rfl⟩ := ru; simp only [py]; exact both_int i t (by simpa [fits] using f)
  | .str x, _, _, r, ru, f => by cases r; obtain ⟨t, rfl⟩ := ru; simp only [py]; exact both_str x t (by simpa [fits] using f)
  | .ref _, _, _, _, _, f => by simp [fits] at f
  | .ty _, _, _, _, _, f => by simp [fits] at f
  | .tup ds, _, _, ⟨a, vs, e, hq, r2⟩, ru, f => by
    subst e
    cases ru
    obtain ⟨its, q1, ⟨o, e1, c1, n, d1⟩, _⟩ := I.tuple hq
    simp only [py]
    exact .tup e1 c1 d1 (by simpa using bothA I ds vs its r2 q1 (by simpa [fits] using f))
  | .lst ds, _, _, ⟨a, vs, e, hq, r2⟩, ru, f => by
    subst e
    cases ru
    obtain ⟨its, n, sl, q1, _, e1⟩ := sqF_at I hq
    simp only [py]
    exact .lst e1 rfl rfl (by simpa using bothA I ds vs its r2 q1 (by simpa [fits] using f))
  | .dic kvs, _, _, ⟨a, o, ws, e, hq, r2⟩, ru, f => by
    subst e
    cases ru
    obtain ⟨_, _, low, vs, kv, ob, es, ep, e1, ex, hd, _, pr, _⟩ := (show ObjOk X.prog X.w H s.heap a (.frz o (.dK ws)) from I.hok a _ hq)
    simp only [py]
    obtain ⟨b1, b2⟩ := bothK I kvs ws vs es.toList r2 kv pr (by simpa [fits] using f)
    exact .dic e1 ex.1 hd low b1 b2
theorem bothA (I : L2.Inv X pins σ H s) : ∀ (ds : List D) (vs : List V) (us : List Value), RpA X.K H ds vs → Vals vs us → fitsA ds = true → BothA X.prog X.w s.heap us (pyA ds)
  | [], _, _, r, q, _ => by cases r; cases q; simp only [pyA]; exact .nil
  | d :: ds, _, _, ⟨v, ws, e, r1, r2⟩, q, f => by
    subst e
    cases q with
    | cons q1 q2 =>
      have f' : fits d = true ∧ fitsA ds = true := by simpa [fitsA] using f
      simp only [pyA]
      exact .cons (both I d v _ r1 q1 f'.1) (bothA I ds ws _ r2 q2 f'.2)
theorem bothK (I : L2.Inv X pins σ H s) : ∀ (ds : List (Key × D)) (ws : List (Key × V)) (vs : List (Key × Value)) (es : List DictEntry), RpK X.K H ds ws → KV ws vs → Pairs (mixKind X.prog X.w) es vs → fitsK ds = true →
    BothA X.prog X.w s.heap (es.map (·.key)) ((pyK ds).map (·.1)) ∧ BothA X.prog X.w s.heap (es.map (·.val)) ((pyK ds).map (·.2))
  | [], _, _, _, r, q, p, _ => by cases r; cases q; cases p; simp only [pyK, List.map_nil]; exact ⟨.nil, .nil⟩
  | (k, d) :: ds, _, _, _, ⟨v, ws', e, r1, r2⟩, q, p, f => by
    subst e
    cases q with
    | cons q1 q2 =>
      cases p with
      | cons p1 p2 p3 =>
        have f' : (fitsKey k = true ∧ fits d = true) ∧ fitsK ds = true := by
          unfold fitsK at f
          rw [Bool.and_eq_true, Bool.and_eq_true] at f
          exact f
        obtain ⟨b1, b2⟩ := bothK I ds ws' _ _ r2 q2 p3 f'.2
        simp only [pyK, List.map_cons]
        obtain ⟨q3, q4⟩ := q1
        simp only at q3 q4
        subst q3
        rw [p2]
        exact ⟨.cons (both_key p1 f'.1.1) b1, .cons (both I d v _ r1 q4 f'.1.2) b2⟩
end
end
end DL
set_option Elab.async false
set_option linter.all false
set_option maxRecDepth 100000
set_option maxHeartbeats 1000000
namespace DL
open PySem PySem.Spec PyProof.Rows L2
section
variable {X : Cx}
theorem in1_units (A : Around) : A.in1.units = A.units + 1 := rfl
/-- repr of a tree -/
def reprD : List D → Sto → DK → Prop := fun ds S P => match ds with
  | [d] => (fits d = true ∧ (py d).shown.length ≤ sizeLine ∧ (py d).depth ≤ 150) ∧ P (.str (py d).shown) S
  | _ => False
theorem RpA.one' {K : PySem.W.Frag} {H : Hp} {d : D} {vs : List V} (h : RpA K H [d] vs) : ∃ v, vs = [v] ∧ Rp K H d v := by
  obtain ⟨v, ws, e, r, e2⟩ := h
  cases e2
  exact ⟨v, e, r⟩
theorem c_repr (hgd : X.A.guards = some []) (hu : X.A.units + 200 < cLine) : CallD X (.builtin "repr") reprD := by
  intro pins s σ H xs us Q I rv ⟨ds, S, P, ra, sr, h, fin⟩
  unfold reprD at h
  split at h
  · rename_i d
    obtain ⟨⟨hf, hz, hd⟩, q⟩ := h
    obtain ⟨v, rfl, r⟩ := ra.one'
    obtain ⟨u, rfl, ru⟩ := vals1 rv
    have B := both I d v u r ru hf
    have done : ∀ (h' : Heap) (t tk : Tok), (∀ b o, s.heap.get? b = some o → h'.get? b = some o) → EP X pins σ Q (.str (py d).shown t) { s with heap := h', toks := tk } := fun h' t tk k => ⟨.str _, H, I.kept (t' := tk) k, ⟨_, rfl⟩, fin _ S _ H q rfl sr (.refl H)⟩
    obtain ⟨as, bs, R, m, k⟩ := B
    have g1 : X.A.in1.guards = some [] := hgd
    have u1 : X.A.in1.units = X.A.units + 1 ∨ True := .inr trivial
    cases d with
    | non => cases r; cases ru; simp only [py, PyData.shown] at q done ⊢; exact PySem.P.repr_of_none (done s.heap _ _ fun _ _ e => e)
    | bl b => cases r; cases ru; simp only [py, PyData.shown] at q done ⊢; exact PySem.P.repr_of_bool (done s.heap _ _ fun _ _ e => e)
    | int i => cases r; obtain ⟨t, rfl⟩ := ru; simp only [py, PyData.shown] at q done ⊢; exact PySem.P.repr_of_int (by simpa [fits] using hf) (done s.heap _ _ fun _ _ e => e)
    | str x => cases r; obtain ⟨t, rfl⟩ := ru; simp only [py, PyData.shown] at q done ⊢; exact PySem.P.repr_of_str (done s.heap _ _ fun _ _ e => e) (by simpa [fits] using hf)
    | ref a => simp [fits] at hf
    | ty n => simp [fits] at hf
    | tup xs =>
      obtain ⟨a, vs, rfl, hq, r2⟩ := r
      cases ru
      obtain ⟨its, q1, ⟨o, e1, c1, n, d1⟩, _⟩ := I.tuple hq
      obtain ⟨as', bs', R', m', k'⟩ := bothA I xs vs its r2 q1 (by simpa [fits] using hf)
      have R2 : Reads s.heap (.ref a) (.tuple (pyA xs)) as' := .tuple e1 c1 d1 (by simpa using R')
      have na : a ∉ bs' := not_mem_of_deeper R2 (by simp only [PyData.depth]; exact Nat.lt_succ_self _) m'
      simp only [py, PyData.depth] at hd
      simp only [py, PyData.shown] at hz
      refine call_repr_slot (by omega) ⟨o, e1, c1⟩ F.slot_tuple_repr ?_
      refine call_tuple_reprK e1 c1 d1 na (by simpa using k') g1 (fun b _ => Clear.nil b) (by rw [in1_units]; omega) (fun _ _ e => e) (fun h' t tk kp => ⟨_, _, rfl, ?_⟩) hz

      · have z := done h' t tk kp
        simp only [py, PyData.shown] at z
        exact z
    | lst xs =>
      obtain ⟨a, vs, rfl, hq, r2⟩ := r
      cases ru
      obtain ⟨its, n, sl, q1, _, e1⟩ := sqF_at I hq
      obtain ⟨as', bs', R', m', k'⟩ := bothA I xs vs its r2 q1 (by simpa [fits] using hf)
      have R2 : Reads s.heap (.ref a) (.list (pyA xs)) (a :: as') := .list e1 rfl rfl (by simpa using R')
      have na : a ∉ bs' := not_mem_of_deeper R2 (by simp only [PyData.depth]; exact Nat.lt_succ_self _) m'
      simp only [py, PyData.depth] at hd
      simp only [py, PyData.shown] at hz
      refine call_repr_slot (by omega) ⟨_, e1, rfl⟩ F.slot_list_repr.toG ?_
      cases its with
      | nil =>
        cases q1
        cases xs with
        | cons x t => obtain ⟨_, _, e, _⟩ := r2; cases e
        | nil =>
          refine call_list_repr_empty ⟨_, e1, rfl⟩ e1 rfl ⟨_, _, rfl, ?_⟩
          have z := done s.heap s.toks (s.toks + 1) fun _ _ e => e
          simp only [py, pyA, PyData.shown, PyData.shownAll, listText_nil] at z
          exact z
      | cons x t =>
        refine call_list_reprK e1 rfl rfl na (by simpa using k'.length_eq) (fun i y z => k'.item i y (by simpa using z)) g1 (fun b _ => Clear.nil b) (by rw [in1_units]; omega) (fun _ _ e => e) (fun h' t tk kp => ⟨_, _, rfl, ?_⟩) hz

        · have z := done h' t tk kp
          simp only [py, PyData.shown] at z
          exact z
    | dic kvs =>
      obtain ⟨a, o, ws, rfl, hq, r2⟩ := r
      cases ru
      obtain ⟨_, _, low, vs, kv, ob, es, ep, e1, ex, hd', _, pr, _⟩ := (show ObjOk X.prog X.w H s.heap a (.frz o (.dK ws)) from I.hok a _ hq)
      obtain ⟨⟨as1, bs1, R1, m1, k1⟩, ⟨as2, bs2, R2, m2, k2⟩⟩ := bothK I kvs ws vs es.toList r2 kv pr (by simpa [fits] using hf)
      have R3 : Reads s.heap (.ref a) (.dict (pyK kvs)) _ := .dict e1 ex.1 hd' R1 R2
      have l1 := PyData.depthAll_keys_le (pyK kvs)
      have l2 := PyData.depthAll_vals_le (pyK kvs)
      have M : ReadAtMost s.heap (PyData.depthKv (pyK kvs)) (bs1 ++ bs2) := (m1.mono l1).append (m2.mono l2)
      have na : a ∉ bs1 ++ bs2 := not_mem_of_deeper R3 (by simp only [PyData.depth]; exact Nat.lt_succ_self _) M
      simp only [py, PyData.depth] at hd
      simp only [py, PyData.shown, PyData.shownKv_eq] at hz
      refine call_repr_slot (by omega) ⟨_, e1, ex.1⟩ F.slot_dict_repr ?_
      refine call_dict_reprK e1 ex.1 hd' low na (.of_two es.toList _ _ (k1.more_le (fun _ z => List.mem_append_left _ z) l1) (k2.more_le (fun _ z => List.mem_append_right _ z) l2)) g1 (fun b _ => Clear.nil b) (by rw [in1_units]; omega) (fun _ _ e => e) (fun h' t tk kp => ⟨_, _, rfl, ?_⟩) hz

      · have z := done h' t tk kp
        simp only [py, PyData.shown, PyData.shownKv_eq] at z
        exact z
  · exact h.elim
end
end DL
set_option Elab.async false
set_option linter.all false
set_option maxRecDepth 100000
set_option maxHeartbeats 1000000
namespace DL
open PySem PySem.Spec PyProof.Rows L2

/-! ### in -/
def found (a b : Str) : Bool := !(Builtin.Str.occurrences b a 0 b.length 1).isEmpty
theorem found_sign (c : Nat) (z : Str) : found ⟨#[c]⟩ z = decide (c ∈ z.cps.toList) := PySem.StrLaws.found_one z c
/-- one of some texts -/
def memS (x : D) (zs : List Str) : Bool := match x with
  | .str a => zs.any fun z => z == a
  | _ => false
def flat : D → Bool
  | .ref _ => false
  | .ty _ => false
  | _ => true
def inB (x y : D) : Option Bool := match x, y with
  | .str a, .str b => some (found a b)
  | x, .tup ys => if flat x then (strsD ys).map (memS x) else none
  | x, .lst ys => if flat x then (strsD ys).map (memS x) else none
  | _, _ => none
def inD (neg : Bool) : DR := fun x y S P => (inB x y).elim False fun b => P (.bl (neg != b)) S
def eStr (x : D) : Value → Bool
  | .str z _ => memS x [z]
  | _ => false
theorem any_eStr {K : PySem.W.Frag} {H : Hp} {x : D} : ∀ {zs : List Str} {us : List Value}, Vals (zs.map V.str) us → us.any (eStr x) = memS x zs
  | [], _, r => by cases r; cases x <;> rfl
  | z :: zs, _, r => by
    cases r with
    | cons r1 r2 =>
      obtain ⟨t, rfl⟩ := r1
      rw [List.any_cons, any_eStr (K := K) (H := H) r2]
      cases x <;> simp [eStr, memS]
section
variable {X : Cx} {pins : List (Addr × Obj)} {σ : L2.St} {H : Hp} {s : Shared} {A : Around}
theorem eq_str {x : D} {v : V} {u : Value} (I : L2.Inv X pins σ H s) (hu : A.units < cLine) (hx : flat x = true) (r : Rp X.K H x v) (ru : RelV v u) (z : Str) (t : Tok) : SeqAt.EqAt A s (.str z t) u (memS x [z]) := by
  cases x with
  | non => cases r; cases ru; exact SeqAt.EqAt.str_none z t
  | bl b => cases r; cases ru; exact SeqAt.EqAt.str_bool z t b
  | int i => cases r; obtain ⟨t', rfl⟩ := ru; exact SeqAt.EqAt.str_int z t i t'
  | str a => cases r; obtain ⟨t', rfl⟩ := ru; have e : memS (.str a) [z] = (z == a) := by simp [memS]
             rw [e]; exact SeqAt.EqAt.str_str z t a t'
  | tup ds =>
    obtain ⟨a, vs, rfl, hq, _⟩ := r
    cases ru
    obtain ⟨its, q1, p1, _⟩ := I.tuple hq
    exact SeqAt.EqAt.str_tuple z t (show s.heap.IsTuple a its.toArray from p1) hu
  | lst ds =>
    obtain ⟨a, vs, rfl, hq, _⟩ := r
    cases ru
    obtain ⟨its, q1, p1, _⟩ := I.list hq.sq
    exact SeqAt.EqAt.str_list z t p1.isList hu
  | dic kvs =>
    obtain ⟨a, o, ws, rfl, hq, _⟩ := r
    cases ru
    obtain ⟨es, n, dd, sl, q⟩ := dic_at I hq
    intro prog w E Q hq2
    unfold eqBool
    refine wpAny_holding (wpAny_ite_split (fun z => absurd (eq_of_beq z) nofun) fun _ => ?_)
    exact wpAny_bind (DM.rc_str_dict z t q hu prog w E _ (wpAny_truthy_bool hq2))
  | ref a => cases hx
  | ty n => cases hx
theorem inB_of {x y : D} {b : Bool} (h : inB x y = some b) : (∃ a c, x = .str a ∧ y = .str c ∧ b = found a c) ∨ ∃ ys zs, (y = .tup ys ∨ y = .lst ys) ∧ flat x = true ∧ strsD ys = some zs ∧ b = memS x zs := by
  unfold inB at h
  split at h
  · cases h; exact .inl ⟨_, _, rfl, rfl, rfl⟩
  · split at h
    · rename_i hf
      cases q : strsD (by assumption) with
      | none => rw [q] at h; cases h
      | some zs => rw [q] at h; cases h; exact .inr ⟨_, zs, .inl rfl, hf, q, rfl⟩
    · cases h
  · split at h
    · rename_i hf
      cases q : strsD (by assumption) with
      | none => rw [q] at h; cases h
      | some zs => rw [q] at h; cases h; exact .inr ⟨_, zs, .inr rfl, hf, q, rfl⟩
    · cases h
  · cases h
theorem eqs_of {x : D} {v : V} {u : Value} {zs : List Str} {its : List Value} (I : L2.Inv X pins σ H s) (hu : A.units < cLine) (hx : flat x = true) (r : Rp X.K H x v) (ru : RelV v u) (q : Vals (zs.map V.str) its) :
    ∀ y, y ∈ its → SeqAt.EqAt A s y u (eStr x y) := by
  induction zs generalizing its with
  | nil => cases q; intro y hy; cases hy
  | cons z zs ih =>
    cases q with
    | cons q1 q2 =>
      obtain ⟨t, rfl⟩ := q1
      intro y hy
      rcases List.mem_cons.mp hy with rfl | hy
      · exact eq_str I hu hx r ru z t
      · exact ih q2 y hy
end
section
variable {X : Cx}
theorem op_inD (hu : X.A.units + 200 < cLine) : OpD X (compareOp .In) (inD false) := by
  intro pins s σ H x y v u Q I rx ry ⟨d, e, S, P, r1, r2, sr, h, fin⟩
  obtain ⟨b, hb, q⟩ := el_of h
  rw [show (false != b) = b by cases b <;> rfl] at q
  have go : EP X pins σ Q (.bool b) s := ⟨.bl b, H, I, rfl, fin (.bl b) S _ H q rfl sr (.refl H)⟩
  have u1 : X.A.in1.units < cLine := by rw [in1_units]; omega
  rcases inB_of hb with ⟨a, c, rfl, rfl, e1⟩ | ⟨ys, zs, hy, hx, hz, e1⟩
  · cases r1; cases r2
    obtain ⟨t, rfl⟩ := rx
    obtain ⟨t', rfl⟩ := ry
    subst e1
    exact PyProof.Rows.in_str go
  · rcases hy with rfl | rfl
    · obtain ⟨a, vs, rfl, ha, r3⟩ := r2
      cases ry
      rw [strsD_eq hz] at r3
      rw [r3.strs] at ha
      obtain ⟨its, q1, p1, _⟩ := I.tuple ha
      refine SeqAt.in_tupleAt (eStr d) p1 (fun w hw => eqs_of I u1 hx r1 rx q1 w (by simpa using hw)) ?_
      rw [show its.toArray.any (eStr d) = its.any (eStr d) by simp, any_eStr (K := X.K) (H := H) q1, ← e1]
      exact go
    · obtain ⟨a, vs, rfl, ha, r3⟩ := r2
      cases ry
      rw [strsD_eq hz] at r3
      rw [r3.strs] at ha
      obtain ⟨its, q1, p1, _⟩ := I.list ha.sq
      refine SeqAt.in_listAt (eStr d) p1.isList (fun w hw => eqs_of I u1 hx r1 rx q1 w (by simpa using hw)) ?_
      rw [show its.toArray.any (eStr d) = its.any (eStr d) by simp, any_eStr (K := X.K) (H := H) q1, ← e1]
      exact go
theorem op_notInD (hu : X.A.units + 200 < cLine) : OpD X (compareOp .NotIn) (inD true) := by
  intro pins s σ H x y v u Q I rx ry ⟨d, e, S, P, r1, r2, sr, h, fin⟩
  obtain ⟨b, hb, q⟩ := el_of h
  rw [show (true != b) = !b by cases b <;> rfl] at q
  have go : EP X pins σ Q (.bool (!b)) s := ⟨.bl (!b), H, I, rfl, fin (.bl (!b)) S _ H q rfl sr (.refl H)⟩
  have u1 : X.A.in1.units < cLine := by rw [in1_units]; omega
  rcases inB_of hb with ⟨a, c, rfl, rfl, e1⟩ | ⟨ys, zs, hy, hx, hz, e1⟩
  · cases r1; cases r2
    obtain ⟨t, rfl⟩ := rx
    obtain ⟨t', rfl⟩ := ry
    subst e1
    exact PyProof.Rows.notIn_str go
  · rcases hy with rfl | rfl
    · obtain ⟨a, vs, rfl, ha, r3⟩ := r2
      cases ry
      rw [strsD_eq hz] at r3
      rw [r3.strs] at ha
      obtain ⟨its, q1, p1, _⟩ := I.tuple ha
      refine SeqAt.notIn_tupleAt (eStr d) p1 (fun w hw => eqs_of I u1 hx r1 rx q1 w (by simpa using hw)) ?_
      rw [show its.toArray.any (eStr d) = its.any (eStr d) by simp, any_eStr (K := X.K) (H := H) q1, ← e1]
      exact go
    · obtain ⟨a, vs, rfl, ha, r3⟩ := r2
      cases ry
      rw [strsD_eq hz] at r3
      rw [r3.strs] at ha
      obtain ⟨its, q1, p1, _⟩ := I.list ha.sq
      refine SeqAt.notIn_listAt (eStr d) p1.isList (fun w hw => eqs_of I u1 hx r1 rx q1 w (by simpa using hw)) ?_
      rw [show its.toArray.any (eStr d) = its.any (eStr d) by simp, any_eStr (K := X.K) (H := H) q1, ← e1]
      exact go
/-! ### truth -/
def truB (S : Sto) : D → Option Bool
  | .non => some false
  | .bl b => some b
  | .int i => some (i != 0)
  | .str z => if z.length ≤ sizeLine then some (z.length != 0) else none
  | .tup xs => some (!xs.isEmpty)
  | .lst xs => some (!xs.isEmpty)
  | .ref a => match S a with
    | some (.lst xs) => some (!xs.isEmpty)
    | _ => none
  | _ => none
def dTru (te : DE) : DT := fun δ S P => te δ S fun d S1 => (truB S1 d).elim False fun b => P b S1
theorem RpA.isEmpty {K : PySem.W.Frag} {H : Hp} {ds : List D} {vs : List V} (h : RpA K H ds vs) : vs.isEmpty = ds.isEmpty := by
  cases ds with
  | nil => cases h; rfl
  | cons d r => obtain ⟨_, _, e, _⟩ := h; subst e; rfl
theorem tru_of {K : PySem.W.Frag} {H : Hp} {S : Sto} {d : D} {v : V} {b : Bool} (r : Rp K H d v) (sr : SR K H S) (h : truB S d = some b) : TruV K v H b := by
  cases d with
  | non => cases r; cases h; rfl
  | bl c => cases r; cases h; rfl
  | int i => cases r; cases h; rfl
  | str z =>
    cases r
    simp only [truB] at h
    split at h
    · rename_i hz
      cases h
      refine ⟨hz, ?_⟩
      rw [Bool.eq_iff_iff]
      simp only [bne_iff_ne, ne_eq]
      omega
    · cases h
  | tup xs => obtain ⟨a, vs, rfl, hq, r2⟩ := r; cases h; exact .inr (.inl ⟨vs, hq, by rw [r2.isEmpty]⟩)
  | lst xs => obtain ⟨a, vs, rfl, hq, r2⟩ := r; cases h; exact .inl ⟨vs, hq.sq, by rw [r2.isEmpty]⟩
  | ref a =>
    cases r
    simp only [truB] at h
    split at h
    · rename_i xs hS
      cases h
      obtain ⟨vs, hv, r2⟩ := sr.lst hS
      exact .inl ⟨vs, .of hv, by rw [r2.isEmpty]⟩
    · cases h
  | dic kvs => cases h
  | ty n => cases h
theorem t_tru {e : Expr} {te : DE} (h : QE X e te) (he : ∀ whole, isTrue e X.env whole = (do let v ← whole; standAt e.pos; holding [v] (truthy v)) := by intro _; rfl) : QT X e (dTru te) :=
  PT.imp (pt_truth h he) fun σ H Q ⟨δ, S, P, rs, sr, h, fin⟩ => ⟨δ, S, _, rs, sr, h, fun d S1 v H1 h1 r1 s1 e1 => by
    obtain ⟨b, hb, q⟩ := el_of h1
    exact ⟨b, tru_of r1 s1 hb, fin b S1 H1 q s1 e1⟩⟩
/-! ### small dicts, left as they are -/
def dDic0 : DE := fun _ S P => P (.dic []) S
def dDic1 (k : Key) (te : DE) : DE := fun δ S P => te δ S fun d S1 => P (.dic [(k, d)]) S1
def tFrzD (t : TE) : TE := fun σ H Q => t σ H fun v H1 => ∃ a xs, v = .ref a ∧ H1 a = some (.dK xs) ∧ ∀ o, Q v (upd H1 a (.frz o (.dK xs)))
theorem pe_frzD {e : Expr} {t : TE} (h : L2.PE X e t) : L2.PE X e (tFrzD t) := ⟨fun pins s σ H Q I q => thn (h.run pins s σ H _ I q) fun v s1 ⟨x, H1, I1, r1, a, xs, e1, h1, q1⟩ => by
  obtain ⟨o, J⟩ := freezeD I1 h1
  exact ⟨x, _, J, r1, q1 o⟩⟩
theorem q_dic0 {pos : Pos} : QE X (.Dict [] [] pos) dDic0 := PE.imp (pe_frzD pe_dnewK) fun σ H Q ⟨δ, S, P, rs, sr, h, fin⟩ => fun p np => ⟨p, _, rfl, upd_same, fun o => by
  rw [upd_upd]
  exact fin _ S _ _ h ⟨p, o, [], rfl, upd_same, rfl⟩ (sr.new np) (.new np)⟩
/-- {number: name} -/
theorem q_dicI {i : Int} {j : Nat} {kp vp pos : Pos} (n : Nat) {x : Str} (hN : X.N[n]? = some x := by rfl) (hv : Vis X.env.scope x := by first | exact Or.inl rfl | exact Or.inr (Or.inl rfl) | exact Or.inr (Or.inr rfl)) (hd : (x == ("__debug__" : Str)) = false := by decide)
    (hcd : (x == ("__classdict__" : Str)) = false := by decide) : QE X (.Dict [some (.Constant (.int i) j kp)] [.Name x vp] pos) (dDic1 (.inl i) (dVar n)) :=
  PE.imp (pe_frzD (pe_disp (pps_cons pe_int (pe_var hN hv hd hcd) pps_nil) rfl rfl (by simp) (by simp))) fun σ H Q ⟨δ, S, P, rs, sr, h, fin⟩ => fun p np => by
    unfold dDic1 dVar at h
    cases q : slot δ n with
    | none => rw [q] at h; exact h.elim
    | some d =>
      rw [q] at h
      obtain ⟨v, e, r⟩ := rs.2 n d (slot_get q)
      refine ⟨v, e, upd_same, [(.inl i, v)], rfl, by simp, p, _, rfl, upd_same, fun o => ?_⟩
      rw [upd_upd, upd_upd]
      exact fin _ S _ _ h ⟨p, o, _, rfl, upd_same, v, [], rfl, r.ext (.new np), rfl⟩ (sr.new np) (.new np)
/-! ### text of a number, of a truth -/
def strD : List D → Sto → DK → Prop := fun ds S P => match ds with
  | [.int i] => i.natAbs.log2 < 1920 ∧ P (.str (toString i)) S
  | [.bl b] => P (.str (if b then "True" else "False")) S
  | _ => False
theorem c_str : CallD X (.type "str") strD := by
  intro pins s σ H xs us Q I rv ⟨ds, S, P, ra, sr, h, fin⟩
  unfold strD at h
  split at h
  · obtain ⟨v, rfl, r⟩ := ra.one'
    cases r
    obtain ⟨u, rfl, t, rfl⟩ := vals1 rv
    exact PySem.P.str_of_int h.1 ⟨.str _, H, I.tok _, ⟨_, rfl⟩, fin _ S _ H h.2 rfl sr (.refl H)⟩
  · obtain ⟨v, rfl, r⟩ := ra.one'
    cases r
    obtain ⟨u, rfl, ru⟩ := vals1 rv
    cases ru
    exact PySem.P.str_of_bool ⟨.str _, H, I.tok _, ⟨_, rfl⟩, fin _ S _ H h rfl sr (.refl H)⟩
  · exact h.elim
end

/-! ### t[::-1] -/
section
variable {prog : Program} {w : World} {A : Around} {E : Value → Shared → Prop} {s : Shared}
theorem rev_pick (items : Array Value) : ((List.range items.size).filterMap fun (k : Nat) => items[(((items.size : Int) - 1) + (k : Int) * (-1)).toNat]?).toArray = items.toList.reverse.toArray := by
  have h := PySem.W.krv_pick items
  unfold slicePick at h
  rw [PySem.W.krv_bounds] at h
  have e : sliceRange ((items.size : Int) - 1) (-1) (-1) = (List.range items.size).map fun k => items.size - 1 - k := PySem.W.krv_sliceRange _
  simp only [e, List.filterMap_map] at h
  rw [← h]
  congr 1
  have f : ∀ l : List Nat, (∀ k ∈ l, k < items.size) → l.filterMap (fun (k : Nat) => items[(((items.size : Int) - 1) + (k : Int) * (-1)).toNat]?) = l.filterMap ((fun x => items[x]?) ∘ fun k => items.size - 1 - k) := by
    intro l hl
    induction l with
    | nil => rfl
    | cons k r ih =>
      have hk := hl k (by simp)
      have e1 : (((items.size : Int) - 1) + (k : Int) * (-1)).toNat = items.size - 1 - k := by omega
      rw [List.filterMap_cons, List.filterMap_cons, ih fun z hz => hl z (by simp [hz]), e1]
      rfl
  exact f _ fun k hk => List.mem_range.mp hk
theorem back_at {sl : Addr} {vl vu vs : Value} {n : Nat} {Q : Int × Int × Nat → Shared → Prop} (hs : s.heap.IsSliceOf sl vl vu vs) (pl : IsPart vl none) (pu : IsPart vu none) (ps : IsPart vs (some (-1)))
    (h : Q ((n : Int) - 1, -1, n) s) : wpAny (model prog w) A (Builtin.Slice.sliceApplied (.ref sl) (pure (n : Int))) Q E s := by
  obtain ⟨os, hos, hcs, hds⟩ := id hs
  unfold Builtin.Slice.sliceApplied Builtin.Slice.sliceFields
  refine wpAny_bind (wpAny_bind (wpAny_field hos hds (x := vl) rfl (wpAny_bind (wpAny_field hos hds (x := vu) rfl (wpAny_bind (wpAny_field hos hds (x := vs) rfl (wpAny_pure ?_)))))))
  refine wpAny_bind (HT.slicePart_ ps ?_)
  show wpAny _ _ (if ((-1 : Int) == 0) = true then _ else _) _ _ s
  rw [if_neg (by decide)]
  refine wpAny_bind (HT.slicePart_ pl (wpAny_bind (HT.slicePart_ pu (wpAny_bind (wpAny_pure ?_)))))
  show wpAny _ _ (pure ((n : Int) - 1, (-1 : Int), Builtin.Slice.slicePlaces ((n : Int) - 1) (-1) (-1))) _ _ s
  have e : Builtin.Slice.slicePlaces ((n : Int) - 1) (-1) (-1) = n := by
    unfold Builtin.Slice.slicePlaces
    rw [if_neg (by decide)]
    by_cases h0 : (n : Int) - 1 > -1
    · rw [if_pos h0, show (- -1 : Int) = 1 by decide, Int.ediv_one]; omega
    · rw [if_neg h0]; omega
  rw [e]
  exact wpAny_pure h
theorem back_tup {t sl : Addr} {items : Array Value} {vl vu vs : Value} {Q : Value → Shared → Prop} (ht : IsTup s.heap t items) (hs : s.heap.IsSliceOf sl vl vu vs) (pl : IsPart vl none) (pu : IsPart vu none) (ps : IsPart vs (some (-1)))
    (h : Q (.ref s.heap.objs.size) { s with heap := s.heap.push { cls := .type "tuple", data := .seq items.toList.reverse.toArray } }) (hz : items.size ≤ sizeLine) : wpAny (model prog w) A (getItem (.ref t) (.ref sl)) Q E s := by
  have ok : sizeOk (.seq items.toList.reverse.toArray) := by
    show items.toList.reverse.toArray.size ≤ sizeLine
    simpa using hz
  obtain ⟨os, hos, hcs, hds⟩ := id hs
  have hT : s.TypeIs (.ref sl) "slice" := ⟨os, hos, hcs⟩
  unfold getItem
  try with_reducible refine wpAny_holding ?_
  first | refine wpAny_bind (wpAny_pure ?_) | skip
  refine wpAny_bind (wpAny_sequenceKey ht.typeIs (by decide) ?_)
  refine wpAny_bind (wpAny_callSpecial?_slot (name := Str.ofString "__getitem__") ht.typeIs PyProof.Rows.slot_tuple_getitem (wpAny_call_entry PyProof.Rows.slot_tuple_getitem ht.typeIs entry_tuple_getitem ?_ (args_tuple_getitem _ _)))
  show wpAny _ _ (Builtin.Tuple.tupleItemsOf (.ref t) >>= _) _ _ s
  refine wpAny_bind (tupleItemsOf_ ht (wpAny_bind (wpAny_typeOf hT ?_)))
  rw [if_pos (by decide)]
  refine wpAny_bind (back_at hs pl pu ps ?_)
  have no : ¬ (((items.size : Int) - 1 == 0 && (-1 : Int) == 1 && items.size == items.size) = true) := by
    rw [show ((-1 : Int) == 1) = false by decide, Bool.and_false, Bool.false_and]
    exact Bool.false_ne_true
  show wpAny _ _ (if (((items.size : Int) - 1 == 0 && (-1 : Int) == 1 && items.size == items.size) = true) then _ else _) _ _ s
  rw [if_neg no, rev_pick]
  first
    | exact wpAny_bind (m := Builtin.Tuple.tupleExact _) (wpAny_newObj_type (wpAny_pure ⟨_, rfl, wpAny_pure h⟩) ok)
    | exact wpAny_bind (m := Builtin.Tuple.tupleExact _) (wpAny_newObj_type (wpAny_bind (wpAny_pure (wpAny_pure ⟨_, rfl, wpAny_pure h⟩))) ok)
    | exact wpAny_bind (wpAny_bind (m := Builtin.Tuple.tupleExact _) (wpAny_newObj_type (wpAny_pure (wpAny_pure ⟨_, rfl, wpAny_pure h⟩)) ok))
end
section
variable {X : Cx}
def backD : D → Sto → DK → Prop := fun d S P => match d with
  | .tup xs => P (.tup xs.reverse) S
  | .lst xs => P (.lst xs.reverse) S
  | _ => False
def dRev (te : DE) : DE := fun δ S P => te δ S fun d S1 => backD d S1 P
theorem q_rev {e : Expr} {te : DE} {k : Nat} {p1 p2 p3 pos : Pos} (he : QE X e te) : QE X (.Subscript e (.Slice none none (some (.UnaryOp .USub (.Constant (.int 1) k p1) p2)) p3) pos) (dRev te) := by
  refine ⟨fun pins s σ H Q I ⟨δ, S, P, rs, sr, h, fin⟩ => ?_⟩
  refine Subscript_ (thn (he.run pins s σ H (fun v H1 => ∃ d S1, Rp X.K H1 d v ∧ SR X.K H1 S1 ∧ Ext H H1 ∧ backD d S1 P) I ⟨δ, S, _, rs, sr, h, fun d S1 v H1 h1 r1 s1 e1 => ⟨d, S1, r1, s1, e1, h1⟩⟩) fun v s1 ⟨x, H1, I1, r1, d, S1, rd, sr1, e1, hd⟩ => ?_)
  have hst : L2.PO X (some (.UnaryOp .USub (.Constant (.int 1) k p1) p2)) (tPart (tUn (rU fun i => .int (-i)) (tC (.int 1)))) := po_some (pe_un un_neg pe_int)
  refine wpAny_Slice (thn (po_none.run pins s1 σ H1 (fun o H2 => o = none ∧ H2 = H1) I1 ⟨rfl, rfl⟩) fun vl s2 ⟨l, H2, I2, pl, el, e2⟩ => ?_)
  subst el e2
  refine thn (po_none.run pins s2 σ H2 (fun o H3 => o = none ∧ H3 = H2) I2 ⟨rfl, rfl⟩) fun vu s3 ⟨u, H3, I3, pu, eu, e3⟩ => ?_
  subst eu e3
  refine thn (hst.run pins s3 σ H3 (fun o H4 => o = some (-1) ∧ H4 = H3) I3 ⟨1, rfl, -1, rfl, rfl, rfl⟩) fun vs s4 ⟨o, H4, I4, ps, eo, e4⟩ => ?_
  subst eo e4
  have I5 : L2.Inv X pins σ H4 { s4 with heap := s4.heap.push { cls := .type "slice", data := .fields #[vl, vu, vs] } } := I4.kept (t' := s4.toks) fun b ob q => Heap.get?_push_of_some _ q
  have sl := Heap.IsSliceOf.new s4.heap vl vu vs
  cases d with
  | tup ds =>
    obtain ⟨a, zs, rfl, ha, r3⟩ := rd
    cases r1
    obtain ⟨its, r, ht, hz⟩ := I5.tuple ha
    have hl := r.length
    show wpAny (model X.prog X.w) X.A (subscriptTail e (.Slice none none (some (.UnaryOp .USub (.Constant (.int 1) k p1) p2)) p3) (.ref a) (.ref s4.heap.objs.size)) (EP X pins σ Q) X.xe _
    refine tail_any (ops := [.ref a, .ref s4.heap.objs.size]) ht.typeIs (PyProof.Rows.slot_tuple_getitem.lookup) ?_ (by with_unfolding_all rfl)
    refine back_tup ht sl pl pu ps ?_ (by rw [List.size_toArray]; omega)
    have e6 : its.toArray.toList.reverse.toArray = its.reverse.toArray := by simp
    rw [e6]
    have np := I5.fresh
    refine ⟨.ref _, _, I5.laid (t' := s4.toks) (o := .tup zs.reverse) (fun _ _ q => Heap.get?_push_of_some _ q) (Nat.le_refl _) ⟨by rw [List.length_reverse]; omega, _, r.reverse, _, Heap.get?_push_size _ rfl, rfl, _, rfl⟩, rfl, fin _ S1 _ _ hd ⟨_, _, rfl, .of upd_same, r3.rev.ext (.new np)⟩ (sr1.new np) (e1.trans (.new np))⟩
  | lst ds =>
    obtain ⟨a, zs, rfl, ha, r3⟩ := rd
    cases r1
    obtain ⟨its, r, ht, hz⟩ := I5.list ha.sq
    have hl := r.length
    show wpAny (model X.prog X.w) X.A (subscriptTail e (.Slice none none (some (.UnaryOp .USub (.Constant (.int 1) k p1) p2)) p3) (.ref a) (.ref s4.heap.objs.size)) (EP X pins σ Q) X.xe _
    refine tail_any (ops := [.ref a, .ref s4.heap.objs.size]) ht.isList.typeIs (PySem.slot_list_getitem.lookup) ?_ (by with_unfolding_all rfl)
    refine wpAny_getItem_list_slice ht.isList sl pl pu ps (by decide) ?_ (by rw [List.size_toArray]; omega)
    rw [PySem.W.krv_pick]
    have e6 : its.toArray.toList.reverse.toArray = its.reverse.toArray := by simp
    rw [e6]
    have np := I5.fresh
    refine freezeE ⟨.ref _, _, I5.lnew (t' := s4.toks) r.reverse (by rw [List.length_reverse]; omega), rfl, _, _, rfl, upd_same, fun o => ?_⟩
    rw [upd_upd]
    exact fin _ S1 _ _ hd ⟨_, _, rfl, .inl ⟨o, upd_same⟩, r3.rev.ext (.new np)⟩ (sr1.new np) (e1.trans (.new np))
  | _ => exact hd.elim
end
end DL
set_option Elab.async false
set_option linter.all false
set_option maxRecDepth 100000
set_option maxHeartbeats 1000000
namespace DL
open PySem PySem.Spec PyProof.Rows L2

/-! ### lists added, that change or not -/
def lsts (S : Sto) (x y : D) : Option (List D × List D) := match norm S x, norm S y with
  | .lst xs, .lst ys => some (xs, ys)
  | _, _ => none
def addL : DR := fun x y S P => (lsts S x y).elim False fun p => p.1.length + p.2.length ≤ sizeLine ∧ P (.lst (p.1 ++ p.2)) S
def addM : DR := fun x y S P => (lsts S x y).elim False fun p => p.1.length + p.2.length ≤ sizeLine ∧ ∀ a, S a = none → P (.ref a) (sup S a (.lst (p.1 ++ p.2)))
section
variable {X : Cx}
theorem lsts_of {S : Sto} {x y : D} {p : List D × List D} (h : lsts S x y = some p) : norm S x = .lst p.1 ∧ norm S y = .lst p.2 := by
  unfold lsts at h
  split at h
  · rename_i e1 e2; cases h; exact ⟨e1, e2⟩
  · cases h
theorem two_lists {pins : List (Addr × Obj)} {σ : L2.St} {H : Hp} {s : Shared} {d e : D} {x y : V} {v u : Value} {S : Sto} {p : List D × List D} {R : Value → Shared → Prop} (I : L2.Inv X pins σ H s) (rx : RelV x v) (ry : RelV y u) (r1 : Rp X.K H d x) (r2 : Rp X.K H e y) (sr : SR X.K H S)
    (hl : lsts S d e = some p) (hz : p.1.length + p.2.length ≤ sizeLine)
    (h : ∀ vs : List V, RpA X.K H (p.1 ++ p.2) vs → ∀ s' : Shared, L2.Inv X pins σ (upd H s.heap.objs.size (.lst vs)) s' → R (.ref s.heap.objs.size) s') :
    wpAny (model X.prog X.w) X.A (binaryOp .Add v u) R X.xe s := by
  obtain ⟨n1, n2⟩ := lsts_of hl
  have k1 := kd_of r1 sr
  have k2 := kd_of r2 sr
  rw [n1] at k1
  rw [n2] at k2
  obtain ⟨a, vs, rfl, ha, r3⟩ := k1
  obtain ⟨b, ws, rfl, hb, r4⟩ := k2
  cases rx
  cases ry
  obtain ⟨its, rv, ⟨⟨cls, dd, data, sl⟩, n, e1, hc, hd, hs⟩, z1⟩ := I.list ha
  obtain ⟨its2, rv2, ⟨⟨cls2, dd2, data2, sl2⟩, n', e2, hc2, hd2, hs2⟩, z2⟩ := I.list hb
  simp only at hc hd hs hc2 hd2 hs2
  subst hc hd hs hc2 hd2 hs2
  have l1 := r3.length
  have l2 := r4.length
  have l3 := rv.length
  have l4 := rv2.length
  have hsz : its.toArray.size + its2.toArray.size ≤ sizeLine := by rw [List.size_toArray, List.size_toArray]; omega
  refine DM.cat_any e1 e2 hsz ?_
  have ea : its.toArray ++ its2.toArray = (its ++ its2).toArray := by simp
  rw [ea]
  exact h (vs ++ ws) (r3.append r4) _ (I.lnew (t' := s.toks) (rv.append rv2) (by rw [List.length_append]; omega))
theorem op_addL : OpD X (binaryOp .Add) addL := by
  intro pins s σ H x y v u Q I rx ry ⟨d, e, S, P, r1, r2, sr, h, fin⟩
  obtain ⟨p, hp, hz, q⟩ := el_of h
  refine two_lists I rx ry r1 r2 sr hp hz fun vs r3 s' J => ?_
  refine freezeE ⟨.ref _, _, J, rfl, _, _, rfl, upd_same, fun o => ?_⟩
  rw [upd_upd]
  exact fin _ S _ _ q ⟨_, _, rfl, .inl ⟨o, upd_same⟩, r3.ext (.new I.fresh)⟩ (sr.new I.fresh) (.new I.fresh)
theorem op_addM : OpD X (binaryOp .Add) addM := by
  intro pins s σ H x y v u Q I rx ry ⟨d, e, S, P, r1, r2, sr, h, fin⟩
  obtain ⟨p, hp, hz, q⟩ := el_of h
  refine two_lists I rx ry r1 r2 sr hp hz fun vs r3 s' J => ?_
  exact ⟨.ref _, _, J, rfl, fin _ _ _ _ (q _ (sr.none I.fresh)) rfl (sr.add I.fresh r3) (.new I.fresh)⟩
/-- x[::-1], a new list that changes -/
def backM : D → Sto → DK → Prop := fun d S P => match norm S d with
  | .lst xs => ∀ a, S a = none → P (.ref a) (sup S a (.lst xs.reverse))
  | _ => False
def dRevM (te : DE) : DE := fun δ S P => te δ S fun d S1 => backM d S1 P
theorem q_revM {e : Expr} {te : DE} {k : Nat} {p1 p2 p3 pos : Pos} (he : QE X e te) : QE X (.Subscript e (.Slice none none (some (.UnaryOp .USub (.Constant (.int 1) k p1) p2)) p3) pos) (dRevM te) :=
  PE.imp (pe_revL he) fun σ H Q ⟨δ, S, P, rs, sr, h, fin⟩ => ⟨δ, S, _, rs, sr, h, fun d S1 v H1 h1 r1 s1 e1 => by
    unfold backM at h1
    have k1 := kd_of r1 s1
    split at h1
    · rename_i xs hn
      rw [hn] at k1
      obtain ⟨a, vs, rfl, ha, r3⟩ := k1
      exact ⟨a, vs, rfl, ha, fun p np => fin _ _ _ _ (h1 p (s1.none np)) rfl (s1.add np r3.rev) (e1.trans (.new np))⟩
    · exact h1.elim⟩
/-! ### iteration over what has just been made -/
end

/-! ### defs by their names -/
section
variable {P : Program} {w : World} {K : PySem.W.Frag} {mg : Str → Option Value} {base : Heap}
/-- a def as the top's statement has it -/
def Def (K : PySem.W.Frag) (mg : Str → Option Value) (x : Str) (st : Stmt) (ps : List Str) : Prop := ∃ f fd, Fun K x x st f fd ∧ Binds K fd ps [] ∧ mg x = some (.ref f)
/-- a def that keeps its promise, k calls below -/
def Has (P : Program) (w : World) (K : PySem.W.Frag) (mg : Str → Option Value) (base : Heap) (k : Nat) (x : Str) (ps : List Str) (sp : DSp) : Prop := ∃ f fd, FnD P w K mg base k f fd ps sp ∧ Binds K fd ps [] ∧ PySem.W.keepIn K (.ref f) = true ∧ mg x = some (.ref f)
theorem Has.mono {j k : Nat} {x : Str} {ps : List Str} {sp : DSp} (h : Has P w K mg base j x ps sp) (l : j ≤ k) : Has P w K mg base k x ps sp := let ⟨f, fd, a, b⟩ := h; ⟨f, fd, a.mono l, b⟩
theorem Has.imp {k : Nat} {x : Str} {ps : List Str} {sp sp' : DSp} (h : Has P w K mg base k x ps sp) (q : ∀ ds S P', sp' ds S P' → sp ds S P') : Has P w K mg base k x ps sp' := let ⟨f, fd, a, b⟩ := h; ⟨f, fd, a.imp q, b⟩
theorem Def.has {x : Str} {st : Stmt} {N ps : List Str} {k : Nat} {sp : DSp} (D : Def K mg x st ps) (S : FnScope N ps (defScope st)) (len : ∀ ds S P, sp ds S P → ds.length = ps.length)
    (hbody : ∀ (f : Addr) (cdv : Value) (A : Around) (outer : List Env) (s : Shared) (H : Hp), Room k (A.deeper (envOfC x (defScope st) s.heap.objs.size f cdv)) → A.guards = some [] →
      ∃ t, QSs (cxOf CX0 P w K mg base N x (defScope st) f cdv A outer s H E0).nox (defBody st) t ∧ ∀ ds S' P', sp ds S' P' → t { nx := fun _ S2 => P' .non S2, rt := P' } (dstart N ds) S') : Has P w K mg base (k + 1) x ps sp := by
  obtain ⟨f, fd, F, b, m⟩ := D
  exact ⟨f, fd, okD F S len (hbody f), b, F.kp, m⟩
end
section
variable {X : Cx} {k : Nat} {ps : List Str} {sp : DSp} {x : Str} {p pos : Pos} {e : Expr} {es : List Expr} {t : DA}
theorem q_def (G : Has X.prog X.w X.K X.mg X.base k x ps sp) (hr : Room k X.A) (hgd : X.A.guards = some []) (ha : QA X (e :: es) t) (hg : Gl X x := by rfl) (hdb : (x == ("__debug__" : Str)) = false := by decide)
    (he : starEach (e :: es) X.env = (false, eval e X.env) :: starEach es X.env := by rfl) (hpl : (backTo pos (starEach es X.env)).any (·.1) = false := by rfl) : QE X (.Call (.Name x p) (e :: es) [] pos) (dCB sp t) := by
  obtain ⟨f, fd, F, b, kk, m⟩ := G
  exact q_call F hr hgd hg m kk b ha hdb he hpl
theorem Room.un0 {k : Nat} {A : Around} (r : Room k A) : A.units + 200 < cLine := by have := r.un; omega
theorem Room.un1 {k : Nat} {A : Around} (r : Room k A) : A.units < cLine := by have := r.un; omega
end
theorem bt_int : bootBuiltins "int" = some (.type "int") := by decide +kernel
theorem bt_bool : bootBuiltins "bool" = some (.type "bool") := by decide +kernel
theorem bt_str : bootBuiltins "str" = some (.type "str") := by decide +kernel
theorem bt_tuple : bootBuiltins "tuple" = some (.type "tuple") := by decide +kernel
theorem bt_list : bootBuiltins "list" = some (.type "list") := by decide +kernel
theorem bt_dict : bootBuiltins "dict" = some (.type "dict") := by decide +kernel
theorem bb_all : bootBuiltins "all" = some (.builtin "all") := by decide +kernel
theorem bb_sum : bootBuiltins "sum" = some (.builtin "sum") := by decide +kernel
theorem bb_min : bootBuiltins "min" = some (.builtin "min") := by decide +kernel
theorem bb_repr : bootBuiltins "repr" = some (.builtin "repr") := by decide +kernel
theorem bb_isi : bootBuiltins "isinstance" = some (.builtin "isinstance") := by decide +kernel
end DL
set_option Elab.async false
set_option linter.all false
set_option maxRecDepth 100000
namespace DL
open PySem PySem.Spec PyProof.Rows L2
/-- a module's constant -/
def Con (K : PySem.W.Frag) (mg : Str → Option Value) (x : Str) (d : D) : Prop := ∃ v u, mg x = some u ∧ RelV v u ∧ ∀ H, Rp K H d v
theorem q_con {X : Cx} {x : Str} {d : D} {pos : Pos} (C : Con X.K X.mg x d) (hg : Gl X x := by rfl) (hd : (x == ("__debug__" : Str)) = false := by decide) : QE X (.Name x pos) (dC d) :=
  let ⟨_, _, m, r, p⟩ := C; q_glob hg m r p hd
/-- what a spec of one function on trees promises: r of the one argument -/
def sp1 (C : D → Prop) (r : D → D) : DSp := fun ds S P => match ds with
  | [d] => C d ∧ P (r d) S
  | _ => False
theorem sp1_len {C : D → Prop} {r : D → D} : ∀ ds S P, sp1 C r ds S P → ds.length = 1 := fun ds S P h => by
  unfold sp1 at h
  split at h
  · rfl
  · exact h.elim
theorem sp1_of {C : D → Prop} {r : D → D} {ds : List D} {S : Sto} {P : DK} (h : sp1 C r ds S P) : ∃ d, ds = [d] ∧ C d ∧ P (r d) S := by
  unfold sp1 at h
  split at h
  · exact ⟨_, rfl, h⟩
  · exact h.elim
end DL
set_option Elab.async false
set_option linter.all false
set_option maxRecDepth 100000
namespace DL
open PySem PySem.Spec PyProof.Rows L2

/-! ### what may have changed -/
def Step (L : List Addr) (S S' : Sto) : Prop := ∀ b, S b ≠ none → b ∉ L → S' b = S b
theorem Step.refl {L : List Addr} (S : Sto) : Step L S S := fun _ _ _ => rfl
theorem Step.trans {L : List Addr} {S S1 S2 : Sto} (a : Step L S S1) (b : Step L S1 S2) : Step L S S2 := fun x h n => by
  have e := a x h n
  rw [b x (by rw [e]; exact h) n, e]
theorem Step.mono {L L' : List Addr} {S S1 : Sto} (a : Step L S S1) (h : ∀ x ∈ L, x ∈ L') : Step L' S S1 := fun x q n => a x q fun z => n (h x z)
theorem Step.new {L : List Addr} {S : Sto} {p : Addr} {o : SO} (h : S p = none) : Step L S (sup S p o) := fun x q _ => sup_ne fun e => q (by rw [e]; exact h)
theorem Step.mut {L : List Addr} {S : Sto} {p : Addr} {o : SO} (h : p ∈ L) : Step L S (sup S p o) := fun x _ n => sup_ne fun e => n (by rw [e]; exact h)
theorem Step.at {L : List Addr} {S S' : Sto} (h : Step L S S') {b : Addr} {o : SO} (e : S b = some o) (n : b ∉ L) : S' b = some o := by
  rw [h b (by rw [e]; exact nofun) n]; exact e
/-! ### comprehensions -/
theorem dwipe1 (δ : DSt) (i : Nat) : dwipe δ [i] = δ.set i none := rfl
/-- elements one by one, each as f says; nothing that stood changes -/
theorem lc_grow {i : Nat} {tt : DT} {te : DE} {δ : DSt} {ds : List D} {S : Sto} {P : DK} (q : D → Bool) (f : D → D) (hz : ds.length ≤ sizeLine)
    (ht : ∀ d ∈ ds, ∀ (S2 : Sto) (Q : Bool → Sto → Prop), (∀ S3, Step [] S2 S3 → Q (q d) S3) → tt ((δ.set i none).set i (some d)) S2 Q)
    (he : ∀ d ∈ ds, q d = true → ∀ (S2 : Sto) (Q : DK), (∀ S3, Step [] S2 S3 → Q (f d) S3) → te ((δ.set i none).set i (some d)) S2 Q)
    (h : ∀ S', Step [] S S' → P (.lst ((ds.filter q).map f)) S') : lcB (gN i) tt te [i] δ ds S P := by
  intro p np
  refine ⟨fun j acc S' => acc = ((ds.take j).filter q).map f ∧ S' p = some (.lst acc) ∧ ∀ b, S b ≠ none → S' b = S b, ⟨rfl, sup_same, fun b hb => sup_ne fun e => hb (by rw [e]; exact np)⟩, fun _ _ _ z => z.2.1, fun j d acc S' hd ⟨e1, e2, e3⟩ => ?_, fun acc S' ⟨e1, e2, e3⟩ => ?_⟩
  · have hm : d ∈ ds := List.mem_of_getElem? hd
    refine ht d hm S' _ fun S3 s3 => ?_
    have k3 : S3 p = some (.lst acc) := s3.at e2 List.not_mem_nil
    have o3 : ∀ b, S b ≠ none → S3 b = S b := fun b hb => by rw [s3 b (by rw [e3 b hb]; exact hb) List.not_mem_nil, e3 b hb]
    have tk : ds.take (j + 1) = ds.take j ++ [d] := by rw [List.take_add_one, hd]; rfl
    cases hq : q d with
    | false =>
      show acc = _ ∧ _ ∧ _
      refine ⟨?_, k3, o3⟩
      rw [tk, List.filter_append, List.filter_cons_of_neg (by rw [hq]; exact Bool.false_ne_true), List.filter_nil, List.append_nil]
      exact e1
    | true =>
      show te _ S3 _
      refine he d hm hq S3 _ fun S4 s4 => ⟨s4.at k3 List.not_mem_nil, ?_, ?_, sup_same, fun b hb => ?_⟩
      · have l1 : acc.length ≤ (ds.take j).length := by rw [e1, List.length_map]; exact List.length_filter_le _ _
        have l2 : (ds.take j).length < ds.length := by
          have hj := (List.getElem?_eq_some_iff.mp hd).1
          rw [List.length_take]; omega
        omega
      · rw [tk, List.filter_append, List.filter_cons_of_pos hq, List.filter_nil, List.map_append, ← e1]
        rfl
      · have hne : b ≠ p := fun e => hb (by rw [e]; exact np)
        rw [sup_ne hne, s4 b (by rw [o3 b hb]; exact hb) List.not_mem_nil, o3 b hb]
  · rw [List.take_length] at e1
    rw [e1]
    refine h _ fun b hb _ => ?_
    have hne : b ≠ p := fun e => hb (by rw [e]; exact np)
    unfold sdel
    rw [if_neg hne]
    exact e3 b hb
/-- elements one by one, each good; what stands at L may change, W is kept -/
theorem lc_step {i : Nat} {te : DE} {δ : DSt} {ds : List D} {S : Sto} {P : DK} (L : List Addr) (W : Sto → Prop) (G : D → Prop) (hz : ds.length ≤ sizeLine) (hW : ∀ S1 S2, (∀ b ∈ L, S2 b = S1 b) → W S1 → W S2) (hL : ∀ b ∈ L, S b ≠ none) (h0 : W S)
    (he : ∀ d ∈ ds, ∀ (S2 : Sto) (Q : DK), W S2 → (∀ y S3, G y → W S3 → Step L S2 S3 → Q y S3) → te ((δ.set i none).set i (some d)) S2 Q)
    (h : ∀ ys S', ys.length = ds.length → (∀ y ∈ ys, G y) → W S' → Step L S S' → P (.lst ys) S') : lcB (gN i) dYes te [i] δ ds S P := by
  intro p np
  have nL : ∀ b ∈ L, b ≠ p := fun b hb e => hL b hb (by rw [e]; exact np)
  refine ⟨fun j acc S' => acc.length = min j ds.length ∧ (∀ y ∈ acc, G y) ∧ S' p = some (.lst acc) ∧ W S' ∧ ∀ b, S b ≠ none → b ∉ L → S' b = S b, ⟨by simp, by simp, sup_same, hW S _ (fun b hb => sup_ne (nL b hb)) h0, fun b hb _ => sup_ne fun e => hb (by rw [e]; exact np)⟩, fun _ _ _ z => z.2.2.1, fun j d acc S' hd ⟨e1, e2, e3, e4, e5⟩ => ?_, fun acc S' ⟨e1, e2, e3, e4, e5⟩ => ?_⟩
  · have hm : d ∈ ds := List.mem_of_getElem? hd
    have hj := (List.getElem?_eq_some_iff.mp hd).1
    show te _ S' _
    refine he d hm S' _ e4 fun y S3 gy w3 s3 => ⟨s3.at e3 (fun z => nL p z rfl), by omega, by rw [List.length_append, e1]; simp; omega, fun z hz2 => ?_, sup_same, hW S3 _ (fun b hb => sup_ne (nL b hb)) w3, fun b hb nb => ?_⟩
    · rcases List.mem_append.mp hz2 with q | q
      · exact e2 z q
      · rw [List.mem_singleton.mp q]; exact gy
    · have hne : b ≠ p := fun e => hb (by rw [e]; exact np)
      rw [sup_ne hne, s3 b (by rw [e5 b hb nb]; exact hb) nb, e5 b hb nb]
  · rw [Nat.min_self] at e1
    refine h acc _ e1 e2 (hW S' _ (fun b hb => ?_) e4) fun b hb nb => ?_
    · unfold sdel; rw [if_neg (nL b hb)]
    · have hne : b ≠ p := fun e => hb (by rw [e]; exact np)
      unfold sdel
      rw [if_neg hne]
      exact e5 b hb nb
end DL
set_option Elab.async false
set_option linter.all false
set_option maxRecDepth 100000
namespace DL
open PySem PySem.Spec PyProof.Rows L2
section
variable {S : Sto} {P : DK} {d x y : D} {a : Addr} {b c : Bool} {i j : Int} {z z' : Str} {xs ys : List D} {f : Bool → Prop} {g : Int → Prop} {h : Str → Prop}
theorem asB_bl : asB (.bl b) f = f b := rfl
theorem asI_int : asI (.int i) g = g i := rfl
theorem asS_str : asS (.str z) h = h z := rfl
theorem len_str : lenD [.str z] S P = (z.length ≤ sizeLine ∧ P (.int z.length) S) := rfl
theorem len_tup : lenD [.tup xs] S P = P (.int xs.length) S := rfl
theorem len_lst : lenD [.lst xs] S P = P (.int xs.length) S := rfl
theorem len_ref (e : S a = some (.lst xs)) : lenD [.ref a] S P = P (.int xs.length) S := by show (match S a with | some (.lst xs) => P (.int xs.length) S | _ => False) = _; rw [e]
theorem le_ii : leD (.int i) (.int j) S P = P (.bl (decide (i ≤ j))) S := rfl
theorem le_ss : leD (.str z) (.str z') S P = P (.bl (!decide (z'.cps.toList < z.cps.toList))) S := rfl
theorem cmp_ii {p : Int → Int → Bool} : cmpI p (.int i) (.int j) S P = P (.bl (p i j)) S := rfl
theorem cmp_bi {p : Int → Int → Bool} : cmpI p (.bl b) (.int j) S P = False := rfl
theorem add_ii : addD (.int i) (.int j) S P = P (.int (i + j)) S := rfl
theorem add_ib : addD (.int i) (.bl b) S P = P (.int (i + b2i b)) S := rfl
theorem add_bi : addD (.bl b) (.int j) S P = P (.int (b2i b + j)) S := rfl
theorem add_ss : addD (.str z) (.str z') S P = (z.length + z'.length ≤ sizeLine ∧ P (.str (z ++ z')) S) := rfl
theorem add_tt : addD (.tup xs) (.tup ys) S P = (xs.length + ys.length ≤ sizeLine ∧ P (.tup (xs ++ ys)) S) := rfl
theorem add_ll : addD (.lst xs) (.lst ys) S P = (xs.length + ys.length ≤ sizeLine ∧ P (.lst (xs ++ ys)) S) := rfl
theorem sub_ii : subD (.int i) (.int j) S P = P (.int (i - j)) S := rfl
theorem sub_ib : subD (.int i) (.bl b) S P = P (.int (i - b2i b)) S := rfl
theorem sub_bi : subD (.bl b) (.int j) S P = P (.int (b2i b - j)) S := rfl
theorem mul_ii : mulD (.int i) (.int j) S P = (CMul i j ∧ P (.int (i * j)) S) := rfl
theorem ii_ii {C : Int → Int → Prop} {q : Int → Int → Int} : iiD C q (.int i) (.int j) S P = (C i j ∧ P (.int (q i j)) S) := rfl
theorem neg_i : negD (.int i) S P = P (.int (-i)) S := rfl
theorem is_bb : isB false (.bl c) (.bl true) S P = P (.bl c) S := by cases c <;> rfl
theorem isn_bb : isB true (.bl c) (.bl true) S P = P (.bl (!c)) S := by cases c <;> rfl
theorem all_b {bs : List Bool} : allD [.lst (bs.map .bl)] S P = P (.bl (bs.all id)) S := by
  have e : blsD (bs.map .bl) = some bs := by
    induction bs with
    | nil => rfl
    | cons b r ih => simp only [List.map_cons, blsD, ih, Option.map_some]
  show (blsD (bs.map .bl)).elim False _ = _
  rw [e]; rfl
theorem sum_i {is : List Int} : sumD [.lst (is.map .int)] S P = P (.int is.sum) S := by
  have e : intsD (is.map .int) = some is := by
    induction is with
    | nil => rfl
    | cons b r ih => simp only [List.map_cons, intsD, ih, Option.map_some]
  show (intsD (is.map .int)).elim False _ = _
  rw [e]; rfl
def isS : D → Bool
  | .str _ => true
  | _ => false
def isI : D → Bool
  | .int _ => true
  | .bl _ => true
  | _ => false
def isBo : D → Bool
  | .bl _ => true
  | _ => false
def isTu : D → Bool
  | .tup _ => true
  | _ => false
theorem isi_str (e : flat d = true) : isiD [d, .ty "str"] S P = P (.bl (isS d)) S := by cases d <;> first | rfl | cases e
theorem isi_int (e : flat d = true) : isiD [d, .ty "int"] S P = P (.bl (isI d)) S := by cases d <;> first | rfl | cases e
theorem isi_bool (e : flat d = true) : isiD [d, .ty "bool"] S P = P (.bl (isBo d)) S := by cases d <;> first | rfl | cases e
theorem isi_tup (e : flat d = true) : isiD [d, .ty "tuple"] S P = P (.bl (isTu d)) S := by cases d <;> first | rfl | cases e
/-- it is this text -/
def eqT (d : D) (z : Str) : Bool := match d with
  | .str a => a == z
  | _ => false
theorem eq_str' (e : flat d = true) : eqD d (.str z) S P = P (.bl (eqT d z)) S := by cases d <;> first | rfl | cases e
theorem eq_ii : eqD (.int i) (.int j) S P = P (.bl (i == j)) S := rfl
theorem eq_bi : eqD (.bl b) (.int j) S P = P (.bl (b2i b == j)) S := rfl
theorem eq_t0 : eqD (.tup xs) (.tup []) S P = P (.bl xs.isEmpty) S := by cases xs <;> rfl
theorem eq_l0 : eqD (.lst xs) (.lst []) S P = P (.bl xs.isEmpty) S := by cases xs <;> rfl
theorem ne_ss : neD (.str z) (.str z') S P = P (.bl (!(z == z'))) S := rfl
theorem ne_ii : neD (.int i) (.int j) S P = P (.bl (!(i == j))) S := rfl
theorem ne_t0 : neD (.tup xs) (.tup []) S P = P (.bl (!xs.isEmpty)) S := by cases xs <;> rfl
theorem ne_l0 : neD (.lst xs) (.lst []) S P = P (.bl (!xs.isEmpty)) S := by cases xs <;> rfl
theorem ne_r0 (e : S a = some (.lst xs)) : neD (.ref a) (.lst []) S P = P (.bl (!xs.isEmpty)) S := by
  have n : norm S (.ref a) = .lst xs := by show (match S a with | some (.lst xs) => D.lst xs | _ => .ref a) = _; rw [e]
  show (neB (norm S (.ref a)) (.lst [])).elim False _ = _
  rw [n]
  cases xs <;> rfl
theorem ix_tup : ixD (.tup xs) (.int i) S P = (atI xs i).elim False fun d => P d S := rfl
theorem ix_lst : ixD (.lst xs) (.int i) S P = (atI xs i).elim False fun d => P d S := rfl
theorem ix_str : ixD (.str z) (.int i) S P = (z.length ≤ sizeLine ∧ (atI z.cps.toList i).elim False fun c => P (.str ⟨#[c]⟩) S) := rfl
theorem ix_ref (e : S a = some (.lst xs)) : ixD (.ref a) (.int i) S P = (atI xs i).elim False fun d => P d S := by show (match S a with | some (.lst xs) => (atI xs i).elim False fun d => P d S | _ => False) = _; rw [e]
theorem all_map {α : Type} {l : List α} {q : α → Bool} : allD [.lst (l.map fun c => .bl (q c))] S P = P (.bl (l.all q)) S := by
  have e : l.map (fun c => D.bl (q c)) = (l.map q).map .bl := by rw [List.map_map]; rfl
  rw [e, all_b, List.all_map]
  rfl
theorem in_tt0 {neg : Bool} {zs : List Str} (e : flat d = true) (q : strsD ys = some zs) : inD neg d (.tup ys) S P = P (.bl (neg != memS d zs)) S := by
  have k : inB d (.tup ys) = some (memS d zs) := by
    cases d <;> first | (cases e; done) | simp [inB, flat, q]
  show (inB d (.tup ys)).elim False _ = _
  rw [k]; rfl
theorem in_tt {zs : List Str} (e : flat d = true) (q : strsD ys = some zs) : inD false d (.tup ys) S P = P (.bl (memS d zs)) S := by
  rw [in_tt0 e q]; cases memS d zs <;> rfl
theorem nin_tt {zs : List Str} (e : flat d = true) (q : strsD ys = some zs) : inD true d (.tup ys) S P = P (.bl (!memS d zs)) S := by
  rw [in_tt0 e q]; cases memS d zs <;> rfl
theorem in_c {n : Nat} : inD false (.str ⟨#[n]⟩) (.str z) S P = P (.bl (decide (n ∈ z.cps.toList))) S := by
  show P (.bl (false != found ⟨#[n]⟩ z)) S = _
  rw [found_sign]; cases decide (n ∈ z.cps.toList) <;> rfl
theorem nin_c {n : Nat} : inD true (.str ⟨#[n]⟩) (.str z) S P = P (.bl (!decide (n ∈ z.cps.toList))) S := by
  show P (.bl (true != found ⟨#[n]⟩ z)) S = _
  rw [found_sign]; cases decide (n ∈ z.cps.toList) <;> rfl
theorem sl_str {lo hi : Option Int} : slD (.str z) lo hi S P = (z.length ≤ sizeLine ∧ P (.str (cutS z lo hi)) S) := rfl
theorem sl_tup {lo hi : Option Int} : slD (.tup xs) lo hi S P = P (.tup (cutD xs lo hi)) S := rfl
theorem sl_lst {lo hi : Option Int} : slD (.lst xs) lo hi S P = P (.lst (cutD xs lo hi)) S := rfl
theorem on_ref {q : Addr → List D → Prop} (e : S a = some (.lst xs)) : onL (.ref a) S q = q a xs := by show (match S a with | some (.lst xs) => q a xs | _ => False) = _; rw [e]
theorem setD_ref {k : Int} {n : Nat} {v : D} {q : Sto → Prop} (e : S a = some (.lst xs)) (hk : ixN xs.length k = some n) : setD (.ref a) (.int k) v S q = q (sup S a (.lst (xs.set n v))) := by
  show (match S a with | some (.lst xs) => (match ixN xs.length k with | some j => q (sup S a (.lst (xs.set j v))) | none => False) | _ => False) = _
  rw [e]
  show (match ixN xs.length k with | some j => q (sup S a (.lst (xs.set j v))) | none => False) = _
  rw [hk]
theorem app_1 : appendD x [d] S P = onL x S fun a xs => xs.length < sizeLine ∧ P .non (sup S a (.lst (xs ++ [d]))) := rfl
theorem pop_0 : popD x [] S P = onL x S fun a xs => (xs[xs.length - 1]?).elim False fun d => P d (sup S a (.lst xs.dropLast)) := rfl
theorem ext_t : extendD x [.tup ys] S P = onL x S fun a xs => xs.length + ys.length ≤ sizeLine ∧ P .non (sup S a (.lst (xs ++ ys))) := rfl
theorem tuple_l : tupleD [.lst xs] S P = P (.tup xs) S := rfl
theorem list_t : listF [.tup xs] S P = P (.lst xs) S := rfl
theorem list_l : listF [.lst xs] S P = P (.lst xs) S := rfl
theorem int_b : intD [.bl b] S P = P (.int (if b then 1 else 0)) S := rfl
theorem int_i : intD [.int i] S P = P (.int i) S := rfl
theorem min_ii : minD [.int i, .int j] S P = P (.int (if j < i then j else i)) S := rfl
theorem str_i : strD [.int i] S P = (i.natAbs.log2 < 1920 ∧ P (.str (toString i)) S) := rfl
theorem str_b : strD [.bl b] S P = P (.str (if b then "True" else "False")) S := rfl
theorem repr_1 : reprD [d] S P = ((fits d = true ∧ (py d).shown.length ≤ sizeLine ∧ (py d).depth ≤ 150) ∧ P (.str (py d).shown) S) := rfl
theorem back_t : backD (.tup xs) S P = P (.tup xs.reverse) S := rfl
theorem tru_l {q : Bool → Prop} : (truB S (.lst xs)).elim False q = q (!xs.isEmpty) := rfl
theorem tru_r {q : Bool → Prop} (e : S a = some (.lst xs)) : (truB S (.ref a)).elim False q = q (!xs.isEmpty) := by
  have n : truB S (.ref a) = some (!xs.isEmpty) := by show (match S a with | some (.lst xs) => some (!xs.isEmpty) | _ => none) = _; rw [e]
  rw [n]; rfl
end
end DL
set_option Elab.async false
set_option linter.all false
set_option maxRecDepth 100000
namespace DL
open PySem PySem.Spec PyProof.Rows L2
def ch (c : Nat) : D := .str ⟨#[c]⟩
theorem signs_map (z : Str) : signs z = z.cps.toList.map ch := rfl
theorem signs_len (z : Str) : (signs z).length = z.length := by
  rw [signs_map, List.length_map]
  show z.cps.toList.length = z.cps.size
  simp
def unch : D → Nat
  | .str z => z.cps.toList.headD 0
  | _ => 0
theorem unch_ch (c : Nat) : unch (ch c) = c := rfl
section
variable {i : Nat} {tt : DT} {te : DE} {δ : DSt} {S : Sto} {P : DK} {z : Str}
theorem lc_signs (f : Nat → D) (hz : z.length ≤ sizeLine) (he : ∀ (c : Nat) (S2 : Sto) (Q : DK), Q (f c) S2 → te ((δ.set i none).set i (some (ch c))) S2 Q)
    (h : ∀ S', Step [] S S' → P (.lst (z.cps.toList.map f)) S') : lcB (gN i) dYes te [i] δ (signs z) S P := by
  refine lc_grow (fun _ => true) (fun d => f (unch d)) (by rw [signs_len]; exact hz) (fun d _ S2 Q q => q S2 (.refl _)) (fun d hd _ S2 Q q => ?_) fun S' s => ?_
  · rw [signs_map] at hd
    obtain ⟨c, _, rfl⟩ := List.mem_map.mp hd
    exact he c S2 Q (q S2 (.refl _))
  · rw [List.filter_eq_self.mpr (fun _ _ => rfl), signs_map, List.map_map]
    exact h S' s
theorem lc_signsF (q : Nat → Bool) (hz : z.length ≤ sizeLine) (ht : ∀ (c : Nat) (S2 : Sto) (Q : Bool → Sto → Prop), Q (q c) S2 → tt ((δ.set i none).set i (some (ch c))) S2 Q)
    (he : ∀ (c : Nat) (S2 : Sto) (Q : DK), Q (ch c) S2 → te ((δ.set i none).set i (some (ch c))) S2 Q)
    (h : ∀ S', Step [] S S' → P (.lst ((z.cps.toList.filter q).map ch)) S') : lcB (gN i) tt te [i] δ (signs z) S P := by
  refine lc_grow (fun d => q (unch d)) (fun d => d) (by rw [signs_len]; exact hz) (fun d hd S2 Q r => ?_) (fun d hd _ S2 Q r => ?_) fun S' s => ?_
  · rw [signs_map] at hd
    obtain ⟨c, _, rfl⟩ := List.mem_map.mp hd
    exact ht c S2 Q (r S2 (.refl _))
  · rw [signs_map] at hd
    obtain ⟨c, _, rfl⟩ := List.mem_map.mp hd
    exact he c S2 Q (r S2 (.refl _))
  · have e : (List.filter (fun d => q (unch d)) (signs z)).map (fun d => d) = (z.cps.toList.filter q).map ch := by
      rw [List.map_id'', signs_map, List.filter_map]
      · rfl
      · intro x; rfl
    rw [e]
    exact h S' s
end
theorem lc_empty {α : Type} {q : α → Bool} {l : List α} : (l.filter q).isEmpty = l.all fun c => !q c := by
  induction l with
  | nil => rfl
  | cons x r ih =>
    rw [List.filter_cons, List.all_cons]
    cases q x
    · simpa using ih
    · rfl
theorem strlen (z : Str) : z.length = z.cps.toList.length := by show z.cps.size = _; simp
section
variable {α : Type} {a b c d e : α} {l : List α}
theorem at0 : L2.atI (a :: l) 0 = some a := L2.atI_nat (j := 0) rfl
theorem at1 : L2.atI (a :: b :: l) 1 = some b := L2.atI_nat (j := 1) rfl
theorem at2 : L2.atI (a :: b :: c :: l) 2 = some c := L2.atI_nat (j := 2) rfl
theorem at3 : L2.atI (a :: b :: c :: d :: l) 3 = some d := L2.atI_nat (j := 3) rfl
end
theorem eqT_eq {d : D} {z : Str} (h : eqT d z = true) : d = .str z := by
  cases d with
  | str a => exact congrArg D.str (eq_of_beq h)
  | _ => cases h
end DL
set_option Elab.async false
set_option linter.all false
set_option maxRecDepth 100000
namespace DL
open PySem PySem.Spec PyProof.Rows L2
/-! ### small, plain trees; their size and depth -/
def goodS (k : Nat) (z : Str) : Bool := decide (z.length ≤ 80 + 10 * k) && z.cps.toList.all fun c => decide (c < 128)
def goodI (k : Nat) (i : Int) : Bool := decide (i.natAbs ≤ 10 ^ 50 + 100 * k)
mutual
def good (k : Nat) : D → Bool
  | .str z => goodS k z
  | .int i => goodI k i
  | .tup xs => goodA k xs
  | .lst xs => goodA k xs
  | .dic kvs => goodK k kvs
  | .ref _ => false
  | .ty _ => false
  | _ => true
def goodA (k : Nat) : List D → Bool
  | [] => true
  | d :: r => good k d && goodA k r
def goodK (k : Nat) : List (Key × D) → Bool
  | [] => true
  | (.inl i, d) :: r => goodI k i && good k d && goodK k r
  | (.inr z, d) :: r => goodS k z && good k d && goodK k r
end
mutual
def sz : D → Nat
  | .tup xs => szA xs + 1
  | .lst xs => szA xs + 1
  | .dic kvs => szK kvs + 1
  | _ => 1
def szA : List D → Nat
  | [] => 0
  | d :: r => sz d + szA r
def szK : List (Key × D) → Nat
  | [] => 0
  | (_, d) :: r => sz d + szK r + 1
end
mutual
def dp : D → Nat
  | .tup xs => dpA xs + 1
  | .lst xs => dpA xs + 1
  | .dic kvs => dpK kvs + 1
  | _ => 0
def dpA : List D → Nat
  | [] => 0
  | d :: r => max (dp d) (dpA r)
def dpK : List (Key × D) → Nat
  | [] => 0
  | (_, d) :: r => max (dp d) (dpK r)
end
section
variable {k j : Nat}
theorem goodA_cons {d : D} {r : List D} : goodA k (d :: r) = (good k d && goodA k r) := by simp only [goodA]
theorem goodA_all : ∀ {ds : List D}, goodA k ds = ds.all (good k)
  | [] => by simp only [goodA, List.all_nil]
  | d :: r => by simp only [goodA, List.all_cons, goodA_all (ds := r)]
theorem goodA_append {xs ys : List D} : goodA k (xs ++ ys) = (goodA k xs && goodA k ys) := by rw [goodA_all, goodA_all, goodA_all, List.all_append]
theorem goodA_mem {ds : List D} {d : D} (h : goodA k ds = true) (m : d ∈ ds) : good k d = true := by
  rw [goodA_all] at h
  exact List.all_eq_true.mp h d m
theorem goodA_of {ds : List D} (h : ∀ d ∈ ds, good k d = true) : goodA k ds = true := by
  rw [goodA_all]
  exact List.all_eq_true.mpr h
theorem goodS_len {z : Str} (h : goodS k z = true) : z.length ≤ 80 + 10 * k := by
  unfold goodS at h
  rw [Bool.and_eq_true] at h
  exact of_decide_eq_true h.1
theorem goodS_asc {z : Str} (h : goodS k z = true) : ∀ c ∈ z.cps.toList, c < 128 := fun c hc => by
  unfold goodS at h
  rw [Bool.and_eq_true] at h
  exact of_decide_eq_true (List.all_eq_true.mp h.2 c hc)
theorem goodS_of {z : Str} (h1 : z.length ≤ 80 + 10 * k) (h2 : ∀ c ∈ z.cps.toList, c < 128) : goodS k z = true := by
  unfold goodS
  rw [decide_eq_true h1, Bool.true_and]
  exact List.all_eq_true.mpr fun c hc => decide_eq_true (h2 c hc)
theorem goodI_le {i : Int} (h : goodI k i = true) : i.natAbs ≤ 10 ^ 50 + 100 * k := of_decide_eq_true h
theorem goodS_mono {z : Str} (h : goodS k z = true) (l : k ≤ j) : goodS j z = true := goodS_of (by have := goodS_len h; omega) (goodS_asc h)
theorem goodI_mono {i : Int} (h : goodI k i = true) (l : k ≤ j) : goodI j i = true := decide_eq_true (by have := goodI_le h; omega)
mutual
theorem good_mono (l : k ≤ j) : ∀ {d : D}, good k d = true → good j d = true
  | .non, h => by simp only [good]
  | .bl _, h => by simp only [good]
  | .int i, h => by simp only [good] at h ⊢; exact goodI_mono h l
  | .str z, h => by simp only [good] at h ⊢; exact goodS_mono h l
  | .tup xs, h => by simp only [good] at h ⊢; exact goodA_mono l h
  | .lst xs, h => by simp only [good] at h ⊢; exact goodA_mono l h
  | .dic kvs, h => by simp only [good] at h ⊢; exact goodK_mono l h
  | .ref _, h => by simp [good] at h
  | .ty _, h => by simp [good] at h
theorem goodA_mono (l : k ≤ j) : ∀ {ds : List D}, goodA k ds = true → goodA j ds = true
  | [], _ => by simp only [goodA]
  | d :: r, h => by
    simp only [goodA, Bool.and_eq_true] at h ⊢
    exact ⟨good_mono l h.1, goodA_mono l h.2⟩
theorem goodK_mono (l : k ≤ j) : ∀ {ds : List (Key × D)}, goodK k ds = true → goodK j ds = true
  | [], _ => by simp only [goodK]
  | (.inl i, d) :: r, h => by
    simp only [goodK, Bool.and_eq_true] at h ⊢
    exact ⟨⟨goodI_mono h.1.1 l, good_mono l h.1.2⟩, goodK_mono l h.2⟩
  | (.inr z, d) :: r, h => by
    simp only [goodK, Bool.and_eq_true] at h ⊢
    exact ⟨⟨goodS_mono h.1.1 l, good_mono l h.1.2⟩, goodK_mono l h.2⟩
end
end
theorem szA_append : ∀ {xs ys : List D}, szA (xs ++ ys) = szA xs + szA ys
  | [], ys => by simp [szA]
  | d :: r, ys => by simp only [List.cons_append, szA, szA_append (xs := r)]; omega
theorem sz_pos : ∀ d : D, 1 ≤ sz d := by
  intro d
  cases d <;> simp [sz]
theorem len_szA : ∀ ds : List D, ds.length ≤ szA ds
  | [] => by simp
  | d :: r => by have := len_szA r; have := sz_pos d; simp only [List.length_cons, szA]; omega
theorem szA_mem : ∀ {ds : List D} {d : D}, d ∈ ds → sz d ≤ szA ds
  | x :: r, d, h => by
    rcases List.mem_cons.mp h with rfl | h
    · simp only [szA]; omega
    · have := szA_mem h; simp only [szA]; omega
theorem dpA_mem : ∀ {ds : List D} {d : D}, d ∈ ds → dp d ≤ dpA ds
  | x :: r, d, h => by
    rcases List.mem_cons.mp h with rfl | h
    · simp only [dpA]; omega
    · have := dpA_mem h; simp only [dpA]; omega
theorem dpA_le {n : Nat} : ∀ {ds : List D}, (∀ d ∈ ds, dp d ≤ n) → dpA ds ≤ n
  | [], _ => by simp [dpA]
  | x :: r, h => by
    have h1 := h x (by simp)
    have h2 := dpA_le (ds := r) fun d hd => h d (by simp [hd])
    simp only [dpA]; omega
theorem dpA_append : ∀ {xs ys : List D}, dpA (xs ++ ys) = max (dpA xs) (dpA ys)
  | [], ys => by simp [dpA]
  | d :: r, ys => by simp only [List.cons_append, dpA, dpA_append (xs := r)]; omega
theorem line_big : 1000000 ≤ sizeLine := by rw [sizeLine_eq]; decide
theorem good_flat {k : Nat} {d : D} (h : good k d = true) : flat d = true := by cases d <;> first | rfl | simp [good] at h
end DL
set_option Elab.async false
set_option linter.all false
set_option maxRecDepth 100000
namespace DL
open PySem PySem.Spec PyProof.Rows L2
/-- one statement at a time -/
theorem seq_gen {t u : DS} {E : DEnds} {δ : DSt} {S : Sto} (h : ∀ M : DSt → Sto → Prop, M = u E → t { nx := M, rt := E.rt, bk := E.bk, ct := E.ct } δ S) : dSeq t u E δ S := h _ rfl
theorem if_gen {c : DT} {t u : DS} {E : DEnds} {δ : DSt} {S : Sto} (h : ∀ M1 M2 : Sto → Prop, M1 = t E δ → M2 = u E δ → c δ S fun b S1 => bif b then M1 S1 else M2 S1) : dIfS c t u E δ S := h _ _ rfl rfl
theorem iota_mem {lo : Int} {n : Nat} {d : D} (h : d ∈ iota lo n) : ∃ i : Nat, i < n ∧ d = .int (lo + (i : Int)) := by
  unfold iota at h
  obtain ⟨i, hi, rfl⟩ := List.mem_map.mp h
  exact ⟨i, List.mem_range.mp hi, rfl⟩
theorem iota_len (lo : Int) (n : Nat) : (iota lo n).length = n := by unfold iota; rw [List.length_map, List.length_range]
theorem at_mem {α : Type} {xs : List α} {i : Int} (h0 : 0 ≤ i) (h1 : i < (xs.length : Int)) : ∃ d, L2.atI xs i = some d ∧ d ∈ xs := by
  obtain ⟨n, rfl⟩ : ∃ n : Nat, i = (n : Int) := ⟨i.toNat, by omega⟩
  have hn : n < xs.length := by omega
  exact ⟨xs[n], L2.atI_nat (List.getElem?_eq_getElem hn), List.getElem_mem hn⟩
/-! ### joined signs -/
theorem strs_ch : ∀ cs : List Nat, strsD (cs.map ch) = some (cs.map fun c => (⟨#[c]⟩ : Str))
  | [] => rfl
  | c :: r => by
    show (strsD (r.map ch)).map _ = _
    rw [strs_ch r]
    rfl
theorem cps_app (a b : Str) : (a ++ b).cps.toList = a.cps.toList ++ b.cps.toList := by
  rw [Str.cps_append, Array.toList_append]
theorem join_signs : ∀ cs : List Nat, (Txt.join "" (cs.map fun c => (⟨#[c]⟩ : Str))).cps.toList = cs := by
  intro cs
  show (Builtin.Str.glued "" (cs.map fun c => (⟨#[c]⟩ : Str))).cps.toList = cs
  rw [StrLaws.glued_eq_join]
  induction cs with
  | nil => rfl
  | cons c r ih =>
    cases r with
    | nil => rfl
    | cons d s =>
      show ((⟨#[c]⟩ : Str) ++ ("" : Str) ++ Str.join "" ((d :: s).map fun c => (⟨#[c]⟩ : Str))).cps.toList = _
      rw [cps_app, cps_app, ih]
      rfl
theorem all_ch {ys : List D} {q : Nat → Prop} (h : ∀ y ∈ ys, ∃ c, q c ∧ y = ch c) : ∃ cs : List Nat, ys = cs.map ch ∧ ∀ c ∈ cs, q c := by
  induction ys with
  | nil => exact ⟨[], rfl, by simp⟩
  | cons y r ih =>
    obtain ⟨c, hc, rfl⟩ := h y (by simp)
    obtain ⟨cs, rfl, h2⟩ := ih fun z hz => h z (by simp [hz])
    exact ⟨c :: cs, rfl, by simpa using ⟨hc, h2⟩⟩
/-! ### a text that is cut at a sign -/
theorem join_inj {c : Nat} : ∀ {ps qs : List Str}, ps ≠ [] → qs ≠ [] → (∀ p ∈ ps, c ∉ p.cps.toList) → (∀ p ∈ qs, c ∉ p.cps.toList) → (Str.join ⟨#[c]⟩ ps).cps.toList = (Str.join ⟨#[c]⟩ qs).cps.toList → ps.map (fun p => p.cps.toList) = qs.map (fun p => p.cps.toList)
  | [], _, h, _, _, _, _ => absurd rfl h
  | _, [], _, h, _, _, _ => absurd rfl h
  | [p], [q], _, _, _, _, e => by simpa [Str.join] using e
  | [p], q :: q2 :: qs, _, _, hp, _, e => by
    exfalso
    have e2 : p.cps.toList = q.cps.toList ++ (c :: (Str.join ⟨#[c]⟩ (q2 :: qs)).cps.toList) := by
      have : (Str.join ⟨#[c]⟩ (q :: q2 :: qs)) = q ++ ⟨#[c]⟩ ++ Str.join ⟨#[c]⟩ (q2 :: qs) := rfl
      rw [this, cps_app, cps_app] at e
      simpa [Str.join] using e
    exact hp p (by simp) (by rw [e2]; simp)
  | p :: p2 :: ps, [q], _, _, _, hq, e => by
    exfalso
    have e2 : q.cps.toList = p.cps.toList ++ (c :: (Str.join ⟨#[c]⟩ (p2 :: ps)).cps.toList) := by
      have : (Str.join ⟨#[c]⟩ (p :: p2 :: ps)) = p ++ ⟨#[c]⟩ ++ Str.join ⟨#[c]⟩ (p2 :: ps) := rfl
      rw [this, cps_app, cps_app] at e
      simpa [Str.join] using e.symm
    exact hq q (by simp) (by rw [e2]; simp)
  | p :: p2 :: ps, q :: q2 :: qs, _, _, hp, hq, e => by
    have j1 : (Str.join ⟨#[c]⟩ (p :: p2 :: ps)) = p ++ ⟨#[c]⟩ ++ Str.join ⟨#[c]⟩ (p2 :: ps) := rfl
    have j2 : (Str.join ⟨#[c]⟩ (q :: q2 :: qs)) = q ++ ⟨#[c]⟩ ++ Str.join ⟨#[c]⟩ (q2 :: qs) := rfl
    rw [j1, j2, cps_app, cps_app, cps_app, cps_app] at e
    have e' : p.cps.toList ++ c :: (Str.join ⟨#[c]⟩ (p2 :: ps)).cps.toList = q.cps.toList ++ c :: (Str.join ⟨#[c]⟩ (q2 :: qs)).cps.toList := by simpa using e
    have key : ∀ (a b r s : List Nat), c ∉ a → c ∉ b → a ++ c :: r = b ++ c :: s → a = b ∧ r = s := by
      intro a
      induction a with
      | nil =>
        intro b r s _ hb z
        cases b with
        | nil => simpa using z
        | cons x t => simp at z; exact absurd (by rw [z.1]; simp) hb
      | cons x t ih =>
        intro b r s ha hb z
        cases b with
        | nil => simp at z; exact absurd (by rw [z.1]; simp) ha
        | cons y u =>
          simp at z
          obtain ⟨z1, z2⟩ := ih u r s (fun m => ha (by simp [m])) (fun m => hb (by simp [m])) z.2
          exact ⟨by rw [z.1, z1], z2⟩
    obtain ⟨k1, k2⟩ := key _ _ _ _ (hp p (by simp)) (hq q (by simp)) e'
    have ih := join_inj (ps := p2 :: ps) (qs := q2 :: qs) (by simp) (by simp) (fun z hz => hp z (by simp [hz])) (fun z hz => hq z (by simp [hz])) k2
    show p.cps.toList :: List.map (fun p => p.cps.toList) (p2 :: ps) = q.cps.toList :: List.map (fun p => p.cps.toList) (q2 :: qs)
    rw [k1, ih]
theorem str_ext {a b : Str} (h : a.cps.toList = b.cps.toList) : a = b := by
  cases a
  cases b
  exact congrArg Str.mk (Array.toList_inj.mp h)
theorem split_is {c : Nat} {z : Str} {qs : List Str} (h0 : qs ≠ []) (hf : ∀ p ∈ qs, c ∉ p.cps.toList) (e : z = Str.join ⟨#[c]⟩ qs) : Txt.split z ⟨#[c]⟩ = qs := by
  have h1 := StrLaws.join_split z ⟨#[c]⟩
  have h2 := StrLaws.split_free z c
  have h3 : Txt.split z ⟨#[c]⟩ ≠ [] := fun q => by have := PyProof.Rows.split_pos z ⟨#[c]⟩; rw [q] at this; simp at this
  have h4 := join_inj h3 h0 h2 hf (by rw [h1, e])
  have inj : ∀ {a b : List Str}, a.map (fun p => p.cps.toList) = b.map (fun p => p.cps.toList) → a = b := by
    intro a
    induction a with
    | nil => intro b q; cases b with | nil => rfl | cons x t => cases q
    | cons x t ih =>
      intro b q
      cases b with
      | nil => cases q
      | cons y u =>
        simp only [List.map_cons, List.cons.injEq] at q
        rw [str_ext q.1, ih q.2]
  exact inj h4
/-- elements one by one, what has been gathered in sight -/
theorem lc_acc {i : Nat} {te : DE} {δ : DSt} {ds : List D} {S : Sto} {P : DK} (L : List Addr) (J : Nat → List D → Sto → Prop) (hz : ds.length ≤ sizeLine) (hJ : ∀ n acc S1 S2, (∀ b ∈ L, S2 b = S1 b) → J n acc S1 → J n acc S2) (hL : ∀ b ∈ L, S b ≠ none) (h0 : J 0 [] S)
    (he : ∀ n d acc, ds[n]? = some d → acc.length = n → ∀ (S2 : Sto) (Q : DK), J n acc S2 → (∀ y S3, J (n + 1) (acc ++ [y]) S3 → Step L S2 S3 → Q y S3) → te ((δ.set i none).set i (some d)) S2 Q)
    (h : ∀ ys S', ys.length = ds.length → J ds.length ys S' → Step L S S' → P (.lst ys) S') : lcB (gN i) dYes te [i] δ ds S P := by
  intro p np
  have nL : ∀ b ∈ L, b ≠ p := fun b hb e => hL b hb (by rw [e]; exact np)
  refine ⟨fun j acc S' => acc.length = min j ds.length ∧ J j acc S' ∧ S' p = some (.lst acc) ∧ ∀ b, S b ≠ none → b ∉ L → S' b = S b, ⟨by simp, hJ _ _ S _ (fun b hb => sup_ne (nL b hb)) h0, sup_same, fun b hb _ => sup_ne fun e => hb (by rw [e]; exact np)⟩, fun _ _ _ z => z.2.2.1, fun j d acc S' hd ⟨e1, e2, e3, e5⟩ => ?_, fun acc S' ⟨e1, e2, e3, e5⟩ => ?_⟩
  · have hj := (List.getElem?_eq_some_iff.mp hd).1
    show te _ S' _
    refine he j d acc hd (by omega) S' _ e2 fun y S3 j3 s3 => ⟨s3.at e3 (fun z => nL p z rfl), by omega, by rw [List.length_append, e1]; simp; omega, hJ _ _ S3 _ (fun b hb => sup_ne (nL b hb)) j3, sup_same, fun b hb nb => ?_⟩
    have hne : b ≠ p := fun e => hb (by rw [e]; exact np)
    rw [sup_ne hne, s3 b (by rw [e5 b hb nb]; exact hb) nb, e5 b hb nb]
  · rw [Nat.min_self] at e1
    refine h acc _ e1 (hJ _ _ S' _ (fun b hb => ?_) e2) fun b hb nb => ?_
    · unfold sdel; rw [if_neg (nL b hb)]
    · have hne : b ≠ p := fun e => hb (by rw [e]; exact np)
      unfold sdel
      rw [if_neg hne]
      exact e5 b hb nb
section
variable {P : Program} {w : World} {K : PySem.W.Frag} {mg : Str → Option Value} {base : Heap}
/-- what nobody asks is kept -/
theorem Def.none {x : Str} {st : Stmt} {ps : List Str} {k : Nat} {sp : DSp} (h : Def K mg x st ps) (n : ∀ ds S P', ¬ sp ds S P') : Has P w K mg base k x ps sp := by
  obtain ⟨f, fd, F, b, m⟩ := h
  exact ⟨f, fd, ⟨fun ds S P' q => absurd q (n ds S P'), fun A outer s H args us vs Q _ _ _ _ _ ⟨ds, S, P', _, _, q, _⟩ => absurd q (n ds S P')⟩, b, F.kp, m⟩
end
end DL
set_option Elab.async false
set_option linter.all false
set_option maxRecDepth 100000
namespace DL
open PySem PySem.Spec PyProof.Rows L2
theorem goodS_app {k j : Nat} {a b : Str} (h1 : goodS k a = true) (h2 : ∀ c ∈ b.cps.toList, c < 128) (hl : a.length + b.length ≤ 80 + 10 * j) : goodS j (a ++ b) = true := by
  refine goodS_of (by rw [strLen_append]; exact hl) fun c hc => ?_
  rw [cps_app, List.mem_append] at hc
  exact hc.elim (goodS_asc h1 c) (h2 c)
theorem goodS_cut {k : Nat} {z : Str} {lo hi : Option Int} (h : goodS k z = true) : goodS k (cutS z lo hi) = true := by
  have e : (cutS z lo hi).cps.toList = ((z.cps.toList.drop (HT.sIx z.length 0 lo)).take (HT.sIx z.length z.length hi - HT.sIx z.length 0 lo)) := by unfold cutS; simp
  refine goodS_of ?_ fun c hc => ?_
  · rw [strlen, e]
    have h1 := goodS_len h
    have h2 := strlen z
    rw [List.length_take, List.length_drop]
    omega
  · rw [e] at hc
    exact goodS_asc h c (List.mem_of_mem_drop (List.mem_of_mem_take hc))
theorem goodS_int {k j : Nat} {i : Int} (hk : k ≤ 99) (h : goodI k i = true) : goodS j (toString i : Str) = true := by
  have h1 := goodI_le h
  have h2 : i.natAbs < 10 ^ 60 := by
    have : 10 ^ 50 + 100 * 9 < 10 ^ 60 := by decide
    omega
  have h3 := int_text_length_le10 (k := 60) (by decide) h2
  refine goodS_of ?_ fun c hc => ?_
  · have e : (Str.ofString (toString i)).length = (toString i).length := PySem.ofString_length _
    show (Str.ofString (toString i)).length ≤ _
    omega
  · by_cases q : c < 128
    · exact q
    · exact absurd hc (PyProof.Rows.int_text_free' c ⟨by omega, .inr (by omega)⟩ i)
theorem goodI_log {k : Nat} {i : Int} (hk : k ≤ 99) (h : goodI k i = true) : i.natAbs.log2 < 1920 := by
  have h1 := goodI_le h
  have h2 : i.natAbs < 2 ^ 1920 := by
    have : 10 ^ 50 + 100 * 9 < 2 ^ 1920 := by decide +kernel
    omega
  by_cases z : i.natAbs = 0
  · rw [z]; decide
  · exact (Nat.log2_lt z).mpr h2
theorem upper_asc : ∀ c : _root_.Fin 128, (Unicode.upperOf c.val).length = 1 ∧ ∀ u ∈ Unicode.upperOf c.val, u < 128 := by decide +kernel
theorem mapIdx_const {α β : Type} (g : α → β) : ∀ l : List α, List.mapIdx (fun _ c => g c) l = l.map g
  | [] => rfl
  | a :: r => by rw [List.mapIdx_cons, mapIdx_const g r]; rfl
theorem upper_list (z : Str) : (Txt.upper z).cps.toList = (z.cps.toList.map Unicode.upperOf).flatten := by
  show (PySem.placed z fun _ c => Unicode.upperOf c).toList = _
  unfold PySem.placed
  rw [Array.toList_flatten, Array.toList_mapIdx, mapIdx_const (fun c => (Unicode.upperOf c).toArray), List.map_map]
  congr 1
theorem goodS_upper {k : Nat} {z : Str} (h : goodS k z = true) : goodS k (Txt.upper z) = true := by
  have ha := goodS_asc h
  have hl := goodS_len h
  have key : ∀ l : List Nat, (∀ c ∈ l, c < 128) → ((l.map Unicode.upperOf).flatten).length = l.length ∧ ∀ u ∈ (l.map Unicode.upperOf).flatten, u < 128 := by
    intro l
    induction l with
    | nil => intro _; exact ⟨rfl, by simp⟩
    | cons c r ih =>
      intro q
      obtain ⟨i1, i2⟩ := ih fun x hx => q x (by simp [hx])
      have u := upper_asc ⟨c, q c (by simp)⟩
      rw [List.map_cons, List.flatten_cons]
      refine ⟨by rw [List.length_append, i1, u.1, List.length_cons]; omega, fun x hx => ?_⟩
      rcases List.mem_append.mp hx with y | y
      · exact u.2 x y
      · exact i2 x y
  obtain ⟨k1, k2⟩ := key _ ha
  exact goodS_of (by rw [strlen, upper_list, k1, ← strlen]; exact hl) (by rw [upper_list]; exact k2)
/-! ### cuts of trees -/
theorem szA_take_drop (n : Nat) : ∀ ds : List D, szA (ds.take n) + szA (ds.drop n) = szA ds := by
  intro ds
  rw [← szA_append, List.take_append_drop]
theorem szA_take (n : Nat) (ds : List D) : szA (ds.take n) ≤ szA ds := by have := szA_take_drop n ds; omega
theorem szA_drop (n : Nat) (ds : List D) : szA (ds.drop n) ≤ szA ds := by have := szA_take_drop n ds; omega
theorem sub_facts {k n : Nat} {xs ys : List D} (h : ∀ y ∈ ys, y ∈ xs) (g : goodA k xs = true) : goodA k ys = true ∧ dpA ys ≤ dpA xs :=
  ⟨goodA_of fun d hd => goodA_mem g (h d hd), dpA_le fun d hd => dpA_mem (h d hd)⟩
theorem cutD_mem {xs : List D} {lo hi : Option Int} : ∀ y ∈ cutD xs lo hi, y ∈ xs := fun y hy => by
  unfold cutD at hy
  exact List.mem_of_mem_drop (List.mem_of_mem_take hy)
theorem cutD_sz {xs : List D} {lo hi : Option Int} : szA (cutD xs lo hi) ≤ szA xs := by
  unfold cutD
  exact Nat.le_trans (szA_take _ _) (szA_drop _ _)
theorem cutD_len {xs : List D} {lo hi : Option Int} : (cutD xs lo hi).length ≤ xs.length := by
  unfold cutD
  rw [List.length_take, List.length_drop]; omega
theorem szA_rev : ∀ ds : List D, szA ds.reverse = szA ds
  | [] => rfl
  | d :: r => by rw [List.reverse_cons, szA_append, szA_rev r]; simp only [szA]; omega
/-- cut at a place -/
theorem cut_to {xs : List D} {n : Nat} (h : n ≤ xs.length) : cutD xs none (some (n : Int)) = xs.take n := by
  unfold cutD
  rw [HT.sIx_none, HT.sIx_nat, List.drop_zero, Nat.sub_zero, Nat.min_eq_left h]
theorem cut_from {xs : List D} {n : Nat} (h : n ≤ xs.length) : cutD xs (some (n : Int)) none = xs.drop n := by
  unfold cutD
  rw [HT.sIx_none, HT.sIx_nat, Nat.min_eq_left h, List.take_of_length_le (by rw [List.length_drop]; omega)]
end DL
set_option Elab.async false
set_option linter.all false
set_option maxRecDepth 100000
namespace DL
open PySem PySem.Spec PyProof.Rows L2
section
variable {E : DEnds} {δ : DSt} {S : Sto} {P : DK} {Q : Bool → Sto → Prop} {R : List D → Sto → Prop} {O : Option Int → Sto → Prop} {t u : DS} {te ta tb tc : DE} {tt tu : DT} {tA : DA} {tO tO' : DO} {i j : Nat} {d : D} {r r' : DR} {g : DG} {ti : DI} {x : Option D} {l : DSt} {is : List Nat} {c : Bool}
theorem e_next : dNext E δ S = E.nx δ S := rfl
theorem e_seq : dSeq t u E δ S = t { nx := u E, rt := E.rt, bk := E.bk, ct := E.ct } δ S := rfl
theorem e_drop : dDrop te E δ S = te δ S fun _ S1 => E.nx δ S1 := rfl
theorem e_ret : dRet te E δ S = te δ S E.rt := rfl
theorem e_retN : dRetN E δ S = E.rt .non S := rfl
theorem e_if : dIfS tt t u E δ S = tt δ S fun b S1 => bif b then t E δ S1 else u E δ S1 := rfl
theorem e_cont : dCont E δ S = E.ct δ S := rfl
theorem e_break : dBreak E δ S = E.bk δ S := rfl
theorem e_set : dSet i te E δ S = te δ S fun d S1 => E.nx (δ.set i (some d)) S1 := rfl
theorem e_asg : dAsg te g E δ S = te δ S fun d S1 => g d δ S1 E.nx := rfl
theorem e_par : dPar i j tA E δ S = tA δ S fun ds S1 => match ds with | [d, e] => E.nx ((δ.set i (some d)).set j (some e)) S1 | _ => False := rfl
theorem e_setI {tv to ti : DE} : dSetI tv to ti E δ S = tv δ S fun v S1 => to δ S1 fun o S2 => ti δ S2 fun i S3 => setD o i v S3 fun S4 => E.nx δ S4 := rfl
theorem e_for : dFor ti g t E δ S = ti δ S fun ds S1 => forB g t E δ ds S1 := rfl
theorem e_var : dVar i δ S P = (slot δ i).elim False fun d => P d S := rfl
theorem e_c : dC d δ S P = P d S := rfl
theorem e_op : dOp r ta tb δ S P = ta δ S fun d S1 => tb δ S1 fun e S2 => r d e S2 P := rfl
theorem e_un {q : D → Sto → DK → Prop} : dUn q ta δ S P = ta δ S fun d S1 => q d S1 P := rfl
theorem e_test : dTest te δ S Q = te δ S fun d S1 => asB d fun b => Q b S1 := rfl
theorem e_chain : dChain r r' ta tb tc δ S P = ta δ S fun d S1 => tb δ S1 fun e S2 => r d e S2 fun z S3 => asB z fun k => bif k then tc δ S3 fun f S4 => r' e f S4 P else P (.bl false) S3 := rfl
theorem e_and : dAnd tt tu δ S Q = tt δ S fun c S1 => bif c then tu δ S1 Q else Q false S1 := rfl
theorem e_or : dOr tt tu δ S Q = tt δ S fun c S1 => bif c then Q true S1 else tu δ S1 Q := rfl
theorem e_not : dNot tt δ S Q = tt δ S fun c S1 => Q (!c) S1 := rfl
theorem e_andV : dAndV ta tb δ S P = ta δ S fun x S1 => asB x fun c => bif c then tb δ S1 P else P (.bl false) S1 := rfl
theorem e_orV : dOrV ta tb δ S P = ta δ S fun x S1 => asB x fun c => bif c then P (.bl true) S1 else tb δ S1 P := rfl
theorem e_notV : dNotV ta δ S P = ta δ S fun x S1 => asB x fun c => P (.bl (!c)) S1 := rfl
theorem e_ife : dIf tt ta tb δ S P = tt δ S fun c S1 => bif c then ta δ S1 P else tb δ S1 P := rfl
theorem e_nil : dNil δ S R = R [] S := rfl
theorem e_cons : dCons te tA δ S R = te δ S fun d S1 => tA δ S1 fun ds S2 => R (d :: ds) S2 := rfl
theorem e_tup : dTup tA δ S P = tA δ S fun ds S1 => ds.length ≤ sizeLine ∧ P (.tup ds) S1 := rfl
theorem e_lst : dLst tA δ S P = tA δ S fun ds S1 => ds.length ≤ sizeLine ∧ P (.lst ds) S1 := rfl
theorem e_lstM : dLstM tA δ S P = tA δ S fun ds S1 => ds.length ≤ sizeLine ∧ ∀ p, S1 p = none → P (.ref p) (sup S1 p (.lst ds)) := rfl
theorem e_noPart : dNoPart δ S O = O none S := rfl
theorem e_part : dPart te δ S O = te δ S fun d S1 => asI d fun i => O (some i) S1 := rfl
theorem e_sl {q : D → Option Int → Option Int → Sto → DK → Prop} : dSl q te tO tO' δ S P = te δ S fun d S1 => tO δ S1 fun lo S2 => tO' δ S2 fun hi S3 => q d lo hi S3 P := rfl
theorem e_cb {q : List D → Sto → DK → Prop} : dCB q tA δ S P = tA δ S fun ds S1 => q ds S1 P := rfl
theorem e_mtL {q : D → List D → Sto → DK → Prop} : dMtL q te tA δ S P = te δ S fun d S1 => (∃ a xs, d = .ref a ∧ S1 a = some (.lst xs)) ∧ tA δ S1 fun ds S2 => q d ds S2 P := rfl
theorem e_mt0 {q : D → List D → Sto → DK → Prop} : dMt0 q te δ S P = te δ S fun d S1 => (∃ a xs, d = .ref a ∧ S1 a = some (.lst xs)) ∧ q d [] S1 P := rfl
theorem e_mtS {q : D → List D → Sto → DK → Prop} : dMtS q te tA δ S P = te δ S fun d S1 => asS d fun _ => tA δ S1 fun ds S2 => q d ds S2 P := rfl
theorem e_mtS0 {q : D → List D → Sto → DK → Prop} : dMtS0 q te δ S P = te δ S fun d S1 => asS d fun _ => q d [] S1 P := rfl
theorem e_tru : dTru te δ S Q = te δ S fun d S1 => (truB S1 d).elim False fun b => Q b S1 := rfl
theorem e_lc : dLc ti g tt te is δ S P = ti δ S fun ds S1 => lcB g tt te is δ ds S1 P := rfl
theorem e_itT {xs : List D} {q : List D → Sto → Prop} : dItS (dC (.tup xs)) δ S q = q xs S := rfl
theorem e_itS : dItS te δ S R = te δ S fun d S1 => match d with | .tup ds => R ds S1 | .lst ds => R ds S1 | _ => False := rfl
theorem e_itStr : dItStr te δ S R = te δ S fun d S1 => asS d fun z => R (signs z) S1 := rfl
theorem e_rng1 : dRng1 tA δ S R = tA δ S fun ds S1 => match ds with | [.int j] => big j ∧ R (iota 0 j.toNat) S1 | _ => False := rfl
theorem e_rev : dRev te δ S P = te δ S fun d S1 => backD d S1 P := rfl
theorem e_dic0 : dDic0 δ S P = P (.dic []) S := rfl
theorem e_dic1 {k : Key} : dDic1 k te δ S P = te δ S fun d S1 => P (.dic [(k, d)]) S1 := rfl
theorem e_s0 : slot (x :: l) 0 = x := rfl
theorem e_s1 : slot (x :: l) (i + 1) = slot l i := rfl
theorem e_ct {a b : Prop} : (bif true then a else b) = a := rfl
theorem e_cf {a b : Prop} : (bif false then a else b) = b := rfl
end
end DL
set_option Elab.async false
set_option linter.all false
set_option maxRecDepth 100000
namespace DL
open PySem PySem.Spec PyProof.Rows L2
/-! ### what good trees give for repr -/
theorem goodS_repr {k : Nat} {z : Str} (hk : k ≤ 3) (h : goodS k z = true) : (reprText z).length ≤ sizeLine := by
  have h1 := StrLaws.reprText_len z fun c hc => by have := goodS_asc h c hc; omega
  have h2 := goodS_len h
  have h3 := line_big
  omega
theorem goodI_shown {k : Nat} {i : Int} (hk : k ≤ 3) (h : goodI k i = true) : (PyData.shown (.int i)).length ≤ 64 := by
  have h1 := goodI_le h
  have h2 : i.natAbs < 10 ^ 60 := by
    have : 10 ^ 50 + 100 * 9 < 10 ^ 60 := by decide
    omega
  have h3 := int_text_length_le10 (k := 60) (by decide) h2
  have e : (Str.ofString (toString i)).length = (toString i).length := PySem.ofString_length _
  simp only [PyData.shown]
  show (Str.ofString (toString i)).length ≤ _
  omega
mutual
theorem good_fits {k : Nat} (hk : k ≤ 3) : ∀ {d : D}, good k d = true → fits d = true
  | .non, _ => by simp only [fits]
  | .bl _, _ => by simp only [fits]
  | .int i, h => by simp only [good] at h; simp only [fits]; exact decide_eq_true (goodI_log (by omega) h)
  | .str z, h => by simp only [good] at h; simp only [fits]; exact decide_eq_true (goodS_repr hk h)
  | .tup xs, h => by simp only [good] at h; simp only [fits]; exact goodA_fits hk h
  | .lst xs, h => by simp only [good] at h; simp only [fits]; exact goodA_fits hk h
  | .dic kvs, h => by simp only [good] at h; simp only [fits]; exact goodK_fits hk h
  | .ref _, h => by simp [good] at h
  | .ty _, h => by simp [good] at h
theorem goodA_fits {k : Nat} (hk : k ≤ 3) : ∀ {ds : List D}, goodA k ds = true → fitsA ds = true
  | [], _ => by simp only [fitsA]
  | d :: r, h => by
    simp only [goodA, Bool.and_eq_true] at h
    simp only [fitsA, Bool.and_eq_true]
    exact ⟨good_fits hk h.1, goodA_fits hk h.2⟩
theorem goodK_fits {k : Nat} (hk : k ≤ 3) : ∀ {ds : List (Key × D)}, goodK k ds = true → fitsK ds = true
  | [], _ => by simp only [fitsK]
  | (.inl i, d) :: r, h => by
    simp only [goodK, Bool.and_eq_true] at h
    simp only [fitsK, fitsKey, Bool.and_eq_true]
    exact ⟨⟨decide_eq_true (goodI_log (by omega) h.1.1), good_fits hk h.1.2⟩, goodK_fits hk h.2⟩
  | (.inr z, d) :: r, h => by
    simp only [goodK, Bool.and_eq_true] at h
    simp only [fitsK, fitsKey, Bool.and_eq_true]
    exact ⟨⟨decide_eq_true (goodS_repr hk h.1.1), good_fits hk h.1.2⟩, goodK_fits hk h.2⟩
end
mutual
theorem py_depth : ∀ d : D, (py d).depth ≤ dp d
  | .non => by simp only [py, PyData.depth]; omega
  | .bl _ => by simp only [py, PyData.depth]; omega
  | .int _ => by simp only [py, PyData.depth]; omega
  | .str _ => by simp only [py, PyData.depth]; omega
  | .ref _ => by simp only [py, PyData.depth]; omega
  | .ty _ => by simp only [py, PyData.depth]; omega
  | .tup xs => by have := pyA_depth xs; simp only [py, PyData.depth, dp]; omega
  | .lst xs => by have := pyA_depth xs; simp only [py, PyData.depth, dp]; omega
  | .dic kvs => by have := pyK_depth kvs; simp only [py, PyData.depth, dp]; omega
theorem pyA_depth : ∀ ds : List D, PyData.depthAll (pyA ds) ≤ dpA ds
  | [] => by simp only [pyA, PyData.depthAll]; omega
  | d :: r => by have := py_depth d; have := pyA_depth r; simp only [pyA, PyData.depthAll, dpA]; omega
theorem pyK_depth : ∀ ds : List (Key × D), PyData.depthKv (pyK ds) ≤ dpK ds
  | [] => by simp only [pyK, PyData.depthKv]; omega
  | (.inl i, d) :: r => by have := py_depth d; have := pyK_depth r; simp only [pyK, keyPy, PyData.depthKv, PyData.depth, dpK]; omega
  | (.inr z, d) :: r => by have := py_depth d; have := pyK_depth r; simp only [pyK, keyPy, PyData.depthKv, PyData.depth, dpK]; omega
end
mutual
theorem py_short {k : Nat} (hk : k ≤ 3) : ∀ {d : D}, good k d = true → (py d).leavesShort 64 = true ∧ (py d).bulk + 1 ≤ 112 * sz d
  | .non, _ => by simp only [py, PyData.leavesShort, PyData.bulk, sz]; exact ⟨trivial, by omega⟩
  | .bl _, _ => by simp only [py, PyData.leavesShort, PyData.bulk, sz]; exact ⟨trivial, by omega⟩
  | .int i, h => by simp only [good] at h; simp only [py, PyData.leavesShort, PyData.bulk, sz]; exact ⟨decide_eq_true (goodI_shown hk h), by omega⟩
  | .str z, h => by
    simp only [good] at h
    simp only [py, PyData.leavesShort, PyData.bulk, sz]
    have h2 : z.cps.size ≤ 80 + 10 * k := goodS_len h
    exact ⟨List.all_eq_true.mpr fun c hc => decide_eq_true (by have := goodS_asc h c hc; omega), by omega⟩
  | .tup xs, h => by
    simp only [good] at h
    obtain ⟨a, b⟩ := pyA_short hk h
    simp only [py, PyData.leavesShort, PyData.bulk, sz]
    exact ⟨a, by omega⟩
  | .lst xs, h => by
    simp only [good] at h
    obtain ⟨a, b⟩ := pyA_short hk h
    simp only [py, PyData.leavesShort, PyData.bulk, sz]
    exact ⟨a, by omega⟩
  | .dic kvs, h => by
    simp only [good] at h
    obtain ⟨a, b⟩ := pyK_short hk h
    simp only [py, PyData.leavesShort, PyData.bulk, sz]
    exact ⟨a, by omega⟩
  | .ref _, h => by simp [good] at h
  | .ty _, h => by simp [good] at h
theorem pyA_short {k : Nat} (hk : k ≤ 3) : ∀ {ds : List D}, goodA k ds = true → PyData.leavesShortAll 64 (pyA ds) = true ∧ PyData.bulkAll (pyA ds) ≤ 112 * szA ds
  | [], _ => by simp only [pyA, PyData.leavesShortAll, PyData.bulkAll]; exact ⟨trivial, by omega⟩
  | d :: r, h => by
    simp only [goodA, Bool.and_eq_true] at h
    obtain ⟨a, b⟩ := py_short hk h.1
    obtain ⟨a2, b2⟩ := pyA_short hk h.2
    have := sz_pos d
    simp only [pyA, PyData.leavesShortAll, PyData.bulkAll, szA, Bool.and_eq_true]
    exact ⟨⟨a, a2⟩, by omega⟩
theorem pyK_short {k : Nat} (hk : k ≤ 3) : ∀ {ds : List (Key × D)}, goodK k ds = true → PyData.leavesShortKv 64 (pyK ds) = true ∧ PyData.bulkKv (pyK ds) ≤ 112 * szK ds
  | [], _ => by simp only [pyK, PyData.leavesShortKv, PyData.bulkKv]; exact ⟨trivial, by omega⟩
  | (.inl i, d) :: r, h => by
    simp only [goodK, Bool.and_eq_true] at h
    obtain ⟨a, b⟩ := py_short hk h.1.2
    obtain ⟨a2, b2⟩ := pyK_short hk h.2
    simp only [pyK, keyPy, PyData.leavesShortKv, PyData.leavesShort, PyData.bulkKv, PyData.bulk, szK, Bool.and_eq_true]
    exact ⟨⟨⟨decide_eq_true (goodI_shown hk h.1.1), a⟩, a2⟩, by omega⟩
  | (.inr z, d) :: r, h => by
    simp only [goodK, Bool.and_eq_true] at h
    obtain ⟨a, b⟩ := py_short hk h.1.2
    obtain ⟨a2, b2⟩ := pyK_short hk h.2
    have h2 : z.cps.size ≤ 80 + 10 * k := goodS_len h.1.1
    have := sz_pos d
    simp only [pyK, keyPy, PyData.leavesShortKv, PyData.leavesShort, PyData.bulkKv, PyData.bulk, szK, Bool.and_eq_true]
    exact ⟨⟨⟨List.all_eq_true.mpr fun c hc => decide_eq_true (by have := goodS_asc h.1.1 c hc; omega), a⟩, a2⟩, by omega⟩
end
theorem good_repr {k : Nat} {d : D} (hk : k ≤ 3) (h : good k d = true) (hs : sz d ≤ 2000) (hd : dp d ≤ 150) : fits d = true ∧ (py d).shown.length ≤ sizeLine ∧ (py d).depth ≤ 150 := by
  obtain ⟨a, b⟩ := py_short hk h
  have e := PyData.shown_le_bulk 64 (by decide) (py d) a
  have q := py_depth d
  refine ⟨good_fits hk h, ?_, by omega⟩
  rw [sizeLine_eq]
  omega
end DL
set_option Elab.async false
set_option linter.all false
set_option maxRecDepth 100000
set_option maxHeartbeats 1000000
namespace DL
open PySem PySem.Spec PyProof.Rows L2
/-! ### once a token has been given out: str.replace -/
section
variable {X : Cx} {e f o : Expr} {es : List Expr} {te tf to : DE} {t : DA} {st : Stmt} {rest : List Stmt} {u v : DS} {pos : Pos}
abbrev KE' (X : Cx) (e : Expr) (t : DE) : Prop := L2.PET X e (lE X.K t)
abbrev KA' (X : Cx) (e : List Expr) (t : DA) : Prop := L2.PAT X e (lA X.K t)
abbrev KS' (X : Cx) (e : Stmt) (t : DS) : Prop := L2.PST X e (lS X.K t)
abbrev KSs' (X : Cx) (e : List Stmt) (t : DS) : Prop := L2.PSsT X e (lS X.K t)
theorem k_of (h : QE X e te) : KE' X e te := CwR.PET.of h
theorem ks_of (h : QS X st u) : KS' X st u := L2.PST.of h
theorem kss_of (h : QSs X rest u) : KSs' X rest u := L2.PSsT.of h
theorem k_op {op : Operator} {r : DR} (ho : OpD X (binaryOp op) r) (ha : KE' X e te) (hb : KE' X f tf) : KE' X (.BinOp e op f pos) (dOp r te tf) :=
  fun pins s σ H Q h0 I h => CwR.pet_op ho ha hb pins s σ H Q h0 I (l2_of h)
theorem ka_nil : KA' X [] dNil := fun pos pins s σ H Q h0 I ⟨δ, S, P, rs, sr, h, fin⟩ => L2.pat_nil pos pins s σ H Q h0 I (fin [] S [] H h rfl sr (.refl H))
theorem ka_cons (ha : KE' X e te) (hr : KA' X es t) (hs : starEach (e :: es) X.env = (false, eval e X.env) :: starEach es X.env := by rfl) : KA' X (e :: es) (dCons te t) :=
  fun pos pins s σ H Q h0 I ⟨δ, S, P, rs, sr, h, fin⟩ => L2.pat_cons ha hr hs pos pins s σ H Q h0 I ⟨δ, S, _, rs, sr, h, fun d S1 v H1 h1 r1 s1 e1 => ⟨δ, S1, _, rs.ext e1, s1, h1, fun ds S2 vs H2 h2 r2 s2 e2 => fin _ S2 _ H2 h2 ⟨v, vs, rfl, r1.ext e2, r2⟩ s2 (e1.trans e2)⟩⟩
theorem k_lst (h : KA' X es t) : KE' X (.List es pos) (dLst t) := fun pins s σ H Q h0 I ⟨δ, S, P, rs, sr, q, fin⟩ => by
  refine thn (L2.pet_lst h pins s σ H (fun v H1 => ∃ a xs, v = .ref a ∧ H1 a = some (.lst xs) ∧ ∀ o, Q v (upd H1 a (.frz o (.lst xs)))) h0 I ⟨δ, S, _, rs, sr, q, fun ds S1 vs H1 ⟨h0, h1⟩ r1 s1 e1 => ⟨by rw [r1.length]; exact h0, fun p np => ⟨p, vs, rfl, upd_same, fun o => ?_⟩⟩⟩) fun v s1 q => freezeE q
  rw [upd_upd]
  exact fin _ S1 _ _ h1 ⟨p, vs, rfl, .inl ⟨o, upd_same⟩, r1.ext (.new np)⟩ (s1.new np) (e1.trans (.new np))
def dRepl (to : DE) (y z : Str) : DE := fun δ S P => to δ S fun d S1 => asS d fun x => x.length + (x.length + 1) * z.length ≤ 16777216 ∧ P (.str (Txt.replace x y z)) S1
theorem k_repl {y z : Str} {j k : Nat} {c0 c1 apos : Pos} (ho : QE X o to) (hyz : (y == z) = false := by decide +kernel)
    (hst : starEach [.Constant (.str y) j c0, .Constant (.str z) k c1] X.env = [(false, eval (.Constant (.str y) j c0) X.env), (false, eval (.Constant (.str z) k c1) X.env)] := by rfl)
    (hbase : attributeBase o "replace" X.env (eval o X.env) = eval o X.env := by rfl) (hline : (apos.endLine == pos.line) = true := by rfl) :
    KE' X (.Call (.Attribute o "replace" apos) [.Constant (.str y) j c0, .Constant (.str z) k c1] [] pos) (dRepl to y z) :=
  fun pins s σ H Q h0 I ⟨δ, S, P, rs, sr, q, fin⟩ => CwR.pet_replC ho hyz hst hbase hline pins s σ H Q h0 I ⟨δ, S, _, rs, sr, q, fun d S1 v H1 h1 r1 s1 e1 => by
    obtain ⟨x, rfl, h2, h3⟩ := asS_of h1
    cases r1
    exact ⟨x, rfl, h2, fin _ S1 _ H1 h3 rfl s1 e1⟩⟩
theorem ks_set (i : Nat) {x : Str} {pos' : Pos} (hN : X.N.Nodup) (he : KE' X e te) (hi : X.N[i]? = some x := by rfl) (hx : Loc X.env.scope x := by first | exact Or.inl rfl | exact Or.inr rfl) (hs : swapsWith e (some (.Name x pos')) pos.line X.env = pure false := by rfl)
    (hf : X.fn x = true ∨ X.env.scope.names.lookup x = some .local := by first | exact .inl rfl | exact .inr rfl | assumption) : KS' X (.Assign [.Name x pos'] e pos) (dSet i te) :=
  fun pins s σ H D h0 I ⟨δ, S, P, rs, sr, q, fin⟩ => by
    refine wpAny_Assign_Name (thn (he pins s σ H (fun v H1 => D.nx (σ.set i (some v)) H1) h0 I ⟨δ, S, _, rs, sr, q, fun d S1 v H1 h1 r1 s1 e1 => fin.nx _ S1 _ H1 h1 ((rs.ext e1).set r1) s1 e1⟩) fun v s1 ⟨y, H1, I1, r1, q1⟩ => ?_) hs
    exact store_ok I1 hN hi hx r1 (fun s2 I2 => ⟨_, H1, I2, q1⟩) hf
theorem kss_cons (h1 : KS' X st u) (h2 : KSs' X rest v) : KSs' X (st :: rest) (dSeq u v) := fun pins s σ H D h0 I ⟨δ, S, P, rs, sr, h, fin⟩ => L2.psst_cons h1 h2 pins s σ H D h0 I ⟨δ, S, { P with nx := v P }, rs, sr, h, fin.seq⟩
/-- behind a list whose first item is a written text a token is out -/
theorem ss_pos (i : Nat) {x c : Str} {j : Nat} {cp lp pos' : Pos} (hN : X.N.Nodup) (ha : QA X es t) (h2 : KSs' X rest v) (hi : X.N[i]? = some x := by rfl) (hx : Loc X.env.scope x := by first | exact Or.inl rfl | exact Or.inr rfl)
    (hs : swapsWith (.List (.Constant (.str c) j cp :: es) lp) (some (.Name x pos')) pos.line X.env = pure false := by rfl) (hst : starEach (.Constant (.str c) j cp :: es) X.env = (false, eval (.Constant (.str c) j cp) X.env) :: starEach es X.env := by rfl)
    (hf : X.fn x = true ∨ X.env.scope.names.lookup x = some .local := by first | exact .inl rfl | exact .inr rfl | assumption) :
    QSs X (.Assign [.Name x pos'] (.List (.Constant (.str c) j cp :: es) lp) pos :: rest) (dSeq (dSet i (dLst (dCons (dC (.str c)) t))) v) := by
  refine ⟨fun pins s σ H D I ⟨δ, S, P, rs, sr, h, fin⟩ => ?_⟩
  refine wpAny_execs_cons (wpAny_Assign_Name (wpAny_List_spliced ?_) hs)
  rw [hst]
  show wpAny _ _ (spliced ((false, eval (.Constant (.str c) j cp) X.env) :: backTo lp (starEach es X.env))) _ _ s
  refine Calls.spliced_cons (Calls.Constant_str ?_)
  have I0 := I.tok (s.toks + 1)
  refine wpAny_mono (PySem.wpAny_toks (ha.run lp pins _ σ H (fun vs H1 => ∃ ds S1, RpA X.K H1 ds vs ∧ SR X.K H1 S1 ∧ Ext H H1 ∧ (ds.length + 1 ≤ sizeLine ∧ v P (δ.set i (some (.lst (.str c :: ds)))) S1)) I0 ⟨δ, S, _, rs, sr, h, fun ds S1 vs H1 h1 r1 s1 e1 => ⟨ds, S1, r1, s1, e1, h1⟩⟩)) (fun us s1 q => ?_) fun _ _ z => z.2
  obtain ⟨hk, vs, H1, I1, r1, ds, S1, r2, sr1, e1, hz, hv⟩ := q
  have hk : s.toks + 1 ≤ s1.toks := hk
  have ll : us.length = ds.length := by rw [← r1.length, r2.length]
  refine ⟨by rw [List.length_cons, ll]; exact hz, ?_⟩
  have J := I1.lnew (t' := s1.toks) (ys := .str c :: vs) (its := .str c s.toks :: us) (.cons ⟨_, rfl⟩ r1) (by rw [List.length_cons, r1.length, ll]; exact hz)
  obtain ⟨ob, J2⟩ := freezeL J upd_same
  rw [upd_upd] at J2
  refine wpAny_mono (PySem.wpAny_toks (store_ok (v := V.ref s1.heap.objs.size) (u := Value.ref s1.heap.objs.size) (Q := fun _ s2 => L2.Inv X pins (σ.set i (some (V.ref s1.heap.objs.size))) _ s2) J2 hN hi hx rfl (fun _ I2 => I2) hf)) (fun _ s2 q => ?_) fun _ _ z => z.2
  have hk2 : s1.toks ≤ s2.toks := q.1
  have np := I1.fresh
  refine h2 pins s2 _ _ D (by omega) q.2 ⟨δ.set i (some (.lst (.str c :: ds))), S1, P, (rs.ext (e1.trans (.new np))).set ⟨_, _, rfl, .inl ⟨ob, upd_same⟩, ⟨_, _, rfl, rfl, r2.ext (.new np)⟩⟩, sr1.new np, hv, fin.ext (e1.trans (.new np))⟩
end
end DL
set_option Elab.async false
set_option linter.all false
set_option maxRecDepth 100000
set_option maxHeartbeats 1000000
namespace DL
open PySem PySem.Spec PyProof.Rows L2

/-! ### a def that is handed about, called by a name of its own -/
def HasAt (P : Program) (w : World) (K : PySem.W.Frag) (mg : Str → Option Value) (base : Heap) (k : Nat) (f : Addr) (ps : List Str) (sp : DSp) : Prop := ∃ fd, FnD P w K mg base k f fd ps sp ∧ Binds K fd ps [] ∧ PySem.W.keepIn K (.ref f) = true
theorem HasAt.mono {P : Program} {w : World} {K : PySem.W.Frag} {mg : Str → Option Value} {base : Heap} {j k : Nat} {f : Addr} {ps : List Str} {sp : DSp} (h : HasAt P w K mg base j f ps sp) (l : j ≤ k) : HasAt P w K mg base k f ps sp := let ⟨fd, a, b⟩ := h; ⟨fd, a.mono l, b⟩
theorem Has.split {P : Program} {w : World} {K : PySem.W.Frag} {mg : Str → Option Value} {base : Heap} {k : Nat} {x : Str} {ps : List Str} {sp : DSp} (h : Has P w K mg base k x ps sp) : ∃ f, HasAt P w K mg base k f ps sp ∧ Con K mg x (.ref f) := by
  obtain ⟨f, fd, a, b, c, m⟩ := h
  exact ⟨f, ⟨fd, a, b, c⟩, .ref f, .ref f, m, rfl, fun _ => rfl⟩
def dCallL (i : Nat) (f : Addr) (sp : DSp) (t : DA) : DE := fun δ S P => slot δ i = some (.ref f) ∧ t δ S fun ds S1 => sp ds S1 P
section
variable {X : Cx} {k i : Nat} {f : Addr} {ps : List Str} {sp : DSp} {x : Str} {p pos : Pos} {e : Expr} {es : List Expr} {t : DA}
theorem q_callL (i : Nat) (F : HasAt X.prog X.w X.K X.mg X.base k f ps sp) (hr : Room k X.A) (hgd : X.A.guards = some []) (ha : QA X (e :: es) t) (hN : X.N[i]? = some x := by rfl) (hv : Vis X.env.scope x := by first | exact Or.inl rfl | exact Or.inr (Or.inl rfl) | exact Or.inr (Or.inr rfl))
    (hdb : (x == ("__debug__" : Str)) = false := by decide) (hcd : (x == ("__classdict__" : Str)) = false := by decide)
    (he : starEach (e :: es) X.env = (false, eval e X.env) :: starEach es X.env := by rfl) (hpl : (backTo pos (starEach es X.env)).any (·.1) = false := by rfl) : QE X (.Call (.Name x p) (e :: es) [] pos) (dCallL i f sp t) := by
  obtain ⟨fd, F, hb, hk⟩ := F
  refine ⟨fun pins s σ H Q I ⟨δ, S, P, rs, sr, ⟨hs, h⟩, fin⟩ => ?_⟩
  obtain ⟨v, hv2, r2⟩ := rs.2 i _ (slot_get hs)
  cases r2
  refine wpAny_Call_Name_kw (thn ((pe_var (pos := p) hN hv hdb hcd).run pins s σ H (fun v H1 => v = .ref f ∧ H1 = H) I ⟨.ref f, hv2, rfl, rfl⟩) fun u s0 ⟨v, H0, I0, r1, q1⟩ => ?_)
  obtain ⟨rfl, rfl⟩ := q1
  cases r1
  refine PySem.W.callWith_K (h₀ := X.base) I.ok.mod.kin hk ?_ he hpl
  refine thn (ha.run pos pins s0 σ _ (fun vs H1 => ∃ ds S1, RpA X.K H1 ds vs ∧ SR X.K H1 S1 ∧ sp ds S1 P ∧ Fin X.K H1 P Q) I0 ⟨δ, S, _, rs, sr, h, fun ds S1 vs H1 h1 r1 s1 e1 => ⟨ds, S1, r1, s1, h1, fin.ext e1⟩⟩) fun us s1 ⟨vs, H1, I1, r, ds, S1, r1, s2, q, fin1⟩ => ⟨I1.kIn, ?_⟩
  have hl : us.length = ps.length := by rw [← r.length, r1.length]; exact F.len _ _ _ q
  have hb' : BindsTo s1 fd ⟨us, []⟩ (ps.zip us) := by have z := hb s1 us I1.kIn (by simpa using hl); rw [List.append_nil] at z; exact z
  refine wpAny_call (codeAny_mono (F.run X.A X.stack s1 H1 ⟨us, []⟩ us vs Q hr hgd I1.env0 hb' r ⟨ds, S1, P, r1, s2, q, fin1⟩) fun r s' hq => ?_)
  cases r with
  | error e => exact False.elim hq
  | ok fl => cases fl with
    | ret u => exact I1.after hq
    | _ => exact False.elim hq
/-! ### what is never come to -/
def dNever : DS := fun _ _ _ => False
theorem s_never {st : Stmt} : QS X st dNever := ⟨fun pins s σ H D I ⟨δ, S, P, rs, sr, h, fin⟩ => h.elim⟩
/-! ### f'..' of a fixed part and one that is put in -/
def dFs (c : Str) (te : DE) : DE := fun δ S P => te δ S fun d S1 => match d with
  | .str y => y.length ≤ sizeLine ∧ (c ++ y).length ≤ sizeLine ∧ P (.str (c ++ y)) S1
  | .int i => i.natAbs.log2 < 1920 ∧ (c ++ (toString i : Str)).length ≤ sizeLine ∧ P (.str (c ++ (toString i : Str))) S1
  | _ => False
theorem empty_app (c : Str) : Str.empty ++ c = c := by
  apply congrArg Str.mk
  simp [Str.empty]
theorem q_fs {c : Str} {k : Nat} {p1 p2 p3 : Pos} {te : DE} (he : QE X e te) (hc : c.length ≤ sizeLine := by decide) : QE X (.JoinedStr [.Constant (.str c) k p1, .FormattedValue e (-1) none p2] p3) (dFs c te) :=
  PE.imp (pe_joined (.cons pe_str (.cons (pe_fmt he) .nil))) fun σ H Q ⟨δ, S, P, rs, sr, h, fin⟩ => by
    refine ⟨c, rfl, by rw [empty_app]; exact hc, ?_⟩
    rw [empty_app]
    refine ⟨δ, S, _, rs, sr, h, fun d S1 v H1 h1 r1 s1 e1 => ?_⟩
    split at h1
    · cases r1
      exact .inl ⟨_, rfl, h1.1, _, rfl, h1.2.1, fin _ S1 _ H1 h1.2.2 rfl s1 e1⟩
    · cases r1
      exact .inr ⟨_, rfl, h1.1, _, rfl, h1.2.1, fin _ S1 _ H1 h1.2.2 rfl s1 e1⟩
    · exact h1.elim
/-! ### int of a text, too -/
def intE : List D → Sto → DK → Prop := fun ds S P => match ds with
  | [.str z] => ∃ n : Int, PySem.intText? z = some n ∧ z.length ≤ 640 ∧ P (.int n) S
  | _ => intD ds S P
theorem c_intE : CallD X (.type "int") intE := by
  intro pins s σ H xs us Q I rv ⟨ds, S, P, ra, sr, h, fin⟩
  unfold intE at h
  split at h
  · obtain ⟨n, hn, hl, h⟩ := h
    obtain ⟨v, rfl, r⟩ := ra.one'
    cases r
    exact call_int_str pins s σ H _ us Q I rv ⟨_, n, rfl, hn, hl, fin _ S _ H h rfl sr (.refl H)⟩
  · exact c_int pins s σ H xs us Q I rv ⟨ds, S, P, ra, sr, h, fin⟩
end
end DL
set_option Elab.async false
set_option linter.all false
set_option maxRecDepth 100000
set_option maxHeartbeats 1000000
namespace DL
open PySem PySem.Spec PyProof.Rows L2

/-! ### dicts -/
def valD (kvs : List (Key × D)) (k : Key) : Option D := (kvs.find? fun kv => decide (kv.1 = k)).map (·.2)
def putD (kvs : List (Key × D)) (k : Key) (v : D) : List (Key × D) :=
  if (kvs.any fun kv => decide (kv.1 = k)) = true then kvs.map (fun kv => if kv.1 = k then (kv.1, v) else kv) else kvs ++ [(k, v)]
section
variable {K : PySem.W.Frag} {H H' : Hp}
theorem RpK.val {k : Key} {d : D} : ∀ {kvs : List (Key × D)} {ws : List (Key × V)}, RpK K H kvs ws → valD kvs k = some d → ∃ v, valV ws k = some v ∧ Rp K H d v
  | [], _, _, h => by cases h
  | (j, x) :: r, _, ⟨v, ws, rfl, h1, h2⟩, h => by
    by_cases e : j = k
    · have h : some x = some d := by simpa [valD, List.find?_cons, e] using h
      cases h
      exact ⟨v, valV_pos e, h1⟩
    · obtain ⟨v', q1, q2⟩ := RpK.val (kvs := r) h2 (by simpa [valD, List.find?_cons, e] using h)
      exact ⟨v', by rw [valV_neg e]; exact q1, q2⟩
theorem RpK.any {k : Key} : ∀ {kvs : List (Key × D)} {ws : List (Key × V)}, RpK K H kvs ws → (kvs.any fun kv => decide (kv.1 = k)) = (ws.any fun kv => decide (kv.1 = k))
  | [], _, h => by cases h; rfl
  | (j, x) :: r, _, ⟨v, ws, rfl, h1, h2⟩ => by rw [List.any_cons, List.any_cons, RpK.any h2]
theorem RpK.length : ∀ {kvs : List (Key × D)} {ws : List (Key × V)}, RpK K H kvs ws → kvs.length = ws.length
  | [], _, h => by cases h; rfl
  | (j, x) :: r, _, ⟨v, ws, rfl, h1, h2⟩ => by rw [List.length_cons, List.length_cons, RpK.length h2]
theorem RpK.repl {k : Key} {d : D} {v : V} (rv : Rp K H d v) : ∀ {kvs : List (Key × D)} {ws : List (Key × V)}, RpK K H kvs ws → RpK K H (kvs.map fun kv => if kv.1 = k then (kv.1, d) else kv) (ws.map fun kv => if kv.1 = k then (kv.1, v) else kv)
  | [], _, h => by cases h; rfl
  | (j, x) :: r, _, ⟨y, ws, rfl, h1, h2⟩ => by
    rw [List.map_cons, List.map_cons]
    by_cases e : j = k
    · rw [if_pos e, if_pos e]; exact ⟨v, _, rfl, rv, RpK.repl rv h2⟩
    · rw [if_neg e, if_neg e]; exact ⟨y, _, rfl, h1, RpK.repl rv h2⟩
theorem RpK.snoc {k : Key} {d : D} {v : V} (rv : Rp K H d v) : ∀ {kvs : List (Key × D)} {ws : List (Key × V)}, RpK K H kvs ws → RpK K H (kvs ++ [(k, d)]) (ws ++ [(k, v)])
  | [], _, h => by cases h; exact ⟨v, [], rfl, rv, rfl⟩
  | (j, x) :: r, _, ⟨y, ws, rfl, h1, h2⟩ => ⟨y, _, rfl, h1, RpK.snoc rv h2⟩
theorem RpK.put {k : Key} {d : D} {v : V} (rv : Rp K H d v) {kvs : List (Key × D)} {ws : List (Key × V)} (h : RpK K H kvs ws) : RpK K H (putD kvs k d) (putK ws k v) := by
  unfold putD putK
  rw [h.any]
  split
  · exact .repl rv h
  · exact .snoc rv h
theorem Ext.mutK {a : Addr} {o : HO} {vs : List (Key × V)} (h : H a = some (.dK vs)) : Ext H (upd H a o) := .mut h (fun _ z => by cases z) (fun _ _ z => by cases z) (fun _ z => by cases z) (fun _ z => by cases z)
theorem SR.dic {S : Sto} {a : Addr} {kvs : List (Key × D)} (h : SR K H S) (e : S a = some (.dic kvs)) : ∃ ws, H a = some (.dK ws) ∧ RpK K H kvs ws := h a _ e
theorem SR.addK {S : Sto} {p : Addr} {ds : List (Key × D)} {vs : List (Key × V)} (h : SR K H S) (e : H p = Option.none) (r : RpK K H ds vs) : SR K (upd H p (.dK vs)) (sup S p (.dic ds)) := fun b u q => by
  by_cases hb : b = p
  · subst hb; rw [sup_same] at q; cases q; exact ⟨vs, upd_same, r.ext (.new e)⟩
  · rw [sup_ne hb] at q; exact (h.new e) b u q
theorem SR.mutK {S : Sto} {a : Addr} {ds ds' : List (Key × D)} {vs : List (Key × V)} (h : SR K H S) (e : S a = some (.dic ds')) (r : RpK K H ds vs) : SR K (upd H a (.dK vs)) (sup S a (.dic ds)) := fun b u q => by
  obtain ⟨ws, h1, _⟩ := h.dic e
  by_cases hb : b = a
  · subst hb; rw [sup_same] at q; cases q; exact ⟨vs, upd_same, r.ext (.mutK h1)⟩
  · rw [sup_ne hb] at q
    exact (h b u q).keep (.mutK h1) (upd_ne hb)
theorem SR.delK {S : Sto} {p : Addr} {o : Obj} {vs : List (Key × V)} (s : SR K H S) (h : H p = some (.dK vs)) : SR K (upd H p (.frz o (.dK vs))) (sdel S p) := fun b u q => by
  by_cases hb : b = p
  · subst hb; unfold sdel at q; rw [if_pos rfl] at q; cases q
  · unfold sdel at q; rw [if_neg hb] at q
    exact (s b u q).keep (.mutK h) (upd_ne hb)
end
section
variable {X : Cx} {o i value tg : Expr} {to ti tv : DE} {pos pos' : Pos}
/-- {} that changes -/
def dDicM : DE := fun _ S P => ∀ p, S p = none → P (.ref p) (sup S p (.dic []))
theorem q_dicM : QE X (.Dict [] [] pos) dDicM := PE.imp pe_dnewK fun σ H Q ⟨δ, S, P, rs, sr, h, fin⟩ => fun p np => fin _ _ _ _ (h p (sr.none np)) rfl (sr.addK np rfl) (.new np)
/-- a text's place in a dict -/
def getD (d k : D) (S : Sto) (P : DK) : Prop := match d, k with
  | .dic kvs, .str z => (valD kvs (.inr z)).elim False fun x => P x S
  | _, _ => False
def dGet (to ti : DE) : DE := fun δ S P => to δ S fun d S1 => ti δ S1 fun k S2 => getD d k S2 P
theorem q_dget (hu : X.A.units + 1 < cLine) (ho : QE X o to) (hi : QE X i ti) (hs : NoSl i := by intro _ _; rfl) : QE X (.Subscript o i pos) (dGet to ti) :=
  PE.imp (pe_dget hu ho hi hs) fun σ H Q ⟨δ, S, P, rs, sr, h, fin⟩ => ⟨δ, S, _, rs, sr, h, fun d S1 v H1 h1 r1 s1 e1 => ⟨δ, S1, _, rs.ext e1, s1, h1, fun k S2 u H2 h2 r2 s2 e2 => by
    unfold getD at h2
    split at h2
    · obtain ⟨x, hx, h2⟩ := el_of h2
      obtain ⟨a, ob, ws, rfl, e3, r3⟩ := r1.ext e2
      cases r2
      obtain ⟨y, hy, ry⟩ := r3.val hx
      exact ⟨a, y, rfl, .inl ⟨ws, .inr _, .inr ⟨ob, e3⟩, rfl, hy.symm⟩, fin _ S2 _ H2 h2 ry s2 (e1.trans e2)⟩
    · exact h2.elim⟩⟩
/-- d[text] = v -/
def dPut (tv to ti : DE) : DS := fun E δ S => tv δ S fun v S1 => to δ S1 fun d S2 => ti δ S2 fun k S3 => ∃ a kvs z, d = .ref a ∧ k = .str z ∧ S3 a = some (.dic kvs) ∧ kvs.length < sizeLine ∧ E.nx δ (sup S3 a (.dic (putD kvs (.inr z) v)))
theorem s_dput (hu : X.A.units + 1 < cLine) (hv : QE X value tv) (ho : QE X o to) (hi : QE X i ti) (hs : swapsWith value (some (.Subscript o i pos')) pos.line X.env = pure false := by rfl) : QS X (.Assign [.Subscript o i pos'] value pos) (dPut tv to ti) :=
  PS.imp (ps_dput hu ho hi hv hs) fun D σ H ⟨δ, S, P, rs, sr, h, fin⟩ => ⟨δ, S, _, rs, sr, h, fun v S1 u1 H1 h1 r1 s1 e1 => ⟨δ, S1, _, rs.ext e1, s1, h1, fun d S2 u2 H2 h2 r2 s2 e2 => ⟨δ, S2, _, rs.ext (e1.trans e2), s2, h2, fun k S3 u3 H3 h3 r3 s3 e3 => by
    obtain ⟨a, kvs, z, rfl, rfl, hS, hl, h3⟩ := h3
    cases r2
    cases r3
    obtain ⟨ws, hw, rw'⟩ := s3.dic hS
    have x : Ext H3 (upd H3 a (.dK (putK ws (.inr z) u1))) := .mutK hw
    exact ⟨a, _, rfl, .k (k := .inr z) hw (by rw [← rw'.length]; exact hl), fin.nx δ _ σ _ h3 (rs.ext (e1.trans (e2.trans (e3.trans x)))) (s3.mutK hS (.put (r1.ext (e2.trans e3)) rw')) (e1.trans (e2.trans (e3.trans x)))⟩⟩⟩⟩
def keyD : Key → D
  | .inl i => .int i
  | .inr z => .str z
theorem RpK.at {K : PySem.W.Frag} {H : Hp} : ∀ {kvs : List (Key × D)} {ws : List (Key × V)} {i : Nat} {k : Key} {d : D}, RpK K H kvs ws → kvs[i]? = some (k, d) → ∃ v, ws[i]? = some (k, v)
  | (j, x) :: r, _, 0, k, d, ⟨v, ws, rfl, h1, h2⟩, e => by
    have e : some (j, x) = some (k, d) := e
    cases e
    exact ⟨v, rfl⟩
  | (j, x) :: r, _, i + 1, k, d, ⟨v, ws, rfl, h1, h2⟩, e => RpK.at (kvs := r) (i := i) h2 e
theorem ItOk.keys {K : PySem.W.Frag} {H : Hp} {a : Addr} {ob : Obj} {kvs : List (Key × D)} {ws : List (Key × V)} (h : H a = some (.frz ob (.dK ws))) (r : RpK K H kvs ws) : ItOk K (Itk a ob ws) (kvs.map fun kv => keyD kv.1) H where
  go := fun i d H' e hd => by
    rw [List.getElem?_map] at hd
    cases hk : kvs[i]? with
    | none => rw [hk] at hd; cases hd
    | some kv =>
      obtain ⟨k, x⟩ := kv
      rw [hk] at hd
      cases hd
      obtain ⟨v, hv⟩ := r.at hk
      refine ⟨⟨e.f _ _ _ h, ?_⟩, fun y H2 ⟨e1, k', v', q1, q2⟩ => ?_⟩
      · rcases Nat.lt_or_ge i ws.length with q | q
        · exact q
        · rw [List.getElem?_eq_none q] at hv; cases hv
      · subst e1
        rw [hv] at q1
        cases q1
        subst q2
        refine ⟨.refl _, ?_, fun S s => s⟩
        cases k <;> rfl
  stop := fun i H' e hi => ⟨e.f _ _ _ h, by rw [List.length_map] at hi; rw [← r.length]; exact hi⟩
/-- a for over a name's dict that changes: from here on it is left as it is -/
def dForK (n : Nat) (g : DG) (tb : DS) : DS := fun E δ S => ∃ a kvs, slot δ n = some (.ref a) ∧ S a = some (.dic kvs) ∧ forB g tb E (δ.set n (some (.dic kvs))) (kvs.map fun kv => keyD kv.1) (sdel S a)
theorem RS.put {K : PySem.W.Frag} {H : Hp} {σ : L2.St} {δ : DSt} {n : Nat} {d : D} {v : V} (h : RS K H σ δ) (e : σ[n]? = some (some v)) (r : Rp K H d v) : RS K H σ (δ.set n (some d)) := by
  have q := h.set (i := n) r
  have z : σ.set n (some v) = σ := by
    apply List.ext_getElem?
    intro j
    by_cases hj : n = j
    · subst hj
      have hl : n < σ.length := by
        rcases Nat.lt_or_ge n σ.length with q | q
        · exact q
        · rw [List.getElem?_eq_none q] at e; cases e
      rw [List.getElem?_set_self hl, e]
    · rw [List.getElem?_set_ne hj]
  rw [z] at q
  exact q
/-- its walk: the name's slot holds the dict as it is left -/
theorem i_key (n : Nat) {x : Str} {px : Pos} (hN : X.N[n]? = some x := by rfl) (hv : Vis X.env.scope x := by first | exact Or.inl rfl | exact Or.inr (Or.inl rfl) | exact Or.inr (Or.inr rfl))
    (hd : (x == ("__debug__" : Str)) = false := by decide) (hcd : (x == ("__classdict__" : Str)) = false := by decide) : L2.PI X tg (.Name x px) (fun σ H R => ∃ δ S a kvs, RS X.K H σ δ ∧ SR X.K H S ∧ slot δ n = some (.ref a) ∧ S a = some (.dic kvs) ∧
      ∀ J H', RS X.K H' σ (δ.set n (some (.dic kvs))) → SR X.K H' (sdel S a) → Ext H H' → ItOk X.K J (kvs.map fun kv => keyD kv.1) H' → R J H') :=
  PI.imp (pi_keys (pe_frzD (pe_var hN hv hd hcd))) fun σ H R ⟨δ, S, a, kvs, rs, sr, hs, hS, h⟩ => by
    obtain ⟨v, e, r⟩ := rs.2 n _ (slot_get hs)
    cases r
    obtain ⟨ws, hw, rw'⟩ := sr.dic hS
    have x : ∀ ob, Ext H (upd H a (.frz ob (.dK ws))) := fun ob => .mutK hw
    exact ⟨.ref a, e, a, ws, rfl, hw, fun ob => ⟨a, ob, rfl, .inl ⟨ws, upd_same, h _ _ ((rs.ext (x ob)).put e ⟨a, ob, ws, rfl, upd_same, rw'.ext (x ob)⟩) (sr.delK hw) (x ob) (.keys upd_same (rw'.ext (x ob)))⟩⟩⟩
theorem s_forK (n : Nat) {x : Str} {px : Pos} {body : List Stmt} {g : DG} {tb : DS} (hp : PassesOwn (model X.prog X.w) X.A X.env X.xe) (hc : X.calm = true) (hg : QG X tg g) (hb : QSs X body tb) (hN : X.N[n]? = some x := by rfl) (hv : Vis X.env.scope x := by first | exact Or.inl rfl | exact Or.inr (Or.inl rfl) | exact Or.inr (Or.inr rfl))
    (hd : (x == ("__debug__" : Str)) = false := by decide) (hcd : (x == ("__classdict__" : Str)) = false := by decide)
    (hs : ∀ y, foldedSetIterable (.Name x px) X.env y = pure y := by intro _; rfl) : QS X (.For tg (.Name x px) body [] pos) (dForK n g tb) :=
  PS.imp (ps_for hp hc (i_key n hN hv hd hcd) hg hb hs) fun D σ H ⟨δ, S, P, rs, sr, ⟨a, kvs, hsl, hS, Iv, i0, turn, last⟩, fin⟩ => ⟨δ, S, a, kvs, rs, sr, hsl, hS, fun J H1 rs1 s1 e1 it => by
    refine ⟨fun i m σ' H' => m = (kvs.map fun kv => keyD kv.1).length - i ∧ i ≤ (kvs.map fun kv => keyD kv.1).length ∧ Ext H1 H' ∧ ∃ δ' S', RS X.K H' σ' δ' ∧ SR X.K H' S' ∧ Iv i δ' S', ⟨_, rfl, Nat.zero_le _, .refl _, _, _, rs1, s1, i0⟩, ?_⟩
    generalize (kvs.map fun kv => keyD kv.1) = ds at *
    rintro i m σ' H' ⟨rfl, hi, e2, δ', S', rs2, sr2, iv⟩
    by_cases hlt : i < ds.length
    · obtain ⟨d, hd⟩ : ∃ d, ds[i]? = some d := ⟨_, List.getElem?_eq_getElem hlt⟩
      obtain ⟨g1, g2⟩ := it.go i d H' e2 hd
      refine .inr ⟨g1, fun σ2 H2 => Ext H1 H2 ∧ ∃ δ' S', RS X.K H2 σ2 δ' ∧ SR X.K H2 S' ∧ Iv (i + 1) δ' S', fun σ2 H2 ⟨x1, x2⟩ => ⟨ds.length - (i + 1), by omega, rfl, hlt, x1, x2⟩, fun x H2 y => ?_⟩
      obtain ⟨y1, y2, y3⟩ := g2 x H2 y
      have q := turn i d δ' S' hd iv
      refine ⟨d, δ', S', _, y2, rs2.ext y1, y3 _ sr2, q, fun δ3 S3 σ3 H3 q3 rs3 sr3 e3 => ⟨δ3, S3, _, rs3, sr3, q3, ?_⟩⟩
      have e4 := e2.trans (y1.trans e3)
      have nx : NxF X.K H3 (Iv (i + 1)) fun σ2 H2 => Ext H1 H2 ∧ ∃ δ' S', RS X.K H2 σ2 δ' ∧ SR X.K H2 S' ∧ Iv (i + 1) δ' S' := fun δ5 S5 σ5 H5 q5 rs5 sr5 e5 => ⟨e4.trans e5, δ5, S5, rs5, sr5, q5⟩
      exact ⟨nx, (fin.ext (e1.trans e4)).rt, (fin.ext (e1.trans e4)).nx, nx⟩
    · have : i = ds.length := by omega
      subst this
      exact .inl ⟨it.stop _ H' e2 (Nat.le_refl _), fin.nx δ' S' σ' H' (last δ' S' iv) rs2 sr2 (e1.trans e2)⟩⟩
end
end DL
set_option Elab.async false
set_option linter.all false
set_option maxRecDepth 100000
set_option maxHeartbeats 1000000
namespace DL
open PySem PySem.Spec PyProof.Rows L2
section
variable {X : Cx} {pos : Pos}
/-- three texts by three texts -/
def dDicS (kvs : List (Str × Str)) : DE := fun _ S P => P (.dic (kvs.map fun kv => (.inr kv.1, .str kv.2))) S
theorem q_dicS3 {a b c x y z : Str} {j1 j2 j3 j4 j5 j6 : Nat} {p1 p2 p3 p4 p5 p6 : Pos} (hab : a ≠ b := by decide) (hac : a ≠ c := by decide) (hbc : b ≠ c := by decide) :
    QE X (.Dict [some (.Constant (.str a) j1 p1), some (.Constant (.str b) j2 p2), some (.Constant (.str c) j3 p3)] [.Constant (.str x) j4 p4, .Constant (.str y) j5 p5, .Constant (.str z) j6 p6] pos) (dDicS [(a, x), (b, y), (c, z)]) :=
  PE.imp (pe_frzD (pe_disp (pps_cons pe_str pe_str (pps_cons pe_str pe_str (pps_cons pe_str pe_str pps_nil))) rfl rfl (by simp) (by simp))) fun σ H Q ⟨δ, S, P, rs, sr, h, fin⟩ => fun p np => by
    have m : mergeK [] ([(.inr a, .str x), (.inr b, .str y), (.inr c, .str z)] : List (Key × V)) = [(.inr a, .str x), (.inr b, .str y), (.inr c, .str z)] := by
      have e1 : ¬ (Sum.inr a : Key) = .inr b := fun e => hab (Sum.inr.inj e)
      have e2 : ¬ (Sum.inr a : Key) = .inr c := fun e => hac (Sum.inr.inj e)
      have e3 : ¬ (Sum.inr b : Key) = .inr c := fun e => hbc (Sum.inr.inj e)
      simp [mergeK, putK, e1, e2, e3, hab, hac, hbc]
    refine ⟨upd_same, [(.inr a, .str x), (.inr b, .str y), (.inr c, .str z)], rfl, by simp, p, _, rfl, upd_same, fun o => ?_⟩
    rw [upd_upd, upd_upd, m]
    exact fin _ S _ _ h ⟨p, o, _, rfl, upd_same, _, _, rfl, rfl, _, _, rfl, rfl, _, _, rfl, rfl, rfl⟩ (sr.new np) (.new np)
end
end DL
set_option Elab.async false
set_option linter.all false
set_option maxRecDepth 100000
set_option maxHeartbeats 1000000
namespace DL
open PySem PySem.Spec PyProof.Rows L2 RT
section
variable {X : Cx} {a e tg : Expr} {ta te : DE} {pos p : Pos}
/-! ### is None -/
def isNon : D → Bool
  | .non => true
  | _ => false
theorem isNon_of {K : PySem.W.Frag} {H : Hp} {d : D} {v : V} (r : Rp K H d v) : decide (v = .non) = isNon d := by
  cases d with
  | non => cases r; rfl
  | bl b => cases r; rfl
  | int b => cases r; rfl
  | str b => cases r; rfl
  | ref b => cases r; rfl
  | ty b => cases r; rfl
  | tup b => obtain ⟨x, vs, rfl, _⟩ := r; rfl
  | lst b => obtain ⟨x, vs, rfl, _⟩ := r; rfl
  | dic b => obtain ⟨x, o, vs, rfl, _⟩ := r; rfl
def dIsN (ta : DE) : DT := fun δ S Q => ta δ S fun d S1 => Q (isNon d) S1
theorem t_isN {j : Nat} (ha : QE X a ta) : QT X (.Compare a [.Is] [.Constant .none j p] pos) (dIsN ta) :=
  PT.imp (pt_cmp (pc_isN ha)) fun σ H Q ⟨δ, S, P, rs, sr, h, fin⟩ => ⟨δ, S, _, rs, sr, h, fun d S1 v H1 h1 r1 s1 e1 => ⟨_, rfl, by rw [isNon_of r1]; exact fin _ S1 H1 h1 s1 e1⟩⟩
/-! ### a tuple from its end -/
def dRevI (te : DE) : DI := fun δ S P => te δ S fun d S1 => match d with
  | .tup ds => P ds.reverse S1
  | _ => False
theorem ItOk.rev {K : PySem.W.Frag} {H : Hp} {a : Addr} {vs : List V} {ds : List D} (h : SqT K H a vs) (r : RpA K H ds vs) : ItOk K (ItvT K a vs.length) ds.reverse H where
  go := fun i d H' e hd => by
    have hl := r.length
    have hi : i < ds.length := by
      rcases Nat.lt_or_ge i ds.reverse.length with q | q
      · simpa using q
      · rw [List.getElem?_eq_none q] at hd; cases hd
    rw [List.getElem?_reverse hi] at hd
    obtain ⟨v, hv, rv⟩ := r.get hd
    rw [← hl] at hv
    exact ⟨⟨by rw [hl]; exact hi, vs, v, e.sqT h, hv⟩, fun x H2 ⟨e1, y⟩ => by subst e1; cases Option.some.inj ((y vs (e.sqT h)).symm.trans hv); exact ⟨.refl _, rv.ext e, fun S s => s⟩⟩
  stop := fun i H' e hi => (show vs.length ≤ i by rw [r.length]; simpa using hi)
theorem i_rev (hg : Gl X "reversed") (hm : X.mg "reversed" = none) (he : QE X e te) (hs : starEach [e] X.env = (false, eval e X.env) :: starEach [] X.env := by rfl) : QI X tg (.Call (.Name "reversed" p) [e] [] pos) (dRevI te) :=
  PI.imp (pi_revA hg hm he hs) fun σ H R ⟨δ, S, P, rs, sr, h, fin⟩ => ⟨δ, S, _, rs, sr, h, fun d S1 v H1 h1 r1 s1 e1 => by
    split at h1
    · obtain ⟨a, vs, rfl, hq, r2⟩ := r1
      exact ⟨a, vs, rfl, .inr ⟨hq, fin _ S1 _ H1 h1 s1 e1 (.rev hq r2)⟩⟩
    · exact h1.elim⟩
end
end DL
set_option Elab.async false
set_option linter.all false
set_option maxRecDepth 100000
set_option maxHeartbeats 1000000
namespace DL
open PySem PySem.Spec PyProof.Rows L2
section
variable {E : DEnds} {δ : DSt} {S : Sto} {P : DK} {Q : Bool → Sto → Prop} {R : List D → Sto → Prop} {ta te to ti tv : DE} {tA : DA} {i n : Nat} {f a : Addr} {sp : DSp} {g : DG} {tb : DS} {c z : Str} {d k : D} {ds : List D} {kvs : List (Key × D)}
def fsD (c : Str) (d : D) (S : Sto) (P : DK) : Prop := match d with
  | .str y => y.length ≤ sizeLine ∧ (c ++ y).length ≤ sizeLine ∧ P (.str (c ++ y)) S
  | .int i => i.natAbs.log2 < 1920 ∧ (c ++ (toString i : Str)).length ≤ sizeLine ∧ P (.str (c ++ (toString i : Str))) S
  | _ => False
theorem e_fs : dFs c te δ S P = te δ S fun d S1 => fsD c d S1 P := rfl
theorem fs_s : fsD c (.str z) S P = (z.length ≤ sizeLine ∧ (c ++ z).length ≤ sizeLine ∧ P (.str (c ++ z)) S) := rfl
theorem fs_i {i : Int} : fsD c (.int i) S P = (i.natAbs.log2 < 1920 ∧ (c ++ (toString i : Str)).length ≤ sizeLine ∧ P (.str (c ++ (toString i : Str))) S) := rfl
theorem e_callL : dCallL i f sp tA δ S P = (slot δ i = some (.ref f) ∧ tA δ S fun ds S1 => sp ds S1 P) := rfl
theorem e_never : dNever E δ S = False := rfl
theorem e_dicM : dDicM δ S P = ∀ p, S p = none → P (.ref p) (sup S p (.dic [])) := rfl
theorem e_dicS {l : List (Str × Str)} : dDicS l δ S P = P (.dic (l.map fun kv => (.inr kv.1, .str kv.2))) S := rfl
theorem e_dget : dGet to ti δ S P = to δ S fun d S1 => ti δ S1 fun k S2 => getD d k S2 P := rfl
theorem get_d : getD (.dic kvs) (.str z) S P = (valD kvs (.inr z)).elim False fun x => P x S := rfl
theorem e_dput : dPut tv to ti E δ S = tv δ S fun v S1 => to δ S1 fun d S2 => ti δ S2 fun k S3 => ∃ a kvs z, d = .ref a ∧ k = .str z ∧ S3 a = some (.dic kvs) ∧ kvs.length < sizeLine ∧ E.nx δ (sup S3 a (.dic (putD kvs (.inr z) v))) := rfl
theorem e_forK : dForK n g tb E δ S = ∃ a kvs, slot δ n = some (.ref a) ∧ S a = some (.dic kvs) ∧ forB g tb E (δ.set n (some (.dic kvs))) (kvs.map fun kv => keyD kv.1) (sdel S a) := rfl
theorem e_isN : dIsN ta δ S Q = ta δ S fun d S1 => Q (isNon d) S1 := rfl
def revI (d : D) (S : Sto) (R : List D → Sto → Prop) : Prop := match d with
  | .tup ds => R ds.reverse S
  | _ => False
theorem e_revI : dRevI te δ S R = te δ S fun d S1 => revI d S1 R := rfl
theorem rev_t : revI (.tup ds) S R = R ds.reverse S := rfl
def intEr (ds : List D) (S : Sto) (P : DK) : Prop := intE ds S P
theorem int_e : intE [.str z] S P = ∃ n : Int, PySem.intText? z = some n ∧ z.length ≤ 640 ∧ P (.int n) S := rfl
end
end DL
set_option Elab.async false
set_option linter.all false
set_option maxRecDepth 100000
set_option maxHeartbeats 1000000
namespace DL
open PySem PySem.Spec PyProof.Rows L2
section
variable {X : Cx} {pos : Pos}
/-- a name's list that changes: from here on it is left as it is -/
def dVarF (i : Nat) : DE := fun δ S P => ∃ p xs, slot δ i = some (.ref p) ∧ S p = some (.lst xs) ∧ P (.lst xs) (sdel S p)
theorem q_varF (i : Nat) {x : Str} (hN : X.N[i]? = some x := by rfl) (hv : Vis X.env.scope x := by first | exact Or.inl rfl | exact Or.inr (Or.inl rfl) | exact Or.inr (Or.inr rfl)) (hd : (x == ("__debug__" : Str)) = false := by decide)
    (hcd : (x == ("__classdict__" : Str)) = false := by decide) : QE X (.Name x pos) (dVarF i) := by
  refine ⟨fun pins s σ H Q I ⟨δ, S, P, rs, sr, ⟨p, xs, hs, hS, h⟩, fin⟩ => ?_⟩
  obtain ⟨v, e, r⟩ := rs.2 i _ (slot_get hs)
  cases r
  obtain ⟨vs, hw, rw'⟩ := sr.lst hS
  refine thn ((pe_var (pos := pos) hN hv hd hcd).run pins s σ H (fun v H1 => v = .ref p ∧ H1 = H) I ⟨.ref p, e, rfl, rfl⟩) fun u s1 ⟨v, H1, I1, r1, q1⟩ => ?_
  obtain ⟨rfl, rfl⟩ := q1
  obtain ⟨o, J⟩ := freezeL I1 hw
  have x : Ext H1 (upd H1 p (.frz o (.lst vs))) := .mutL hw
  exact ⟨.ref p, _, J, r1, fin _ _ _ _ h ⟨p, vs, rfl, .inl ⟨o, upd_same⟩, rw'.ext x⟩ (sr.del hw) x⟩
variable {δ : DSt} {S : Sto} {P : DK} {i : Nat}
theorem e_varF : dVarF i δ S P = ∃ p xs, slot δ i = some (.ref p) ∧ S p = some (.lst xs) ∧ P (.lst xs) (sdel S p) := rfl
end
end DL
set_option Elab.async false
set_option linter.all false
set_option maxRecDepth 100000
set_option maxHeartbeats 1000000
namespace DL
open PySem PySem.Spec PyProof.Rows L2 SkE
section
variable {X : Cx}
/-- a new list so many times -/
def repL : DR := fun x y S P => match x, y with
  | .ref a, .int k => ∃ xs, S a = some (.lst xs) ∧ -(2 ^ 63) ≤ k ∧ k < 2 ^ 63 ∧ xs.length * k.toNat ≤ sizeLine ∧ P (.lst (List.replicate k.toNat xs).flatten) S
  | _, _ => False
theorem op_repL : OpD X (binaryOp .Mult) repL := by
  intro pins s σ H x y v u Q I rx ry ⟨d, e, S, P, r1, r2, sr, h, fin⟩
  unfold repL at h
  split at h
  · obtain ⟨xs, hS, h1, h2, h3, q⟩ := h
    cases r1
    cases r2
    obtain ⟨vs, hv, r3⟩ := sr.lst hS
    refine wpAny_mono (op_rep pins s σ H _ _ v u (fun v H1 => ∃ a xs, v = .ref a ∧ H1 a = some (.lst xs) ∧ ∀ o, Q v (upd H1 a (.frz o (.lst xs)))) I rx ry ⟨_, _, vs, rfl, rfl, hv, h1, h2, by rw [r3.length]; exact h3, fun p np => ⟨p, _, rfl, upd_same, fun o => ?_⟩⟩) (fun _ _ q => freezeE q) fun _ _ q => q
    rw [upd_upd]
    exact fin _ S _ _ q ⟨p, _, rfl, .inl ⟨o, upd_same⟩, (r3.rep _).ext (.new np)⟩ (sr.new np) (.new np)
  · exact h.elim
theorem rep_L {a : Addr} {xs : List D} {k : Int} {S : Sto} {P : DK} (e : S a = some (.lst xs)) : repL (.ref a) (.int k) S P = (-(2 ^ 63) ≤ k ∧ k < 2 ^ 63 ∧ xs.length * k.toNat ≤ sizeLine ∧ P (.lst (List.replicate k.toNat xs).flatten) S) := by
  apply propext
  constructor
  · rintro ⟨ys, e2, h⟩
    rw [e] at e2
    cases e2
    exact h
  · exact fun h => ⟨xs, e, h⟩
/-- str of a text, too -/
def strE : List D → Sto → DK → Prop := fun ds S P => match ds with
  | [.str z] => P (.str z) S
  | _ => strD ds S P
theorem c_strE : CallD X (.type "str") strE := by
  intro pins s σ H xs us Q I rv ⟨ds, S, P, ra, sr, h, fin⟩
  unfold strE at h
  split at h
  · obtain ⟨v, rfl, r⟩ := ra.one'
    cases r
    exact call_str_str pins s σ H _ us Q I rv ⟨_, rfl, fin _ S _ H h rfl sr (.refl H)⟩
  · exact c_str pins s σ H xs us Q I rv ⟨ds, S, P, ra, sr, h, fin⟩
variable {S : Sto} {P : DK}
theorem str_e {z : Str} : strE [.str z] S P = P (.str z) S := rfl
theorem str_ei {i : Int} : strE [.int i] S P = (i.natAbs.log2 < 1920 ∧ P (.str (toString i)) S) := rfl
end
end DL
set_option Elab.async false
set_option linter.all false
set_option maxRecDepth 100000
set_option maxHeartbeats 1000000
namespace DL
open PySem PySem.Spec PyProof.Rows L2

/-! ### defs that want a token to be out when they are called -/
theorem kss_nox {X : Cx} {st : List Stmt} {t : DS} (h : KSs' X.nox st t) : KSs' X st t := fun pins s σ H D h0 I hw =>
  wpAny_mono (h pins s σ H D h0 (I.wish _) hw) (fun fl s' q => q.unwish) fun _ _ z => z.elim
structure FnDP (P : Program) (w : World) (K : PySem.W.Frag) (mg : Str → Option Value) (base : Heap) (k : Nat) (f : Addr) (fd : FuncData) (ps : List Str) (sp : DSp) : Prop where
  len : ∀ ds S P', sp ds S P' → ds.length = ps.length
  run : ∀ (A : Around) (outer : List Env) (s : Shared) (H : Hp) (args : Args) (us : List Value) (vs : List V) (Q : VK), 1 ≤ s.toks → Room k A → A.guards = some [] → Env0 P w K mg base A outer s H → BindsTo s fd args (ps.zip us) → Vals vs us →
    (∃ ds S P', RpA K H ds vs ∧ SR K H S ∧ sp ds S P' ∧ Fin K H P' Q) → codeAny (model P w) A (.call (.ref f) args) (CR CX0 outer P w H s Q E0) s
def HasP (P : Program) (w : World) (K : PySem.W.Frag) (mg : Str → Option Value) (base : Heap) (k : Nat) (x : Str) (ps : List Str) (sp : DSp) : Prop := ∃ f fd, FnDP P w K mg base k f fd ps sp ∧ Binds K fd ps [] ∧ PySem.W.keepIn K (.ref f) = true ∧ mg x = some (.ref f)
section
variable {P : Program} {w : World} {K : PySem.W.Frag} {mg : Str → Option Value} {base : Heap}
theorem HasP.mono {j k : Nat} {x : Str} {ps : List Str} {sp : DSp} (h : HasP P w K mg base j x ps sp) (l : j ≤ k) : HasP P w K mg base k x ps sp :=
  let ⟨f, fd, F, a⟩ := h; ⟨f, fd, ⟨F.len, fun A outer s H args us vs Q h0 hr => F.run A outer s H args us vs Q h0 (hr.mono l)⟩, a⟩
theorem okDP {x qual : Str} {st : Stmt} {f : Addr} {fd : FuncData} {N ps : List Str} {k : Nat} {sp : DSp} (F : Fun K x qual st f fd) (S : FnScope N ps (defScope st)) (len : ∀ ds S P, sp ds S P → ds.length = ps.length)
    (hbody : ∀ (cdv : Value) (A : Around) (outer : List Env) (s : Shared) (H : Hp), Room k (A.deeper (envOfC qual (defScope st) s.heap.objs.size f cdv)) → A.guards = some [] →
      ∃ t, KSs' (cxOf CX0 P w K mg base N qual (defScope st) f cdv A outer s H E0).nox (defBody st) t ∧ ∀ ds S' P', sp ds S' P' → t { nx := fun _ S2 => P' .non S2, rt := P' } (dstart N ds) S') : FnDP P w K mg base (k + 1) f fd ps sp := by
  obtain ⟨oc, od, kV, doc, pm, an, cdv, ct, osl, rfl, lk, hcd⟩ := F.ex
  refine ⟨len, fun A outer s H args us vs Q h0 hr hgd e0 hb r ⟨ds, S', P', rp, sr, hsp, fin⟩ => ?_⟩
  have hl : vs.length = ps.length := rp.length.trans (len _ _ _ hsp)
  have KX : K.In s.heap := e0.mod.kin.keeps fun b o e => (e0.bs b o e).1
  refine codeAny_call_function hr.depth (KX _ _ lk) rfl S.co S.gen rfl (PySem.W.codeRec_of KX hcd) (hb _ _ _ _ (PySem.wpAny_with_toks (n := 1) h0 ?_))
  refine wpAny_newFunctionEnv_cells S.kind (fun ⟨n, v⟩ hy => (S.par n (List.of_mem_zip hy).1).elim .inl fun q => .inr ⟨q, PySem.W.cellsFrom_some _ _ _ (.inl q)⟩) fun env he s1 x hk => ?_
  subst he
  refine ⟨(e0.mod.nolimit.keeps fun b o e => (e0.bs b o e).1).keeps x.toInCall.keep, codeAny_func ?_⟩
  obtain ⟨t, ht, hq⟩ := hbody cdv A outer s H (hr.deeper _) hgd
  have I := inv_start (CX := CX0) (E := E0) S hr.hd e0 hl r x
  refine wpAny_mono (kss_nox ht [] s1 (start N vs) H { nx := fun _ H' => Q .non H', rt := Q } hk I ⟨dstart N ds, S', _, RS.start rp, sr, hq ds S' P' hsp, ⟨fun δ S2 σ H2 p rs sr e => fin _ S2 _ H2 p rfl sr e, fin, fun _ _ _ _ p => p.elim, fun _ _ _ _ p => p.elim⟩⟩) (fun fl s' hs => ?_) fun e s' hs => hs
  cases fl with
  | ret u => obtain ⟨v, σ', H', J, rv, q⟩ := hs; exact ⟨v, H', J.os, J.bare, J.base, J.hok, rv, q⟩
  | next => obtain ⟨σ', H', J, q⟩ := hs; exact ⟨.non, H', J.os, J.bare, J.base, J.hok, rfl, q⟩
  | brk => obtain ⟨_, _, _, q⟩ := hs; exact False.elim q
  | cont => obtain ⟨_, _, _, q⟩ := hs; exact False.elim q
theorem Def.hasP {x : Str} {st : Stmt} {N ps : List Str} {k : Nat} {sp : DSp} (D : Def K mg x st ps) (S : FnScope N ps (defScope st)) (len : ∀ ds S P, sp ds S P → ds.length = ps.length)
    (hbody : ∀ (f : Addr) (cdv : Value) (A : Around) (outer : List Env) (s : Shared) (H : Hp), Room k (A.deeper (envOfC x (defScope st) s.heap.objs.size f cdv)) → A.guards = some [] →
      ∃ t, KSs' (cxOf CX0 P w K mg base N x (defScope st) f cdv A outer s H E0).nox (defBody st) t ∧ ∀ ds S' P', sp ds S' P' → t { nx := fun _ S2 => P' .non S2, rt := P' } (dstart N ds) S') : HasP P w K mg base (k + 1) x ps sp := by
  obtain ⟨f, fd, F, b, m⟩ := D
  exact ⟨f, fd, okDP F S len (hbody f), b, F.kp, m⟩
end
section
variable {X : Cx} {k i : Nat} {ps : List Str} {sp : DSp} {x : Str} {p pos : Pos} {e o tg iter : Expr} {es : List Expr} {t : DA} {te to : DE}
theorem k_callP (G : HasP X.prog X.w X.K X.mg X.base k x ps sp) (hr : Room k X.A) (hgd : X.A.guards = some []) (ha : KA' X (e :: es) t) (hg : Gl X x := by rfl) (hdb : (x == ("__debug__" : Str)) = false := by decide)
    (he : starEach (e :: es) X.env = (false, eval e X.env) :: starEach es X.env := by rfl) (hpl : (backTo pos (starEach es X.env)).any (·.1) = false := by rfl) : KE' X (.Call (.Name x p) (e :: es) [] pos) (dCB sp t) := fun pins s σ H Q h0 I ⟨δ, S, P, rs, sr, h, fin⟩ => by
  obtain ⟨f, fd, F, hb, hk, hm⟩ := G
  refine wpAny_Call_Name_kw (ld_glob I hg hm ?_ hdb)
  refine PySem.W.callWith_K (h₀ := X.base) I.ok.mod.kin hk ?_ he hpl
  refine wpAny_mono (PySem.wpAny_toks (ha pos pins s σ H (fun vs H1 => ∃ ds S1, RpA X.K H1 ds vs ∧ SR X.K H1 S1 ∧ sp ds S1 P ∧ Fin X.K H1 P Q) h0 I ⟨δ, S, _, rs, sr, h, fun ds S1 vs H1 h1 r1 s1 e1 => ⟨ds, S1, r1, s1, h1, fin.ext e1⟩⟩)) (fun us s1 q => ?_) fun _ _ z => z.2
  obtain ⟨ht, vs, H1, I1, r, ds, S1, r1, s2, q, fin1⟩ := q
  refine ⟨I1.kIn, ?_⟩
  have hl : us.length = ps.length := by rw [← r.length, r1.length]; exact F.len _ _ _ q
  have hb' : BindsTo s1 fd ⟨us, []⟩ (ps.zip us) := by have z := hb s1 us I1.kIn (by simpa using hl); rw [List.append_nil] at z; exact z
  refine wpAny_call (codeAny_mono (F.run X.A X.stack s1 H1 ⟨us, []⟩ us vs Q (Nat.le_trans h0 ht) hr hgd I1.env0 hb' r ⟨ds, S1, P, r1, s2, q, fin1⟩) fun r s' hq => ?_)
  cases r with
  | error e => exact False.elim hq
  | ok fl => cases fl with
    | ret u => exact I1.after hq
    | _ => exact False.elim hq
theorem k_replT {y z : Str} {j k : Nat} {c0 c1 apos : Pos} (ho : KE' X o to) (hyz : (y == z) = false := by decide +kernel)
    (hst : starEach [.Constant (.str y) j c0, .Constant (.str z) k c1] X.env = [(false, eval (.Constant (.str y) j c0) X.env), (false, eval (.Constant (.str z) k c1) X.env)] := by rfl)
    (hbase : attributeBase o "replace" X.env (eval o X.env) = eval o X.env := by rfl) (hline : (apos.endLine == pos.line) = true := by rfl) :
    KE' X (.Call (.Attribute o "replace" apos) [.Constant (.str y) j c0, .Constant (.str z) k c1] [] pos) (dRepl to y z) :=
  fun pins s σ H Q h0 I ⟨δ, S, P, rs, sr, q, fin⟩ => CwR.pet_replT ho hyz hst hbase hline pins s σ H Q h0 I ⟨δ, S, _, rs, sr, q, fun d S1 v H1 h1 r1 s1 e1 => by
    obtain ⟨x, rfl, h2, h3⟩ := asS_of h1
    cases r1
    exact ⟨x, rfl, h2, fin _ S1 _ H1 h3 rfl s1 e1⟩⟩
/-- e.split(text) -/
def dSplit (to : DE) (c : Str) : DE := fun δ S P => to δ S fun d S1 => asS d fun a => (c.length == 0) = false ∧ a.length + 2 ≤ sizeLine ∧ P (.lst ((Txt.split a c).map .str)) S1
theorem k_split {c : Str} {j : Nat} {c0 apos : Pos} (ho : KE' X o to) (hst : starEach [.Constant (.str c) j c0] X.env = [(false, eval (.Constant (.str c) j c0) X.env)] := by rfl)
    (hbase : attributeBase o "split" X.env (eval o X.env) = eval o X.env := by rfl) (hline : (apos.endLine == pos.line) = true := by rfl) : KE' X (.Call (.Attribute o "split" apos) [.Constant (.str c) j c0] [] pos) (dSplit to c) := fun pins s σ H Q h0 I ⟨δ, S, P, rs, sr, h, fin⟩ => by
  refine PySem.Call_method1 hbase hst hline (thn (ho pins s σ H (fun v H1 => ∃ a S1, v = .str a ∧ SR X.K H1 S1 ∧ ((c.length == 0) = false ∧ a.length + 2 ≤ sizeLine ∧ P (.lst ((Txt.split a c).map .str)) S1) ∧ Fin X.K H1 P Q) h0 I ⟨δ, S, _, rs, sr, h, fun d S1 v H1 h1 r1 s1 e1 => ?_⟩) fun v s1 ⟨x, H1, I1, r1, a, S1, e1, s2, ⟨q1, q2, q3⟩, fin1⟩ => ?_)
  · obtain ⟨a, rfl, h2⟩ := asS_of h1
    cases r1
    exact ⟨a, S1, rfl, s1, h2, fin.ext e1⟩
  · subst e1
    obtain ⟨tk, rfl⟩ := _root_.id r1
    refine ⟨"str", _, F.plainAttrs_str, F.slot_str_split, F.type_str_split, typeIs_str _ _ _, (fun _ e => nomatch e), Calls.callWith_builtin rfl (Calls.evalArgs_plain (Calls.spliced_cons (Calls.Constant_str (Calls.spliced_nil ?_))))⟩
    refine wpAny_mono (mt_split pins _ σ H1 _ [.str c] _ _ (fun v H1 => ∃ a xs, v = .ref a ∧ H1 a = some (.lst xs) ∧ ∀ o, Q v (upd H1 a (.frz o (.lst xs)))) (I1.tok _) r1 (.cons ⟨_, rfl⟩ .nil) ⟨_, _, rfl, rfl, q1, q2, fun p np => ⟨p, _, rfl, upd_same, fun ob => ?_⟩⟩) (fun _ _ q => freezeE q) fun _ _ q => q
    rw [upd_upd]
    exact fin1 _ S1 _ _ q3 ⟨p, _, rfl, .inl ⟨ob, upd_same⟩, RpA.of_strs _⟩ (s2.new np) (.new np)
abbrev KI' (X : Cx) (tg iter : Expr) (t : DI) : Prop := L2.PIT X tg iter (lI X.K t)
def dItL (te : DE) : DI := fun δ S P => te δ S fun d S1 => match d with
  | .lst ds => P ds S1
  | _ => False
theorem ki_seq (h : KE' X iter te) : KI' X tg iter (dItL te) := fun pins s σ H R h0 I ⟨δ, S, P, rs, sr, q, fin⟩ => by
  refine L2.pit_list (fun pins s σ H Q h0 I hw => h pins s σ H Q h0 I hw) pins s σ H R h0 I ⟨δ, S, _, rs, sr, q, fun d S1 v H1 h1 r1 s1 e1 => ?_⟩
  split at h1
  · obtain ⟨p, vs, rfl, hq, r2⟩ := r1
    exact ⟨p, rfl, ⟨vs, hq.sq⟩, fin _ S1 _ H1 h1 s1 e1 (.lst hq r2)⟩
  · exact h1.elim
theorem ks_for {body : List Stmt} {t : DI} {g : DG} {tb : DS} (hp : PassesOwn (model X.prog X.w) X.A X.env X.xe) (hc : X.calm = true) (hi : KI' X tg iter t) (hg : QG X tg g) (hb : QSs X body tb)
    (hs : ∀ x, foldedSetIterable iter X.env x = pure x := by intro _; rfl) : KS' X (.For tg iter body [] pos) (dFor t g tb) := fun pins s σ H D h0 I ⟨δ, S, P, rs, sr, h, fin⟩ => by
  refine L2.pst_for hp hc hi hg hb hs pins s σ H D h0 I ⟨δ, S, _, rs, sr, h, fun ds S1 J H1 ⟨Iv, i0, turn, last⟩ s1 e1 it => ?_⟩
  refine ⟨fun i m σ' H' => m = ds.length - i ∧ i ≤ ds.length ∧ Ext H1 H' ∧ ∃ δ' S', RS X.K H' σ' δ' ∧ SR X.K H' S' ∧ Iv i δ' S', ⟨_, rfl, Nat.zero_le _, .refl _, δ, S1, rs.ext e1, s1, i0⟩, ?_⟩
  rintro i m σ' H' ⟨rfl, hi, e2, δ', S', rs2, sr2, iv⟩
  by_cases hlt : i < ds.length
  · obtain ⟨d, hd⟩ : ∃ d, ds[i]? = some d := ⟨_, List.getElem?_eq_getElem hlt⟩
    obtain ⟨g1, g2⟩ := it.go i d H' e2 hd
    refine .inr ⟨g1, fun σ2 H2 => Ext H1 H2 ∧ ∃ δ' S', RS X.K H2 σ2 δ' ∧ SR X.K H2 S' ∧ Iv (i + 1) δ' S', fun σ2 H2 ⟨x1, x2⟩ => ⟨ds.length - (i + 1), by omega, rfl, hlt, x1, x2⟩, fun x H2 y => ?_⟩
    obtain ⟨y1, y2, y3⟩ := g2 x H2 y
    have q := turn i d δ' S' hd iv
    refine ⟨d, δ', S', _, y2, rs2.ext y1, y3 _ sr2, q, fun δ3 S3 σ3 H3 q3 rs3 sr3 e3 => ⟨δ3, S3, _, rs3, sr3, q3, ?_⟩⟩
    have e4 := e2.trans (y1.trans e3)
    have nx : NxF X.K H3 (Iv (i + 1)) fun σ2 H2 => Ext H1 H2 ∧ ∃ δ' S', RS X.K H2 σ2 δ' ∧ SR X.K H2 S' ∧ Iv (i + 1) δ' S' := fun δ5 S5 σ5 H5 q5 rs5 sr5 e5 => ⟨e4.trans e5, δ5, S5, rs5, sr5, q5⟩
    exact ⟨nx, (fin.ext (e1.trans e4)).rt, (fin.ext (e1.trans e4)).nx, nx⟩
  · have : i = ds.length := by omega
    subst this
    exact .inl ⟨it.stop _ H' e2 (Nat.le_refl _), fin.nx δ' S' σ' H' (last δ' S' iv) rs2 sr2 (e1.trans e2)⟩
end
end DL
set_option Elab.async false
set_option linter.all false
set_option maxRecDepth 100000
set_option maxHeartbeats 1000000
namespace DL
open PySem PySem.Spec PyProof.Rows L2

/-! ### tests, calls, loops once a token is out -/
section
variable {X : Cx} {a b e tg iter : Expr} {es rest : List Expr} {te ta tb' : DE} {tA tB' : DT} {t : DA} {st : Stmt} {sts : List Stmt} {u v : DS} {pos p : Pos}
theorem later {α : Type} {m : Sem α} {Q : α → Shared → Prop} {M : Model} {A : Around} {E : Value → Shared → Prop} {s : Shared} (h0 : 1 ≤ s.toks) (h : wpAny M A m Q E s) : wpAny M A m (fun x s' => 1 ≤ s'.toks ∧ Q x s') E s :=
  wpAny_mono (PySem.wpAny_toks_of h0 h) (fun _ _ z => z) fun _ _ z => z.2
abbrev KT' (X : Cx) (e : Expr) (t : DT) : Prop := ∀ (pins : List (Addr × Obj)) (s : Shared) (σ : L2.St) (H : Hp) (Q : Bool → Hp → Prop), 1 ≤ s.toks → L2.Inv X pins σ H s → lT X.K t σ H Q → wpAny (model X.prog X.w) X.A (isTrue e X.env (eval e X.env)) (TP X pins σ Q) X.xe s
abbrev KW' (X : Cx) (e : Expr) (t : DT) : Prop := ∀ (whole : Sem Value) (pins : List (Addr × Obj)) (s : Shared) (σ : L2.St) (H : Hp) (Q : Bool → Hp → Prop), 1 ≤ s.toks → L2.Inv X pins σ H s → lT X.K t σ H Q → wpAny (model X.prog X.w) X.A (isTrue e X.env whole) (TP X pins σ Q) X.xe s
theorem kt_of (h : QT X e tA) : KT' X e tA := fun pins s σ H Q _ I q => h.run pins s σ H Q I q
theorem kt_w (h : KW' X e tA) : KT' X e tA := fun pins s σ H Q h0 I q => h _ pins s σ H Q h0 I q
theorem kw_or1 (h : KT' X a tA) : KW' X (.BoolOp .Or [a] pos) tA := fun wh pins s σ H Q h0 I q => isTrue_or (thn (h pins s σ H Q h0 I q) fun c s1 z => by
  cases c with
  | true => exact z
  | false => exact isTrue_or_nil z)
theorem kw_or (h : KT' X a tA) (h2 : KW' X (.BoolOp .Or (b :: rest) pos) tB') : KW' X (.BoolOp .Or (a :: b :: rest) pos) (dOr tA tB') := fun wh pins s σ H Q h0 I ⟨δ, S, P, rs, sr, q, fin⟩ => by
  refine isTrue_or (thn (later h0 (h pins s σ H (fun c H1 => bif c then Q true H1 else lT X.K tB' σ H1 Q) h0 I ⟨δ, S, _, rs, sr, q, fun c S1 H1 z s1 e1 => ?_⟩)) fun c s1 ⟨ht, H1, I1, z⟩ => ?_)
  · cases c with
    | true => exact fin true S1 H1 z s1 e1
    | false => exact ⟨δ, S1, P, rs.ext e1, s1, z, fun c S2 H2 z2 s2 e2 => fin c S2 H2 z2 s2 (e1.trans e2)⟩
  · cases c with
    | true => exact ⟨H1, I1, z⟩
    | false => exact h2 wh pins s1 σ H1 Q ht I1 z
theorem kt_not (h : KT' X a tA) : KT' X (.UnaryOp .Not a pos) (dNot tA) := fun pins s σ H Q h0 I ⟨δ, S, P, rs, sr, q, fin⟩ =>
  isTrue_not (h pins s σ H (fun c H1 => Q (!c) H1) h0 I ⟨δ, S, _, rs, sr, q, fun c S1 H1 z s1 e1 => fin (!c) S1 H1 z s1 e1⟩)
theorem kt_val (h : KE' X e te) (he : ∀ whole, isTrue e X.env whole = (do let v ← whole; standAt e.pos; holding [v] (truthy v)) := by intro _; rfl) : KT' X e (dTest te) := fun pins s σ H Q h0 I ⟨δ, S, P, rs, sr, q, fin⟩ =>
  isTrue_plain (thn (h pins s σ H (fun x H1 => ∃ k, x = .bl k ∧ Q k H1) h0 I ⟨δ, S, _, rs, sr, q, fun d S1 x H1 z r1 s1 e1 => by
    obtain ⟨k, rfl, z⟩ := asB_of z
    exact ⟨k, r1, fin k S1 H1 z s1 e1⟩⟩) fun x s1 ⟨y, H1, I1, r1, k, ey, z⟩ => by
    subst ey
    cases r1
    exact wpAny_truthy_bool ⟨H1, I1, z⟩) (he _)
theorem two_sides {op : CmpOp} {r : DR} (ho : OpD X (compareOp op) r) (ha : KE' X a ta) (hb : KE' X b tb') {pins : List (Addr × Obj)} {s : Shared} {σ : L2.St} {H : Hp} {Q : VK} (h0 : 1 ≤ s.toks) (I : L2.Inv X pins σ H s) (q : lE X.K (dOp r ta tb') σ H Q) :
    wpAny (model X.prog X.w) X.A (eval a X.env) (fun x s₁ => wpAny (model X.prog X.w) X.A (eval b X.env) (fun y s₂ => wpAny (model X.prog X.w) X.A (compareOp op x y) (EP X pins σ Q) X.xe s₂) X.xe s₁) X.xe s := by
  obtain ⟨δ, S, P, rs, sr, q, fin⟩ := q
  refine thn (later h0 (ha pins s σ H (fun x H1 => ∃ d S1, Rp X.K H1 d x ∧ SR X.K H1 S1 ∧ Ext H H1 ∧ tb' δ S1 fun e S2 => r d e S2 P) h0 I ⟨δ, S, _, rs, sr, q, fun d S1 x H1 z r1 s1 e1 => ⟨d, S1, r1, s1, e1, z⟩⟩)) fun x s1 ⟨ht, y, H1, I1, rx, d, S1, r1, s1', e1, z⟩ => ?_
  refine thn (hb pins s1 σ H1 (fun x2 H2 => ∃ d2 S2, Rp X.K H2 d2 x2 ∧ SR X.K H2 S2 ∧ Ext H1 H2 ∧ r d d2 S2 P) ht I1 ⟨δ, S1, _, rs.ext e1, s1', z, fun d2 S2 x2 H2 z2 r2 s2 e2 => ⟨d2, S2, r2, s2, e2, z2⟩⟩) fun x2 s2 ⟨y2, H2, I2, rx2, d2, S2, r2, s2', e2, z2⟩ => ?_
  exact ho pins s2 σ H2 y y2 x x2 Q I2 rx rx2 ⟨d, d2, S2, P, r1.ext e2, r2, s2', z2, fin.ext (e1.trans e2)⟩
theorem k_cmp {op : CmpOp} {r : DR} (ho : OpD X (compareOp op) r) (ha : KE' X a ta) (hb : KE' X b tb') (hm : behindInMarks op b = false := by first | exact nobehind _ (by decide) (by decide) | rfl) : KE' X (.Compare a [op] [b] pos) (dOp r ta tb') :=
  fun pins s σ H Q h0 I q => wpAny_Compare1 (two_sides ho ha hb h0 I q) hm
theorem kt_cmp {op : CmpOp} {r : DR} (ho : OpD X (compareOp op) r) (ha : KE' X a ta) (hb : KE' X b tb') (hm : behindInMarks op b = false := by first | exact nobehind _ (by decide) (by decide) | rfl) : KT' X (.Compare a [op] [b] pos) (dTest (dOp r ta tb')) :=
  fun pins s σ H Q h0 I q => wpAny_isTrue_Compare1 (thn (two_sides ho ha hb h0 I (lT_of_test q)) fun x s1 z => thn z fun y s2 z => thn z fun c s3 ⟨w, H3, I3, r3, k, ew, z⟩ => by
    subst ew
    cases r3
    exact wpAny_truthy_bool ⟨H3, I3, z⟩) hm
theorem k_callB {x : Str} {id : String} {r : List D → Sto → DK → Prop} (hc : CallD X (.builtin id) r) (hg : Gl X x) (hm : X.mg x = none) (hv : bootBuiltins x = some (.builtin id)) (ha : KA' X (e :: es) t) (hn : x ≠ "__name__" := by decide) (hdb : (x == ("__debug__" : Str)) = false := by decide)
    (he : starEach (e :: es) X.env = (false, eval e X.env) :: starEach es X.env := by rfl) (hpl : (backTo pos (starEach es X.env)).any (·.1) = false := by rfl) : KE' X (.Call (.Name x p) (e :: es) [] pos) (dCB r t) := fun pins s σ H Q h0 I q =>
  wpAny_Call_Name_kw (ld_blt I hg hm hv (PyProof.Rows.callWith_builtin1 (thn (ha pos pins s σ H _ h0 I (lC_of q)) fun us s1 ⟨vs, H1, I1, r1, z⟩ => hc pins s1 σ H1 vs us Q I1 r1 z) he hpl) hn hdb)
theorem ks_if {c : Expr} {x y : List Stmt} (hc : KT' X c tA) (hx : KSs' X x u) (hy : KSs' X y v) : KS' X (.If c x y pos) (dIfS tA u v) := fun pins s σ H D h0 I ⟨δ, S, P, rs, sr, q, fin⟩ => by
  refine wpAny_If (thn (later h0 (hc pins s σ H (fun k H1 => bif k then lS X.K u D σ H1 else lS X.K v D σ H1) h0 I ⟨δ, S, _, rs, sr, q, fun k S1 H1 z s1 e1 => ?_⟩)) fun k s1 ⟨ht, H1, I1, z⟩ => ?_)
  · cases k with
    | true => exact ⟨δ, S1, P, rs.ext e1, s1, z, fin.ext e1⟩
    | false => exact ⟨δ, S1, P, rs.ext e1, s1, z, fin.ext e1⟩
  · cases k with
    | true => exact hx pins s1 σ H1 D ht I1 z
    | false => exact hy pins s1 σ H1 D ht I1 z
theorem ks_ret (he : KE' X e te) : KS' X (.Return (some e) pos) (dRet te) := fun pins s σ H D h0 I ⟨δ, S, P, rs, sr, q, fin⟩ =>
  wpAny_Return_some (thn (he pins s σ H D.rt h0 I ⟨δ, S, _, rs, sr, q, fin.rt⟩) fun x s1 ⟨y, H1, I1, r1, z⟩ => ⟨y, σ, H1, I1, r1, z⟩)
theorem kss_one (h : KS' X st u) : KSs' X [st] u := fun pins s σ H D h0 I q => by
  refine wpAny_execs_cons (thn (h pins s σ H D h0 I q) fun f s1 z => ?_)
  cases f with
  | next => exact wpAny_execs_nil z
  | ret _ => exact z
  | brk => exact z
  | cont => exact z
/-- a for whose body wants a token -/
theorem for_pos {wi : TI} {g : TG} {tt : TS} {body : List Stmt} (hp : PassesOwn (model X.prog X.w) X.A X.env X.xe) (hc : X.calm = true) (hi : L2.PI X tg iter wi) (hg : L2.PG X tg g) (hb : L2.PSsT X body tt)
    (hs : ∀ x, foldedSetIterable iter X.env x = pure x) : L2.PST X (.For tg iter body [] pos) (tFor wi g tt) := by
  intro pins s σ H D h0 I h
  refine wpAny_For (thn (later h0 (hi.run pins s σ H _ I h)) fun iv sa ⟨ka, ja⟩ => thn (later ka ja) fun iw sb ⟨kb, jb⟩ => ?_) hs
  obtain ⟨it, fp, tn, J, Hb, rfl, Ib, T, stb, fb, W, ⟨m0, w0⟩, turn⟩ := jb
  have stay : ∀ {H' : Hp}, (∀ b ∈ fp, H' b = none) → ∀ b ∈ fp, FpOk X pins H' b := fun z b hb => ⟨z b hb, (fb b hb).2⟩
  refine codeAny_forLoop_any (fun n sc => 1 ≤ sc.toks ∧ ∃ i σ' H', L2.Inv X pins σ' H' sc ∧ tn i sc.heap ∧ (∀ b ∈ fp, H' b = none) ∧ W i n σ' H') ?_ m0 ⟨kb, 0, σ, Hb, Ib, stb, fun b hb => (fb b hb).1, w0⟩
  rintro n sc ⟨kc, i, σc, Hc, Ic, stc, frc, wc⟩
  rcases turn i n σc Hc wc with ⟨stop, qn⟩ | ⟨go, N, hN, step⟩
  · exact wpAny_passesOwn hp (thn (T.done X rfl rfl rfl hc i pins sc σc Hc X.xe Ic (stay frc) stc stop) fun r sd ⟨er, Id⟩ => by
      subst er
      exact wpAny_execs_nil ⟨σc, Hc, Id, qn⟩)
  · refine wpAny_passesOwn hp (thn (later kc (T.item X rfl rfl rfl hc i pins sc σc Hc X.xe Ic (stay frc) stc go)) fun r sd ⟨kd, z, er, jd⟩ => ?_)
    subst er
    refine wpAny_passesOwn hp (thn (later kd jd) fun _ se ⟨ke, x, He, Ie, re, ye, ste, fre⟩ => ?_)
    refine wpAny_passesOwn hp (thn (later ke (hg.run _ se σc He x z _ (Ie.pinned (stay fre) (T.obj _ _ ste)) re (step x He ye))) fun _ sf ⟨kf, σf, Hf, If, qf⟩ => ?_)
    refine wpAny_passesOwn hp (thn (later kf (hb _ sf σf Hf _ kf If qf)) fun f sg ⟨kg, qg⟩ => ?_)
    have more : ∀ {σg : L2.St} {Hg : Hp}, L2.Inv X (pins ++ pinsAt fp se.heap) σg Hg sg → N σg Hg → ∃ m, m < n ∧ 1 ≤ sg.toks ∧ ∃ i σ' H', L2.Inv X pins σ' H' sg ∧ tn i sg.heap ∧ (∀ b ∈ fp, H' b = none) ∧ W i m σ' H' := fun {σg Hg} Ig ng => by
      obtain ⟨mm, hm, wg⟩ := hN σg Hg ng
      refine ⟨mm, hm, kg, i + 1, σg, Hg, Ig.unpinned, T.keep _ _ _ ste fun b hb o eo => (Ig.pin (b, o) (List.mem_append_right _ (List.mem_append_right _ (mem_pinsAt hb eo)))).1, fun b hb => ?_, wg⟩
      obtain ⟨o, eo, dd⟩ := T.obj _ _ ste b hb
      exact (Ig.pin (b, o) (List.mem_append_right _ (List.mem_append_right _ (mem_pinsAt hb eo)))).2.1
    cases f with
    | next => exact let ⟨σg, Hg, Ig, ng⟩ := qg; more Ig ng
    | cont => exact let ⟨σg, Hg, Ig, ng⟩ := qg; more Ig ng
    | brk => exact let ⟨σg, Hg, Ig, ng⟩ := qg; ⟨σg, Hg, Ig.unpinned, ng⟩
    | ret _ => exact let ⟨xg, σg, Hg, Ig, rg, ng⟩ := qg; ⟨xg, σg, Hg, Ig.unpinned, rg, ng⟩
end
end DL
set_option Elab.async false
set_option linter.all false
set_option maxRecDepth 100000
set_option maxHeartbeats 1000000
namespace DL
open PySem PySem.Spec PyProof.Rows L2
section
variable {X : Cx} {a b e tg iter : Expr} {es rest : List Expr} {te ta tb' : DE} {tA tB' : DT} {t : DA} {st : Stmt} {sts body : List Stmt} {u v : DS} {pos p : Pos} {g : DG} {tb : DS}
theorem walk_of {K : PySem.W.Frag} {ds : List D} {J : It} {H H1 : Hp} {E : DEnds} {D : Ends} {Iv : Nat → DSt → Sto → Prop} {σ : L2.St} {δ : DSt} {S : Sto} (fin : EndF K H E D) (e1 : Ext H H1) (it : ItOk K J ds H1) (rs : RS K H1 σ δ) (sr : SR K H1 S) (i0 : Iv 0 δ S)
    (turn : ∀ i d δ' S', ds[i]? = some d → Iv i δ' S' → g d δ' S' fun δ2 S2 => tb { nx := Iv (i + 1), ct := Iv (i + 1), rt := E.rt, bk := E.nx } δ2 S2) (last : ∀ δ' S', Iv ds.length δ' S' → E.nx δ' S') :
    ∃ W : Nat → Nat → L2.St → Hp → Prop, (∃ m, W 0 m σ H1) ∧ ∀ i m σ' H', W i m σ' H' → (J.stop i H' ∧ D.nx σ' H') ∨ (J.go i H' ∧ ∃ N : L2.St → Hp → Prop, (∀ σ2 H2, N σ2 H2 → ∃ m', m' < m ∧ W (i + 1) m' σ2 H2) ∧
      ∀ x H2, J.yld i H' x H2 → lG K g x σ' H2 fun σ2 H2 => lS K tb { D with nx := N, ct := N, bk := D.nx } σ2 H2) := by
  refine ⟨fun i m σ' H' => m = ds.length - i ∧ i ≤ ds.length ∧ Ext H1 H' ∧ ∃ δ' S', RS K H' σ' δ' ∧ SR K H' S' ∧ Iv i δ' S', ⟨_, rfl, Nat.zero_le _, .refl _, δ, S, rs, sr, i0⟩, ?_⟩
  rintro i m σ' H' ⟨rfl, hi, e2, δ', S', rs2, sr2, iv⟩
  by_cases hlt : i < ds.length
  · obtain ⟨d, hd⟩ : ∃ d, ds[i]? = some d := ⟨_, List.getElem?_eq_getElem hlt⟩
    obtain ⟨g1, g2⟩ := it.go i d H' e2 hd
    refine .inr ⟨g1, fun σ2 H2 => Ext H1 H2 ∧ ∃ δ' S', RS K H2 σ2 δ' ∧ SR K H2 S' ∧ Iv (i + 1) δ' S', fun σ2 H2 ⟨x1, x2⟩ => ⟨ds.length - (i + 1), by omega, rfl, hlt, x1, x2⟩, fun x H2 y => ?_⟩
    obtain ⟨y1, y2, y3⟩ := g2 x H2 y
    have q := turn i d δ' S' hd iv
    refine ⟨d, δ', S', _, y2, rs2.ext y1, y3 _ sr2, q, fun δ3 S3 σ3 H3 q3 rs3 sr3 e3 => ⟨δ3, S3, _, rs3, sr3, q3, ?_⟩⟩
    have e4 := e2.trans (y1.trans e3)
    have nx : NxF K H3 (Iv (i + 1)) fun σ2 H2 => Ext H1 H2 ∧ ∃ δ' S', RS K H2 σ2 δ' ∧ SR K H2 S' ∧ Iv (i + 1) δ' S' := fun δ5 S5 σ5 H5 q5 rs5 sr5 e5 => ⟨e4.trans e5, δ5, S5, rs5, sr5, q5⟩
    exact ⟨nx, (fin.ext (e1.trans e4)).rt, (fin.ext (e1.trans e4)).nx, nx⟩
  · have : i = ds.length := by omega
    subst this
    exact .inl ⟨it.stop _ H' e2 (Nat.le_refl _), fin.nx δ' S' σ' H' (last δ' S' iv) rs2 sr2 (e1.trans e2)⟩
theorem ks_forT {ti : DI} (hp : PassesOwn (model X.prog X.w) X.A X.env X.xe) (hc : X.calm = true) (hi : QI X tg iter ti) (hg : QG X tg g) (hb : KSs' X body tb) (hs : ∀ x, foldedSetIterable iter X.env x = pure x := by intro _; rfl) : KS' X (.For tg iter body [] pos) (dFor ti g tb) := fun pins s σ H D h0 I ⟨δ, S, P, rs, sr, q, fin⟩ =>
  for_pos hp hc hi hg hb hs pins s σ H D h0 I ⟨δ, S, _, rs, sr, q, fun ds S1 J H1 ⟨Iv, i0, turn, last⟩ s1 e1 it => walk_of fin e1 it (rs.ext e1) s1 i0 turn last⟩
theorem ks_forK (n : Nat) {x : Str} {px : Pos} (hp : PassesOwn (model X.prog X.w) X.A X.env X.xe) (hc : X.calm = true) (hg : QG X tg g) (hb : KSs' X body tb) (hN : X.N[n]? = some x := by rfl) (hv : Vis X.env.scope x := by first | exact Or.inl rfl | exact Or.inr (Or.inl rfl) | exact Or.inr (Or.inr rfl))
    (hd : (x == ("__debug__" : Str)) = false := by decide) (hcd : (x == ("__classdict__" : Str)) = false := by decide) (hs : ∀ y, foldedSetIterable (.Name x px) X.env y = pure y := by intro _; rfl) : KS' X (.For tg (.Name x px) body [] pos) (dForK n g tb) := fun pins s σ H D h0 I ⟨δ, S, P, rs, sr, ⟨a, kvs, hsl, hS, Iv, i0, turn, last⟩, fin⟩ =>
  for_pos hp hc (i_key n hN hv hd hcd) hg hb hs pins s σ H D h0 I ⟨δ, S, a, kvs, rs, sr, hsl, hS, fun J H1 rs1 s1 e1 it => walk_of fin e1 it rs1 s1 i0 turn last⟩
/-! ### where the first token comes from: xs[:c], list(..), a call, a name -/
abbrev PEP (X : Cx) (e : Expr) (t : DE) : Prop := ∀ (pins : List (Addr × Obj)) (s : Shared) (σ : L2.St) (H : Hp) (Q : VK), L2.Inv X pins σ H s → lE X.K t σ H Q → wpAny (model X.prog X.w) X.A (eval e X.env) (fun x s' => 1 ≤ s'.toks ∧ EP X pins σ Q x s') X.xe s
abbrev PSP (X : Cx) (st : Stmt) (t : DS) : Prop := ∀ (pins : List (Addr × Obj)) (s : Shared) (σ : L2.St) (H : Hp) (D : Ends), L2.Inv X pins σ H s → lS X.K t D σ H → wpAny (model X.prog X.w) X.A (exec st X.env) (fun f s' => 1 ≤ s'.toks ∧ SP X pins D f s') X.xe s
abbrev PSsP (X : Cx) (sts : List Stmt) (t : DS) : Prop := ∀ (pins : List (Addr × Obj)) (s : Shared) (σ : L2.St) (H : Hp) (D : Ends), L2.Inv X pins σ H s → lS X.K t D σ H → wpAny (model X.prog X.w) X.A (execs sts X.env) (fun f s' => 1 ≤ s'.toks ∧ SP X pins D f s') X.xe s
theorem p_cut {c : Int} {j : Nat} {p1 p2 : Pos} (he : QE X e te) : PEP X (.Subscript e (.Slice none (some (.Constant (.int c) j p1)) none p2) pos) (dSl slD te dNoPart (dPart (dC (.int c)))) := fun pins s σ H Q I ⟨δ, S, P, rs, sr, q, fin⟩ => by
  refine Subscript_ (thn (he.run pins s σ H (fun x H1 => ∃ d S1, Rp X.K H1 d x ∧ SR X.K H1 S1 ∧ Fin X.K H1 P Q ∧ slD d none (some c) S1 P) I ⟨δ, S, _, rs, sr, q, fun d S1 x H1 z r1 s1 e1 => ⟨d, S1, r1, s1, fin.ext e1, z⟩⟩) fun v s1 ⟨x, H1, I1, r1, d, S1, rd, s1', fin1, z⟩ => ?_)
  refine wpAny_Slice ?_
  rw [evalPart_none]
  refine wpAny_pure ?_
  rw [evalPart_some]
  refine wpAny_Constant_int (wpAny_pure ?_)
  have I4 : L2.Inv X pins σ H1 { s1 with toks := s1.toks + 1, heap := s1.heap.push { cls := .type "slice", data := .fields #[.none, .int c s1.toks, .none] } } := I1.kept fun b ob w => Heap.get?_push_of_some _ w
  obtain ⟨T, id, hT, ht, hgi⟩ := sl_D pins _ σ H1 x v .none (.int c s1.toks) none (some c) s1.heap.objs.size Q I4 r1 (Heap.IsSliceOf.new ..) .none (.int c _) ⟨d, S1, P, rd, s1', z, fin1⟩
  refine later (Nat.le_add_left 1 s1.toks) ?_
  exact tail_any (ops := [.ref s1.heap.objs.size, v]) ht hT hgi (by with_unfolding_all rfl)
theorem p_callTy1 {x : Str} {T : String} {r : List D → Sto → DK → Prop} (hc : CallD X (.type T) r) (hg : Gl X x) (hm : X.mg x = none) (hv : bootBuiltins x = some (.type T)) (ha : PEP X e te) (hn : x ≠ "__name__" := by decide) (hdb : (x == ("__debug__" : Str)) = false := by decide)
    (he : starEach [e] X.env = (false, eval e X.env) :: starEach [] X.env := by rfl) (hpl : (backTo pos (starEach [] X.env)).any (·.1) = false := by rfl) : PEP X (.Call (.Name x p) [e] [] pos) (dCB r (dCons te dNil)) := fun pins s σ H Q I ⟨δ, S, P, rs, sr, q, fin⟩ => by
  refine wpAny_Call_Name_kw (ld_blt I hg hm hv (PyProof.Rows.callWith_type1 (M := model X.prog X.w) (Q := fun x s' => 1 ≤ s'.toks ∧ EP X pins σ Q x s') ?_ he hpl) hn hdb)
  rw [he]
  show wpAny _ _ (spliced ((false, eval e X.env) :: backTo pos (starEach [] X.env))) _ _ s
  refine Calls.spliced_cons (thn (ha pins s σ H (fun x H1 => ∃ d S1, Rp X.K H1 d x ∧ SR X.K H1 S1 ∧ Fin X.K H1 P Q ∧ r [d] S1 P) I ⟨δ, S, _, rs, sr, q, fun d S1 x H1 z r1 s1 e1 => ⟨d, S1, r1, s1, fin.ext e1, z⟩⟩) fun v s1 ⟨ht, x, H1, I1, r1, d, S1, rd, s1', fin1, z⟩ => Calls.spliced_nil ?_)
  exact later ht (hc pins s1 σ H1 [x] [v] Q I1 (.cons r1 .nil) ⟨[d], S1, P, ⟨x, [], rfl, rd, rfl⟩, s1', z, fin1⟩)
theorem p_set (i : Nat) {x : Str} {pos' : Pos} (hN : X.N.Nodup) (he : PEP X e te) (hi : X.N[i]? = some x := by rfl) (hx : Loc X.env.scope x := by first | exact Or.inl rfl | exact Or.inr rfl) (hs : swapsWith e (some (.Name x pos')) pos.line X.env = pure false := by rfl)
    (hf : X.fn x = true ∨ X.env.scope.names.lookup x = some .local := by first | exact .inl rfl | exact .inr rfl | assumption) : PSP X (.Assign [.Name x pos'] e pos) (dSet i te) := fun pins s σ H D I ⟨δ, S, P, rs, sr, q, fin⟩ => by
  refine wpAny_Assign_Name (thn (he pins s σ H (fun y H1 => D.nx (σ.set i (some y)) H1) I ⟨δ, S, _, rs, sr, q, fun d S1 y H1 z r1 s1 e1 => fin.nx _ S1 _ H1 z ((rs.ext e1).set r1) s1 e1⟩) fun v s1 ⟨ht, y, H1, I1, r1, z⟩ => ?_) hs
  exact later ht (store_ok I1 hN hi hx r1 (fun s2 I2 => ⟨_, H1, I2, z⟩) hf)
theorem ss_first (h1 : PSP X st u) (h2 : KSs' X sts v) : QSs X (st :: sts) (dSeq u v) := ⟨fun pins s σ H D I ⟨δ, S, P, rs, sr, q, fin⟩ => by
  refine wpAny_execs_cons (thn (h1 pins s σ H { D with nx := lS X.K v D } I ⟨δ, S, { P with nx := v P }, rs, sr, q, fin.seq⟩) fun f s1 ⟨ht, z⟩ => ?_)
  cases f with
  | next => obtain ⟨σ', H', I', w⟩ := z; exact h2 pins s1 σ' H' D ht I' w
  | ret _ => exact z
  | brk => exact z
  | cont => exact z⟩
theorem ssp_first (h1 : PSP X st u) (h2 : QSs X sts v) : PSsP X (st :: sts) (dSeq u v) := fun pins s σ H D I ⟨δ, S, P, rs, sr, q, fin⟩ => by
  refine wpAny_execs_cons (thn (h1 pins s σ H { D with nx := lS X.K v D } I ⟨δ, S, { P with nx := v P }, rs, sr, q, fin.seq⟩) fun f s1 ⟨ht, z⟩ => ?_)
  cases f with
  | next => obtain ⟨σ', H', I', w⟩ := z; exact later ht (h2.run pins s1 σ' H' D I' w)
  | ret _ => exact ⟨ht, z⟩
  | brk => exact ⟨ht, z⟩
  | cont => exact ⟨ht, z⟩
end
/-! ### defs behind which a token is out -/
structure FnDT (P : Program) (w : World) (K : PySem.W.Frag) (mg : Str → Option Value) (base : Heap) (k : Nat) (f : Addr) (fd : FuncData) (ps : List Str) (sp : DSp) : Prop where
  len : ∀ ds S P', sp ds S P' → ds.length = ps.length
  run : ∀ (A : Around) (outer : List Env) (s : Shared) (H : Hp) (args : Args) (us : List Value) (vs : List V) (Q : VK), Room k A → A.guards = some [] → Env0 P w K mg base A outer s H → BindsTo s fd args (ps.zip us) → Vals vs us →
    (∃ ds S P', RpA K H ds vs ∧ SR K H S ∧ sp ds S P' ∧ Fin K H P' Q) → codeAny (model P w) A (.call (.ref f) args) (fun r s' => 1 ≤ s'.toks ∧ CR CX0 outer P w H s Q E0 r s') s
def HasT (P : Program) (w : World) (K : PySem.W.Frag) (mg : Str → Option Value) (base : Heap) (k : Nat) (x : Str) (ps : List Str) (sp : DSp) : Prop := ∃ f fd, FnDT P w K mg base k f fd ps sp ∧ Binds K fd ps [] ∧ PySem.W.keepIn K (.ref f) = true ∧ mg x = some (.ref f)
section
variable {P : Program} {w : World} {K : PySem.W.Frag} {mg : Str → Option Value} {base : Heap}
theorem HasT.mono {j k : Nat} {x : Str} {ps : List Str} {sp : DSp} (h : HasT P w K mg base j x ps sp) (l : j ≤ k) : HasT P w K mg base k x ps sp :=
  let ⟨f, fd, F, a⟩ := h; ⟨f, fd, ⟨F.len, fun A outer s H args us vs Q hr => F.run A outer s H args us vs Q (hr.mono l)⟩, a⟩
theorem ssp_nox {X : Cx} {st : List Stmt} {t : DS} (h : PSsP X.nox st t) : PSsP X st t := fun pins s σ H D I hw =>
  wpAny_mono (h pins s σ H D (I.wish _) hw) (fun fl s' q => ⟨q.1, q.2.unwish⟩) fun _ _ z => z.elim
theorem Def.hasT {x : Str} {st : Stmt} {N ps : List Str} {k : Nat} {sp : DSp} (D : Def K mg x st ps) (S : FnScope N ps (defScope st)) (len : ∀ ds S P, sp ds S P → ds.length = ps.length)
    (hbody : ∀ (f : Addr) (cdv : Value) (A : Around) (outer : List Env) (s : Shared) (H : Hp), Room k (A.deeper (envOfC x (defScope st) s.heap.objs.size f cdv)) → A.guards = some [] →
      ∃ t, PSsP (cxOf CX0 P w K mg base N x (defScope st) f cdv A outer s H E0).nox (defBody st) t ∧ ∀ ds S' P', sp ds S' P' → t { nx := fun _ S2 => P' .non S2, rt := P' } (dstart N ds) S') : HasT P w K mg base (k + 1) x ps sp := by
  obtain ⟨f, fd, F, b, m⟩ := D
  refine ⟨f, fd, ?_, b, F.kp, m⟩
  obtain ⟨oc, od, kV, doc, pm, an, cdv, ct, osl, rfl, lk, hcd⟩ := F.ex
  refine ⟨len, fun A outer s H args us vs Q hr hgd e0 hb r ⟨ds, S', P', rp, sr, hsp, fin⟩ => ?_⟩
  have hl : vs.length = ps.length := rp.length.trans (len _ _ _ hsp)
  have KX : K.In s.heap := e0.mod.kin.keeps fun b o e => (e0.bs b o e).1
  refine codeAny_call_function hr.depth (KX _ _ lk) rfl S.co S.gen rfl (PySem.W.codeRec_of KX hcd) (hb _ _ _ _ ?_)
  refine wpAny_newFunctionEnv_cells S.kind (fun ⟨n, v⟩ hy => (S.par n (List.of_mem_zip hy).1).elim .inl fun q => .inr ⟨q, PySem.W.cellsFrom_some _ _ _ (.inl q)⟩) fun env he s1 x => ?_
  subst he
  refine ⟨(e0.mod.nolimit.keeps fun b o e => (e0.bs b o e).1).keeps x.toInCall.keep, codeAny_func ?_⟩
  obtain ⟨t, ht, hq⟩ := hbody f cdv A outer s H (hr.deeper _) hgd
  have I := inv_start (CX := CX0) (E := E0) S hr.hd e0 hl r x
  refine wpAny_mono (ssp_nox ht [] s1 (start N vs) H { nx := fun _ H' => Q .non H', rt := Q } I ⟨dstart N ds, S', _, RS.start rp, sr, hq ds S' P' hsp, ⟨fun δ S2 σ H2 p rs sr e => fin _ S2 _ H2 p rfl sr e, fin, fun _ _ _ _ p => p.elim, fun _ _ _ _ p => p.elim⟩⟩) (fun fl s' ⟨tt, hs⟩ => ?_) fun e s' hs Γ pp hΓ => Sem.wp_mono _ Γ _ (fun _ _ _ z => (z : False).elim) (fun _ _ _ z => (z : False).elim) _ _ (hs Γ pp hΓ)
  cases fl with
  | ret u => obtain ⟨v, σ', H', J, rv, q⟩ := hs; exact ⟨tt, v, H', J.os, J.bare, J.base, J.hok, rv, q⟩
  | next => obtain ⟨σ', H', J, q⟩ := hs; exact ⟨tt, .non, H', J.os, J.bare, J.base, J.hok, rfl, q⟩
  | brk => obtain ⟨_, _, _, q⟩ := hs; exact False.elim q
  | cont => obtain ⟨_, _, _, q⟩ := hs; exact False.elim q
end
section
variable {X : Cx} {k : Nat} {ps : List Str} {sp : DSp} {x : Str} {p pos : Pos} {e : Expr} {es : List Expr} {t : DA}
theorem p_callT (G : HasT X.prog X.w X.K X.mg X.base k x ps sp) (hr : Room k X.A) (hgd : X.A.guards = some []) (ha : QA X (e :: es) t) (hg : Gl X x := by rfl) (hdb : (x == ("__debug__" : Str)) = false := by decide)
    (he : starEach (e :: es) X.env = (false, eval e X.env) :: starEach es X.env := by rfl) (hpl : (backTo pos (starEach es X.env)).any (·.1) = false := by rfl) : PEP X (.Call (.Name x p) (e :: es) [] pos) (dCB sp t) := fun pins s σ H Q I ⟨δ, S, P, rs, sr, h, fin⟩ => by
  obtain ⟨f, fd, F, hb, hk, hm⟩ := G
  refine wpAny_Call_Name_kw (ld_glob I hg hm ?_ hdb)
  refine PySem.W.callWith_K (h₀ := X.base) I.ok.mod.kin hk ?_ he hpl
  refine thn (ha.run pos pins s σ H (fun vs H1 => ∃ ds S1, RpA X.K H1 ds vs ∧ SR X.K H1 S1 ∧ sp ds S1 P ∧ Fin X.K H1 P Q) I ⟨δ, S, _, rs, sr, h, fun ds S1 vs H1 h1 r1 s1 e1 => ⟨ds, S1, r1, s1, h1, fin.ext e1⟩⟩) fun us s1 ⟨vs, H1, I1, r, ds, S1, r1, s2, q, fin1⟩ => ⟨I1.kIn, ?_⟩
  have hl : us.length = ps.length := by rw [← r.length, r1.length]; exact F.len _ _ _ q
  have hb' : BindsTo s1 fd ⟨us, []⟩ (ps.zip us) := by have z := hb s1 us I1.kIn (by simpa using hl); rw [List.append_nil] at z; exact z
  refine wpAny_call (codeAny_mono (F.run X.A X.stack s1 H1 ⟨us, []⟩ us vs Q hr hgd I1.env0 hb' r ⟨ds, S1, P, r1, s2, q, fin1⟩) fun r s' hq => ?_)
  cases r with
  | error e => exact False.elim hq.2
  | ok fl => cases fl with
    | ret u => exact ⟨hq.1, I1.after hq.2⟩
    | _ => exact False.elim hq.2
end
end DL
set_option Elab.async false
set_option linter.all false
set_option maxRecDepth 100000
set_option maxHeartbeats 1000000
namespace DL
open PySem PySem.Spec PyProof.Rows L2
section
variable {X : Cx} {a b : Expr} {rest : List Expr} {ta tb' : DE} {pos : Pos}
theorem k_one {op : BoolOp} (h : KE' X a ta) : KE' X (.BoolOp op [a] pos) ta := fun pins s σ H Q h0 I q => BoolOp_one (h pins s σ H Q h0 I q)
theorem k_and (h : KE' X a ta) (h2 : KE' X (.BoolOp .And (b :: rest) pos) tb') : KE' X (.BoolOp .And (a :: b :: rest) pos) (dAndV ta tb') := fun pins s σ H Q h0 I ⟨δ, S, P, rs, sr, q, fin⟩ => by
  refine BoolOp_and (thn (later h0 (h pins s σ H (fun x H1 => ∃ c, x = .bl c ∧ bif c then lE X.K tb' σ H1 Q else Q (.bl false) H1) h0 I ⟨δ, S, _, rs, sr, q, fun d S1 x H1 z r1 s1 e1 => ?_⟩)) fun x s1 ⟨ht, y, H1, I1, r1, c, ey, z⟩ => ?_)
  · obtain ⟨c, rfl, z⟩ := asB_of z
    cases c with
    | true => exact ⟨true, r1, δ, S1, P, rs.ext e1, s1, z, fin.ext e1⟩
    | false => exact ⟨false, r1, fin _ S1 _ H1 z rfl s1 e1⟩
  · subst ey
    cases r1
    refine wpAny_truthy_bool ?_
    cases c with
    | true => exact h2 pins s1 σ H1 Q ht I1 z
    | false => exact ⟨.bl false, H1, I1, rfl, z⟩
end
end DL
set_option Elab.async false
set_option linter.all false
set_option maxRecDepth 100000
set_option maxHeartbeats 1000000
namespace DL
open PySem PySem.Spec PyProof.Rows L2
/-! ### == of trees of texts, numbers, tuples: one of both -/
mutual
def pl : D → Bool
  | .str _ => true
  | .int _ => true
  | .tup xs => pls xs
  | _ => false
def pls : List D → Bool
  | [] => true
  | d :: r => pl d && pls r
end
theorem pls_mem : ∀ {ds : List D} {d : D}, pls ds = true → d ∈ ds → pl d = true
  | x :: r, d, h, m => by
    simp only [pls, Bool.and_eq_true] at h
    rcases List.mem_cons.mp m with rfl | m
    · exact h.1
    · exact pls_mem h.2 m
section
variable {X : Cx} {pins : List (Addr × Obj)} {σ : L2.St} {H : Hp} {s : Shared}
theorem pick_eq {A : Around} {s : Shared} {its its2 : Array Value} (h : ∀ j (h1 : j < its.size) (h2 : j < its2.size), ∃ b, SeqAt.EqAt A s its[j] its2[j] b) : ∃ e : Nat → Bool, ∀ j (h1 : j < its.size) (h2 : j < its2.size), SeqAt.EqAt A s its[j] its2[j] (e j) := by
  classical
  refine ⟨fun j => if z : ∃ h1 : j < its.size, ∃ h2 : j < its2.size, ∃ b, SeqAt.EqAt A s its[j] its2[j] b then z.choose_spec.choose_spec.choose else true, fun j h1 h2 => ?_⟩
  have z : ∃ h1 : j < its.size, ∃ h2 : j < its2.size, ∃ b, SeqAt.EqAt A s its[j] its2[j] b := ⟨h1, h2, h j h1 h2⟩
  dsimp only
  rw [dif_pos z]
  exact z.choose_spec.choose_spec.choose_spec
theorem any_eq (I : L2.Inv X pins σ H s) : ∀ (n : Nat) (A : Around) (d e : D) (x y : V) (v u : Value), A.units + n < cLine → dp d ≤ n → pl d = true → pl e = true → Rp X.K H d x → Rp X.K H e y → RelV x v → RelV y u → ∃ b, SeqAt.EqAt A s v u b := by
  intro n
  induction n with
  | zero =>
    intro A d e x y v u hu hd p1 p2 r1 r2 q1 q2
    cases d with
    | str z =>
      cases r1
      obtain ⟨t, rfl⟩ := q1
      cases e with
      | str z2 => cases r2; obtain ⟨t2, rfl⟩ := q2; exact ⟨_, SeqAt.EqAt.str_str _ _ _ _⟩
      | int i => cases r2; obtain ⟨t2, rfl⟩ := q2; exact ⟨_, SeqAt.EqAt.str_int _ _ _ _⟩
      | tup es => obtain ⟨c, ws, rfl, hc, r4⟩ := r2; cases q2; obtain ⟨its, w1, w2, _⟩ := I.tuple hc; exact ⟨_, SeqAt.EqAt.str_tuple _ _ w2 (by omega)⟩
      | _ => cases p2
    | int i =>
      cases r1
      obtain ⟨t, rfl⟩ := q1
      cases e with
      | str z2 => cases r2; obtain ⟨t2, rfl⟩ := q2; exact ⟨_, SeqAt.EqAt.int_str _ _ _ _⟩
      | int i => cases r2; obtain ⟨t2, rfl⟩ := q2; exact ⟨_, SeqAt.EqAt.int_int _ _ _ _⟩
      | tup es => obtain ⟨c, ws, rfl, hc, r4⟩ := r2; cases q2; obtain ⟨its, w1, w2, _⟩ := I.tuple hc; exact ⟨_, SeqAt.EqAt.int_tuple _ _ w2 (by omega)⟩
      | _ => cases p2
    | tup ds => simp only [dp] at hd; omega
    | _ => cases p1
  | succ n ih =>
    intro A d e x y v u hu hd p1 p2 r1 r2 q1 q2
    cases d with
    | str z =>
      cases r1
      obtain ⟨t, rfl⟩ := q1
      cases e with
      | str z2 => cases r2; obtain ⟨t2, rfl⟩ := q2; exact ⟨_, SeqAt.EqAt.str_str _ _ _ _⟩
      | int i => cases r2; obtain ⟨t2, rfl⟩ := q2; exact ⟨_, SeqAt.EqAt.str_int _ _ _ _⟩
      | tup es => obtain ⟨c, ws, rfl, hc, r4⟩ := r2; cases q2; obtain ⟨its, w1, w2, _⟩ := I.tuple hc; exact ⟨_, SeqAt.EqAt.str_tuple _ _ w2 (by omega)⟩
      | _ => cases p2
    | int i =>
      cases r1
      obtain ⟨t, rfl⟩ := q1
      cases e with
      | str z2 => cases r2; obtain ⟨t2, rfl⟩ := q2; exact ⟨_, SeqAt.EqAt.int_str _ _ _ _⟩
      | int i => cases r2; obtain ⟨t2, rfl⟩ := q2; exact ⟨_, SeqAt.EqAt.int_int _ _ _ _⟩
      | tup es => obtain ⟨c, ws, rfl, hc, r4⟩ := r2; cases q2; obtain ⟨its, w1, w2, _⟩ := I.tuple hc; exact ⟨_, SeqAt.EqAt.int_tuple _ _ w2 (by omega)⟩
      | _ => cases p2
    | tup ds =>
      obtain ⟨a, vs, rfl, ha, r3⟩ := r1
      cases q1
      obtain ⟨its, w1, w2, _⟩ := I.tuple ha
      cases e with
      | str z2 => cases r2; obtain ⟨t2, rfl⟩ := q2; exact ⟨_, SeqAt.EqAt.tuple_str _ _ w2 (by omega)⟩
      | int i => cases r2; obtain ⟨t2, rfl⟩ := q2; exact ⟨_, SeqAt.EqAt.tuple_int _ _ w2 (by omega)⟩
      | tup es =>
        obtain ⟨c, ws, rfl, hc, r4⟩ := r2
        cases q2
        obtain ⟨its2, w3, w4, _⟩ := I.tuple hc
        by_cases hac : a = c
        · subst hac; exact ⟨_, SeqAt.EqAt.same _⟩
        · obtain ⟨f, hf⟩ := pick_eq (A := A.in1) (s := s) (its := its.toArray) (its2 := its2.toArray) fun j h1 h2 => by
            simp only [pl] at p1 p2
            simp only [dp] at hd
            have h1' : j < its.length := by simpa using h1
            have h2' : j < its2.length := by simpa using h2
            have l1 : j < ds.length := by rw [← r3.length, w1.length]; exact h1'
            have l2 : j < es.length := by rw [← r4.length, w3.length]; exact h2'
            obtain ⟨v1, g1, g2⟩ := r3.get (List.getElem?_eq_getElem l1)
            obtain ⟨v2, g3, g4⟩ := r4.get (List.getElem?_eq_getElem l2)
            obtain ⟨u1, k1, k2⟩ := w1.get g1
            obtain ⟨u2, k3, k4⟩ := w3.get g3
            have e1 : its.toArray[j] = u1 := by
              rw [List.getElem?_eq_getElem h1'] at k1
              simpa using k1
            have e2 : its2.toArray[j] = u2 := by
              rw [List.getElem?_eq_getElem h2'] at k3
              simpa using k3
            rw [e1, e2]
            refine ih A.in1 _ _ v1 v2 u1 u2 (by show A.units + 1 + n < cLine; omega) ?_ (pls_mem p1 (List.getElem_mem l1)) (pls_mem p2 (List.getElem_mem l2)) g2 g4 k2 k4
            exact Nat.le_trans (dpA_mem (List.getElem_mem l1)) (by omega)
          exact ⟨_, SeqAt.EqAt.of_refs hac (SeqAt.RcAt.tuples (e := f) w2 w4 (by omega) hf)⟩
      | _ => cases p2
    | _ => cases p1
def eqAny : DR := fun x y S P => (∃ xs ys, x = .tup xs ∧ y = .tup ys) ∧ pl x = true ∧ pl y = true ∧ dp x ≤ 150 ∧ ∀ b, P (.bl b) S
theorem op_eqAny (hu : X.A.units + 200 < cLine) : OpD X (compareOp .Eq) eqAny := by
  intro pins s σ H x y v u Q I rx ry ⟨d, e, S, P, r1, r2, sr, ⟨⟨xs, ys, ex, ey⟩, p1, p2, hd, h⟩, fin⟩
  subst ex ey
  obtain ⟨a, vs, rfl, ha, r3⟩ := r1
  obtain ⟨c, ws, rfl, hc, r4⟩ := r2
  cases rx
  cases ry
  obtain ⟨its, w1, w2, _⟩ := I.tuple ha
  obtain ⟨its2, w3, w4, _⟩ := I.tuple hc
  obtain ⟨f, hf⟩ := pick_eq (A := X.A.in1) (s := s) (its := its.toArray) (its2 := its2.toArray) fun j h1 h2 => by
    simp only [pl] at p1 p2
    simp only [dp] at hd
    have h1' : j < its.length := by simpa using h1
    have h2' : j < its2.length := by simpa using h2
    have l1 : j < xs.length := by rw [← r3.length, w1.length]; exact h1'
    have l2 : j < ys.length := by rw [← r4.length, w3.length]; exact h2'
    obtain ⟨v1, g1, g2⟩ := r3.get (List.getElem?_eq_getElem l1)
    obtain ⟨v2, g3, g4⟩ := r4.get (List.getElem?_eq_getElem l2)
    obtain ⟨u1, k1, k2⟩ := w1.get g1
    obtain ⟨u2, k3, k4⟩ := w3.get g3
    have e1 : its.toArray[j] = u1 := by
      rw [List.getElem?_eq_getElem h1'] at k1
      simpa using k1
    have e2 : its2.toArray[j] = u2 := by
      rw [List.getElem?_eq_getElem h2'] at k3
      simpa using k3
    rw [e1, e2]
    refine any_eq I 150 X.A.in1 _ _ v1 v2 u1 u2 (by show X.A.units + 1 + 150 < cLine; omega) ?_ (pls_mem p1 (List.getElem_mem l1)) (pls_mem p2 (List.getElem_mem l2)) g2 g4 k2 k4
    exact Nat.le_trans (dpA_mem (List.getElem_mem l1)) (by omega)
  exact SeqAt.eq_tupleAt (e := f) w2 w4 (by omega) hf ⟨.bl _, H, I, rfl, fin (.bl _) S _ H (h _) rfl sr (.refl H)⟩
end
end DL
set_option Elab.async false
set_option linter.all false
set_option maxRecDepth 100000
set_option maxHeartbeats 1000000
namespace DL
open PySem PySem.Spec PyProof.Rows L2
/-! ### what a text is made of -/
section
variable {X : Cx}
def predD (g : Str → Bool) : D → List D → Sto → DK → Prop := fun x ds S P => match x, ds with
  | .str a, [] => P (.bl (g a)) S
  | _, _ => False
theorem m_pred {id : String} {g : Str → Bool} (m : MtR X id (fun x xs H Q => ∃ a, x = .str a ∧ xs = [] ∧ True ∧ Q (.bl (g a)) H)) : MtD X id (predD g) := MtR.imp m fun x xs H Q hh => by
  obtain ⟨d, ds, S, P, r1, r2, sr, h, fin⟩ := hh
  unfold predD at h
  split at h
  · cases r1
    cases r2
    exact ⟨_, rfl, rfl, trivial, fin _ S _ H h rfl sr (.refl H)⟩
  · exact h.elim
theorem m_isdigit : MtD X "str.isdigit" (predD Txt.isdigit) := m_pred mt_isdigit
theorem m_isalpha : MtD X "str.isalpha" (predD Txt.isalpha) := m_pred mt_isalpha
theorem m_isascii : MtD X "str.isascii" (predD Txt.isascii) := m_pred mt_isascii
theorem m_islower : MtD X "str.islower" (predD Txt.islower) := m_pred mt_islower
end
def notND : DR := fun x y S P => y = .non ∧ P (.bl (!isNon x)) S
theorem op_notND {X : Cx} : OpD X (compareOp .IsNot) notND := by
  intro pins s σ H x y v u Q I rx ry ⟨d, e, S, P, r1, r2, sr, ⟨ey, h⟩, fin⟩
  subst ey
  cases r2
  exact op_notN pins s σ H _ _ v u Q I rx ry ⟨rfl, fin (.bl _) S _ H (by rw [isNon_of r1]; exact h) rfl sr (.refl H)⟩
theorem notN_d {x : D} {S : Sto} {P : DK} (h : P (.bl (!isNon x)) S) : notND x .non S P := ⟨rfl, h⟩
theorem pred_s {g : Str → Bool} {a : Str} {S : Sto} {P : DK} : predD g (.str a) [] S P = P (.bl (g a)) S := rfl
theorem al_c : ∀ i : _root_.Fin 128, Unicode.isAlpha i.val = (decide (65 ≤ i.val ∧ i.val ≤ 90) || decide (97 ≤ i.val ∧ i.val ≤ 122)) := by decide +kernel
theorem lo_c : ∀ i : _root_.Fin 128, Unicode.isLower i.val = decide (97 ≤ i.val ∧ i.val ≤ 122) := by decide +kernel
theorem up_c : ∀ i : _root_.Fin 128, (Unicode.isUpper i.val || Unicode.isTitle i.val) = decide (65 ≤ i.val ∧ i.val ≤ 90) := by decide +kernel
theorem di_c : ∀ i : _root_.Fin 128, Unicode.isDigit i.val = decide (48 ≤ i.val ∧ i.val ≤ 57) := by decide +kernel
theorem asc_l (z : Str) : Txt.isascii z = z.cps.toList.all fun c => decide (c < 128) := by
  unfold Txt.isascii
  rw [← Array.all_toList]
theorem low_l : ∀ l : List Nat, (∀ c ∈ l, c < 128) → (l.all Unicode.isAlpha && !(l.any fun c => Unicode.isUpper c || Unicode.isTitle c)) = l.all fun c => decide (97 ≤ c ∧ c ≤ 122)
  | [], _ => rfl
  | c :: r, h => by
    have e := low_l r fun x m => h x (List.mem_cons_of_mem _ m)
    have hc := h c (by simp)
    rw [List.all_cons, List.any_cons, List.all_cons, ← e, al_c ⟨c, hc⟩, up_c ⟨c, hc⟩]
    by_cases p : 65 ≤ c ∧ c ≤ 90
    · have q : ¬(97 ≤ c ∧ c ≤ 122) := by omega
      simp [p, q]
    · by_cases q : 97 ≤ c ∧ c ≤ 122
      · simp [p, q]
      · simp [p, q]
/-- letters: at least one sign, each from a to z -/
theorem name_text (z : Str) : (Txt.isalpha z && (Txt.islower z && Txt.isascii z)) = (decide (1 ≤ z.length) && z.cps.toList.all fun c => decide (97 ≤ c ∧ c ≤ 122)) := by
  rw [asc_l]
  by_cases ha : ∀ c ∈ z.cps.toList, c < 128
  · rw [show (z.cps.toList.all fun c => decide (c < 128)) = true from List.all_eq_true.mpr fun c m => decide_eq_true (ha c m), Bool.and_true]
    have e := low_l _ ha
    unfold Txt.isalpha Txt.islower
    rw [← Array.all_toList, ← Array.any_toList, ← Array.any_toList]
    have len : z.length = z.cps.toList.length := by rw [Array.length_toList]; rfl
    rw [← e, len]
    cases hl : z.cps.toList with
    | nil => rfl
    | cons c r =>
      have ha' : ∀ x ∈ c :: r, x < 128 := by rw [← hl]; exact ha
      cases q : ((c :: r).all Unicode.isAlpha && !((c :: r).any fun c => Unicode.isUpper c || Unicode.isTitle c)) with
      | false =>
        rw [Bool.and_false]
        rw [Bool.eq_false_iff] at q ⊢
        intro w
        apply q
        simp only [Bool.and_eq_true] at w ⊢
        exact ⟨w.1.2, w.2.2⟩
      | true =>
        have q2 := q
        rw [low_l _ ha'] at q2
        have lo : (c :: r).any Unicode.isLower = true := by
          rw [List.any_cons, lo_c ⟨c, ha' c (by simp)⟩]
          have := of_decide_eq_true (List.all_eq_true.mp q2 c (by simp))
          rw [decide_eq_true this, Bool.true_or]
        simp only [Bool.and_eq_true] at q
        rw [lo, q.1, q.2]
        simp
  · have f1 : (z.cps.toList.all fun c => decide (c < 128)) = false := by
      rw [Bool.eq_false_iff]
      exact fun w => ha fun c m => of_decide_eq_true (List.all_eq_true.mp w c m)
    have f2 : (z.cps.toList.all fun c => decide (97 ≤ c ∧ c ≤ 122)) = false := by
      rw [Bool.eq_false_iff]
      exact fun w => ha fun c m => by have := of_decide_eq_true (List.all_eq_true.mp w c m); omega
    rw [f1, f2]
    simp
/-- figures: at least one sign, each from 0 to 9 -/
theorem fig_text (z : Str) : (Txt.isascii z && Txt.isdigit z) = (decide (1 ≤ z.length) && z.cps.toList.all fun c => decide (48 ≤ c ∧ c ≤ 57)) := by
  rw [asc_l]
  have len : z.length = z.cps.toList.length := by rw [Array.length_toList]; rfl
  unfold Txt.isdigit
  rw [← Array.all_toList, len]
  have key : ∀ l : List Nat, (l.all (fun c => decide (c < 128)) && l.all Unicode.isDigit) = l.all fun c => decide (48 ≤ c ∧ c ≤ 57) := by
    intro l
    induction l with
    | nil => rfl
    | cons c r ih =>
      rw [List.all_cons, List.all_cons, List.all_cons, ← ih]
      by_cases hc : c < 128
      · rw [di_c ⟨c, hc⟩]
        simp only [hc, decide_true, Bool.true_and]
        cases decide (48 ≤ c ∧ c ≤ 57) <;> simp
      · have q : ¬(48 ≤ c ∧ c ≤ 57) := by omega
        simp [hc, q]
  rw [← key]
  cases z.cps.toList with
  | nil => rfl
  | cons c r => simp
end DL
set_option Elab.async false
set_option linter.all false
set_option maxRecDepth 100000
set_option maxHeartbeats 1000000
/-! DE1: frames of functions that were made at run time, with cells of their own beside the captured ones. -/
namespace DL
open PySem PySem.Spec PyProof.Rows L2

theorem cellsFrom_app : ∀ (names : List (Str × NameKind)) (n : Nat) (acc : List (Str × Addr)), cellsFrom n names acc = cellsFrom n names [] ++ acc
  | [], _, _ => rfl
  | (x, k) :: r, n, acc => by
    unfold cellsFrom
    split
    · rw [cellsFrom_app r (n + 1) ((x, n) :: acc), cellsFrom_app r (n + 1) [(x, n)], List.append_assoc]; rfl
    · exact cellsFrom_app r n acc
theorem cellsFrom_kind : ∀ {names : List (Str × NameKind)} {n : Nat} {y : Str} {c : Addr}, (y, c) ∈ cellsFrom n names [] → (y, NameKind.cell) ∈ names
  | [], _, _, _, h => by cases h
  | (x, k) :: r, n, y, c, h => by
    unfold cellsFrom at h
    split at h
    · rename_i hk
      rw [cellsFrom_app] at h
      rcases List.mem_append.mp h with h | h
      · exact List.mem_cons_of_mem _ (cellsFrom_kind h)
      · rw [List.mem_singleton] at h
        cases h
        rw [beq_iff_eq.mp hk]
        exact List.mem_cons_self
    · exact List.mem_cons_of_mem _ (cellsFrom_kind h)
section
variable {M : Model} {A : Around} {E : Value → Shared → Prop}
theorem bind_locals {env : Env} (f : Str × Value → PUnit → Sem (ForInStep PUnit)) (hf : ∀ n v u, f (n, v) u = (do storeName env n v; pure (.yield ⟨⟩))) (hk : env.scope.kind = .function) :
    ∀ (binds done : List (Str × Value)) (s : Shared) (Q : PUnit → Shared → Prop), s.heap.Ns env.locals (fun y => done.reverse.lookup y) → (∀ x ∈ binds, env.kindOf x.1 = some .local) →
      (∀ h' tk, h'.Ns env.locals (fun y => (done ++ binds).reverse.lookup y) → Heap.SameBut env.locals s.heap h' → Q ⟨⟩ { s with heap := h', toks := tk }) → wpAny M A (forIn binds ⟨⟩ f) Q E s
  | [], done, s, Q, hn, _, h => by
    rw [List.forIn_nil]
    exact wpAny_pure (h s.heap s.toks (by rw [List.append_nil]; exact hn) (Heap.SameBut.refl ..))
  | (n, v) :: r, done, s, Q, hn, hl, h => by
    rw [List.forIn_cons, hf]
    refine wpAny_bind (wpAny_bind (wpAny_storeName_local (hl _ List.mem_cons_self) hn (fun h1 hn1 hs1 => wpAny_pure ?_) (by rw [hk]; rfl)))
    refine bind_locals f hf hk r (done ++ [(n, v)]) _ Q ?_ (fun x hx => hl x (List.mem_cons_of_mem _ hx)) fun h2 tk hn2 hs2 => ?_
    · have e : (fun y => (done ++ [(n, v)]).reverse.lookup y) = fun y => if y = n then some v else done.reverse.lookup y := by
        funext y
        rw [List.reverse_append, List.reverse_singleton, List.singleton_append, List.lookup_cons]
        by_cases q : y = n
        · subst q; rw [beq_self_eq_true, if_pos rfl]
        · rw [beq_eq_false_iff_ne.mpr q, if_neg q]
      rw [e]
      exact hn1
    · rw [List.append_assoc] at hn2
      exact h h2 tk hn2 ⟨hs2.1.trans hs1.1, fun b hb => (hs2.2 b hb).trans (hs1.2 b hb)⟩
theorem newEnv_own {s : Shared} {scope : Scope} {globals : Addr} {cl : List (Str × Addr)} {binds : List (Str × Value)} {qual : Str} {func : Option Addr} {code : Value} {builtins : Addr} {Q : Env → Shared → Prop} (hk : scope.kind = .function)
    (hl : ∀ x ∈ binds, scope.names.lookup x.1 = some .local)
    (hQ : ∀ h' tk, h'.Ns s.heap.objs.size (fun y => binds.reverse.lookup y) → (∀ b o, s.heap.get? b = some o → h'.get? b = some o) →
      (∀ y c, (y, c) ∈ cellsFrom (s.heap.objs.size + 1) scope.names [] → h'.IsCell c none ∧ s.heap.objs.size < c) →
      (cellsFrom (s.heap.objs.size + 1) scope.names []).Pairwise (fun x y => x.2 ≠ y.2) →
      Q (newEnv scope s.heap.objs.size globals (cellsFrom (s.heap.objs.size + 1) scope.names cl) qual func code none builtins) { s with heap := h', toks := tk }) :
    wpAny M A (newFunctionEnv scope globals cl binds qual func code none builtins) Q E s := by
  simp only [newFunctionEnv, Option.isSome_none, Bool.false_eq_true, if_false]
  refine wpAny_bind (wpAny_alloc ?_)
  refine wpAny_bind (wpAny_layCells _ (fun name kind cells => by cases hkc : kind == NameKind.cell <;> simp [hkc]) _ _ _ _ ?_)
  have ok := cellsFrom_ok scope.names (s.heap.push { cls := .type "frame", data := .dict #[] }) (s.heap.objs.size + 1) [] ⟨fun _ _ hm => (nomatch hm), List.Pairwise.nil⟩ (by rw [Heap.size_push]; exact Nat.le_refl _)
  rw [Heap.size_push] at ok
  rw [show ({ s with heap := s.heap.push { cls := .type "frame", data := .dict #[] } } : Shared).heap.objs.size = s.heap.objs.size + 1 from Heap.size_push ..]
  refine wpAny_bind (bind_locals (env := newEnv scope s.heap.objs.size globals (cellsFrom (s.heap.objs.size + 1) scope.names cl) qual func code none builtins)
    _ (fun _ _ _ => rfl) hk binds [] _ _ ((Heap.Ns.new s.heap (.type "frame")).keeps (pushCells_keeps _ _)) hl fun h' tk hn hs => ?_)
  refine wpAny_pure (hQ h' tk hn (fun b o e => ?_) (fun y c hm => ?_) ok.apart)
  · exact hs.extBut b o (Nat.ne_of_lt (Heap.lt_size e)) (pushCells_keeps _ _ b o (Heap.get?_push_of_some _ e))
  · have q := ok.empty y c hm
    exact ⟨q.1.sameBut hs (Nat.ne_of_gt (show s.heap.objs.size < c from q.2)), q.2⟩
end

/-! ### a function's frame -/
structure GScope (N ps fr : List Str) (sc : Scope) : Prop where
  kind : sc.kind = .function
  co : sc.isCoroutine = false
  gen : sc.isGenerator = false
  nd : N.Nodup
  pre : N.take (ps.length + fr.length) = ps ++ fr
  par : ∀ x ∈ ps, sc.names.lookup x = some .local
  own : ∀ y ∈ sc.names, y.2 = .cell → y.1 ∉ fr
  free : ∀ y ∈ sc.names, y.2 = .free → y.1 ∈ fr
  frk : ∀ x ∈ fr, sc.names.lookup x = some .free
def gscB (N ps fr : List Str) (sc : Scope) : Bool :=
  decide (sc.kind = .function) && !sc.isCoroutine && !sc.isGenerator && decide N.Nodup && decide (N.take (ps.length + fr.length) = ps ++ fr) && ps.all (fun x => decide (sc.names.lookup x = some .local)) && sc.names.all (fun y => !decide (y.2 = .cell) || decide (y.1 ∉ fr)) && sc.names.all (fun y => !decide (y.2 = .free) || decide (y.1 ∈ fr)) && fr.all (fun x => decide (sc.names.lookup x = some .free))
theorem gscope_by {N ps fr : List Str} {sc : Scope} (h : gscB N ps fr sc = true) : GScope N ps fr sc := by
  unfold gscB at h
  simp only [Bool.and_eq_true, Bool.not_eq_true', decide_eq_true_eq, List.all_eq_true, Bool.or_eq_true, decide_eq_false_iff_not] at h
  obtain ⟨⟨⟨⟨⟨⟨⟨⟨h1, h2⟩, h3⟩, h4⟩, h5⟩, h6⟩, h7⟩, h8⟩, h9⟩ := h
  exact ⟨h1, h2, h3, h4, h5, h6, fun y hy e => (h7 y hy).elim (fun z => absurd e z) id, fun y hy e => (h8 y hy).elim (fun z => absurd e z) id, h9⟩
def envG (F : FF) (f L : Addr) : Env :=
  { scope := F.scope, locals := L, globals := mainGlobals, cells := cellsFrom (L + 1) F.scope.names F.cl, qual := F.qual ++ ".<locals>.", func := some f, code := .ref F.c, frame := some L, builtins := builtinsNs }
def ownN (sc : Scope) (y : Str) : Bool := match sc.names.lookup y with | some .cell => true | _ => false
def gcx (P : Program) (w : World) (K : PySem.W.Frag) (mg : Str → Option Value) (base : Heap) (N : List Str) (F : FF) (f : Addr) (A : Around) (outer : List Env) (s : Shared) (H : Hp) (E : XK) : Cx where
  prog := P
  w := w
  K := K
  mg := mg
  base := base
  A := A.deeper (envG F f s.heap.objs.size)
  N := N
  s_0 := s
  H_0 := H
  env := envG F f s.heap.objs.size
  outer := outer
  stack := envG F f s.heap.objs.size :: outer
  ex := []
  calm := true
  fn := ownN F.scope
  pn := []
  xe := fun e s' => wpAny (model P w) (A.deeper (envG F f s.heap.objs.size)) (leaving (envG F f s.heap.objs.size) e) (fun _ s'' => CX0 outer H s E e s'') (fun e' s'' => CX0 outer H s E e' s'') s'
theorem lookG_own {F : FF} {L : Nat} {y : Str} {c : Addr} (h : (cellsFrom (L + 1) F.scope.names []).lookup y = some c) : (cellsFrom (L + 1) F.scope.names F.cl).lookup y = some c := by
  rw [cellsFrom_app, List.lookup_append, h]; rfl
theorem lookG_cases {F : FF} {L : Nat} {y : Str} {c : Addr} (h : (cellsFrom (L + 1) F.scope.names F.cl).lookup y = some c) : (y, c) ∈ cellsFrom (L + 1) F.scope.names [] ∨ F.cl.lookup y = some c := by
  rw [cellsFrom_app, List.lookup_append] at h
  cases e : (cellsFrom (L + 1) F.scope.names []).lookup y with
  | none => rw [e] at h; exact .inr h
  | some c' => rw [e] at h; cases h; exact .inl (PySem.mem_of_lookup e)
theorem lookG_free {N ps fr : List Str} {F : FF} {L : Nat} {y : Str} {c : Addr} (S : GScope N ps fr F.scope) (hy : y ∈ fr) (h : F.cl.lookup y = some c) : (cellsFrom (L + 1) F.scope.names F.cl).lookup y = some c := by
  rw [cellsFrom_app, List.lookup_append]
  cases e : (cellsFrom (L + 1) F.scope.names []).lookup y with
  | none => exact h
  | some c' => exact absurd hy (S.own _ (cellsFrom_kind (PySem.mem_of_lookup e)) rfl)
open NdefX in
theorem inv_startG {P : Program} {w : World} {K : PySem.W.Frag} {mg : Str → Option Value} {base : Heap} {N ps fr : List Str} {F : FF} {f : Addr} {A : Around} {outer : List Env} {s : Shared} {H : Hp} {E : XK} {us : List Value} {vs : List V} {ws : List (Option V)}
    {h₁ : Heap} {tk : Nat} (S : GScope N ps fr F.scope) (hd : A.handled = none) (e0 : Env0 P w K mg base A outer s H) (hl : vs.length = ps.length) (r : Vals vs us) (C : CellsAt F.cl fr ws s.heap H) (hns : h₁.Ns s.heap.objs.size fun y => (ps.zip us).reverse.lookup y)
    (kp : ∀ b o, s.heap.get? b = some o → h₁.get? b = some o) (ow : ∀ y c, (y, c) ∈ cellsFrom (s.heap.objs.size + 1) F.scope.names [] → h₁.IsCell c none ∧ s.heap.objs.size < c) (ap : (cellsFrom (s.heap.objs.size + 1) F.scope.names []).Pairwise fun x y => x.2 ≠ y.2) :
    Inv (gcx P w K mg base N F f A outer s H E) [] (startF N vs ws) H { s with heap := h₁, toks := tk } := by
  have hpl : ps.length + fr.length ≤ N.length := by
    have q := congrArg List.length S.pre
    rw [List.length_take, List.length_append] at q
    omega
  have noA : ∀ b : Addr, b ∉ (gcx P w K mg base N F f A outer s H E).ex := fun b z => absurd (show b ∈ ([] : List Addr) from z) (by simp)
  have cellK : ∀ {c : Addr} {v : Option Value}, s.heap.IsCell c v → h₁.IsCell c v := fun {c v} ⟨o, ho, hd⟩ => ⟨o, kp _ _ ho, hd⟩
  have clt : ∀ {y : Str} {c : Addr}, F.cl.lookup y = some c → c < s.heap.objs.size := fun {y c} e => by
    obtain ⟨_, v, z⟩ := C.all y c e
    exact z.lt
  refine ⟨⟨e0.mod, S.kind, rfl, rfl, Nat.le_refl _, fun x y c h1 h2 => ?_, fun y hy => ?_, fun y c z h => ?_, fun _ => hd, Around.frames_deeper e0.frames, .inr ⟨rfl, rfl⟩, fun b z => absurd z (noA b), e0.bs, e0.bsz, fun b _ _ => noA b,
      fun b z => absurd z (noA b), e0.funs, e0.frf⟩,
    rfl, e0.bare, Un.kept kp, ⟨_, hns, fun i y v e1 e2 e3 => ?_⟩, fun y c e => ?_, e0.hok.fresh (Nat.le_refl _), fun y c e => ?_, fun q hq => absurd (show q ∈ ([] : List (Addr × Obj)) ++ [] from hq) (by simp), e0.hok.kept kp, ?_⟩
  · rcases lookG_cases h1 with q1 | q1 <;> rcases lookG_cases h2 with q2 | q2
    · exact name_of_addr ap q1 q2
    · exact absurd (ow _ _ q1).2 (Nat.not_lt.mpr (Nat.le_of_lt (clt q2)))
    · exact absurd (ow _ _ q2).2 (Nat.not_lt.mpr (Nat.le_of_lt (clt q1)))
    · exact C.inj x y c q1 q2
  · have hy : F.scope.names.lookup y = some .cell ∨ F.scope.names.lookup y = some .free := hy
    rcases hy with hy | hy
    · obtain ⟨c, hc⟩ := cell_has (n := s.heap.objs.size + 1) hy
      exact ⟨c, lookG_own hc⟩
    · have hm := S.free _ (PySem.mem_of_lookup hy) rfl
      obtain ⟨i, hi⟩ := List.mem_iff_getElem?.mp hm
      obtain ⟨c, hc, _⟩ := C.has i y hi
      exact ⟨c, lookG_free S hm hc⟩
  · rcases lookG_cases h with q | q
    · exact Nat.le_of_lt (ow _ _ q).2
    · have z : ownN F.scope y = true := z
      unfold ownN at z
      cases e : F.scope.names.lookup y with
      | none => rw [e] at z; cases z
      | some k =>
        rw [e] at z
        cases k <;> try cases z
        obtain ⟨c', hc⟩ := cell_has (n := s.heap.objs.size + 1) e
        have h' : (cellsFrom (s.heap.objs.size + 1) F.scope.names F.cl).lookup y = some c := h
        rw [lookG_own hc] at h'
        cases h'
        exact Nat.le_of_lt (ow _ _ (PySem.mem_of_lookup hc)).2
  · have e1 : N[i]? = some y := e1
    have clen := C.len
    unfold startF at e2
    by_cases h1 : i < ps.length
    · have hq : (ps ++ fr)[i]? = some y := by
        rw [← S.pre, List.getElem?_take_of_lt (by omega)]
        exact e1
      rw [List.getElem?_append_left h1] at hq
      rw [List.getElem?_append_left (by rw [List.length_map]; omega), List.getElem?_map] at e2
      have ha : vs[i]? = some v := by
        cases e : vs[i]? with
        | none => rw [e] at e2; cases e2
        | some a => rw [e] at e2; cases e2; rfl
      obtain ⟨u, hu, rv⟩ := r.get ha
      have ndP : ps.Nodup := by
        have q := S.nd.sublist (List.take_sublist (ps.length + fr.length) N)
        rw [S.pre] at q
        exact (List.nodup_append.mp q).1
      exact ⟨u, rv, .inl ⟨S.par y (List.mem_of_getElem? hq), zip_look ndP hq hu⟩⟩
    · rw [List.getElem?_append_right (by rw [List.length_map]; omega), List.length_map] at e2
      by_cases h2 : i < ps.length + fr.length
      · have hq : (ps ++ fr)[i]? = some y := by
          rw [← S.pre, List.getElem?_take_of_lt (by omega)]
          exact e1
        rw [List.getElem?_append_right (by omega)] at hq
        rw [List.getElem?_append_left (by omega), hl] at e2
        obtain ⟨c, hc, hv⟩ := C.has (i - ps.length) y hq
        obtain ⟨u, ru, hu⟩ := hv v e2
        exact ⟨u, ru, .inr ⟨.inr (S.frk y (List.mem_of_getElem? hq)), c, lookG_free S (List.mem_of_getElem? hq) hc, cellK hu⟩⟩
      · rw [List.getElem?_append_right (by omega), List.getElem?_replicate] at e2
        split at e2 <;> cases e2
  · rcases lookG_cases e with q | q
    · exact ⟨_, (ow _ _ q).1⟩
    · obtain ⟨v, z⟩ := (C.all y c q).2
      exact ⟨v, cellK z⟩
  · rcases lookG_cases e with q | q
    · exact e0.hok.fresh (Nat.le_of_lt (ow _ _ q).2)
    · exact (C.all y c q).1
  · have clen := C.len
    unfold startF
    show _ = N.length
    rw [List.length_append, List.length_append, List.length_map, List.length_replicate]
    omega
end DL
set_option Elab.async false
set_option linter.all false
set_option maxRecDepth 100000
set_option maxHeartbeats 1000000
namespace DL
open PySem PySem.Spec PyProof.Rows L2
/-! ### tuples, frozen data stay -/
structure Less (H H' : Hp) : Prop where
  t : ∀ a xs, H a = some (.tup xs) → H' a = some (.tup xs)
  f : ∀ a o u, H a = some (.frz o u) → (∀ φ, u ≠ .ext φ) → H' a = some (.frz o u)
section
variable {K : PySem.W.Frag} {H H' : Hp}
theorem Less.sqT {a : Addr} {xs : List V} (e : Less H H') (h : SqT K H a xs) : SqT K H' a xs := by
  rcases h with (h | ⟨o, h⟩) | h
  · exact .inl (.inl (e.t _ _ h))
  · exact .inl (.inr ⟨o, e.f _ _ _ h (fun _ z => by cases z)⟩)
  · exact .inr h
theorem Less.sqF {a : Addr} {xs : List V} (e : Less H H') (h : SqF K H a xs) : SqF K H' a xs := h.elim (fun ⟨o, q⟩ => .inl ⟨o, e.f _ _ _ q (fun _ z => by cases z)⟩) .inr
mutual
theorem Rp.less (e : Less H H') : ∀ {d : D} {v : V}, Rp K H d v → Rp K H' d v
  | .non, _, h => h
  | .bl _, _, h => h
  | .int _, _, h => h
  | .str _, _, h => h
  | .ref _, _, h => h
  | .ty _, _, h => h
  | .tup _, _, ⟨a, vs, h1, h2, h3⟩ => ⟨a, vs, h1, e.sqT h2, RpA.less e h3⟩
  | .lst _, _, ⟨a, vs, h1, h2, h3⟩ => ⟨a, vs, h1, e.sqF h2, RpA.less e h3⟩
  | .dic _, _, ⟨a, o, vs, h1, h2, h3⟩ => ⟨a, o, vs, h1, e.f _ _ _ h2 (fun _ z => by cases z), RpK.less e h3⟩
theorem RpA.less (e : Less H H') : ∀ {ds : List D} {vs : List V}, RpA K H ds vs → RpA K H' ds vs
  | [], _, h => h
  | _ :: _, _, ⟨v, ws, h1, h2, h3⟩ => ⟨v, ws, h1, Rp.less e h2, RpA.less e h3⟩
theorem RpK.less (e : Less H H') : ∀ {ds : List (Key × D)} {vs : List (Key × V)}, RpK K H ds vs → RpK K H' ds vs
  | [], _, h => h
  | _ :: _, _, ⟨v, ws, h1, h2, h3⟩ => ⟨v, ws, h1, Rp.less e h2, RpK.less e h3⟩
end
end
/-- elements one by one, what has been gathered in sight; J asks only what stood at the beginning -/
theorem lc_old {i : Nat} {te : DE} {δ : DSt} {ds : List D} {S : Sto} {P : DK} (L : List Addr) (J : Nat → List D → Sto → Prop) (hz : ds.length ≤ sizeLine) (hJ : ∀ n acc S1 S2, (∀ b, S b ≠ none → S2 b = S1 b) → J n acc S1 → J n acc S2) (hL : ∀ b ∈ L, S b ≠ none) (h0 : J 0 [] S)
    (he : ∀ n d acc, ds[n]? = some d → acc.length = n → ∀ (S2 : Sto) (Q : DK), Step L S S2 → J n acc S2 → (∀ y S3, J (n + 1) (acc ++ [y]) S3 → Step L S2 S3 → Q y S3) → te ((δ.set i none).set i (some d)) S2 Q)
    (h : ∀ ys S', ys.length = ds.length → J ds.length ys S' → Step L S S' → P (.lst ys) S') : lcB (gN i) dYes te [i] δ ds S P := by
  intro p np
  have nS : ∀ b, S b ≠ none → b ≠ p := fun b hb e => hb (by rw [e]; exact np)
  refine ⟨fun j acc S' => acc.length = min j ds.length ∧ J j acc S' ∧ S' p = some (.lst acc) ∧ ∀ b, S b ≠ none → b ∉ L → S' b = S b, ⟨by simp, hJ _ _ S _ (fun b hb => sup_ne (nS b hb)) h0, sup_same, fun b hb _ => sup_ne (nS b hb)⟩, fun _ _ _ z => z.2.2.1, fun j d acc S' hd ⟨e1, e2, e3, e4⟩ => ?_, fun acc S' ⟨e1, e2, e3, e4⟩ => ?_⟩
  · have hj := (List.getElem?_eq_some_iff.mp hd).1
    show te _ S' _
    refine he j d acc hd (by omega) S' _ (fun b hb nb => e4 b hb nb) e2 fun y S3 j3 s3 => ⟨s3.at e3 (fun z => hL p z np), by omega, by rw [List.length_append, e1]; simp; omega, hJ _ _ S3 _ (fun b hb => sup_ne (nS b hb)) j3, sup_same, fun b hb nb => ?_⟩
    rw [sup_ne (nS b hb), s3 b (by rw [e4 b hb nb]; exact hb) nb, e4 b hb nb]
  · rw [Nat.min_self] at e1
    refine h acc _ e1 (hJ _ _ S' _ (fun b hb => ?_) e2) fun b hb nb => ?_
    · unfold sdel; rw [if_neg (nS b hb)]
    · unfold sdel
      rw [if_neg (nS b hb)]
      exact e4 b hb nb
end DL
set_option Elab.async false
set_option linter.all false
set_option maxRecDepth 100000
set_option maxHeartbeats 1000000
namespace DL
open PySem PySem.Spec PyProof.Rows L2

/-! ### defs that may let an error out -/
/-- the error's class, the store -/
abbrev DXK := Value → Sto → Prop
abbrev DXS := Value → DSt → Sto → Prop
def FinX (K : PySem.W.Frag) (H : Hp) (PX : DXK) (E : XK) : Prop := ∀ cls S' H', PX cls S' → SR K H' S' → Less H H' → E cls none H'
theorem Less.refl (H : Hp) : Less H H := ⟨fun _ _ h => h, fun _ _ _ h _ => h⟩
theorem Less.trans {H H1 H2 : Hp} (a : Less H H1) (b : Less H1 H2) : Less H H2 := ⟨fun p xs h => b.t _ _ (a.t _ _ h), fun p o u h n => b.f _ _ _ (a.f _ _ _ h n) n⟩
theorem Less.of {H H1 : Hp} (e : Ext H H1) : Less H H1 := ⟨fun _ _ h => e.t _ _ h, fun _ _ _ h _ => e.f _ _ _ h⟩
theorem RS.less {K : PySem.W.Frag} {H H' : Hp} {σ : L2.St} {δ : DSt} (h : RS K H σ δ) (e : Less H H') : RS K H' σ δ := ⟨h.1, fun i d q => let ⟨v, a, b⟩ := h.2 i d q; ⟨v, a, b.less e⟩⟩
abbrev DSpX := List D → Sto → DK → DXK → Prop
structure FnX (P : Program) (w : World) (K : PySem.W.Frag) (mg : Str → Option Value) (base : Heap) (k : Nat) (f : Addr) (fd : FuncData) (ps : List Str) (sp : DSpX) : Prop where
  len : ∀ ds S P' PX, sp ds S P' PX → ds.length = ps.length
  run : ∀ (A : Around) (outer : List Env) (s : Shared) (H : Hp) (args : Args) (us : List Value) (vs : List V) (Q : VK) (E : XK), Room k A → A.guards = some [] → Env0 P w K mg base A outer s H → BindsTo s fd args (ps.zip us) → Vals vs us →
    (∃ ds S P' PX, RpA K H ds vs ∧ SR K H S ∧ sp ds S P' PX ∧ Fin K H P' Q ∧ FinX K H PX E) → codeAny (model P w) A (.call (.ref f) args) (CR (L2.CX P w) outer P w H s Q E) s
theorem FnX.mono {P : Program} {w : World} {K : PySem.W.Frag} {mg : Str → Option Value} {base : Heap} {j k : Nat} {f : Addr} {fd : FuncData} {ps : List Str} {sp : DSpX} (F : FnX P w K mg base j f fd ps sp) (h : j ≤ k) : FnX P w K mg base k f fd ps sp :=
  ⟨F.len, fun A outer s H args us vs Q E hr => F.run A outer s H args us vs Q E (hr.mono h)⟩
def HasX (P : Program) (w : World) (K : PySem.W.Frag) (mg : Str → Option Value) (base : Heap) (k : Nat) (x : Str) (ps : List Str) (sp : DSpX) : Prop := ∃ f fd, FnX P w K mg base k f fd ps sp ∧ Binds K fd ps [] ∧ PySem.W.keepIn K (.ref f) = true ∧ mg x = some (.ref f)
theorem HasX.mono {P : Program} {w : World} {K : PySem.W.Frag} {mg : Str → Option Value} {base : Heap} {j k : Nat} {x : Str} {ps : List Str} {sp : DSpX} (h : HasX P w K mg base j x ps sp) (l : j ≤ k) : HasX P w K mg base k x ps sp := let ⟨f, fd, a, b⟩ := h; ⟨f, fd, a.mono l, b⟩
/-- what an error may do here: with the slots as they are -/
def TakesD (X : Cx) (PX : DXS) : Prop := ∃ W, Takes X W ∧ ∀ cls σ H δ S, PX cls δ S → RS X.K H σ δ → SR X.K H S → Less X.H_0 H → W cls none σ H
theorem TakesD.imp {X : Cx} {PX PX' : DXS} (t : TakesD X PX) (h : ∀ c δ S, PX' c δ S → PX c δ S) : TakesD X PX' := let ⟨W, a, b⟩ := t; ⟨W, a, fun cls σ H δ S p => b cls σ H δ S (h _ _ _ p)⟩
section
variable {X : Cx} {pins : List (Addr × Obj)} {σ : L2.St} {H : Hp} {s : Shared} {x : Str} {p pos : Pos} {e : Expr} {es : List Expr} {t : DA} {k : Nat} {ps : List Str} {sp : DSpX} {PX : DXS}
theorem base_less (I : L2.Inv X pins σ H s) : Less X.H_0 H := ⟨I.base.tups, fun a o u h _ => I.base.frzs a o u h⟩
def dCBX (PX : DXS) (sp : DSpX) (t : DA) : DE := fun δ S P => t δ S fun ds S1 => sp ds S1 P fun cls S2 => PX cls δ S2
theorem q_defX (G : HasX X.prog X.w X.K X.mg X.base k x ps sp) (tk : TakesD X PX) (hr : Room k X.A) (hgd : X.A.guards = some []) (ha : QA X (e :: es) t) (hg : Gl X x := by rfl) (hdb : (x == ("__debug__" : Str)) = false := by decide)
    (he : starEach (e :: es) X.env = (false, eval e X.env) :: starEach es X.env := by rfl) (hpl : (backTo pos (starEach es X.env)).any (·.1) = false := by rfl) : QE X (.Call (.Name x p) (e :: es) [] pos) (dCBX PX sp t) := by
  obtain ⟨f, fd, F, hb, hk, hm⟩ := G
  obtain ⟨W, tk, hW⟩ := tk
  refine ⟨fun pins s σ H Q I ⟨δ, S, P, rs, sr, h, fin⟩ => wpAny_Call_Name_kw (ld_glob I hg hm ?_ hdb)⟩
  refine PySem.W.callWith_K (h₀ := X.base) I.ok.mod.kin hk ?_ he hpl
  refine thn (ha.run pos pins s σ H (fun vs H1 => ∃ ds S1, RpA X.K H1 ds vs ∧ SR X.K H1 S1 ∧ RS X.K H1 σ δ ∧ sp ds S1 P (fun cls S2 => PX cls δ S2) ∧ Fin X.K H1 P Q) I ⟨δ, S, _, rs, sr, h, fun ds S1 vs H1 h1 r1 s1 e1 => ⟨ds, S1, r1, s1, rs.ext e1, h1, fin.ext e1⟩⟩) fun us s1 ⟨vs, H1, I1, r, ds, S1, r1, s2, rs1, q, fin1⟩ => ⟨I1.kIn, ?_⟩
  have hl : us.length = ps.length := by rw [← r.length, r1.length]; exact F.len _ _ _ _ q
  have hb' : BindsTo s1 fd ⟨us, []⟩ (ps.zip us) := by have z := hb s1 us I1.kIn (by simpa using hl); rw [List.append_nil] at z; exact z
  have fx : FinX X.K H1 (fun cls S2 => PX cls δ S2) (WE W σ) := fun cls S' H' q' sr' le => hW cls σ H' δ S' q' (rs1.less le) sr' ((base_less I1).trans le)
  refine wpAny_call (codeAny_mono (F.run X.A X.stack s1 H1 ⟨us, []⟩ us vs Q (WE W σ) hr hgd I1.env0 hb' r ⟨ds, S1, P, _, r1, s2, q, fin1, fx⟩) fun r s' hq => ?_)
  cases r with
  | error e => exact passAt tk σ pins H1 s1 e s' I1 hq
  | ok fl => cases fl with
    | ret u => exact I1.after hq
    | _ => exact False.elim hq
/-- an own class of errors, without a making of its own -/
structure ErrC (K : PySem.W.Frag) (mg : Str → Option Value) (x : Str) (C : Addr) : Prop where
  made : ∃ (B newId initId : String) (bmB : List Value), ExcBaseFacts B newId initId bmB ∧ PySem.W.excIn K C bmB newId = true
  gC : mg x = some (.ref C)
  kC : PySem.W.keepIn K (.ref C) = true
  sub : PySem.W.subIn K (.ref C) (.type "BaseException") = some true
  ty : PySem.W.typeIn K (.ref C) = some (.type "type")
def dRaise (PX : DXS) (C : Addr) : DS := fun _ δ S => PX (.ref C) δ S
theorem s_raise {m : Str} {j : Nat} {p2 rpos : Pos} {C : Addr} (T : ErrC X.K X.mg x C) (tk : TakesD X PX) (hc : X.calm = true) (hg : Gl X x := by rfl) (hdb : (x == ("__debug__" : Str)) = false := by decide) :
    QS X (.Raise (some (.Call (.Name x p) [.Constant (.str m) j p2] [] pos)) none rpos) (dRaise PX C) := by
  obtain ⟨⟨B, newId, initId, bmB, F, q⟩, gC, kC, h1, h2⟩ := T
  obtain ⟨W, tk, hW⟩ := tk
  refine ⟨fun pins s σ H D I ⟨δ, S, E, rs, sr, h, fin⟩ => ?_⟩
  exact (ps_raise hc tk (pmk_own (j := j) (p2 := p2) F q gC kC (raises_own h1 h2) hg hdb)).run pins s σ H D I (hW _ σ H δ S h rs sr (base_less I))
end
section
variable {P : Program} {w : World} {K : PySem.W.Frag} {mg : Str → Option Value} {base : Heap}
theorem okX {x qual : Str} {st : Stmt} {f : Addr} {fd : FuncData} {N ps : List Str} {k : Nat} {sp : DSpX} (F : Fun K x qual st f fd) (S : FnScope N ps (defScope st)) (len : ∀ ds S P PX, sp ds S P PX → ds.length = ps.length)
    (hbody : ∀ (cdv : Value) (A : Around) (outer : List Env) (s : Shared) (H : Hp) (E : XK) (PX : DXK), Room k (A.deeper (envOfC qual (defScope st) s.heap.objs.size f cdv)) → A.guards = some [] →
      TakesD (cxOf (L2.CX P w) P w K mg base N qual (defScope st) f cdv A outer s H E) (fun cls _ S' => PX cls S') →
      ∃ t, QSs (cxOf (L2.CX P w) P w K mg base N qual (defScope st) f cdv A outer s H E) (defBody st) t ∧ ∀ ds S' P', sp ds S' P' PX → t { nx := fun _ S2 => P' .non S2, rt := P' } (dstart N ds) S') : FnX P w K mg base (k + 1) f fd ps sp := by
  obtain ⟨oc, od, kV, doc, pm, an, cdv, ct, osl, rfl, lk, hcd⟩ := F.ex
  refine ⟨len, fun A outer s H args us vs Q E hr hgd e0 hb r ⟨ds, S', P', PX, rp, sr, hsp, fin, finx⟩ => ?_⟩
  have hl : vs.length = ps.length := by rw [rp.length]; exact len _ _ _ _ hsp
  have KX : K.In s.heap := e0.mod.kin.keeps fun b o e => (e0.bs b o e).1
  refine codeAny_call_function hr.depth (KX _ _ lk) rfl S.co S.gen rfl (PySem.W.codeRec_of KX hcd) (hb _ _ _ _ ?_)
  refine wpAny_newFunctionEnv_cells S.kind (fun ⟨n, v⟩ hy => ?_) fun env he s1 x => ?_
  · rcases S.par n (List.of_mem_zip hy).1 with q | q
    · exact Or.inl q
    · exact Or.inr ⟨q, PySem.W.cellsFrom_some _ _ _ (Or.inl q)⟩
  subst he
  refine ⟨(e0.mod.nolimit.keeps fun b o e => (e0.bs b o e).1).keeps x.toInCall.keep, codeAny_func ?_⟩
  have tk : TakesD (cxOf (L2.CX P w) P w K mg base N qual (defScope st) f cdv A outer s H E) (fun cls _ S' => PX cls S') :=
    ⟨fun cls d _ H' => E cls d H', takes_of rfl rfl rfl rfl, fun cls σ H' δ S2 p _ sr2 le => finx cls S2 H' p sr2 le⟩
  obtain ⟨t, ht, hq⟩ := hbody cdv A outer s H E PX (hr.deeper _) hgd tk
  have I := inv_start (CX := L2.CX P w) (E := E) S hr.hd e0 hl r x
  refine wpAny_mono (ht.run [] s1 (start N vs) H { nx := fun _ H' => Q .non H', rt := Q } I ⟨dstart N ds, S', _, RS.start rp, sr, hq ds S' P' hsp, ⟨fun δ S2 σ H2 p rs sr e => fin _ S2 _ H2 p rfl sr e, fin, fun _ _ _ _ p => p.elim, fun _ _ _ _ p => p.elim⟩⟩) (fun fl s' hs => ?_) fun e s' hs => hs
  cases fl with
  | ret u => obtain ⟨v, σ', H', J, rv, q⟩ := hs; exact ⟨v, H', J.os, J.bare, J.base, J.hok, rv, q⟩
  | next => obtain ⟨σ', H', J, q⟩ := hs; exact ⟨.non, H', J.os, J.bare, J.base, J.hok, rfl, q⟩
  | brk => obtain ⟨_, _, _, q⟩ := hs; exact False.elim q
  | cont => obtain ⟨_, _, _, q⟩ := hs; exact False.elim q
theorem Def.hasX {x : Str} {st : Stmt} {N ps : List Str} {k : Nat} {sp : DSpX} (D : Def K mg x st ps) (S : FnScope N ps (defScope st)) (len : ∀ ds S P PX, sp ds S P PX → ds.length = ps.length)
    (hbody : ∀ (f : Addr) (cdv : Value) (A : Around) (outer : List Env) (s : Shared) (H : Hp) (E : XK) (PX : DXK), Room k (A.deeper (envOfC x (defScope st) s.heap.objs.size f cdv)) → A.guards = some [] →
      TakesD (cxOf (L2.CX P w) P w K mg base N x (defScope st) f cdv A outer s H E) (fun cls _ S' => PX cls S') →
      ∃ t, QSs (cxOf (L2.CX P w) P w K mg base N x (defScope st) f cdv A outer s H E) (defBody st) t ∧ ∀ ds S' P', sp ds S' P' PX → t { nx := fun _ S2 => P' .non S2, rt := P' } (dstart N ds) S') : HasX P w K mg base (k + 1) x ps sp := by
  obtain ⟨f, fd, F, b, m⟩ := D
  exact ⟨f, fd, okX F S len (hbody f), b, F.kp, m⟩
end
end DL
set_option Elab.async false
set_option linter.all false
set_option maxRecDepth 100000
set_option maxHeartbeats 1000000
namespace DL
open PySem PySem.Spec PyProof.Rows L2

/-! ### try, whose first clause (as a name) takes what comes -/
section
variable {X : Cx} {pins : List (Addr × Obj)} {σ : L2.St} {H : Hp} {s : Shared} {xn nm : Str} {cv : Value} {j C : Addr} {bd sui : List Stmt} {st1 : Stmt} {more : List ExceptHandler} {q1 q2 q3 : Pos} {sl : Nat}
/-- the slot goes behind the clause -/
def bare (sl : Nat) (D : Ends) : Ends := { nx := fun τ H1 => D.nx (τ.set sl none) H1, rt := D.rt, bk := fun τ H1 => D.bk (τ.set sl none) H1, ct := fun τ H1 => D.ct (τ.set sl none) H1 }
theorem try_run {D : Ends} {ts : Addr → TS} {W : WX} (I : L2.Inv X pins σ H s) (stk : X.stack = X.env :: X.outer) (frm : X.env.frame = some X.env.locals) (nod : X.N.Nodup) (ix : X.N[sl]? = some nm) (own : X.env.kindOf nm = some .local) (nmd : Names X xn cv)
    (fits : PySem.W.exmOne X.K (.ref C) cv = some true) (hW : ∀ cls d τ H1, W cls d τ H1 → cls = .ref C ∧ d = none ∧ ∀ a, H1 a = none → ts a (bare sl D) (τ.set sl (some (.ref a))) H1)
    (hbd : ∀ (xe : Value → Shared → Prop), Takes (X.tr (X.pn ++ pins) xe) W → PassesOwn (model X.prog X.w) X.A X.env xe → wpAny (model X.prog X.w) X.A (execs bd X.env) (SP (X.tr (X.pn ++ pins) xe) [] D) xe s)
    (hsu : ∀ (a : Addr) (ob : Obj) (pn : List (Addr × Obj)), Zc (.ref C) none ob → (∃ fs, ob.data = .fields fs) → L2.PSs (X.suite a ((a, ob) :: pn)) (st1 :: sui) (ts a)) :
    wpAny (model X.prog X.w) X.A (exec (.Try bd (.ExceptHandler (some (.Name xn q1)) (some nm) (st1 :: sui) q2 :: more) [] [] q3) X.env) (SP X pins D) X.xe s := by
  have good := I.ok
  have frames : X.A.frames = some (X.env :: X.outer) := stk ▸ good.frames
  apply wpAny_Try_except
  have body := hbd (fun err sa => wpAny (model X.prog X.w) X.A (noteFrame err X.env) (fun _ sb => wpAny (model X.prog X.w) X.A (setFlight err none)
    (fun _ sc => wpAny (model X.prog X.w) X.A (handleBy err X.env (.ExceptHandler (some (.Name xn q1)) (some nm) (st1 :: sui) q2 :: more)) (SP X pins D) X.xe sc) X.xe sb) X.xe sa) ?taken PassesOwn.looking
  case taken =>
    intro err sa up0
    obtain ⟨a, gr, si, pn2, τ, H1, cls, dd, eq, Jt, ground, ups, high, fresh, hos, hbare, wish⟩ := up0
    subst eq
    obtain ⟨ec, ed, todo⟩ := hW _ _ _ _ wish
    subst ec
    subst ed
    have J := Jt.ofTry good
    change wpAny (model X.prog X.w) X.A (noteFrame (.ref a) X.env) _ _ _
    apply Sky.land Zc.steady frames frm (stk ▸ high)
    intro h3 flying ups3
    have J3 : L2.Inv X pins τ H1 { sa with heap := h3 } := J.landed ground flying.1 (ups.trans ups3) hos hbare
    obtain ⟨ob3, fs3, at3, zc3, data3⟩ := flying.there
    have apart : a ∉ frs (X.env :: X.outer) := fun mem => by
      obtain ⟨_, ob, got, notRec⟩ := flying.2.2.1.mem mem
      rw [at3] at got
      exact notRec _ (by rw [← Option.some.inj got]; exact data3)
    have notL : a ≠ X.env.locals := fun e => apart (List.mem_filterMap.mpr ⟨_, List.mem_cons_self, by rw [e]; exact frm⟩)
    have notF : a ∉ X.fs := fun mem => by
      obtain ⟨en, hen, got⟩ := List.mem_filterMap.mp mem
      exact apart (List.mem_filterMap.mpr ⟨en, List.mem_cons_of_mem _ hen, got⟩)
    have S3 := J3.suite at3 data3 fresh notL notF
    apply wpAny_handleBy_cons _ (fun e => by cases e)
    apply codeAny_handlers_test
    have types : PySem.W.Looks (model X.prog X.w) h3 (typeOf (.ref a)) (.ref C) := fun A1 Q1 E1 s1 keep got => wpAny_typeOf_ref (keep _ _ at3) (zc3.1.symm ▸ got)
    have match1 := PySem.W.exm_one (M := model X.prog X.w) J3.kIn types fits
    have named : ∀ {Q1 : Value → Shared → Prop} {E1 : Value → Shared → Prop}, Q1 cv { sa with heap := h3 } → wpAny (model X.prog X.w) (X.A.mark (some (.ref a))) (eval (.Name xn q1) X.env) Q1 E1 { sa with heap := h3 } := by
      intro Q1 E1 got
      obtain ⟨gl, nodbg, own1 | ⟨no1, blt1, nname⟩⟩ := nmd
      · exact ld_glob (X := X.suite a ((a, ob3) :: (X.pn ++ pins))) S3 gl own1 got nodbg
      · exact ld_blt (X := X.suite a ((a, ob3) :: (X.pn ++ pins))) S3 gl no1 blt1 got nname nodbg
    apply named
    apply match1.here
    apply codeAny_handlers_suite_as
    apply HandSPX.lands_againZ flying
    intro h4 flying4 ups4
    have J4 : L2.Inv X pins τ H1 { sa with heap := h4 } := J.landed ground flying4.1 ((ups.trans ups3).trans ups4) hos hbare
    obtain ⟨ob4, fs4, at4, zc4, data4⟩ := flying4.there
    have S4 := J4.suite at4 data4 fresh notL notF
    apply store_ok (X := X.suite a ((a, ob4) :: (X.pn ++ pins))) (v := .ref a) S4 nod ix (.inl own) rfl _ (.inr own)
    intro s5 S5
    refine wpAny_mono ((hsu a ob4 (X.pn ++ pins) zc4 ⟨_, data4⟩).run [] s5 _ H1 _ S5 (todo a fresh)) (fun fl s6 out => ?_) (fun _ _ no => no.elim)
    have close : ∀ {τ6 : L2.St} {H6 : Hp} {Q1 : Shared → Prop}, L2.Inv (X.suite a ((a, ob4) :: (X.pn ++ pins))) [] τ6 H6 s6 → (∀ s7, L2.Inv X pins (τ6.set sl none) H6 s7 → Q1 s7) → wpAny (model X.prog X.w) X.A (do bindName X.env nm .none; unbindBehindTheSuite X.env nm q2) (fun _ s7 => Q1 s7) X.xe s6 :=
      fun S6 got => gone_ok (S6.unsuite good) nod ix own got
    match fl, out with
    | .next, ⟨τ6, H6, S6, r6⟩ => exact close S6 fun s7 J7 => ⟨_, _, J7, r6⟩
    | .brk, ⟨τ6, H6, S6, r6⟩ => exact close S6 fun s7 J7 => ⟨_, _, J7, r6⟩
    | .cont, ⟨τ6, H6, S6, r6⟩ => exact close S6 fun s7 J7 => ⟨_, _, J7, r6⟩
    | .ret u, ⟨v6, τ6, H6, S6, rel6, r6⟩ => exact close S6 fun s7 J7 => ⟨_, _, _, J7, rel6, r6⟩
  refine wpAny_mono body (fun fl s1 out => ?_) (fun _ _ got => got)
  match fl, out with
  | .next, ⟨τ, H1, J, r⟩ => exact wpAny_execs_nil ⟨τ, H1, J.ofTry good, r⟩
  | .brk, ⟨τ, H1, J, r⟩ => exact ⟨τ, H1, J.ofTry good, r⟩
  | .cont, ⟨τ, H1, J, r⟩ => exact ⟨τ, H1, J.ofTry good, r⟩
  | .ret u, ⟨v, τ, H1, J, rel, r⟩ => exact ⟨v, τ, H1, J.ofTry good, rel, r⟩
end
end DL
set_option Elab.async false
set_option linter.all false
set_option maxRecDepth 100000
set_option maxHeartbeats 1000000
namespace DL
open PySem PySem.Spec PyProof.Rows L2

/-! ### errors, once a token is out -/
structure FnPX (P : Program) (w : World) (K : PySem.W.Frag) (mg : Str → Option Value) (base : Heap) (k : Nat) (f : Addr) (fd : FuncData) (ps : List Str) (sp : DSpX) : Prop where
  len : ∀ ds S P' PX, sp ds S P' PX → ds.length = ps.length
  run : ∀ (A : Around) (outer : List Env) (s : Shared) (H : Hp) (args : Args) (us : List Value) (vs : List V) (Q : VK) (E : XK), 1 ≤ s.toks → Room k A → A.guards = some [] → Env0 P w K mg base A outer s H → BindsTo s fd args (ps.zip us) → Vals vs us →
    (∃ ds S P' PX, RpA K H ds vs ∧ SR K H S ∧ sp ds S P' PX ∧ Fin K H P' Q ∧ FinX K H PX E) → codeAny (model P w) A (.call (.ref f) args) (CR (L2.CX P w) outer P w H s Q E) s
def HasPX (P : Program) (w : World) (K : PySem.W.Frag) (mg : Str → Option Value) (base : Heap) (k : Nat) (x : Str) (ps : List Str) (sp : DSpX) : Prop := ∃ f fd, FnPX P w K mg base k f fd ps sp ∧ Binds K fd ps [] ∧ PySem.W.keepIn K (.ref f) = true ∧ mg x = some (.ref f)
section
variable {P : Program} {w : World} {K : PySem.W.Frag} {mg : Str → Option Value} {base : Heap}
theorem HasPX.mono {j k : Nat} {x : Str} {ps : List Str} {sp : DSpX} (h : HasPX P w K mg base j x ps sp) (l : j ≤ k) : HasPX P w K mg base k x ps sp :=
  let ⟨f, fd, F, a⟩ := h; ⟨f, fd, ⟨F.len, fun A outer s H args us vs Q E h0 hr => F.run A outer s H args us vs Q E h0 (hr.mono l)⟩, a⟩
theorem okPX {x qual : Str} {st : Stmt} {f : Addr} {fd : FuncData} {N ps : List Str} {k : Nat} {sp : DSpX} (F : Fun K x qual st f fd) (S : FnScope N ps (defScope st)) (len : ∀ ds S P PX, sp ds S P PX → ds.length = ps.length)
    (hbody : ∀ (cdv : Value) (A : Around) (outer : List Env) (s : Shared) (H : Hp) (E : XK) (PX : DXK), Room k (A.deeper (envOfC qual (defScope st) s.heap.objs.size f cdv)) → A.guards = some [] →
      TakesD (cxOf (L2.CX P w) P w K mg base N qual (defScope st) f cdv A outer s H E) (fun cls _ S' => PX cls S') →
      ∃ t, KSs' (cxOf (L2.CX P w) P w K mg base N qual (defScope st) f cdv A outer s H E) (defBody st) t ∧ ∀ ds S' P', sp ds S' P' PX → t { nx := fun _ S2 => P' .non S2, rt := P' } (dstart N ds) S') : FnPX P w K mg base (k + 1) f fd ps sp := by
  obtain ⟨oc, od, kV, doc, pm, an, cdv, ct, osl, rfl, lk, hcd⟩ := F.ex
  refine ⟨len, fun A outer s H args us vs Q E h0 hr hgd e0 hb r ⟨ds, S', P', PX, rp, sr, hsp, fin, finx⟩ => ?_⟩
  have hl : vs.length = ps.length := rp.length.trans (len _ _ _ _ hsp)
  have KX : K.In s.heap := e0.mod.kin.keeps fun b o e => (e0.bs b o e).1
  refine codeAny_call_function hr.depth (KX _ _ lk) rfl S.co S.gen rfl (PySem.W.codeRec_of KX hcd) (hb _ _ _ _ (PySem.wpAny_with_toks (n := 1) h0 ?_))
  refine wpAny_newFunctionEnv_cells S.kind (fun ⟨n, v⟩ hy => (S.par n (List.of_mem_zip hy).1).elim .inl fun q => .inr ⟨q, PySem.W.cellsFrom_some _ _ _ (.inl q)⟩) fun env he s1 x hk => ?_
  subst he
  refine ⟨(e0.mod.nolimit.keeps fun b o e => (e0.bs b o e).1).keeps x.toInCall.keep, codeAny_func ?_⟩
  have tk : TakesD (cxOf (L2.CX P w) P w K mg base N qual (defScope st) f cdv A outer s H E) (fun cls _ S' => PX cls S') :=
    ⟨fun cls d _ H' => E cls d H', takes_of rfl rfl rfl rfl, fun cls σ H' δ S2 p _ sr2 le => finx cls S2 H' p sr2 le⟩
  obtain ⟨t, ht, hq⟩ := hbody cdv A outer s H E PX (hr.deeper _) hgd tk
  have I := inv_start (CX := L2.CX P w) (E := E) S hr.hd e0 hl r x
  refine wpAny_mono (ht [] s1 (start N vs) H { nx := fun _ H' => Q .non H', rt := Q } hk I ⟨dstart N ds, S', _, RS.start rp, sr, hq ds S' P' hsp, ⟨fun δ S2 σ H2 p rs sr e => fin _ S2 _ H2 p rfl sr e, fin, fun _ _ _ _ p => p.elim, fun _ _ _ _ p => p.elim⟩⟩) (fun fl s' hs => ?_) fun e s' hs => hs
  cases fl with
  | ret u => obtain ⟨v, σ', H', J, rv, q⟩ := hs; exact ⟨v, H', J.os, J.bare, J.base, J.hok, rv, q⟩
  | next => obtain ⟨σ', H', J, q⟩ := hs; exact ⟨.non, H', J.os, J.bare, J.base, J.hok, rfl, q⟩
  | brk => obtain ⟨_, _, _, q⟩ := hs; exact False.elim q
  | cont => obtain ⟨_, _, _, q⟩ := hs; exact False.elim q
theorem Def.hasPX {x : Str} {st : Stmt} {N ps : List Str} {k : Nat} {sp : DSpX} (D : Def K mg x st ps) (S : FnScope N ps (defScope st)) (len : ∀ ds S P PX, sp ds S P PX → ds.length = ps.length)
    (hbody : ∀ (f : Addr) (cdv : Value) (A : Around) (outer : List Env) (s : Shared) (H : Hp) (E : XK) (PX : DXK), Room k (A.deeper (envOfC x (defScope st) s.heap.objs.size f cdv)) → A.guards = some [] →
      TakesD (cxOf (L2.CX P w) P w K mg base N x (defScope st) f cdv A outer s H E) (fun cls _ S' => PX cls S') →
      ∃ t, KSs' (cxOf (L2.CX P w) P w K mg base N x (defScope st) f cdv A outer s H E) (defBody st) t ∧ ∀ ds S' P', sp ds S' P' PX → t { nx := fun _ S2 => P' .non S2, rt := P' } (dstart N ds) S') : HasPX P w K mg base (k + 1) x ps sp := by
  obtain ⟨f, fd, F, b, m⟩ := D
  exact ⟨f, fd, okPX F S len (hbody f), b, F.kp, m⟩
/-- a def that may let an error out, handed about -/
def HasAtX (P : Program) (w : World) (K : PySem.W.Frag) (mg : Str → Option Value) (base : Heap) (k : Nat) (f : Addr) (ps : List Str) (sp : DSpX) : Prop := ∃ fd, FnX P w K mg base k f fd ps sp ∧ Binds K fd ps [] ∧ PySem.W.keepIn K (.ref f) = true
theorem HasAtX.mono {j k : Nat} {f : Addr} {ps : List Str} {sp : DSpX} (h : HasAtX P w K mg base j f ps sp) (l : j ≤ k) : HasAtX P w K mg base k f ps sp := let ⟨fd, a, b⟩ := h; ⟨fd, a.mono l, b⟩
theorem HasX.split {k : Nat} {x : Str} {ps : List Str} {sp : DSpX} (h : HasX P w K mg base k x ps sp) : ∃ f, HasAtX P w K mg base k f ps sp ∧ Con K mg x (.ref f) := by
  obtain ⟨f, fd, a, b, c, m⟩ := h
  exact ⟨f, ⟨fd, a, b, c⟩, .ref f, .ref f, m, rfl, fun _ => rfl⟩
end
section
variable {X : Cx} {k i : Nat} {f : Addr} {ps : List Str} {sp : DSpX} {PX : DXS} {x : Str} {p pos : Pos} {e : Expr} {es : List Expr} {t : DA}
def dCallLX (PX : DXS) (i : Nat) (f : Addr) (sp : DSpX) (t : DA) : DE := fun δ S P => slot δ i = some (.ref f) ∧ t δ S fun ds S1 => sp ds S1 P fun cls S2 => PX cls δ S2
theorem q_callLX (i : Nat) (F : HasAtX X.prog X.w X.K X.mg X.base k f ps sp) (tk : TakesD X PX) (hr : Room k X.A) (hgd : X.A.guards = some []) (ha : QA X (e :: es) t) (hN : X.N[i]? = some x := by rfl) (hv : Vis X.env.scope x := by first | exact Or.inl rfl | exact Or.inr (Or.inl rfl) | exact Or.inr (Or.inr rfl))
    (hdb : (x == ("__debug__" : Str)) = false := by decide) (hcd : (x == ("__classdict__" : Str)) = false := by decide)
    (he : starEach (e :: es) X.env = (false, eval e X.env) :: starEach es X.env := by rfl) (hpl : (backTo pos (starEach es X.env)).any (·.1) = false := by rfl) : QE X (.Call (.Name x p) (e :: es) [] pos) (dCallLX PX i f sp t) := by
  obtain ⟨fd, F, hb, hk⟩ := F
  obtain ⟨W, tk, hW⟩ := tk
  refine ⟨fun pins s σ H Q I ⟨δ, S, P, rs, sr, ⟨hs, h⟩, fin⟩ => ?_⟩
  obtain ⟨v, hv2, r2⟩ := rs.2 i _ (slot_get hs)
  cases r2
  refine wpAny_Call_Name_kw (thn ((pe_var (pos := p) hN hv hdb hcd).run pins s σ H (fun v H1 => v = .ref f ∧ H1 = H) I ⟨.ref f, hv2, rfl, rfl⟩) fun u s0 ⟨v, H0, I0, r1, q1⟩ => ?_)
  obtain ⟨rfl, rfl⟩ := q1
  cases r1
  refine PySem.W.callWith_K (h₀ := X.base) I.ok.mod.kin hk ?_ he hpl
  refine thn (ha.run pos pins s0 σ _ (fun vs H1 => ∃ ds S1, RpA X.K H1 ds vs ∧ SR X.K H1 S1 ∧ RS X.K H1 σ δ ∧ sp ds S1 P (fun cls S2 => PX cls δ S2) ∧ Fin X.K H1 P Q) I0 ⟨δ, S, _, rs, sr, h, fun ds S1 vs H1 h1 r1 s1 e1 => ⟨ds, S1, r1, s1, rs.ext e1, h1, fin.ext e1⟩⟩) fun us s1 ⟨vs, H1, I1, r, ds, S1, r1, s2, rs1, q, fin1⟩ => ⟨I1.kIn, ?_⟩
  have hl : us.length = ps.length := by rw [← r.length, r1.length]; exact F.len _ _ _ _ q
  have hb' : BindsTo s1 fd ⟨us, []⟩ (ps.zip us) := by have z := hb s1 us I1.kIn (by simpa using hl); rw [List.append_nil] at z; exact z
  have fx : FinX X.K H1 (fun cls S2 => PX cls δ S2) (WE W σ) := fun cls S' H' q' sr' le => hW cls σ H' δ S' q' (rs1.less le) sr' ((base_less I1).trans le)
  refine wpAny_call (codeAny_mono (F.run X.A X.stack s1 H1 ⟨us, []⟩ us vs Q (WE W σ) hr hgd I1.env0 hb' r ⟨ds, S1, P, _, r1, s2, q, fin1, fx⟩) fun r s' hq => ?_)
  cases r with
  | error e => exact passAt tk σ pins H1 s1 e s' I1 hq
  | ok fl => cases fl with
    | ret u => exact I1.after hq
    | _ => exact False.elim hq
theorem k_callPX (G : HasPX X.prog X.w X.K X.mg X.base k x ps sp) (tk : TakesD X PX) (hr : Room k X.A) (hgd : X.A.guards = some []) (ha : KA' X (e :: es) t) (hg : Gl X x := by rfl) (hdb : (x == ("__debug__" : Str)) = false := by decide)
    (he : starEach (e :: es) X.env = (false, eval e X.env) :: starEach es X.env := by rfl) (hpl : (backTo pos (starEach es X.env)).any (·.1) = false := by rfl) : KE' X (.Call (.Name x p) (e :: es) [] pos) (dCBX PX sp t) := fun pins s σ H Q h0 I ⟨δ, S, P, rs, sr, h, fin⟩ => by
  obtain ⟨f, fd, F, hb, hk, hm⟩ := G
  obtain ⟨W, tk, hW⟩ := tk
  refine wpAny_Call_Name_kw (ld_glob I hg hm ?_ hdb)
  refine PySem.W.callWith_K (h₀ := X.base) I.ok.mod.kin hk ?_ he hpl
  refine wpAny_mono (PySem.wpAny_toks (ha pos pins s σ H (fun vs H1 => ∃ ds S1, RpA X.K H1 ds vs ∧ SR X.K H1 S1 ∧ RS X.K H1 σ δ ∧ sp ds S1 P (fun cls S2 => PX cls δ S2) ∧ Fin X.K H1 P Q) h0 I ⟨δ, S, _, rs, sr, h, fun ds S1 vs H1 h1 r1 s1 e1 => ⟨ds, S1, r1, s1, rs.ext e1, h1, fin.ext e1⟩⟩)) (fun us s1 q => ?_) fun _ _ z => z.2
  obtain ⟨ht, vs, H1, I1, r, ds, S1, r1, s2, rs1, q, fin1⟩ := q
  refine ⟨I1.kIn, ?_⟩
  have hl : us.length = ps.length := by rw [← r.length, r1.length]; exact F.len _ _ _ _ q
  have hb' : BindsTo s1 fd ⟨us, []⟩ (ps.zip us) := by have z := hb s1 us I1.kIn (by simpa using hl); rw [List.append_nil] at z; exact z
  have fx : FinX X.K H1 (fun cls S2 => PX cls δ S2) (WE W σ) := fun cls S' H' q' sr' le => hW cls σ H' δ S' q' (rs1.less le) sr' ((base_less I1).trans le)
  refine wpAny_call (codeAny_mono (F.run X.A X.stack s1 H1 ⟨us, []⟩ us vs Q (WE W σ) (Nat.le_trans h0 ht) hr hgd I1.env0 hb' r ⟨ds, S1, P, _, r1, s2, q, fin1, fx⟩) fun r s' hq => ?_)
  cases r with
  | error e => exact passAt tk σ pins H1 s1 e s' I1 hq
  | ok fl => cases fl with
    | ret u => exact I1.after hq
    | _ => exact False.elim hq
end
theorem k_tup {X : Cx} {es : List Expr} {n : Nat} {pos : Pos} {t : DA} (h : KA' X es t) : KE' X (.Tuple es n pos) (dTup t) := fun pins s σ H Q h0 I ⟨δ, S, P, rs, sr, q, fin⟩ => by
  refine wpAny_Tuple_spliced (thn (h pos pins s σ H (fun vs H1 => ∃ ds S1, RpA X.K H1 ds vs ∧ SR X.K H1 S1 ∧ (ds.length ≤ sizeLine ∧ P (.tup ds) S1) ∧ Fin X.K H1 P Q) h0 I ⟨δ, S, _, rs, sr, q, fun ds S1 vs H1 h1 r1 s1 e1 => ⟨ds, S1, r1, s1, h1, fin.ext e1⟩⟩) fun us s1 ⟨vs, H1, I1, rv, ds, S1, r1, sr1, ⟨z, p⟩, fin1⟩ => ?_)
  have lz : vs.length ≤ sizeLine := by rw [r1.length]; exact z
  have np : H1 s1.heap.objs.size = none := I1.hok.fresh (Nat.le_refl _)
  refine ⟨by rw [← rv.length]; exact lz, ?_⟩
  refine ⟨.ref s1.heap.objs.size, upd H1 s1.heap.objs.size (.tup vs), I1.laid (t' := s1.toks) (fun b u e => Heap.get?_push_of_some _ e) (Nat.le_refl _) ?_, rfl, fin1 _ S1 _ _ p ⟨_, vs, rfl, .of upd_same, r1.ext (.new np)⟩ (sr1.new np) (.new np)⟩
  exact ⟨lz, us, rv, _, Heap.get?_push_size _ rfl, rfl, _, rfl⟩
/-! ### equations, head first -/
section
variable {E : DEnds} {δ : DSt} {S : Sto} {P : DK} {PX : DXS} {sp : DSpX} {tA : DA} {C : Addr} {sl i : Nat} {f : Addr} {tb : DXS → DS} {ts : Addr → DS}
theorem e_cbx : dCBX PX sp tA δ S P = tA δ S fun ds S1 => sp ds S1 P fun cls S2 => PX cls δ S2 := rfl
theorem e_raise : dRaise PX C E δ S = PX (.ref C) δ S := rfl
theorem e_callLX : dCallLX PX i f sp tA δ S P = (slot δ i = some (.ref f) ∧ tA δ S fun ds S1 => sp ds S1 P fun cls S2 => PX cls δ S2) := rfl
end
end DL
set_option Elab.async false
set_option linter.all false
set_option maxRecDepth 100000
set_option maxHeartbeats 1000000
namespace DL
open PySem PySem.Spec PyProof.Rows L2

/-! ### None in a list -/
def isNoD : D → Option Bool
  | .non => some true
  | .bl _ => some false
  | .int _ => some false
  | .str _ => some false
  | .tup _ => some false
  | .lst _ => some false
  | _ => none
def isNoV : Value → Bool
  | .none => true
  | _ => false
def noneIn : List D → Option Bool
  | [] => some false
  | d :: r => match isNoD d, noneIn r with
    | some a, some b => some (a || b)
    | _, _ => none
def inN : DR := fun x y S P => match x, y with
  | .non, .lst ys => (noneIn ys).elim False fun b => P (.bl b) S
  | _, _ => False
section
variable {X : Cx} {pins : List (Addr × Obj)} {σ : L2.St} {H : Hp} {s : Shared} {A : Around}
theorem eq_no {x : D} {v : V} {u : Value} {b : Bool} (I : L2.Inv X pins σ H s) (hu : A.units < cLine) (hx : isNoD x = some b) (r : Rp X.K H x v) (ru : RelV v u) : SeqAt.EqAt A s u .none b ∧ isNoV u = b := by
  cases x with
  | non => cases r; cases ru; cases hx; exact ⟨SeqAt.EqAt.same _, rfl⟩
  | bl c => cases r; cases ru; cases hx; exact ⟨SeqAt.EqAt.bool_none _, rfl⟩
  | int i => cases r; obtain ⟨t', rfl⟩ := ru; cases hx; exact ⟨SeqAt.EqAt.int_none _ _, rfl⟩
  | str a => cases r; obtain ⟨t', rfl⟩ := ru; cases hx; exact ⟨SeqAt.EqAt.str_none _ _, rfl⟩
  | tup ds =>
    obtain ⟨a, vs, rfl, hq, _⟩ := r
    cases ru
    cases hx
    obtain ⟨its, q1, p1, _⟩ := I.tuple hq
    exact ⟨SeqAt.EqAt.tuple_none (show s.heap.IsTuple a its.toArray from p1) hu, rfl⟩
  | lst ds =>
    obtain ⟨a, vs, rfl, hq, _⟩ := r
    cases ru
    cases hx
    obtain ⟨its, q1, p1, _⟩ := I.list hq.sq
    exact ⟨SeqAt.EqAt.list_none p1.isList hu, rfl⟩
  | dic kvs => cases hx
  | ref a => cases hx
  | ty n => cases hx
theorem no_in {ys : List D} {vs : List V} {its : List Value} {b : Bool} (I : L2.Inv X pins σ H s) (hu : A.units < cLine) (h : noneIn ys = some b) (r : RpA X.K H ys vs) (q : Vals vs its) :
    (∀ y, y ∈ its → SeqAt.EqAt A s y .none (isNoV y)) ∧ its.any isNoV = b := by
  induction ys generalizing vs its b with
  | nil => cases r; cases q; cases h; exact ⟨(fun y hy => by cases hy), rfl⟩
  | cons d t ih =>
    obtain ⟨v, ws, rfl, r1, r2⟩ := r
    cases q with
    | cons q1 q2 =>
      unfold noneIn at h
      cases h1 : isNoD d with
      | none => rw [h1] at h; cases h
      | some a =>
        cases h2 : noneIn t with
        | none => rw [h1, h2] at h; cases h
        | some c =>
          rw [h1, h2] at h
          cases h
          obtain ⟨e1, e2⟩ := eq_no I hu h1 r1 q1
          obtain ⟨e3, e4⟩ := ih h2 r2 q2
          refine ⟨fun y hy => ?_, by rw [List.any_cons, e2, e4]⟩
          rcases List.mem_cons.mp hy with rfl | hy
          · rw [e2]; exact e1
          · exact e3 y hy
end
theorem op_inN {X : Cx} (hu : X.A.units + 200 < cLine) : OpD X (compareOp .In) inN := by
  intro pins s σ H x y v u Q I rx ry ⟨d, e, S, P, r1, r2, sr, h, fin⟩
  have u1 : X.A.in1.units < cLine := by rw [in1_units]; omega
  unfold inN at h
  split at h
  · rename_i ys
    obtain ⟨b, hb, q⟩ := el_of h
    have go : EP X pins σ Q (.bool b) s := ⟨.bl b, H, I, rfl, fin (.bl b) S _ H q rfl sr (.refl H)⟩
    cases r1
    cases rx
    obtain ⟨a, vs, rfl, ha, r3⟩ := r2
    cases ry
    obtain ⟨its, q1, p1, _⟩ := I.list ha.sq
    obtain ⟨e1, e2⟩ := no_in (A := X.A.in1) I u1 hb r3 q1
    refine SeqAt.in_listAt isNoV p1.isList (fun w hw => e1 w (by simpa using hw)) ?_
    rw [show its.toArray.any isNoV = its.any isNoV by simp, e2]
    exact go
  · exact h.elim
end DL
set_option Elab.async false
set_option linter.all false
set_option maxRecDepth 100000
set_option maxHeartbeats 1000000
namespace DL
open PySem PySem.Spec PyProof.Rows L2
/-! ### text[::-1] -/
def revZ (z : Str) : Str := ⟨z.cps.toList.reverse.toArray⟩
def dRevS (te : DE) : DE := fun δ S P => te δ S fun d S1 => match d with
  | .str z => z.length ≤ sizeLine ∧ P (.str (revZ z)) S1
  | _ => False
theorem picked_back (z : Str) : ((Builtin.Str.strSliceIndices none none (-1) z.length).filterMap (z.cps[·]?)).toArray = z.cps.toList.reverse.toArray := by
  congr 1
  rw [picked_rev, filterMap_get, List.map_map]
  · apply List.ext_getElem
    · simp [Str.length]
    · intro i h1 h2
      simp only [List.length_map, List.length_range] at h1
      have h1' : i < z.cps.size := h1
      simp only [Str.length, List.getElem_map, List.getElem_range, Function.comp, List.getElem_reverse, Array.getElem_toList, Array.length_toList, Array.getD]
      rw [dif_pos (by omega)]
      rfl
  · intro i hi
    obtain ⟨k, hk, rfl⟩ := List.mem_map.mp hi
    have hk' : k < z.length := List.mem_range.mp hk
    show z.length - 1 - k < z.length
    omega
section
variable {X : Cx}
theorem q_revS {e : Expr} {te : DE} {k : Nat} {p1 p2 p3 pos : Pos} (he : QE X e te) : QE X (.Subscript e (.Slice none none (some (.UnaryOp .USub (.Constant (.int 1) k p1) p2)) p3) pos) (dRevS te) := by
  refine ⟨fun pins s σ H Q I ⟨δ, S, P, rs, sr, h, fin⟩ => ?_⟩
  refine Subscript_ (thn (he.run pins s σ H (fun v H1 => ∃ z S1, v = .str z ∧ SR X.K H1 S1 ∧ Ext H H1 ∧ z.length ≤ sizeLine ∧ P (.str (revZ z)) S1) I ⟨δ, S, _, rs, sr, h, fun d S1 v H1 h1 r1 s1 e1 => by
    cases d with
    | str z => cases r1; exact ⟨z, S1, rfl, s1, e1, h1.1, h1.2⟩
    | _ => exact h1.elim⟩) fun v s1 ⟨x, H1, I1, r1, z, S1, rd, sr1, e1, hz, hd⟩ => ?_)
  subst rd
  have hst : L2.PO X (some (.UnaryOp .USub (.Constant (.int 1) k p1) p2)) (tPart (tUn (rU fun i => .int (-i)) (tC (.int 1)))) := po_some (pe_un un_neg pe_int)
  refine wpAny_Slice (thn (po_none.run pins s1 σ H1 (fun o H2 => o = none ∧ H2 = H1) I1 ⟨rfl, rfl⟩) fun vl s2 ⟨l, H2, I2, pl, el, e2⟩ => ?_)
  subst el e2
  refine thn (po_none.run pins s2 σ H2 (fun o H3 => o = none ∧ H3 = H2) I2 ⟨rfl, rfl⟩) fun vu s3 ⟨u, H3, I3, pu, eu, e3⟩ => ?_
  subst eu e3
  refine thn (hst.run pins s3 σ H3 (fun o H4 => o = some (-1) ∧ H4 = H3) I3 ⟨1, rfl, -1, rfl, rfl, rfl⟩) fun vs s4 ⟨o, H4, I4, ps, eo, e4⟩ => ?_
  subst eo e4
  obtain ⟨t, rfl⟩ := r1
  have I5 : L2.Inv X pins σ H4 { s4 with heap := s4.heap.push { cls := .type "slice", data := .fields #[vl, vu, vs] } } := I4.kept (t' := s4.toks) fun b ob q => Heap.get?_push_of_some _ q
  obtain ⟨os, hos, hcs, hds⟩ := Heap.IsSliceOf.new s4.heap vl vu vs
  obtain ⟨l, e1', el⟩ := IsPart.raw pl
  obtain ⟨u, e2', eu⟩ := IsPart.raw pu
  obtain ⟨st, e3', es⟩ := IsPart.raw ps
  subst e1' e2' e3'
  show wpAny (model X.prog X.w) X.A (subscriptTail e (.Slice none none (some (.UnaryOp .USub (.Constant (.int 1) k p1) p2)) p3) (.str z t) (.ref s4.heap.objs.size)) (EP X pins σ Q) X.xe _
  refine tail_any (ops := [.str z t, .ref s4.heap.objs.size]) (typeIs_str _ _ _) (F.slot_str_getitem.lookup) ?_ (by with_unfolding_all rfl)
  refine wpAny_getItem_str_slice (l := l) (u := u) (st := st) ⟨os, hos, hcs, hds⟩ (by rw [es]; rfl) ?_
  unfold sliceMade slicePicked
  rw [el, eu, es]
  show Made.post (if ((-1 : Int) == 1 && _) = true then _ else _) (EP X pins σ Q) _
  rw [if_neg (by simp)]
  show Made.post (.str ⟨((Builtin.Str.strSliceIndices none none (-1) z.length).filterMap (z.cps[·]?)).toArray⟩) (EP X pins σ Q) _
  rw [picked_back]
  refine ⟨?_, .str _, H4, I5.tok _, ⟨_, rfl⟩, fin _ S1 _ H4 hd rfl sr1 ‹_›⟩
  show z.cps.toList.reverse.toArray.size ≤ sizeLine
  simpa [Str.length] using hz
variable {δ : DSt} {S : Sto} {P : DK}
theorem e_revS {te : DE} : dRevS te δ S P = te δ S fun d S1 => (match d with | .str z => z.length ≤ sizeLine ∧ P (.str (revZ z)) S1 | _ => False) := rfl
end
end DL
set_option Elab.async false
set_option linter.all false
set_option maxRecDepth 100000
set_option maxHeartbeats 1000000
namespace DL
open PySem PySem.Spec PyProof.Rows L2
def isND : DR := fun x y S P => y = .non ∧ P (.bl (isNon x)) S
theorem op_isND {X : Cx} : OpD X (compareOp .Is) isND := by
  intro pins s σ H x y v u Q I rx ry ⟨d, e, S, P, r1, r2, sr, ⟨ey, h⟩, fin⟩
  subst ey
  cases r2
  exact op_isN pins s σ H _ _ v u Q I rx ry ⟨rfl, fin (.bl _) S _ H (by rw [isNon_of r1]; exact h) rfl sr (.refl H)⟩
theorem isN_d {x : D} {S : Sto} {P : DK} : isND x .non S P = P (.bl (isNon x)) S := by
  unfold isND
  simp
end DL
set_option Elab.async false
set_option linter.all false
set_option maxRecDepth 100000
set_option maxHeartbeats 1000000
namespace DL
open PySem PySem.Spec PyProof.Rows L2
/-! ### a for over range(a number): its body finds a token out -/
section
variable {X : Cx} {tg iter : Expr} {pos : Pos}
abbrev PIP (X : Cx) (tg iter : Expr) (wi : TI) : Prop := ∀ (pins : List (Addr × Obj)) (s : Shared) (σ : L2.St) (H : Hp) (R : It → Hp → Prop), L2.Inv X pins σ H s → wi σ H R →
  wpAny (model X.prog X.w) X.A (eval iter X.env) (fun v s1 => 1 ≤ s1.toks ∧ wpAny (model X.prog X.w) X.A (pyIter v) (PIE X pins σ tg R) X.xe s1) X.xe s
def dRngC (c : Int) : DI := fun _ S P => big c ∧ P (iota 0 c.toNat) S
theorem ip_rng {c : Int} {j : Nat} {p cp : Pos} (hg : Gl X "range") (hm : X.mg "range" = none) (hs : starEach [.Constant (.int c) j cp] X.env = [(false, eval (.Constant (.int c) j cp) X.env)] := by rfl) :
    PIP X tg (.Call (.Name "range" p) [.Constant (.int c) j cp] [] pos) (lI X.K (dRngC c)) := fun pins s σ H R I ⟨δ, S, P, rs, sr, ⟨hb, h⟩, fin⟩ => by
  refine Call_ (ld_blt I hg hm boot_range (PyProof.Rows.callWith_type1 ?_ hs rfl))
  rw [hs]
  show wpAny _ _ (spliced [(false, eval (.Constant (.int c) j cp) X.env)]) _ _ s
  refine Calls.spliced_cons (wpAny_Constant_int (Calls.spliced_nil ?_))
  refine later (Nat.le_add_left 1 s.toks) ?_
  refine call_range_1 (range_it (I.tok (s.toks + 1)) (by omega) (by omega) hb.1 hb.2 ?_)
  rw [Int.sub_zero]
  exact fin _ S _ H h sr (.refl H) .rng
theorem for_tok {wi : TI} {g : TG} {tt : TS} {body : List Stmt} (hp : PassesOwn (model X.prog X.w) X.A X.env X.xe) (hc : X.calm = true) (hi : PIP X tg iter wi) (hg : L2.PG X tg g) (hb : L2.PSsT X body tt)
    (hs : ∀ x, foldedSetIterable iter X.env x = pure x) : L2.PS X (.For tg iter body [] pos) (tFor wi g tt) := by
  refine ⟨fun pins s σ H D I h => ?_⟩
  refine wpAny_For (thn (hi pins s σ H _ I h) fun iv sa ⟨ka, ja⟩ => thn (later ka ja) fun iw sb ⟨kb, jb⟩ => ?_) hs
  obtain ⟨it, fp, tn, J, Hb, rfl, Ib, T, stb, fb, W, ⟨m0, w0⟩, turn⟩ := jb
  have stay : ∀ {H' : Hp}, (∀ b ∈ fp, H' b = none) → ∀ b ∈ fp, FpOk X pins H' b := fun z b hb => ⟨z b hb, (fb b hb).2⟩
  refine codeAny_forLoop_any (fun n sc => 1 ≤ sc.toks ∧ ∃ i σ' H', L2.Inv X pins σ' H' sc ∧ tn i sc.heap ∧ (∀ b ∈ fp, H' b = none) ∧ W i n σ' H') ?_ m0 ⟨kb, 0, σ, Hb, Ib, stb, fun b hb => (fb b hb).1, w0⟩
  rintro n sc ⟨kc, i, σc, Hc, Ic, stc, frc, wc⟩
  rcases turn i n σc Hc wc with ⟨stop, qn⟩ | ⟨go, N, hN, step⟩
  · exact wpAny_passesOwn hp (thn (T.done X rfl rfl rfl hc i pins sc σc Hc X.xe Ic (stay frc) stc stop) fun r sd ⟨er, Id⟩ => by
      subst er
      exact wpAny_execs_nil ⟨σc, Hc, Id, qn⟩)
  · refine wpAny_passesOwn hp (thn (later kc (T.item X rfl rfl rfl hc i pins sc σc Hc X.xe Ic (stay frc) stc go)) fun r sd ⟨kd, z, er, jd⟩ => ?_)
    subst er
    refine wpAny_passesOwn hp (thn (later kd jd) fun _ se ⟨ke, x, He, Ie, re, ye, ste, fre⟩ => ?_)
    refine wpAny_passesOwn hp (thn (later ke (hg.run _ se σc He x z _ (Ie.pinned (stay fre) (T.obj _ _ ste)) re (step x He ye))) fun _ sf ⟨kf, σf, Hf, If, qf⟩ => ?_)
    refine wpAny_passesOwn hp (thn (later kf (hb _ sf σf Hf _ kf If qf)) fun f sg ⟨kg, qg⟩ => ?_)
    have more : ∀ {σg : L2.St} {Hg : Hp}, L2.Inv X (pins ++ pinsAt fp se.heap) σg Hg sg → N σg Hg → ∃ m, m < n ∧ 1 ≤ sg.toks ∧ ∃ i σ' H', L2.Inv X pins σ' H' sg ∧ tn i sg.heap ∧ (∀ b ∈ fp, H' b = none) ∧ W i m σ' H' := fun {σg Hg} Ig ng => by
      obtain ⟨mm, hm, wg⟩ := hN σg Hg ng
      refine ⟨mm, hm, kg, i + 1, σg, Hg, Ig.unpinned, T.keep _ _ _ ste fun b hb o eo => (Ig.pin (b, o) (List.mem_append_right _ (List.mem_append_right _ (mem_pinsAt hb eo)))).1, fun b hb => ?_, wg⟩
      obtain ⟨o, eo, dd⟩ := T.obj _ _ ste b hb
      exact (Ig.pin (b, o) (List.mem_append_right _ (List.mem_append_right _ (mem_pinsAt hb eo)))).2.1
    cases f with
    | next => exact let ⟨σg, Hg, Ig, ng⟩ := qg; more Ig ng
    | cont => exact let ⟨σg, Hg, Ig, ng⟩ := qg; more Ig ng
    | brk => exact let ⟨σg, Hg, Ig, ng⟩ := qg; ⟨σg, Hg, Ig.unpinned, ng⟩
    | ret _ => exact let ⟨xg, σg, Hg, Ig, rg, ng⟩ := qg; ⟨xg, σg, Hg, Ig.unpinned, rg, ng⟩
theorem s_forP {body : List Stmt} {c : Int} {j : Nat} {p cp pc : Pos} {g : DG} {tb : DS} (hp : PassesOwn (model X.prog X.w) X.A X.env X.xe) (hc : X.calm = true) (hr : X.mg "range" = none) (hg : QG X tg g) (hb : KSs' X body tb) (hgl : Gl X "range" := by rfl)
    (hst : starEach [.Constant (.int c) j cp] X.env = [(false, eval (.Constant (.int c) j cp) X.env)] := by rfl)
    (hs : ∀ x, foldedSetIterable (.Call (.Name "range" p) [.Constant (.int c) j cp] [] pc) X.env x = pure x := by intro _; rfl) : QS X (.For tg (.Call (.Name "range" p) [.Constant (.int c) j cp] [] pc) body [] pos) (dFor (dRngC c) g tb) :=
  PS.imp (for_tok hp hc (ip_rng hgl hr hst) hg hb hs) fun D σ H ⟨δ, S, P, rs, sr, h, fin⟩ => ⟨δ, S, _, rs, sr, h, fun ds S1 J H1 ⟨Iv, i0, turn, last⟩ s1 e1 it => walk_of fin e1 it (rs.ext e1) s1 i0 turn last⟩
variable {δ : DSt} {S : Sto} {P : List D → Sto → Prop} {c : Int}
theorem e_rngC : dRngC c δ S P = (big c ∧ P (iota 0 c.toNat) S) := rfl
end
end DL
set_option Elab.async false
set_option linter.all false
set_option maxRecDepth 100000
set_option maxHeartbeats 1000000
namespace DL
open PySem PySem.Spec PyProof.Rows L2
section
variable {X : Cx} {pos : Pos}
/-- {text: number} -/
def dDicSI (a : Str) (i : Int) : DE := fun _ S P => P (.dic [(.inr a, .int i)]) S
theorem q_dicSI {a : Str} {i : Int} {j1 j2 : Nat} {p1 p2 : Pos} : QE X (.Dict [some (.Constant (.str a) j1 p1)] [.Constant (.int i) j2 p2] pos) (dDicSI a i) :=
  PE.imp (pe_frzD (pe_disp (pps_cons pe_str pe_int pps_nil) rfl rfl (by simp) (by simp))) fun σ H Q ⟨δ, S, P, rs, sr, h, fin⟩ => fun p np => by
    have m : mergeK [] ([(.inr a, .int i)] : List (Key × V)) = [(.inr a, .int i)] := by simp [mergeK, putK]
    refine ⟨upd_same, [(.inr a, .int i)], rfl, by simp, p, _, rfl, upd_same, fun o => ?_⟩
    rw [upd_upd, upd_upd, m]
    exact fin _ S _ _ h ⟨p, o, _, rfl, upd_same, _, _, rfl, rfl, rfl⟩ (sr.new np) (.new np)
variable {δ : DSt} {S : Sto} {P : DK}
theorem e_dicSI {a : Str} {i : Int} : dDicSI a i δ S P = P (.dic [(.inr a, .int i)]) S := rfl
/-! text * number -/
def repZ (k : Nat) (z : Str) : Str := ⟨(List.replicate k z.cps.toList).flatten.toArray⟩
theorem fold_rep (x : Array Nat) : ∀ (k : Nat) (acc : Array Nat), ((List.replicate k x).foldl (· ++ ·) acc).toList = acc.toList ++ (List.replicate k x.toList).flatten
  | 0, acc => by simp
  | k + 1, acc => by
    rw [List.replicate_succ, List.foldl_cons, fold_rep x k, List.replicate_succ, List.flatten_cons, Array.toList_append, List.append_assoc]
theorem rep_fold (k : Nat) (z : Str) : (⟨(List.replicate k z.cps).foldl (· ++ ·) #[]⟩ : Str) = repZ k z := by
  unfold repZ
  congr 1
  apply Array.toList_inj.mp
  rw [fold_rep]
  simp
def mulS : DR := fun x y S P => match x, y with
  | .str z, .int k => (1 ≤ k ∧ k ≤ 1000 ∧ z.length ≤ 1000 ∧ z.length ≠ 0) ∧ P (.str (repZ k.toNat z)) S
  | _, _ => False
theorem op_mulS : OpD X (binaryOp .Mult) mulS := by
  intro pins s σ H x y v u Q I rx ry ⟨d, e, S, P, r1, r2, sr, h, fin⟩
  unfold mulS at h
  split at h
  · rename_i z k
    by_cases hk1 : k = 1
    · subst hk1
      cases r1; cases r2
      obtain ⟨t, rfl⟩ := rx
      obtain ⟨t', rfl⟩ := ry
      obtain ⟨⟨h1, h2, h3, h4⟩, q⟩ := h
      have e1 : repZ (1 : Int).toNat z = z := by
        unfold repZ
        rw [show (1 : Int).toNat = 1 from rfl]
        simp
      rw [e1] at q
      refine PySem.P.mul_str (by decide) (fun _ z => by simp at z) (fun _ z => by simp at z) ?_
      rw [if_neg (by decide), if_pos (by simp)]
      exact ⟨.str _, H, I, ⟨_, rfl⟩, fin _ S _ H q rfl sr (.refl H)⟩
    · obtain ⟨⟨h1, h2, h3, h4⟩, q⟩ := h
      rw [← rep_fold] at q
      exact op_mulD pins s σ H x y v u Q I rx ry ⟨.str z, .int k, S, P, r1, r2, sr, ⟨⟨by omega, h2, h3, h4⟩, q⟩, fin⟩
  · exact h.elim
theorem mul_si {z : Str} {k : Int} : mulS (.str z) (.int k) S P = ((1 ≤ k ∧ k ≤ 1000 ∧ z.length ≤ 1000 ∧ z.length ≠ 0) ∧ P (.str (repZ k.toNat z)) S) := rfl
end
end DL
set_option Elab.async false
set_option linter.all false
set_option maxRecDepth 100000
set_option maxHeartbeats 4000000
namespace DL
open PySem PySem.Spec PyProof.Rows L2

/-! ### len(set(texts)), any number of them -/
/-- unlike ones among the first j -/
def cntU (xs : List Str) : Nat → Nat
  | 0 => 0
  | j + 1 => bif (xs.take j).any (fun y => y == xs.getD j Str.empty) then cntU xs j else cntU xs j + 1
theorem cntU_le (xs : List Str) : ∀ j, cntU xs j ≤ j
  | 0 => Nat.le_refl _
  | j + 1 => by
    have := cntU_le xs j
    simp only [cntU]
    cases (xs.take j).any (fun y => y == xs.getD j Str.empty) <;> (simp only [cond_true, cond_false]; omega)
theorem take_more {xs : List Str} {j : Nat} (h : j < xs.length) : xs.take (j + 1) = xs.take j ++ [xs.getD j Str.empty] := by
  rw [List.take_add_one, List.getElem?_eq_getElem h, List.getD_eq_getElem?_getD, List.getElem?_eq_getElem h]
  rfl
theorem cntU_nodup (xs : List Str) : ∀ j, j ≤ xs.length → (cntU xs j = j ↔ (xs.take j).Nodup)
  | 0, _ => by simp [cntU]
  | j + 1, h => by
    have ih := cntU_nodup xs j (by omega)
    have le := cntU_le xs j
    rw [take_more (by omega), List.nodup_append]
    simp only [cntU]
    cases e : (xs.take j).any (fun y => y == xs.getD j Str.empty) with
    | true =>
      simp only [cond_true]
      constructor
      · intro q; omega
      · intro ⟨_, _, q⟩
        obtain ⟨y, hy, ey⟩ := List.any_eq_true.mp e
        exact absurd (beq_iff_eq.mp ey) (q y hy _ (by simp))
    | false =>
      simp only [cond_false]
      constructor
      · intro q
        refine ⟨ih.mp (by omega), by simp, fun a ha b hb => ?_⟩
        rw [List.mem_singleton] at hb
        subst hb
        intro eq
        have := List.any_eq_false.mp e a ha
        rw [eq] at this
        simp at this
      · intro ⟨q, _⟩
        have := ih.mpr q
        omega
theorem cntU_all (xs : List Str) : (cntU xs xs.length == xs.length) = decide xs.Nodup := by
  have := cntU_nodup xs xs.length (Nat.le_refl _)
  rw [List.take_length] at this
  rw [Bool.eq_iff_iff, beq_iff_eq, decide_eq_true_eq]
  exact this
section
variable {prog : Program} {w : World} {A : Around} {R : Result → Shared → Prop} {It : Addr} {fp wr : List Addr} {G : Array GenState → Array GenState → Prop} {n : Nat} {Pn : Nat → Value → Prop} {St : Nat → Shared → Prop}
theorem fill_set (V0 : WalksS prog w A.in1 It fp wr G n Pn St) (T0 : Addr) (nin : T0 ∉ fp) (xs : List Str) (ln : xs.length = n) (room : n + 1 < scanBound) (each : ∀ j u, Pn j u → ∃ t, u = .str (xs.getD j Str.empty) t) :
    ∀ (d j : Nat) (s0 : Shared), n - j = d → j ≤ n → St j s0 → s0.heap.SetOf (PySem.strKind prog w) T0 (fun z => (xs.take j).any (· == z)) (cntU xs j) →
      (∀ s1, Moved (T0 :: wr) G s0 s1 → s1.heap.SetOf (PySem.strKind prog w) T0 (fun z => (xs.take n).any (· == z)) (cntU xs n) → R (.ok (.ret .none)) s1) →
      codeAny (model prog w) A (.builtin "set.update.loop" ⟨[.ref T0, .ref It], []⟩) R s0 := by
  have nw : T0 ∉ wr := fun z => nin (V0.sub _ z)
  have more : ∀ b ∈ wr, b ∈ T0 :: wr := fun b q => List.mem_cons_of_mem _ q
  intro d
  induction d with
  | zero =>
    intro j s0 ed lj st0 set0 goal
    obtain rfl : j = n := by omega
    refine codeAny_builtin PyProof.Rows.F.entry_set_update_loop ?_
    rw [Around.under_plainId PyProof.Rows.F.plain_set_update_loop _]
    change wpAny _ A.in1 (pyNext (.ref It) >>= _) _ _ s0
    refine wpAny_bind (V0.done s0 _ _ st0 fun s1 mv => ?_)
    change wpAny _ A.in1 (ret Value.none) _ _ s1
    obtain ⟨ob, es0, ep0, tb0, at0, tl⟩ := set0
    exact wpAny_pure (goal s1 (mv.mono more) ⟨ob, es0, ep0, tb0, mv.heap T0 _ nw at0, tl⟩)
  | succ d ih =>
    intro j s0 ed lj st0 set0 goal
    have lt0 : j < n := by omega
    refine codeAny_builtin PyProof.Rows.F.entry_set_update_loop ?_
    rw [Around.under_plainId PyProof.Rows.F.plain_set_update_loop _]
    change wpAny _ A.in1 (pyNext (.ref It) >>= _) _ _ s0
    refine wpAny_bind (V0.item j s0 _ _ lt0 st0 fun u s1 pu st1 mv => ?_)
    obtain ⟨tk, rfl⟩ := each j u pu
    obtain ⟨ob, es0, ep0, tb0, at0, tl⟩ := set0
    have set1 : s1.heap.SetOf (PySem.strKind prog w) T0 (fun z => (xs.take j).any (· == z)) (cntU xs j) := ⟨ob, es0, ep0, tb0, mv.heap T0 _ nw at0, tl⟩
    change wpAny _ A.in1 (holding [Value.str (xs.getD j Str.empty) tk] (setAdd T0 (.str (xs.getD j Str.empty) tk)) >>= _) _ _ s1
    refine wpAny_bind (wpAny_holding ?_)
    unfold setAdd
    refine wpAny_holding (wpAny_bind ((PySem.strKind prog w).pyHash (k := xs.getD j Str.empty) (strKind_is _ _ _ _) ?_))
    have le := cntU_le xs j
    refine wpAny_setAddHashed_of (knd := PySem.strKind prog w) (s := { s1 with toks := s1.toks + 1 }) (strKind_is _ _ _ _) rfl set1 (by omega) fun h1 but set2 => ?_
    have set3 : h1.SetOf (PySem.strKind prog w) T0 (fun z => (xs.take (j + 1)).any (· == z)) (cntU xs (j + 1)) := by
      refine PyProof.Rows.SetOf_congr set2 (fun z => ?_) ?_
      · rw [take_more (by omega), List.any_append]
        congr 1
        simp only [List.any_cons, List.any_nil, Bool.or_false]
        rw [Bool.eq_iff_iff, decide_eq_true_eq, beq_iff_eq]
        exact ⟨fun e => e.symm, fun e => e.symm⟩
      · simp only [cntU]
        cases (xs.take j).any (fun y => y == xs.getD j Str.empty) <;> rfl
    refine wpAny_pure ⟨plainId_quiet PyProof.Rows.F.plain_set_update_loop _, ih (j + 1) _ (by omega) lt0 (V0.frame _ s1 _ _ st1 (Nat.le_succ _) fun b q o e => ?_) set3 fun s2 mv2 set4 => ?_⟩
    · rw [but.2 b (fun z : b = T0 => nin (by rw [← z]; exact q))]; exact e
    · refine goal s2 (Moved.trans V0.gtrans ((mv.mono more).then_heap (Nat.le_succ _) fun b o q e => ?_) mv2) set4
      rw [but.2 b (fun z : b = T0 => q (by rw [z]; exact List.mem_cons_self))]; exact e
end
section
variable {prog : Program} {w : World} {A : Around} {E : Value → Shared → Prop} {s0 : Shared}
abbrev bareSet (led : Bool) : Obj := { cls := .type "set", dict := none, data := .set #[] 0 (.fresh 0 0 led) }
theorem set_of_texts {l : Addr} {its : Array Value} {xs : List Str} {Q : Value → Shared → Prop} (hh : A.handled = none) (il : s0.heap.IsList l its) (sa : PyProof.Rows.StrsAre its.toList xs) (room : xs.length + 1 < scanBound)
    (go : ∀ (h1 : Heap) (tk : Nat), h1.SetOf (PySem.strKind prog w) s0.heap.objs.size (fun z => (xs.take its.size).any (· == z)) (cntU xs its.size) →
      (∀ b o, b < s0.heap.objs.size → s0.heap.get? b = some o → h1.get? b = some o) → Q (.ref s0.heap.objs.size) { s0 with heap := h1, toks := tk }) :
    wpAny (model prog w) A (call (.type "set") [.ref l]) Q E s0 := by
  obtain ⟨c0, t0, mro0⟩ := PySem.F.called_set.mro
  have made0 := PySem.F.called_set.made
  have sub0 := PySem.F.called_set.sub
  refine wpAny_call (codeAny_of_tree ?_)
  change wpAny _ _ (callAny (.type "set") _) _ _ _
  refine wpAny_pure ⟨Code.quiet_builtin _ (by decide +kernel), codeAny_builtin PySem.F.entry_type_call ?_⟩
  rw [Around.under_plain (weight_type_call_type "set" [.ref l] []) rfl]
  have f1 := PySem.F.called_set.notType
  have f2 := PySem.F.called_set.canCreate
  have f3 := PySem.F.typeCall_set_1 (.ref l)
  repeat (any_goals (first | assumption | wp_step))
  refine codeAny_mono (code_set_new_1 (.ref l) (E := E) (Q₁ := fun ob s1 => ∃ led : Bool, ob = .ref s0.heap.objs.size ∧ s1 = { s0 with heap := s0.heap.push (bareSet led) }) fun led => ⟨led, rfl, rfl⟩) fun r s1 got => ?_
  cases r with
  | error e => exact got
  | ok fl =>
    cases fl with
    | ret ob =>
      obtain ⟨led, rfl, rfl⟩ := got
      have at0 : (s0.heap.push (bareSet led)).get? s0.heap.objs.size = some (bareSet led) := Heap.get?_push_size _ rfl
      have ty0 : Shared.TypeIs { s0 with heap := s0.heap.push (bareSet led) } (.ref s0.heap.objs.size) "set" := ⟨_, at0, rfl⟩
      have lk0 := PySem.F.called_set.init.lookup
      have bd0 := PySem.F.called_set.init.bind (.ref s0.heap.objs.size)
      repeat (any_goals (first | assumption | wp_step))
      refine codeAny_mono (codeAny_call_builtin (R := wants (fun r s2 => r = .none ∧ ∃ h1 tk, s2 = { s0 with heap := h1, toks := tk } ∧ h1.SetOf (PySem.strKind prog w) s0.heap.objs.size (fun z => (xs.take its.size).any (· == z)) (cntU xs its.size) ∧
          (∀ b o, b < s0.heap.objs.size → s0.heap.get? b = some o → h1.get? b = some o)) E) PySem.F.called_set.init.plain PySem.F.entry_set_init (check_set_init_1 ty0 ?_)) fun r2 s2 got2 => ?_
      · obtain ⟨⟨oc, od, dt, os0⟩, ol, hcl, nl, hdl⟩ := il
        simp only at hcl hdl
        subst hcl; subst hdl
        have ol1 : (s0.heap.push (bareSet led)).get? l = some { cls := .type "list", dict := od, data := .seq its nl, slots := os0 } := Heap.get?_push_of_some _ ol
        have g1 := PySem.F.sub_list_set
        have g2 := PySem.F.sub_list_frozenset
        have g3 : (Value.type "list" == Value.type "dict") = false := by decide
        have il1 : (s0.heap.push (bareSet led)).IsList l its := ⟨_, ol1, rfl, nl, rfl⟩
        unfold Builtin.«set.__init__» noKeywords Builtin.Frozenset.updateFrom
        generalize ei : pyIter = walk
        wp_walk
        subst ei
        refine wpAny_pyIter_list il1 (wpAny_bind (wpAny_runValue ?_))
        have ll : l < s0.heap.objs.size := Heap.lt_size ol
        have h3 : A.in1.in1.in1.handled = none := by simp [hh]
        have ni : l ≠ (s0.heap.push (bareSet led)).objs.size := by rw [Heap.size_push]; exact Nat.ne_of_lt (Nat.lt_succ_of_lt ll)
        have nf : s0.heap.objs.size ∉ [(s0.heap.push (bareSet led)).objs.size, l] := by
          rw [Heap.size_push]
          intro z
          simp only [List.mem_cons, List.not_mem_nil, or_false] at z
          rcases z with z | z
          · exact absurd z (Nat.ne_of_lt (Nat.lt_succ_self _))
          · exact absurd z (Nat.ne_of_gt ll)
        have ln : xs.length = its.size := by rw [← StrsAre.len_eq sa, Array.length_toList]
        have each : ∀ (j : Nat) (u : Value), its[j]? = some u → ∃ t, u = .str (xs.getD j Str.empty) t := fun j u hu => SS.strs_at sa j u (by rw [Array.getElem?_toList]; exact hu)
        refine fill_set ((Walks.list h3 _ l ni its).toS) s0.heap.objs.size nf xs ln (by rw [← ln]; exact room) each (its.size - 0) 0 _ (by omega) (Nat.zero_le _) ⟨⟨_, Heap.get?_push_size _ rfl, rfl, rfl⟩, (il1.push _)⟩ ?first ?last
        case first =>
          have got0 : ((s0.heap.push (bareSet led)).push { cls := .type "list_iterator", data := .fields #[.ref l, .int 0 0] }).get? s0.heap.objs.size = some (bareSet led) := Heap.get?_push_of_some _ at0
          exact PyProof.Rows.SetOf_congr ((PyProof.Rows.setObjOf_fresh (knd := PySem.strKind prog w) led).setOf got0 (by unfold scanBound; omega)) (fun _ => rfl) rfl
        case last =>
          intro s3 mv set3
          obtain ⟨h3', g3', d3, tk3, os3⟩ := s3
          have e1 : g3' = s0.gens := mv.gens
          have e2 : d3 = s0.drawn := mv.drawn
          have e3 : os3 = s0.os := mv.os
          subst e1 e2 e3
          change wpAny _ _ _ _ _ _
          refine wpAny_pure ?_
          change wpAny _ _ (ret Value.none) _ _ _
          refine wpAny_pure ⟨rfl, h3', tk3, rfl, set3, fun b o q e => ?_⟩
          have n1 : b ≠ s0.heap.objs.size := Nat.ne_of_lt q
          have n2 : b ≠ (s0.heap.push (bareSet led)).objs.size := by rw [Heap.size_push]; exact Nat.ne_of_lt (Nat.lt_succ_of_lt q)
          refine mv.heap b o (fun z => ?_) (Heap.get?_push_of_some _ (Heap.get?_push_of_some _ e))
          simp only [List.mem_cons, List.not_mem_nil, or_false] at z
          exact z.elim n1 n2
      · cases r2 with
        | error e => exact got2
        | ok fl2 =>
          cases fl2 with
          | ret r =>
            obtain ⟨rfl, h1, tk, rfl, set1, kept⟩ := got2
            repeat (any_goals (first | assumption | wp_step))
            exact go _ _ set1 kept
          | _ => exact got2.elim
    | _ => exact got.elim
end
section
variable {X : Cx}
/-- len(set(e)), e a list of texts that stays -/
def dLenSet (te : DE) : DE := fun δ S P => te δ S fun d S1 => match d with
  | .lst ds => (strsD ds).elim False fun xs => xs.length ≤ 4000 ∧ P (.int (cntU xs xs.length)) S1
  | .ref a => match S1 a with
    | some (.lst ds) => (strsD ds).elim False fun xs => xs.length ≤ 4000 ∧ P (.int (cntU xs xs.length)) S1
    | _ => False
  | _ => False
theorem q_lenset {e : Expr} {te : DE} {p p2 pos pos2 : Pos} (hc : X.calm = true) (ml : X.mg "len" = none) (ms : X.mg "set" = none) (he : QE X e te) (hg : Gl X "len" := by rfl) (hg2 : Gl X "set" := by rfl)
    (na : starEach [e] X.env = (false, eval e X.env) :: starEach [] X.env := by rfl) : QE X (.Call (.Name "len" p) [.Call (.Name "set" p2) [e] [] pos2] [] pos) (dLenSet te) := by
  refine ⟨fun pins s σ H Q I ⟨δ, S, P, rs, sr, h, fin⟩ => ?_⟩
  refine Call_ (ld_blt I hg ml boot_len (PyProof.Rows.callWith_builtin1 (PyProof.Rows.args_cons ?_ rfl) rfl rfl))
  refine Call_ (ld_blt I hg2 ms boot_set (PyProof.Rows.callWith_type1 (PyProof.Rows.args_cons (thn (he.run pins s σ H (fun v H1 => ∃ a xs S1, v = .ref a ∧ SqL X.K H1 a (xs.map V.str) ∧ SR X.K H1 S1 ∧ Ext H H1 ∧ xs.length ≤ 4000 ∧ P (.int (cntU xs xs.length)) S1) I ⟨δ, S, _, rs, sr, h, fun d S1 v H1 h1 r1 s1 e1 => ?_⟩) fun v s1 ⟨x, H1, I1, r1, a, xs, S1, ex, hq, sr1, e1, hz, hp⟩ => PyProof.Rows.args_nil ?_) na) na rfl))
  · cases d with
    | lst ds =>
      obtain ⟨xs, hx, hz, hp⟩ := el_of h1
      obtain ⟨a, vs, rfl, hq, r2⟩ := r1
      rw [strsD_eq hx] at r2
      rw [r2.strs] at hq
      exact ⟨a, xs, S1, rfl, hq.sq, s1, e1, hz, hp⟩
    | ref a =>
      cases r1
      simp only at h1
      split at h1
      · rename_i ds hS
        obtain ⟨xs, hx, hz, hp⟩ := el_of h1
        obtain ⟨vs, hv, r2⟩ := s1.lst hS
        rw [strsD_eq hx] at r2
        rw [r2.strs] at hv
        exact ⟨a, xs, S1, rfl, .of hv, s1, e1, hz, hp⟩
      · exact h1.elim
    | _ => exact h1.elim
  · subst ex
    cases r1
    obtain ⟨its, r, pl, _⟩ := I1.list hq
    have ls : its.length = xs.length := by rw [← r.length, List.length_map]
    refine set_of_texts (I1.ok.hd hc) pl.isList (by simpa using L2.strsAre_of r) (by unfold scanBound; omega) fun h1 tk hS kept => PyProof.Rows.args_nil ?_
    have l2 : its.toArray.size = xs.length := by rw [List.size_toArray, ls]
    rw [l2] at hS
    obtain ⟨o, es, ep, t, ho, hex, hd, _, _, _, hf, hn⟩ := hS
    have le := cntU_le xs xs.length
    have I2 : L2.Inv X pins σ H1 { s1 with heap := h1, toks := tk } := I1.kept fun b o e => kept b o (Heap.lt_size e) e
    exact call_len_set ho hex hd hf (by rw [hn]; omega) ⟨.int (cntU xs xs.length), H1, I2.tok _, ⟨_, by rw [hn]⟩, fin _ S1 _ H1 hp rfl sr1 e1⟩
end
end DL
set_option Elab.async false
set_option linter.all false
set_option maxRecDepth 100000
set_option maxHeartbeats 4000000
namespace DM
open PySem PySem.Spec PyProof.Rows L2
open AutoSeq1 (wpAny_loadPart')
/-- a tuple times a number, nothing to be done -/
theorem tup_times_same (a : Addr) (zs : Array Value) (n : Nat) (dd : Option Addr) (sl : Array (Option Value)) (x : Int) (u : Tok) (h0 : (decide (x < -(2 ^ 63)) || decide (x ≥ 2 ^ 63)) = false) (h1 : (zs.isEmpty || x == 1) = true) :
    Meets (Builtin.«tuple.__mul__» ⟨[.ref a, .int x u], []⟩) (fun _ R s => s.heap.get? a = some ⟨.type "tuple", dd, .seq zs n, sl⟩ ∧ R (.ok (.ret (Value.ref a))) s) :=
  .of_wp fun prog w A R s h => by
    obtain ⟨hp, g, d, tk, os⟩ := s
    obtain ⟨hl, h⟩ := h
    have f1 := AutoSeq1.idx_int
    wp_walk using wpAny_loadPart' hl
    repeat (first
      | (refine wpAny_ite_false (decide_eq_false (by rw [h0]; exact Bool.false_ne_true)) ?_; wp_walk using wpAny_loadPart' hl)
      | (refine wpAny_ite_true (decide_eq_true h1) ?_; wp_walk using wpAny_loadPart' hl))
    exact ⟨_, rfl, h⟩
/-- a tuple times nought -/
theorem tup_times_none (a : Addr) (zs : Array Value) (n : Nat) (dd : Option Addr) (sl : Array (Option Value)) (u : Tok) (h1 : (zs.isEmpty || (0 : Int) == 1) = false) :
    Meets (Builtin.«tuple.__mul__» ⟨[.ref a, .int 0 u], []⟩) (fun _ R s => s.heap.get? a = some ⟨.type "tuple", dd, .seq zs n, sl⟩ ∧ R (.ok (.ret (Value.ref s.heap.objs.size))) { s with heap := s.heap.push { cls := Value.type "tuple", data := Data.seq #[] }, toks := s.toks }) :=
  .of_wp fun prog w A R s h => by
    obtain ⟨hp, g, d, tk, os⟩ := s
    obtain ⟨hl, h⟩ := h
    have f1 := AutoSeq1.idx_int
    wp_walk using wpAny_loadPart' hl
    repeat (first
      | (refine wpAny_ite_false (decide_eq_false (by decide)) ?_; wp_walk using wpAny_loadPart' hl)
      | (refine wpAny_ite_false (decide_eq_false (by rw [h1]; exact Bool.false_ne_true)) ?_; wp_walk using wpAny_loadPart' hl)
      | (refine wpAny_ite_true (decide_eq_true (by rfl)) ?_; wp_walk using wpAny_loadPart' hl))
    exact ⟨_, rfl, h⟩
/-- list.extend(list) -/
theorem ext_list (l b : Addr) (xs ys : Array Value) (n m : Nat) (dd : Option Addr) (sl : Array (Option Value)) (hl : ¬ (!xs.isEmpty && Builtin.List.listTooLong (xs.size + ys.size)) = true) (hx : xs.size ≤ sizeLine) (hz : xs.size + ys.size ≤ sizeLine + 1) :
    Meets (Builtin.«list.extend» ⟨[.ref l, .ref b], []⟩) (fun _ R s => (s.heap.get? l = some ⟨.type "list", none, .seq xs n, #[]⟩ ∧ s.heap.get? b = some ⟨.type "list", dd, .seq ys m, sl⟩) ∧
      R (.ok (.ret Value.none)) { s with heap := s.heap.update l (Obj.mapSeq fun x => x ++ ys) }) :=
  .of_wp fun prog w A R s h => by
    obtain ⟨hp, g, d, tk, os⟩ := s
    obtain ⟨⟨h1, h2⟩, h⟩ := h
    have f2 := AutoSeq1.sub_tuple_tuple
    have f3 := AutoSeq1.sub_list_list
    have f4 := AutoSeq1.sub_tuple_list
    have f5 := AutoSeq1.sub_list_tuple
    have hz' : (xs ++ ys).size ≤ sizeLine + 1 := by rw [Array.size_append]; exact hz
    wp_walk using (wpAny_updateSeq h1 rfl (hz := hx) (_hz' := hz')), wpAny_loadPart' h1, wpAny_loadPart' h2
    exact ⟨_, rfl, h⟩
end DM
set_option Elab.async false
set_option linter.all false
set_option maxRecDepth 100000
set_option maxHeartbeats 1000000
namespace DL
open PySem PySem.Spec PyProof.Rows L2
section
variable {X : Cx}
/-! ### a tuple so many times -/
def mulT : DR := fun x y S P => match x, y with
  | .tup xs, .int k => (0 ≤ k ∧ k ≤ 1000 ∧ xs.length ≤ 1000) ∧ P (.tup (List.replicate k.toNat xs).flatten) S
  | _, _ => False
theorem op_mulT : OpD X (binaryOp .Mult) mulT := by
  intro pins s σ H x y v u Q I rx ry ⟨d, e, S, P, r1, r2, sr, h, fin⟩
  unfold mulT at h
  split at h
  · rename_i xs k
    obtain ⟨⟨h1, h2, h3⟩, q⟩ := h
    by_cases hx : xs ≠ [] ∧ 2 ≤ k
    · exact op_mulD pins s σ H x y v u Q I rx ry ⟨.tup xs, .int k, S, P, r1, r2, sr, ⟨⟨hx.1, hx.2, h2, h3⟩, q⟩, fin⟩
    obtain ⟨a, vs, rfl, ha, r3⟩ := r1
    cases r2
    cases rx
    obtain ⟨t, rfl⟩ := ry
    obtain ⟨its, rv, ⟨⟨cls, dd, data, sl⟩, ho, hc, n, hd⟩, hs⟩ := I.tuple ha
    simp only at hc hd
    subst hc hd
    have hl : its.length = xs.length := by rw [← rv.length, r3.length]
    have hb : (decide (k < -(2 ^ 63)) || decide (k ≥ 2 ^ 63)) = false := by rw [Bool.or_eq_false_iff]; exact ⟨decide_eq_false (by omega), decide_eq_false (by omega)⟩
    have go : ∀ {R : Value → Shared → Prop} , (∀ (W : Shared → Shared), True) → wpAny (model X.prog X.w) X.A (call (.builtin "tuple.__mul__") [.ref a, .int k t]) R X.xe s → wpAny (model X.prog X.w) X.A (binaryOp .Mult (.ref a) (.int k t)) R X.xe s := fun _ hq =>
      wpAny_binaryOp_repeat_ref (T := "tuple") (U := "int") (by decide) ⟨_, ho, rfl⟩ (fun s' => typeIs_int s' k t) noFill_tuple_mul F.fills_int_mul F.slot_int_rmul repeat_tuple F.slot_int_index.lookup
        (call_meets F.slot_int_rmul (typeIs_int s k t) F.entry_int_rmul (F.args_int_rmul_2 _ _) (int_rmul_tuple k t a its.toArray n dd sl) ⟨ho, rfl, ⟨_, ho, rfl⟩, hq⟩)
    refine go (fun _ => trivial) ?_
    by_cases h0 : xs = [] ∨ k = 1
    · have e1 : (its.toArray.isEmpty || k == 1) = true := by
        rcases h0 with z | z
        · subst z
          cases its with
          | nil => rfl
          | cons a b => cases hl
        · subst z; rw [beq_self_eq_true, Bool.or_true]
      have e2 : (List.replicate k.toNat xs).flatten = xs := by
        rcases h0 with z | z
        · subst z; simp
        · subst z; show (List.replicate 1 xs).flatten = xs; simp
      rw [e2] at q
      exact call_meets F.slot_tuple_mul ⟨_, ho, rfl⟩ F.entry_tuple_mul (F.args_tuple_mul_2 _ _) (DM.tup_times_same a its.toArray n dd sl k t hb e1) ⟨ho, .ref a, H, I, rfl, fin _ S _ H q ⟨a, vs, rfl, ha, r3⟩ sr (.refl H)⟩
    · have hk : k = 0 := by
        by_cases z : xs = []
        · exact absurd (.inl z) h0
        · have n1 : ¬ 2 ≤ k := fun c => hx ⟨z, c⟩
          have n2 : k ≠ 1 := fun c => h0 (.inr c)
          omega
      subst hk
      have e1 : (its.toArray.isEmpty || (0 : Int) == 1) = false := by
        cases its with
        | nil => exact absurd (.inl (List.eq_nil_of_length_eq_zero hl.symm)) h0
        | cons a b => rfl
      have e2 : (List.replicate (0 : Int).toNat xs).flatten = [] := rfl
      rw [e2] at q
      refine call_meets F.slot_tuple_mul ⟨_, ho, rfl⟩ F.entry_tuple_mul (F.args_tuple_mul_2 _ _) (DM.tup_times_none a its.toArray n dd sl t e1) ⟨ho, ?_⟩
      refine ⟨.ref s.heap.objs.size, _, I.laid (t' := s.toks) (o := .tup []) (fun b ob z => Heap.get?_push_of_some _ z) (Nat.le_refl _) ⟨Nat.zero_le _, [], .nil, IsTup.new _ _⟩, rfl, fin _ S _ _ q ⟨_, [], rfl, .of upd_same, rfl⟩ (sr.new I.fresh) (.new I.fresh)⟩
  · exact h.elim
theorem mul_tk {S : Sto} {P : DK} {xs : List D} {k : Int} : mulT (.tup xs) (.int k) S P = ((0 ≤ k ∧ k ≤ 1000 ∧ xs.length ≤ 1000) ∧ P (.tup (List.replicate k.toNat xs).flatten) S) := rfl
/-! ### list.extend by a tuple, a list that stays; list.pop at a place -/
def extendL : D → List D → Sto → DK → Prop := fun x ds S P => match ds with
  | [.tup zs] => onL x S fun a xs => xs.length + zs.length ≤ sizeLine ∧ P .non (sup S a (.lst (xs ++ zs)))
  | [.lst zs] => onL x S fun a xs => xs.length + zs.length ≤ sizeLine ∧ P .non (sup S a (.lst (xs ++ zs)))
  | _ => False
theorem m_extendL : MtD X "list.extend" extendL := fun pins s σ H x xs v us Q I rx rs ⟨d, ds, S, P, r1, r2, sr, h, fin⟩ => by
  unfold extendL at h
  split at h
  · exact m_extend pins s σ H x xs v us Q I rx rs ⟨d, _, S, P, r1, r2, sr, h, fin⟩
  · obtain ⟨a, ys, rfl, hS, h1, h2⟩ := onL_of h
    obtain ⟨w', rfl, b, ws, rfl, hb, r3⟩ := r2.one
    cases r1
    obtain ⟨vs, hv, r4⟩ := sr.lst hS
    cases rx
    obtain ⟨u, rfl, ru⟩ := rs.one
    cases ru
    obtain ⟨z, its, n, r, hl, e⟩ := I.lstM hv
    obtain ⟨its2, rr2, ⟨⟨cls, dd, data, sl⟩, n2, ho, hcl, hd, hsl⟩, hz2⟩ := I.list hb.sq
    simp only at hcl hd hsl
    subst hcl hd hsl
    have l1 := r4.length
    have l2 := r3.length
    have l3 := rr2.length
    have hsz : its.toArray.size + its2.toArray.size ≤ sizeLine := by rw [List.size_toArray, List.size_toArray]; omega
    have hlong : ¬ (!its.toArray.isEmpty && Builtin.List.listTooLong (its.toArray.size + its2.toArray.size)) = true := by
      rw [notLongL hsz, Bool.and_false]; exact Bool.false_ne_true
    refine call_meets PySem.F.slot_list_extend ⟨_, e, rfl⟩ PySem.F.entry_list_extend (PySem.F.args_list_extend_2 _ _) (DM.ext_list a b its.toArray its2.toArray n n2 none sl hlong (by rw [List.size_toArray]; omega) (by omega)) ⟨⟨e, ho⟩, ?_⟩
    exact ⟨.non, _, I.lset (its' := its ++ its2) (t' := s.toks) hv e (by simp) (r.append rr2) (by rw [List.length_append]; omega), rfl, fin _ _ _ _ h2 rfl (sr.mut hS (r4.append r3)) (.mutL hv)⟩
  · exact h.elim
theorem RpA.eraseIdx {K : PySem.W.Frag} {H : Hp} : ∀ {ds : List D} {vs : List V} (i : Nat), RpA K H ds vs → RpA K H (ds.eraseIdx i) (vs.eraseIdx i)
  | [], _, i, h => by cases h; simp [RpA]
  | _ :: _, _, 0, ⟨v, us, h1, h2, h3⟩ => by subst h1; simpa using h3
  | _ :: _, _, i + 1, ⟨v, us, h1, h2, h3⟩ => by subst h1; exact ⟨v, _, rfl, h2, RpA.eraseIdx i h3⟩
def popAtD : D → List D → Sto → DK → Prop := fun x ds S P => match ds with
  | [.int i] => onL x S fun a xs => (0 ≤ i ∧ i < 2 ^ 62) ∧ (xs[i.toNat]?).elim False fun d => P d (sup S a (.lst (xs.eraseIdx i.toNat)))
  | _ => False
theorem m_popAt : MtD X "list.pop" popAtD := fun pins s σ H x xs v us Q I rx rs ⟨d, ds, S, P, r1, r2, sr, h, fin⟩ => by
  unfold popAtD at h
  split at h
  · rename_i i
    obtain ⟨a, ys, rfl, hS, ⟨h0, h1⟩, h2⟩ := onL_of h
    obtain ⟨w', rfl, r3⟩ := r2.one
    cases r3
    cases r1
    obtain ⟨vs, hv, r4⟩ := sr.lst hS
    obtain ⟨y, hy, q⟩ := el_of h2
    obtain ⟨z, hz, r5⟩ := r4.get hy
    have hlt : i.toNat < ys.length := (List.getElem?_eq_some_iff.mp hy).1
    exact mt_popAt pins s σ H _ _ v us Q I rx rs ⟨a, vs, i, i.toNat, z, rfl, rfl, hv, by omega, by omega, PySem.seqIndex_of h0 (by rw [r4.length]; omega), hz, fin _ _ _ _ q (r5.ext (.mutL hv)) (sr.mut hS (r4.eraseIdx _)) (.mutL hv)⟩
  · exact h.elim
/-! ### list(range(n)) -/
def dLstRg (te : DE) : DE := fun δ S P => te δ S fun d S1 => asI d fun n => (0 ≤ n ∧ n ≤ 100000) ∧ P (.lst (iota 0 n.toNat)) S1
theorem iota_rp {K : PySem.W.Frag} {H : Hp} (n : Nat) : RpA K H (iota 0 n) (rgV 0 (n : Int)) := by
  have e1 : iota 0 n = ((List.range n).map fun i : Nat => ((0 : Int) + (i : Nat))).map D.int := by unfold iota; rw [List.map_map]; rfl
  have e2 : rgV 0 (n : Int) = ((List.range n).map fun i : Nat => ((0 : Int) + (i : Nat))).map V.int := by
    unfold rgV
    rw [List.map_map, show ((n : Int) - 0).toNat = n by omega]
    rfl
  rw [e1, e2]
  exact RpA.of_ints _
theorem q_lstRg {e : Expr} {te : DE} {p1 p2 pos pos2 : Pos} (hc : X.calm = true) (hl : Gl X "list") (ml : X.mg "list" = none) (hg : Gl X "range") (mr : X.mg "range" = none) (he : QE X e te)
    (na : starEach [e] X.env = (false, eval e X.env) :: starEach [] X.env := by rfl) (nb : starEach [.Call (.Name "range" p1) [e] [] pos] X.env = (false, eval (.Call (.Name "range" p1) [e] [] pos) X.env) :: starEach [] X.env := by rfl) :
    QE X (.Call (.Name "list" p2) [.Call (.Name "range" p1) [e] [] pos] [] pos2) (dLstRg te) :=
  PE.imp (pe_frz (pe_listRg hc hl ml (prg_1 hg mr he na) nb)) fun σ H Q ⟨δ, S, P, rs, sr, h, fin⟩ => ⟨δ, S, _, rs, sr, h, fun d S1 v H1 h1 r1 s1 e1 => by
    obtain ⟨n, rfl, ⟨h0, h2⟩, q⟩ := asI_of h1
    cases r1
    refine ⟨n, rfl, RgOk.of_le (Int.le_refl _) (by omega) (by omega) h0, fun p np => ⟨p, _, rfl, upd_same, fun o => ?_⟩⟩
    rw [upd_upd]
    have r := iota_rp (K := X.K) (H := upd H1 p (.frz o (.lst (rgV 0 n)))) n.toNat
    rw [show ((n.toNat : Nat) : Int) = n by omega] at r
    exact fin _ S1 _ _ q ⟨p, _, rfl, .inl ⟨o, upd_same⟩, r⟩ (s1.new np) (e1.trans (.new np))⟩
theorem e_lstRg {te : DE} {δ : DSt} {S : Sto} {P : DK} : dLstRg te δ S P = te δ S fun d S1 => asI d fun n => (0 ≤ n ∧ n ≤ 100000) ∧ P (.lst (iota 0 n.toNat)) S1 := rfl
end
/-! ### get of a written dict -/
section
variable {K : PySem.W.Frag} {H : Hp}
theorem RpK.valN {k : Key} : ∀ {kvs : List (Key × D)} {ws : List (Key × V)}, RpK K H kvs ws → valD kvs k = none → valV ws k = none
  | [], _, h, _ => by cases h; rfl
  | (j, x) :: r, _, ⟨v, ws, rfl, h1, h2⟩, h => by
    by_cases e : j = k
    · exfalso
      have h : some x = none := by simpa [valD, List.find?_cons, e] using h
      cases h
    · rw [valV_neg e]
      exact RpK.valN (kvs := r) h2 (by simpa [valD, List.find?_cons, e] using h)
end
section
variable {X : Cx} {o e f : Expr} {apos cpos pos : Pos} {to te tf : DE}
def getOr (d k z : D) (S : Sto) (P : DK) : Prop := match d, k with
  | .dic kvs, .str a => P ((valD kvs (.inr a)).getD z) S
  | _, _ => False
def dGetOr (to te tf : DE) : DE := fun δ S P => to δ S fun d S1 => te δ S1 fun k S2 => tf δ S2 fun z S3 => getOr d k z S3 P
theorem q_getOr (hu : X.A.units + 1 < cLine) (ho : QE X o to) (he : QE X e te) (hf : QE X f tf) (m : M2 X o "get" apos e f cpos := by exact ⟨rfl, rfl, rfl, rfl⟩) (hd : ∀ δ S P, to δ S P → to δ S fun d S1 => (∃ kvs, d = .dic kvs) ∧ P d S1) :
    QE X (.Call (.Attribute o "get" apos) [e, f] [] cpos) (dGetOr to te tf) :=
  PE.imp (pe_dget2 hu ho he hf m) fun σ H Q ⟨δ, S, P, rs, sr, h, fin⟩ => ⟨δ, S, _, rs, sr, hd _ _ _ h, fun d S1 v H1 ⟨⟨kvs, ed⟩, h1⟩ r1 s1 e1 => by
    subst ed
    obtain ⟨a, ob, ws, rfl, e3, r3⟩ := r1
    refine ⟨a, rfl, .inl ⟨ws, .inr ⟨ob, e3⟩⟩, δ, S1, _, rs.ext e1, s1, h1, fun k S2 u H2 h2 r2 s2 e2 => ⟨δ, S2, _, rs.ext (e1.trans e2), s2, h2, fun z S3 u3 H3 h3 r4 s3 e4 => ?_⟩⟩
    unfold getOr at h3
    have x := e2.trans e4
    split at h3
    · rename_i a2 ek
      cases ek
      cases r2
      refine ⟨valV ws (.inr a2), .inl ⟨ws, .inr a2, .inr ⟨ob, x.f _ _ _ e3⟩, rfl, rfl⟩, ?_⟩
      have x3 := e1.trans x
      cases hv : valD kvs (.inr a2) with
      | none =>
        rw [hv] at h3
        rw [r3.valN hv]
        exact fin _ S3 _ H3 h3 r4 s3 x3
      | some y =>
        rw [hv] at h3
        obtain ⟨y2, q1, q2⟩ := r3.val hv
        rw [q1]
        exact fin _ S3 _ H3 h3 (q2.ext x) s3 x3
    · exact h3.elim⟩
theorem e_getOr {δ : DSt} {S : Sto} {P : DK} : dGetOr to te tf δ S P = to δ S fun d S1 => te δ S1 fun k S2 => tf δ S2 fun z S3 => getOr d k z S3 P := rfl
/-- {text: number} three times -/
def dDicI3 (a b c : Str) (i j k : Int) : DE := fun _ S P => P (.dic [(.inr a, .int i), (.inr b, .int j), (.inr c, .int k)]) S
theorem q_dicI3 {a b c : Str} {x y z : Int} {j1 j2 j3 j4 j5 j6 : Nat} {p1 p2 p3 p4 p5 p6 : Pos} (hab : a ≠ b := by decide) (hac : a ≠ c := by decide) (hbc : b ≠ c := by decide) :
    QE X (.Dict [some (.Constant (.str a) j1 p1), some (.Constant (.str b) j2 p2), some (.Constant (.str c) j3 p3)] [.Constant (.int x) j4 p4, .Constant (.int y) j5 p5, .Constant (.int z) j6 p6] pos) (dDicI3 a b c x y z) :=
  PE.imp (pe_frzD (pe_disp (pps_cons pe_str pe_int (pps_cons pe_str pe_int (pps_cons pe_str pe_int pps_nil))) rfl rfl (by simp) (by simp))) fun σ H Q ⟨δ, S, P, rs, sr, h, fin⟩ => fun p np => by
    have m : mergeK [] ([(.inr a, .int x), (.inr b, .int y), (.inr c, .int z)] : List (Key × V)) = [(.inr a, .int x), (.inr b, .int y), (.inr c, .int z)] := by
      have n1 : ¬ (Sum.inr a : Key) = .inr b := fun q => hab (Sum.inr.inj q)
      have n2 : ¬ (Sum.inr a : Key) = .inr c := fun q => hac (Sum.inr.inj q)
      have n3 : ¬ (Sum.inr b : Key) = .inr c := fun q => hbc (Sum.inr.inj q)
      simp [mergeK, putK, n1, n2, n3, hab, hac, hbc]
    refine ⟨upd_same, [(.inr a, .int x), (.inr b, .int y), (.inr c, .int z)], rfl, by simp, p, _, rfl, upd_same, fun o => ?_⟩
    rw [upd_upd, upd_upd, m]
    exact fin _ S _ _ h ⟨p, o, _, rfl, upd_same, _, _, rfl, rfl, _, _, rfl, rfl, _, _, rfl, rfl, rfl⟩ (sr.new np) (.new np)
theorem dicI3_is {a b c : Str} {i j k : Int} : ∀ (δ : DSt) (S : Sto) (P : DK), dDicI3 a b c i j k δ S P → dDicI3 a b c i j k δ S fun d S1 => (∃ kvs, d = .dic kvs) ∧ P d S1 := fun _ _ _ h => ⟨⟨_, rfl⟩, h⟩
theorem e_dicI3 {a b c : Str} {i j k : Int} {δ : DSt} {S : Sto} {P : DK} : dDicI3 a b c i j k δ S P = P (.dic [(.inr a, .int i), (.inr b, .int j), (.inr c, .int k)]) S := rfl
end
end DL
set_option Elab.async false
set_option linter.all false
set_option maxRecDepth 100000
set_option maxHeartbeats 1000000
namespace DM
open PySem PySem.Spec PyProof.Rows L2
open AutoSeq1 (wpAny_loadPart')
/-! a dict beside a tuple -/
theorem dict_by_tup (l : Addr) (es : Array DictEntry) (n : Nat) (dd : Option Addr) (sl : Array (Option Value)) (b : Addr) (ys : Array Value) (m : Nat) (d2 : Option Addr) (sl2 : Array (Option Value)) :
    Meets (Builtin.«dict.__eq__» ⟨[.ref l, .ref b], []⟩) (fun _ R s => (s.heap.get? l = some ⟨.type "dict", dd, .dict es n, sl⟩ ∧ s.heap.get? b = some ⟨.type "tuple", d2, .seq ys m, sl2⟩) ∧ R (.ok (.ret .notImplemented)) s) :=
  .of_wp fun prog w A R s h => by
    obtain ⟨hp, g, d, tk, os⟩ := s
    obtain ⟨⟨hl, hb⟩, h⟩ := h
    have f1 := F.sub_tuple_dict
    wp_walk using wpAny_loadPart' hl, wpAny_loadPart' hb
    exact ⟨_, rfl, h⟩
theorem tup_by_dict (l : Addr) (es : Array DictEntry) (n : Nat) (dd : Option Addr) (sl : Array (Option Value)) (b : Addr) (ys : Array Value) (m : Nat) (d2 : Option Addr) (sl2 : Array (Option Value)) :
    Meets (Builtin.«tuple.__eq__» ⟨[.ref b, .ref l], []⟩) (fun _ R s => (s.heap.get? l = some ⟨.type "dict", dd, .dict es n, sl⟩ ∧ s.heap.get? b = some ⟨.type "tuple", d2, .seq ys m, sl2⟩) ∧ R (.ok (.ret .notImplemented)) s) :=
  .of_wp fun prog w A R s h => by
    obtain ⟨hp, g, d, tk, os⟩ := s
    obtain ⟨⟨hl, hb⟩, h⟩ := h
    have f1 := F.sub_dict_tuple
    wp_walk using wpAny_loadPart' hl, wpAny_loadPart' hb
    exact ⟨_, rfl, h⟩
section
open SeqAt
variable {A : Around} {s : Shared}
theorem rc_dict_tup {l b : Addr} {es : Array DictEntry} {n m : Nat} {dd d2 : Option Addr} {sl sl2 : Array (Option Value)} {ys : Array Value} (hl : s.heap.get? l = some ⟨.type "dict", dd, .dict es n, sl⟩) (hb : s.heap.get? b = some ⟨.type "tuple", d2, .seq ys m, sl2⟩) (hu : A.units < cLine) : RcAt A s (.ref l) (.ref b) false := fun prog w E Q h =>
  rc_eq_decline_or (k := false) ⟨_, hl, rfl⟩ ⟨_, hb, rfl⟩ (by decide) F.sub_tuple_dict F.slot_dict_eq F.slot_tuple_eq_refl
    (fun _ hq => call_meets F.slot_dict_eq ⟨_, hl, rfl⟩ F.entry_dict_eq (F.args_dict_eq_2 _ _) (dict_by_tup l es n dd sl b ys m d2 sl2) ⟨⟨hl, hb⟩, hq⟩)
    (fun _ hq => call_meets F.slot_tuple_eq_refl ⟨_, hb, rfl⟩ F.entry_tuple_eq (F.args_tuple_eq_2 _ _) (tup_by_dict l es n dd sl b ys m d2 sl2) ⟨⟨hl, hb⟩, hq⟩)
    (fun _ hq => wpAny_isSame_ref_other (fun e => by rw [e, hb] at hl; simp at hl) hl hb (by simp) hq) (.inr hu) h
end
end DM

namespace DL
open PySem PySem.Spec PyProof.Rows L2
/-! ### == with a tuple of one text, with a list beside None -/
def eq1 : D → Str → Bool
  | .tup [x], z => memS x [z]
  | _, _ => false
def flat1 : D → Bool
  | .tup xs => xs.all flat
  | d => flat d
def eqC : D → D → Option Bool
  | .non, .lst _ => some false
  | x, .tup [.str z] => if flat1 x = true then some (eq1 x z) else none
  | x, y => eqB x y
section
variable {X : Cx} {pins : List (Addr × Obj)} {σ : L2.St} {H : Hp} {s : Shared} {A : Around}
theorem eq_strR {x : D} {v : V} {u : Value} (I : L2.Inv X pins σ H s) (hu : A.units < cLine) (hx : flat x = true) (r : Rp X.K H x v) (ru : RelV v u) (z : Str) (t : Tok) : SeqAt.EqAt A s u (.str z t) (memS x [z]) := by
  cases x with
  | non => cases r; cases ru; exact SeqAt.EqAt.none_str z t
  | bl b => cases r; cases ru; exact SeqAt.EqAt.bool_str b z t
  | int i => cases r; obtain ⟨t', rfl⟩ := ru; exact SeqAt.EqAt.int_str i t' z t
  | str a =>
    cases r
    obtain ⟨t', rfl⟩ := ru
    have e : memS (.str a) [z] = (a == z) := by simp [memS, BEq.comm (a := a)]
    rw [e]
    exact SeqAt.EqAt.str_str a t' z t
  | tup ds =>
    obtain ⟨a, vs, rfl, hq, _⟩ := r
    cases ru
    obtain ⟨its, q1, p1, _⟩ := I.tuple hq
    exact SeqAt.EqAt.tuple_str z t (show s.heap.IsTuple a its.toArray from p1) hu
  | lst ds =>
    obtain ⟨a, vs, rfl, hq, _⟩ := r
    cases ru
    obtain ⟨its, q1, p1, _⟩ := I.list hq.sq
    exact SeqAt.EqAt.list_str z t p1.isList hu
  | dic kvs =>
    obtain ⟨a, o, ws, rfl, hq, _⟩ := r
    cases ru
    obtain ⟨es, n, dd, sl, q⟩ := dic_at I hq
    intro prog w E Q hq2
    unfold eqBool
    refine wpAny_holding (wpAny_ite_split (fun z => absurd (eq_of_beq z) nofun) fun _ => ?_)
    exact wpAny_bind (DM.rc_dict_str z t q hu prog w E _ (wpAny_truthy_bool hq2))
  | ref a => cases hx
  | ty n => cases hx
theorem rc_one {x : D} {v : V} {u : Value} {p : Addr} {z : Str} {t : Tok} {items : Array Value} (I : L2.Inv X pins σ H s) (hu : A.units + 1 < cLine) (hx : flat1 x = true) (k : KD X.K H x v) (ru : RelV v u) (hp : s.heap.IsTuple p items) (hi : items = #[.str z t]) :
    SeqAt.RcAt A s u (.ref p) (eq1 x z) := by
  subst hi
  have hu0 : A.units < cLine := by omega
  cases x with
  | non => cases k; cases ru; exact SeqAt.RcAt.none_tuple hp hu0
  | bl b => cases k; cases ru; exact SeqAt.RcAt.bool_tuple b hp hu0
  | int i => cases k; obtain ⟨t', rfl⟩ := ru; exact SeqAt.RcAt.int_tuple i t' hp hu0
  | str a => cases k; obtain ⟨t', rfl⟩ := ru; exact SeqAt.RcAt.str_tuple a t' hp hu0
  | tup xs =>
    obtain ⟨a, vs, rfl, hq, r3⟩ := k
    cases ru
    obtain ⟨its, q1, p1, _⟩ := I.tuple hq
    have l1 : its.length = xs.length := by rw [← q1.length, r3.length]
    have key : ∀ j (h1 : j < its.toArray.size) (h2 : j < (#[.str z t] : Array Value).size), SeqAt.EqAt A.in1 s its.toArray[j] (#[.str z t] : Array Value)[j] (memS (xs[j]?.getD .non) [z]) := fun j h1 h2 => by
      have j0 : j = 0 := by have : j < 1 := h2; omega
      subst j0
      have hl : 0 < xs.length := by rw [← l1]; simpa using h1
      obtain ⟨w, g1, g2⟩ := r3.get (List.getElem?_eq_getElem hl)
      obtain ⟨uu, k1, k2⟩ := q1.get g1
      have e1 : its.toArray[0] = uu := by
        rw [List.getElem?_eq_getElem (by omega)] at k1
        simpa using k1
      rw [e1, List.getElem?_eq_getElem hl]
      exact eq_strR I (by rw [in1_units]; exact hu) (List.all_eq_true.mp hx _ (List.getElem_mem hl)) g2 k2 z t
    have q := SeqAt.RcAt.tuples (A := A) (s := s) (e := fun j => memS (xs[j]?.getD .non) [z]) (show s.heap.IsTuple a its.toArray from p1) hp hu0 key
    have e : ((List.range (min its.toArray.size (#[.str z t] : Array Value).size)).all (fun j => memS (xs[j]?.getD .non) [z]) && its.toArray.size == (#[.str z t] : Array Value).size) = eq1 (.tup xs) z := by
      rw [List.size_toArray, l1]
      match xs with
      | [] => rfl
      | [y] => show ((List.range 1).all _ && true) = _; simp [List.range_succ, eq1]
      | y :: y2 :: r =>
        have : ((y :: y2 :: r).length == (#[.str z t] : Array Value).size) = false := beq_eq_false_iff_ne.mpr (by simp)
        rw [this, Bool.and_false]
        rfl
    rw [e] at q
    exact q
  | lst xs =>
    obtain ⟨a, vs, rfl, hq, r3⟩ := k
    cases ru
    obtain ⟨its, q1, p1, _⟩ := I.list hq
    exact SeqAt.RcAt.list_tuple p1.isList hp hu0
  | dic kvs =>
    obtain ⟨a, o, ws, rfl, hq, _⟩ := k
    cases ru
    obtain ⟨es, n, dd, sl, q⟩ := dic_at I hq
    obtain ⟨⟨c2, d2, da2, sl2⟩, hb, hc2, m, hd2⟩ := hp
    simp only at hc2 hd2
    subst hc2 hd2
    exact DM.rc_dict_tup q hb hu0
  | ref a => cases hx
  | ty n => cases hx
theorem rc_eqC {d e : D} {x y : V} {v u : Value} {b : Bool} (I : L2.Inv X pins σ H s) (hu : A.units + 1 < cLine) (h : eqC d e = some b) (k1 : KD X.K H d x) (k2 : KD X.K H e y) (r1 : RelV x v) (r2 : RelV y u) : SeqAt.RcAt A s v u b := by
  have hu0 : A.units < cLine := by omega
  unfold eqC at h
  split at h
  · cases h
    cases k1
    cases r1
    obtain ⟨a, vs, rfl, hq, r3⟩ := k2
    cases r2
    obtain ⟨its, q1, p1, _⟩ := I.list hq
    exact SeqAt.RcAt.none_list p1.isList hu0
  · rename_i z _
    split at h
    · rename_i hf
      cases h
      obtain ⟨a, vs, rfl, hq, w1, ws, rfl, r4, r5⟩ := k2
      cases r4
      cases r5
      cases r2
      obtain ⟨its, q1, p1, _⟩ := I.tuple hq
      obtain ⟨u1, rfl, ru1⟩ := q1.one
      obtain ⟨t, rfl⟩ := ru1
      exact rc_one I hu hf k1 r1 (show s.heap.IsTuple a _ from p1) rfl
    · cases h
  · exact rc_eq I hu0 h k1 k2 r1 r2
def eqE : DR := fun x y S P => (eqC (norm S x) (norm S y)).elim False fun b => P (.bl b) S
theorem op_eqE (hu : X.A.units + 200 < cLine) : OpD X (compareOp .Eq) eqE := by
  intro pins s σ H x y v u Q I rx ry ⟨d, e, S, P, r1, r2, sr, h, fin⟩
  obtain ⟨b, hb, q⟩ := el_of h
  exact rc_eqC I (by omega) hb (kd_of r1 sr) (kd_of r2 sr) rx ry X.prog X.w _ _ ⟨.bl b, H, I, rfl, fin (.bl b) S _ H q rfl sr (.refl H)⟩
end
theorem eqE_1 {d : D} {z : Str} {S : Sto} {P : DK} (h : flat1 d = true) : eqE d (.tup [.str z]) S P = P (.bl (eq1 d z)) S := by
  have e : norm S d = d := by cases d <;> first | rfl | cases h
  have e2 : norm S (.tup [.str z]) = .tup [.str z] := rfl
  unfold eqE
  rw [e, e2]
  have e3 : eqC d (.tup [.str z]) = some (eq1 d z) := by
    cases d <;> simp only [eqC, if_pos h]
  rw [e3]
  rfl
theorem eqE_n {xs : List D} {S : Sto} {P : DK} : eqE .non (.lst xs) S P = P (.bl false) S := rfl
theorem eqE_l {xs : List D} {S : Sto} {P : DK} : eqE (.lst xs) (.lst []) S P = P (.bl xs.isEmpty) S := by
  cases xs <;> rfl
end DL
set_option Elab.async false
set_option linter.all false
set_option maxRecDepth 100000
set_option maxHeartbeats 4000000
/-! enumerate over a tuple (over a list: L2.pi_enum) -/
namespace DM
open PySem PySem.Spec PyProof.Rows L2
theorem enum_new {x : Value} {ob : Obj} {G : Heap → Prop} (B : Begins x ob G) :
    Meets (Builtin.«enumerate.__new__» ⟨[.type "enumerate", x], []⟩) (fun _ R s => G s.heap ∧
      R (.ok (.ret (.ref (s.heap.push ob).objs.size))) { s with heap := (s.heap.push ob).push { cls := .type "enumerate", data := .fields #[.none, .bool false, .ref s.heap.objs.size, rawInt 0, .none, .none] } }) :=
  .of_wp fun prog w A R s h => by
    obtain ⟨hp, gn, dr, tks, osv⟩ := s
    obtain ⟨hg, h⟩ := h
    have below := sub_enumerate
    have it : ∀ {B' : Around} {E : Value → Shared → Prop} {T : Value → Shared → Prop}, T (.ref hp.objs.size) ⟨hp.push ob, gn, dr, tks, osv⟩ → wpAny (model prog w) B' (pyIter x) T E ⟨hp, gn, dr, tks, osv⟩ := fun q => B.iter prog w _ _ ⟨hp, gn, dr, tks, osv⟩ _ hg q
    wp_walk using it
    refine wpAny_stack_any fun stk => wpAny_pure ?_
    split
    · rename_i cl _ _ _ _ _
      cases (cl == Value.type "enumerate") <;>
      · wp_walk using it
        exact ⟨_, rfl, h⟩
    · wp_walk using it
      exact ⟨_, rfl, h⟩
section
variable {prog : Program} {w : World} {A : Around} {E : Value → Shared → Prop} {s : Shared}
theorem enum_of {x : Value} {ob : Obj} {G : Heap → Prop} {T : Value → Shared → Prop} (B : Begins x ob G) (hg : G s.heap)
    (h : ∀ hp, IsEnum hp (s.heap.objs.size + 1) s.heap.objs.size 0 .none → hp.get? s.heap.objs.size = some ob → (∀ b o, s.heap.get? b = some o → hp.get? b = some o) → T (.ref (s.heap.objs.size + 1)) { s with heap := hp }) :
    wpAny (model prog w) A (call (.type "enumerate") [x]) T E s := by
  have sz1 : (s.heap.push ob).objs.size = s.heap.objs.size + 1 := Heap.size_push ..
  refine callType_new F.called_enumerate (by decide) (F.typeCall_enumerate_1 _) (F.newCall_enumerate_1 _) (fun obj => F.args_object_init_2 obj _) F.entry_enumerate_new (enum_new B) ⟨hg, ?_⟩
  show _ ∧ _
  rw [sz1]
  have there := Heap.get?_push_size (s.heap.push ob) (o := { cls := .type "enumerate", data := .fields #[.none, .bool false, .ref s.heap.objs.size, rawInt 0, .none, .none] }) rfl
  rw [sz1] at there
  exact ⟨⟨_, there, rfl⟩, h _ there (Heap.get?_push_of_some _ (Heap.get?_push_size _ B.free)) fun b o z => Heap.get?_push_of_some _ (Heap.get?_push_of_some _ z)⟩
end
/-- the tuple at a, each item in a new pair -/
def ItE (K : PySem.W.Frag) (a : Addr) : It :=
  ⟨fun n G => ∃ (vs : List V) (y : V), SqT K G a vs ∧ vs[n]? = some y,
   fun n G v G' => ∃ p y, v = .ref p ∧ G p = none ∧ G' = upd G p (.tup [.int (n : Nat), y]) ∧ ∀ vs, SqT K G a vs → vs[n]? = some y,
   fun n G => ∃ vs : List V, SqT K G a vs ∧ vs.length ≤ n⟩
theorem turn_enumT {P : Program} {w : World} {K : PySem.W.Frag} {elts : List Expr} {kk : Nat} {tpos : Pos} (a e it : Addr) :
    Turn P w K (.Tuple elts kk tpos) (ItE K a) [e, it] e (fun n g => (∃ old, IsEnum g e it ((n : Nat) : Int) old) ∧ g.IsTupleIter it a n ∧ e ≠ it) where
  mem := by simp
  obj := fun n g st b hb => by
    obtain ⟨⟨old, he⟩, ⟨o, ho, hc, hd⟩, _⟩ := st
    rcases (show b = e ∨ b = it by simpa using hb) with z | z
    · subst z; exact ⟨_, he, fun v q => by cases q⟩
    · subst z; exact ⟨o, ho, fun v q => by rw [hd] at q; cases q⟩
  keep := fun n g g' st k => ⟨let ⟨old, he⟩ := st.1; ⟨old, k e (by simp) _ he⟩, st.2.1.at fun o q => k it (by simp) o q, st.2.2⟩
  item := by
    intro X eP ew eK calm n pins s σ G Er I fps st hg
    subst eP ew eK
    obtain ⟨⟨old, he⟩, hit, hne⟩ := st
    obtain ⟨vs, y, hq, hy⟩ := hg
    obtain ⟨its, rv, p, hz⟩ := I.tuple hq
    obtain ⟨u, hu, ru⟩ := rv.get hy
    have le : e < s.heap.objs.size := Heap.lt_size he
    have li : it < s.heap.objs.size := by obtain ⟨_, q, _⟩ := hit; exact Heap.lt_size q
    have hn : n < its.toArray.size := by rw [List.size_toArray]; exact (List.getElem?_eq_some_iff.mp hu).1
    have hai : a ≠ it := fun z => by
      obtain ⟨o, q, c, _⟩ := hit
      obtain ⟨o2, q2, c2, _⟩ := (show s.heap.IsTuple a its.toArray from p)
      rw [z, q] at q2
      cases q2
      rw [c] at c2
      simp at c2
    have hae : a ≠ e := fun z => by
      obtain ⟨o2, q2, c2, _⟩ := (show s.heap.IsTuple a its.toArray from p)
      rw [z, he] at q2
      cases q2
      simp at c2
    have D : Draws X.prog X.w X.A.in1 it [it, a] its.toArray.size (fun i v => its.toArray[i]? = some v) (fun i h => h.IsTupleIter it a i ∧ h.IsTuple a its.toArray) := Draws.tuple (show X.A.in1.handled = none from I.ok.hd calm) it a hai its.toArray
    have ef : e ∉ [it, a] := by simp [hne, Ne.symm hae]
    refine wpAny_pyNext_enum_itemD D he ⟨hit, p⟩ hn hne ef fun x g' tk hx ho ⟨hit', _⟩ hT hsz hk => ?_
    have exu : x = u := by rw [show its.toArray[n]? = some u by simpa using hu] at hx; exact (Option.some.inj hx).symm
    subst exu
    refine ⟨_, rfl, wpAny_letOwnedTupleGo_enum (s := { s with heap := g', toks := tk + 1 }) ho fun g2 he' sb => ?_⟩
    have hT2 := (sb.2 _ (Nat.ne_of_gt le)).trans hT
    have ob : ObjOk X.prog X.w (upd G s.heap.objs.size (.tup [.int (n : Nat), y])) g2 s.heap.objs.size (.tup [.int (n : Nat), y]) := ⟨by show 2 ≤ sizeLine; decide, [.int n tk, x], .cons ⟨_, rfl⟩ (.cons ru .nil), ⟨_, hT2, rfl, _, rfl⟩⟩
    have J := I.turnedNew (t' := tk + 1) (ch := [e, it]) (fun b o hb q => (sb.2 b (fun z => hb (by simp [z]))).trans (hk b o (fun z => hb (by simp [z])) (fun z => hb (by simp [z])) q)) fps (Nat.le_refl _) ob
    refine ⟨.ref s.heap.objs.size, _, J, rfl, ⟨_, y, rfl, I.hok.fresh (Nat.le_refl _), rfl, fun ws hw => by rw [I.tuple_inj hw hq]; exact hy⟩, ⟨⟨x, ?_⟩, hit'.at fun o q => (sb.2 it (Ne.symm hne)).trans q, hne⟩, fun b hb => ?_⟩
    · rw [show ((n + 1 : Nat) : Int) = (n : Int) + 1 by omega]; exact he'
    · have lb : b < s.heap.objs.size := by
        rcases (show b = e ∨ b = it by simpa using hb) with z | z <;> rw [z] <;> assumption
      rw [upd_ne (Nat.ne_of_lt lb)]
      exact (fps b hb).1
  done := by
    intro X eP ew eK calm n pins s σ G Er I fps st hg
    subst eP ew eK
    obtain ⟨⟨old, he⟩, hit, hne⟩ := st
    obtain ⟨vs, hq, hx⟩ := hg
    obtain ⟨its, rv, p, hz⟩ := I.tuple hq
    obtain ⟨f0, f1, f2, f3, f4, f5⟩ := fps it (by simp)
    have l1 := rv.length
    have hT : s.TypeIs (.ref e) "enumerate" := ⟨_, he, rfl⟩
    unfold pyNext
    refine wpAny_bind (wpAny_attempt (wpAny_callSpecial?_slot (name := Str.ofString "__next__") hT F.slot_enumerate_next (wpAny_call_entry F.slot_enumerate_next hT F.entry_enumerate_next ?_ (F.args_enumerate_next_1 _))))
    show wpAny _ _ (PySem.field (.ref e) 2 >>= _) _ _ _
    refine wpAny_bind (wpAny_field he rfl (x := .ref it) rfl ?_)
    refine wpAny_bind (wpAny_nextOf_tuple_end (show X.A.in1.handled = none from I.ok.hd calm) hit (show s.heap.IsTuple a its.toArray from p) (by simp; omega) fun h' x eb hx' => ?_)
    obtain ⟨o, ho, hc⟩ := hx'
    refine wpAny_bind (wpAny_isInstance (T := "StopIteration") (b := true) ⟨o, ho, hc⟩ isSubtype_stop ?_)
    exact wpAny_pure ⟨rfl, I.turned (t' := s.toks) (fun b o hb q => eb b o hb q) f0 f1 f3 f4 f5⟩
  self := fun A n s Q E st h => let ⟨⟨_, he⟩, _⟩ := st; wpAny_pyIter_enum he h
def iEnumT (K : PySem.W.Frag) (ta : TA) : TI := fun σ G R => ta σ G fun vs G1 => ∃ a ws, vs = [.ref a] ∧ SqT K G1 a ws ∧ R (ItE K a) G1
theorem pi_enumT {X : Cx} {e : Expr} {ta : TA} {p pos tpos : Pos} {elts : List Expr} {kk : Nat} (hg : Gl X "enumerate") (hm : X.mg "enumerate" = none) (ha : L2.PA X [e] ta) (hs : starEach [e] X.env = [(false, eval e X.env)] := by rfl) :
    L2.PI X (.Tuple elts kk tpos) (.Call (.Name "enumerate" p) [e] [] pos) (iEnumT X.K ta) := by
  refine ⟨fun pins s σ G R I h => ?_⟩
  refine Call_ (ld_blt I hg hm boot_enumerate (PyProof.Rows.callWith_type1 (thn (ha.run pos pins s σ G _ I h) fun us s1 ⟨vs, G1, I1, r1, a, ws, ex, hq, q⟩ => ?_) hs rfl))
  subst ex
  obtain ⟨u, rfl, ru⟩ := r1.one
  cases ru
  obtain ⟨its, rv, p', hz⟩ := I1.tuple hq
  refine enum_of (begins_tuple a its.toArray) (show s1.heap.IsTuple a its.toArray from p') fun hp he hit hk => wpAny_pyIter_enum he ?_
  have I2 : L2.Inv X pins σ G1 { s1 with heap := hp } := I1.kept (t' := s1.toks) hk
  refine ⟨s1.heap.objs.size + 1, [s1.heap.objs.size + 1, s1.heap.objs.size], _, _, G1, rfl, I2, turn_enumT a (s1.heap.objs.size + 1) s1.heap.objs.size, ⟨⟨.none, he⟩, ⟨_, hit, rfl, rfl⟩, Nat.succ_ne_self _⟩, fun b hb => ?_, q⟩
  have lb : s1.heap.objs.size ≤ b := by
    rcases (show b = s1.heap.objs.size + 1 ∨ b = s1.heap.objs.size by simpa using hb) with z | z
    · rw [z]; exact Nat.le_succ _
    · rw [z]; exact Nat.le_refl _
  exact I1.fpOk lb (I1.hok.fresh lb)
end DM
set_option Elab.async false
set_option linter.all false
set_option maxRecDepth 100000
set_option maxHeartbeats 1000000
namespace DL
open PySem PySem.Spec PyProof.Rows L2
/-! ### enumerate(tuple), enumerate(list) -/
def enums : Nat → List D → List D
  | _, [] => []
  | n, d :: r => .tup [.int n, d] :: enums (n + 1) r
theorem enums_get : ∀ {ds : List D} {n i : Nat} {d : D}, (enums n ds)[i]? = some d → ∃ x, ds[i]? = some x ∧ d = .tup [.int ((n + i : Nat) : Int), x]
  | [], _, _, _, h => by simp [enums] at h
  | y :: r, n, 0, d, h => by
    have h : some (D.tup [.int n, y]) = some d := h
    cases h
    exact ⟨y, rfl, rfl⟩
  | y :: r, n, i + 1, d, h => by
    obtain ⟨x, h1, h2⟩ := enums_get (ds := r) (n := n + 1) (i := i) h
    exact ⟨x, h1, by rw [h2, show n + 1 + i = n + (i + 1) by omega]⟩
theorem enums_len : ∀ (ds : List D) (n : Nat), (enums n ds).length = ds.length
  | [], _ => rfl
  | _ :: r, n => by simp [enums, enums_len r]
theorem ItOk.enT {K : PySem.W.Frag} {H : Hp} {a : Addr} {vs : List V} {ds : List D} (h : SqT K H a vs) (r : RpA K H ds vs) : ItOk K (DM.ItE K a) (enums 0 ds) H where
  go := fun i d H' e hd => by
    obtain ⟨x, hx, rfl⟩ := enums_get hd
    obtain ⟨v, hv, rv⟩ := r.get hx
    refine ⟨⟨vs, v, e.sqT h, hv⟩, fun y H2 ⟨p, y2, e1, n1, e2, q⟩ => ?_⟩
    subst e1 e2
    have q := q vs (e.sqT h)
    rw [hv] at q
    cases q
    have x2 : Ext H' (upd H' p (.tup [.int (i : Nat), v])) := .new n1
    exact ⟨x2, ⟨p, _, rfl, .of upd_same, _, _, rfl, (by show _ = _; rw [Nat.zero_add]), _, _, rfl, rv.ext (e.trans x2), rfl⟩, fun S s => s.new n1⟩
  stop := fun i H' e hi => ⟨vs, e.sqT h, by rw [r.length, ← enums_len ds 0]; exact hi⟩
theorem ItOk.enL {K : PySem.W.Frag} {H : Hp} {a : Addr} {vs : List V} {ds : List D} (h : SqF K H a vs) (r : RpA K H ds vs) : ItOk K (Ite K a) (enums 0 ds) H where
  go := fun i d H' e hd => by
    obtain ⟨x, hx, rfl⟩ := enums_get hd
    obtain ⟨v, hv, rv⟩ := r.get hx
    refine ⟨⟨vs, v, (e.sqF h).sq, hv⟩, fun y H2 ⟨p, y2, e1, n1, e2, q⟩ => ?_⟩
    subst e1 e2
    have q := q vs (e.sqF h).sq
    rw [hv] at q
    cases q
    have x2 : Ext H' (upd H' p (.tup [.int (i : Nat), v])) := .new n1
    exact ⟨x2, ⟨p, _, rfl, .of upd_same, _, _, rfl, (by show _ = _; rw [Nat.zero_add]), _, _, rfl, rv.ext (e.trans x2), rfl⟩, fun S s => s.new n1⟩
  stop := fun i H' e hi => ⟨vs, (e.sqF h).sq, by rw [r.length, ← enums_len ds 0]; exact hi⟩
section
variable {X : Cx} {e : Expr} {t : DA} {p pos tpos : Pos} {elts : List Expr} {kk : Nat}
def dEnT (t : DA) : DI := fun δ S P => t δ S fun ds S1 => match ds with
  | [.tup xs] => P (enums 0 xs) S1
  | _ => False
def dEnL (t : DA) : DI := fun δ S P => t δ S fun ds S1 => match ds with
  | [.lst xs] => P (enums 0 xs) S1
  | _ => False
theorem i_enT (hg : Gl X "enumerate") (hm : X.mg "enumerate" = none) (ha : QA X [e] t) (hs : starEach [e] X.env = [(false, eval e X.env)] := by rfl) : QI X (.Tuple elts kk tpos) (.Call (.Name "enumerate" p) [e] [] pos) (dEnT t) :=
  PI.imp (DM.pi_enumT hg hm ha hs) fun σ H R ⟨δ, S, P, rs, sr, q, fin⟩ => ⟨δ, S, _, rs, sr, q, fun ds S1 vs H1 h1 r1 s1 e1 => by
    split at h1
    · obtain ⟨v, rfl, a, ws, rfl, ha, r3⟩ := r1.one
      exact ⟨a, ws, rfl, ha, fin _ S1 _ H1 h1 s1 e1 (.enT ha r3)⟩
    · exact h1.elim⟩
theorem i_enL (hg : Gl X "enumerate") (hm : X.mg "enumerate" = none) (ha : QA X [e] t) (hs : starEach [e] X.env = [(false, eval e X.env)] := by rfl) : QI X (.Tuple elts kk tpos) (.Call (.Name "enumerate" p) [e] [] pos) (dEnL t) :=
  PI.imp (pi_enum hg hm ha hs) fun σ H R ⟨δ, S, P, rs, sr, q, fin⟩ => ⟨δ, S, _, rs, sr, q, fun ds S1 vs H1 h1 r1 s1 e1 => by
    split at h1
    · obtain ⟨v, rfl, a, ws, rfl, ha, r3⟩ := r1.one
      exact ⟨a, ws, rfl, ha.sq, fin _ S1 _ H1 h1 s1 e1 (.enL ha r3)⟩
    · exact h1.elim⟩
theorem e_enT {δ : DSt} {S : Sto} {P : List D → Sto → Prop} : dEnT t δ S P = t δ S fun ds S1 => match ds with
  | [.tup xs] => P (enums 0 xs) S1
  | _ => False := rfl
theorem e_enL {δ : DSt} {S : Sto} {P : List D → Sto → Prop} : dEnL t δ S P = t δ S fun ds S1 => match ds with
  | [.lst xs] => P (enums 0 xs) S1
  | _ => False := rfl
end
end DL
set_option Elab.async false
set_option linter.all false
set_option maxRecDepth 100000
set_option maxHeartbeats 1000000
namespace DL
open PySem PySem.Spec PyProof.Rows L2
/-! ### a def taken from a written list -/
section
variable {X : Cx} {k : Nat} {f1 f2 : Addr} {ps1 ps2 : List Str} {sp1 sp2 : DSp} {p pos : Pos} {g e : Expr} {es : List Expr} {tf : DE} {t : DA}
def dCallE (f1 f2 : Addr) (sp1 sp2 : DSp) (tf : DE) (t : DA) : DE := fun δ S P => tf δ S fun d S1 => (d = .ref f1 ∧ t δ S1 fun ds S2 => sp1 ds S2 P) ∨ (d = .ref f2 ∧ t δ S1 fun ds S2 => sp2 ds S2 P)
theorem q_callE (F1 : HasAt X.prog X.w X.K X.mg X.base k f1 ps1 sp1) (F2 : HasAt X.prog X.w X.K X.mg X.base k f2 ps2 sp2) (hr : Room k X.A) (hgd : X.A.guards = some []) (hf : QE X g tf) (ha : QA X (e :: es) t)
    (hev : eval (.Call g (e :: es) [] pos) X.env = (do callWith pos (← eval g X.env) [] (backTo pos (starEach (e :: es) X.env)) (backToKw pos (keywordEach [] X.env))) := by rfl)
    (he : starEach (e :: es) X.env = (false, eval e X.env) :: starEach es X.env := by rfl) (hpl : (backTo pos (starEach es X.env)).any (·.1) = false := by rfl) : QE X (.Call g (e :: es) [] pos) (dCallE f1 f2 sp1 sp2 tf t) := by
  refine ⟨fun pins s σ H Q I ⟨δ, S, P, rs, sr, h, fin⟩ => ?_⟩
  refine Call_ (thn (hf.run pins s σ H (fun v H1 => ∃ d S1, Rp X.K H1 d v ∧ SR X.K H1 S1 ∧ Ext H H1 ∧ ((d = .ref f1 ∧ t δ S1 fun ds S2 => sp1 ds S2 P) ∨ (d = .ref f2 ∧ t δ S1 fun ds S2 => sp2 ds S2 P))) I ⟨δ, S, _, rs, sr, h, fun d S1 v H1 h1 r1 s1 e1 => ⟨d, S1, r1, s1, e1, h1⟩⟩) fun u s0 ⟨v, H0, I0, ru, d, S0, r0, sr0, e0, h0⟩ => ?_) hev
  have go : ∀ {f : Addr} {ps : List Str} {sp : DSp}, HasAt X.prog X.w X.K X.mg X.base k f ps sp → d = .ref f → (t δ S0 fun ds S2 => sp ds S2 P) → wpAny (model X.prog X.w) X.A (callWith pos u [] (backTo pos (starEach (e :: es) X.env)) []) (EP X pins σ Q) X.xe s0 := by
    rintro f ps sp ⟨fd, F, hb, hk⟩ rfl h
    cases r0
    cases ru
    refine PySem.W.callWith_K (h₀ := X.base) I0.ok.mod.kin hk ?_ he hpl
    refine thn (ha.run pos pins s0 σ _ (fun vs H1 => ∃ ds S1, RpA X.K H1 ds vs ∧ SR X.K H1 S1 ∧ sp ds S1 P ∧ Fin X.K H1 P Q) I0 ⟨δ, S0, _, rs.ext e0, sr0, h, fun ds S1 vs H1 h1 r1 s1 e1 => ⟨ds, S1, r1, s1, h1, fin.ext (e0.trans e1)⟩⟩) fun us s1 ⟨vs, H1, I1, r, ds, S1, r1, s2, q, fin1⟩ => ⟨I1.kIn, ?_⟩
    have hl : us.length = ps.length := by rw [← r.length, r1.length]; exact F.len _ _ _ q
    have hb' : BindsTo s1 fd ⟨us, []⟩ (ps.zip us) := by have z := hb s1 us I1.kIn (by simpa using hl); rw [List.append_nil] at z; exact z
    refine wpAny_call (codeAny_mono (F.run X.A X.stack s1 H1 ⟨us, []⟩ us vs Q hr hgd I1.env0 hb' r ⟨ds, S1, P, r1, s2, q, fin1⟩) fun r s' hq => ?_)
    cases r with
    | error e => exact False.elim hq
    | ok fl => cases fl with
      | ret u => exact I1.after hq
      | _ => exact False.elim hq
  rcases h0 with ⟨e1, h1⟩ | ⟨e1, h1⟩
  · exact go F1 e1 h1
  · exact go F2 e1 h1
theorem e_callE {δ : DSt} {S : Sto} {P : DK} : dCallE f1 f2 sp1 sp2 tf t δ S P = tf δ S fun d S1 => (d = .ref f1 ∧ t δ S1 fun ds S2 => sp1 ds S2 P) ∨ (d = .ref f2 ∧ t δ S1 fun ds S2 => sp2 ds S2 P) := rfl
end
/-! ### a def called by its parameters' names -/
section
variable {P : Program} {w : World} {K : PySem.W.Frag} {mg : Str → Option Value} {base : Heap}
def DefW (K : PySem.W.Frag) (mg : Str → Option Value) (x : Str) (st : Stmt) (ps : List Str) : Prop := ∃ f fd, Fun K x x st f fd ∧ Binds K fd ps [] ∧ mg x = some (.ref f) ∧ ∀ us : List Value, us.length = ps.length → bindArgs fd ⟨[], ps.zip us⟩ = pure (ps.zip us)
def HasW (P : Program) (w : World) (K : PySem.W.Frag) (mg : Str → Option Value) (base : Heap) (k : Nat) (x : Str) (ps : List Str) (sp : DSp) : Prop :=
  ∃ f fd, FnD P w K mg base k f fd ps sp ∧ (∀ us : List Value, us.length = ps.length → bindArgs fd ⟨[], ps.zip us⟩ = pure (ps.zip us)) ∧ PySem.W.keepIn K (.ref f) = true ∧ mg x = some (.ref f)
theorem HasW.mono {j k : Nat} {x : Str} {ps : List Str} {sp : DSp} (h : HasW P w K mg base j x ps sp) (l : j ≤ k) : HasW P w K mg base k x ps sp := let ⟨f, fd, a, b⟩ := h; ⟨f, fd, a.mono l, b⟩
/-- both ways to call it -/
def HasB (P : Program) (w : World) (K : PySem.W.Frag) (mg : Str → Option Value) (base : Heap) (k : Nat) (x : Str) (ps : List Str) (sp : DSp) : Prop := Has P w K mg base k x ps sp ∧ HasW P w K mg base k x ps sp
theorem DefW.has {x : Str} {st : Stmt} {N ps : List Str} {k : Nat} {sp : DSp} (D : DefW K mg x st ps) (S : FnScope N ps (defScope st)) (len : ∀ ds S P, sp ds S P → ds.length = ps.length)
    (hbody : ∀ (f : Addr) (cdv : Value) (A : Around) (outer : List Env) (s : Shared) (H : Hp), Room k (A.deeper (envOfC x (defScope st) s.heap.objs.size f cdv)) → A.guards = some [] →
      ∃ t, QSs (cxOf CX0 P w K mg base N x (defScope st) f cdv A outer s H E0).nox (defBody st) t ∧ ∀ ds S' P', sp ds S' P' → t { nx := fun _ S2 => P' .non S2, rt := P' } (dstart N ds) S') : HasB P w K mg base (k + 1) x ps sp := by
  obtain ⟨f, fd, F, b, m, kw⟩ := D
  have q := okD F S len (hbody f)
  exact ⟨⟨f, fd, q, b, F.kp, m⟩, ⟨f, fd, q, kw, F.kp, m⟩⟩
end
section
variable {X : Cx} {k : Nat} {sp : DSp} {x y : Str} {p pos kpos : Pos} {e : Expr} {te : DE}
theorem q_kw (G : HasW X.prog X.w X.K X.mg X.base k x [y] sp) (hr : Room k X.A) (hgd : X.A.guards = some []) (ha : QE X e te) (hg : Gl X x := by rfl) (hdb : (x == ("__debug__" : Str)) = false := by decide)
    (hall : (backToKw pos (keywordEach [⟨some y, e, kpos⟩] X.env)).all (·.1.isSome) = true := by rfl) (hks : (backToKw pos (keywordEach [⟨some y, e, kpos⟩] X.env)).filterMap (·.1) = [y] := by rfl)
    (hpl : ((backTo pos (starEach [] X.env)).any (·.1) || (backToKw pos (keywordEach [⟨some y, e, kpos⟩] X.env)).any (·.1.isNone)) = false := by rfl) :
    QE X (.Call (.Name x p) [] [⟨some y, e, kpos⟩] pos) (dCB sp (dCons te dNil)) := by
  obtain ⟨f, fd, F, kw, hk, m⟩ := G
  refine ⟨fun pins s σ H Q I ⟨δ, S, P, rs, sr, h, fin⟩ => wpAny_Call_Name_kw (ld_glob I hg m ?_ hdb)⟩
  refine PySem.W.callWith_KW0 (h₀ := X.base) I.ok.mod.kin hk hall ?_ hpl
  refine thn ((pk_cons (nm := some y) (kpos := kpos) ha pk_nil).run pos pins s σ H (fun vs H1 => ∃ ds S1, RpA X.K H1 ds vs ∧ SR X.K H1 S1 ∧ sp ds S1 P ∧ Fin X.K H1 P Q) I ⟨δ, S, _, rs, sr, h, fun d S1 v H1 h1 r1 s1 e1 => ⟨[d], S1, .single r1, s1, h1, fin.ext e1⟩⟩) fun us s1 ⟨vs, H1, I1, r, ds, S1, r1, s2, q, fin1⟩ => ⟨I1.kIn, ?_⟩
  have hl : us.length = [y].length := by rw [← r.length, r1.length]; exact F.len _ _ _ q
  rw [hks]
  refine wpAny_call (codeAny_mono (F.run X.A X.stack s1 H1 ⟨[], [y].zip us⟩ us vs Q hr hgd I1.env0 (.of_eq (kw us hl)) r ⟨ds, S1, P, r1, s2, q, fin1⟩) fun r s' hq => ?_)
  cases r with
  | error e => exact False.elim hq
  | ok fl => cases fl with
    | ret u => exact I1.after hq
    | _ => exact False.elim hq
end
end DL
set_option Elab.async false
set_option linter.all false
set_option maxRecDepth 100000
set_option maxHeartbeats 2000000
namespace DM
open PySem PySem.Spec PyProof.Rows L2
open AutoSeq1 (wpAny_loadPart')
theorem dict_un_str (a : Addr) (es : Array DictEntry) (m : Nat) (d0 : Option Addr) (cells : Array (Option Value)) (z : Str) (t : Tok) :
    Meets (Builtin.«dict.__ne__» ⟨[.ref a, .str z t], []⟩) (fun _ R s => s.heap.get? a = some ⟨.type "dict", d0, .dict es m, cells⟩ ∧ R (.ok (.ret .notImplemented)) s) :=
  .of_wp fun prog w A R s h => by
    obtain ⟨hp, g, d, tk, os⟩ := s
    obtain ⟨hl, h⟩ := h
    have f1 := F.sub_str_dict
    wp_walk using wpAny_loadPart' hl
    exact ⟨_, rfl, h⟩
theorem str_un_dict (z : Str) (t : Tok) (a : Addr) (es : Array DictEntry) (m : Nat) (d0 : Option Addr) (cells : Array (Option Value)) :
    Meets (Builtin.«str.__ne__» ⟨[.str z t, .ref a], []⟩) (fun _ R s => s.heap.get? a = some ⟨.type "dict", d0, .dict es m, cells⟩ ∧ R (.ok (.ret .notImplemented)) s) :=
  .of_wp fun prog w A R s h => by
    obtain ⟨hp, g, d, tk, os⟩ := s
    obtain ⟨hl, h⟩ := h
    have f1 := F.sub_dict_str
    wp_walk using wpAny_loadPart' hl, wpAny_load hl
    exact ⟨_, rfl, h⟩
section
open SeqAt
variable {A : Around} {s : Shared}
theorem rcn_dict_str {a : Addr} {es : Array DictEntry} {m : Nat} {d0 : Option Addr} {cells : Array (Option Value)} (z : Str) (t : Tok) (hl : s.heap.get? a = some ⟨.type "dict", d0, .dict es m, cells⟩) (hu : A.units < cLine) : RcNeAt A s (.ref a) (.str z t) true := fun prog w E Q h =>
  rc_ne_decline_or (k := false) ⟨_, hl, rfl⟩ (typeIs_str s z t) (by decide) F.sub_str_dict F.slot_dict_ne F.slot_str_ne_refl
    (fun _ hq => call_meets F.slot_dict_ne ⟨_, hl, rfl⟩ F.entry_dict_ne (F.args_dict_ne_2 _ _) (dict_un_str a es m d0 cells z t) ⟨hl, hq⟩)
    (fun _ hq => call_meets F.slot_str_ne_refl (typeIs_str s z t) F.entry_str_ne (F.args_str_ne_2 _ _) (str_un_dict z t a es m d0 cells) ⟨hl, hq⟩)
    (fun _ hq => wpAny_of_eq (rfl : isSame (.ref a) (.str z t) = pure false) hq) (.inr hu) h
end
end DM
namespace DL
open PySem PySem.Spec PyProof.Rows L2
/-! ### != a text, in a list that changes -/
def neF : DR := fun x y S P => match x, y with
  | .dic _, .str _ => P (.bl true) S
  | x, y => neD x y S P
theorem op_neF {X : Cx} (hu : X.A.units + 200 < cLine) : OpD X (compareOp .NotEq) neF := by
  intro pins s σ H x y v u Q I rx ry ⟨d, e, S, P, r1, r2, sr, h, fin⟩
  unfold neF at h
  split at h
  · obtain ⟨c, o, ws, rfl, hc, r4⟩ := r1
    cases rx
    cases r2
    obtain ⟨t, rfl⟩ := ry
    obtain ⟨es, n, dd, sl, q⟩ := dic_at I hc
    exact DM.rcn_dict_str _ t q (by omega) X.prog X.w _ _ ⟨.bl _, H, I, rfl, fin (.bl _) S _ H h rfl sr (.refl H)⟩
  · exact op_neD (by omega) pins s σ H x y v u Q I rx ry ⟨d, e, S, P, r1, r2, sr, h, fin⟩
theorem neF_t {d : D} {z : Str} {S : Sto} {P : DK} (h : flat d = true) : neF d (.str z) S P = P (.bl (!memS d [z])) S := by
  have e2 : norm S (.str z) = .str z := rfl
  cases d with
  | ref a => cases h
  | ty n => cases h
  | str a =>
    have e : memS (.str a) [z] = (a == z) := by simp [memS, BEq.comm (a := a)]
    rw [e]
    rfl
  | _ => rfl
theorem norm_ref {S : Sto} {a : Addr} : norm S (.ref a) = match S a with
  | some (.lst xs) => .lst xs
  | _ => .ref a := rfl
def inM : DR := fun x y S P => (inB x (norm S y)).elim False fun b => P (.bl b) S
theorem op_inM {X : Cx} (hu : X.A.units + 200 < cLine) : OpD X (compareOp .In) inM := by
  intro pins s σ H x y v u Q I rx ry ⟨d, e, S, P, r1, r2, sr, h, fin⟩
  cases e with
  | ref a =>
    cases r2
    cases hS : S a with
    | none => unfold inM at h; rw [norm_ref, hS] at h; cases d <;> exact h.elim
    | some o =>
      cases o with
      | lst xs =>
        have e1 : norm S (.ref a) = .lst xs := by rw [norm_ref, hS]
        unfold inM at h
        rw [e1] at h
        obtain ⟨b, hb, q⟩ := el_of h
        have go : EP X pins σ Q (.bool b) s := ⟨.bl b, H, I, rfl, fin (.bl b) S _ H q rfl sr (.refl H)⟩
        have u1 : X.A.in1.units < cLine := by rw [in1_units]; omega
        rcases inB_of hb with ⟨a2, c, _, z, _⟩ | ⟨ys, zs, hy, hx, hz, e1⟩
        · cases z
        · rcases hy with z | z
          · cases z
          · cases z
            obtain ⟨vs, hv, r3⟩ := sr.lst hS
            cases ry
            rw [strsD_eq hz] at r3
            rw [r3.strs] at hv
            obtain ⟨its, q1, p1, _⟩ := I.list (.of hv)
            refine SeqAt.in_listAt (eStr d) p1.isList (fun w hw => eqs_of I u1 hx r1 rx q1 w (by simpa using hw)) ?_
            rw [show its.toArray.any (eStr d) = its.any (eStr d) by simp, any_eStr (K := X.K) (H := H) q1, ← e1]
            exact go
      | _ => unfold inM at h; rw [norm_ref, hS] at h; cases d <;> exact h.elim
  | _ => exact op_inD hu pins s σ H x y v u Q I rx ry ⟨d, _, S, P, r1, r2, sr, by
      obtain ⟨b, hb, q⟩ := el_of h
      unfold inD
      refine (show (some b).elim False (fun b => P (.bl (false != b)) S) → _ from fun z => by rw [← hb] at z; exact z) ?_
      show P (.bl (false != b)) S
      rw [show (false != b) = b by cases b <;> rfl]
      exact q, fin⟩
theorem in_m {a : Addr} {z : Str} {zs : List Str} {S : Sto} {P : DK} (e : S a = some (.lst (zs.map .str))) : inM (.str z) (.ref a) S P = P (.bl (decide (z ∈ zs))) S := by
  have q : ∀ zs : List Str, strsD (zs.map D.str) = some zs := by
    intro zs
    induction zs with
    | nil => rfl
    | cons z r ih => show (strsD (r.map D.str)).map _ = _; rw [ih]; rfl
  unfold inM
  rw [norm_ref, e]
  show ((if flat (.str z) = true then (strsD (zs.map D.str)).map (memS (.str z)) else none).elim False _) = _
  rw [if_pos (show flat (.str z) = true from rfl), q]
  show P (.bl (memS (.str z) zs)) S = _
  congr 2
  show (zs.any fun y => y == z) = _
  rw [Bool.eq_iff_iff, List.any_eq_true, decide_eq_true_iff]
  exact ⟨fun ⟨y, h1, h2⟩ => by rw [← beq_iff_eq.mp h2]; exact h1, fun h => ⟨z, h, beq_self_eq_true z⟩⟩
/-! ### a comprehension whose list changes later -/
def lcBM (g : DG) (tt : DT) (te : DE) (vs : List Nat) (δ : DSt) (ds : List D) (S1 : Sto) (P : DK) : Prop := ∀ p, S1 p = none → ∃ Inv : Nat → List D → Sto → Prop, Inv 0 [] (sup S1 p (.lst [])) ∧
  (∀ i acc S', Inv i acc S' → S' p = some (.lst acc)) ∧
  (∀ i d acc S', ds[i]? = some d → Inv i acc S' → g d (dwipe δ vs) S' fun δ2 S2 => tt δ2 S2 fun b S3 =>
    bif b then te δ2 S3 fun y S4 => S4 p = some (.lst acc) ∧ acc.length < sizeLine ∧ Inv (i + 1) (acc ++ [y]) (sup S4 p (.lst (acc ++ [y]))) else Inv (i + 1) acc S3) ∧
  ∀ acc S', Inv ds.length acc S' → P (.ref p) S'
def dLcM (t : DI) (g : DG) (tt : DT) (te : DE) (vs : List Nat) : DE := fun δ S P => t δ S fun ds S1 => lcBM g tt te vs δ ds S1 P
section
variable {X : Cx} {tg iter elt : Expr} {pos : Pos} {te : DE} {ifs : List Expr} {scope : Scope} {di : DI} {dt : DT}
theorem lc_coreM {t : DI} {g : TG} {dg : DG} {tt : DT} {is : List Nat} {σ : L2.St} {H : Hp} {Q Q' : VK} (G : LcG X.K g dg is) (h : lE X.K (dLcM t dg tt te is) σ H Q)
    (hQ : ∀ v H1, Q v H1 → Q' v H1) : tLc (lI X.K t) g (lT X.K tt) (lE X.K te) is σ H Q' := by
  obtain ⟨δ, S, P, rs, sr, h, fin⟩ := h
  refine ⟨δ, S, _, rs, sr, h, fun ds S1 J H1 hp s1 e1 it => fun Dd nD => ?_⟩
  obtain ⟨Iv, i0, ip, turn, last⟩ := hp Dd (s1.none nD)
  refine ⟨fun i m H' => m = ds.length - i ∧ i ≤ ds.length ∧ Ext H1 H' ∧ ∃ acc S', SR X.K H' S' ∧ Iv i acc S', ⟨_, rfl, Nat.zero_le _, .new nD, [], _, s1.add (ds := []) nD (by simp [RpA]), i0⟩, ?_⟩
  rintro i m H' ⟨rfl, hi, e2, acc, S', sr2, iv⟩
  have hS := ip i acc S' iv
  by_cases hlt : i < ds.length
  · obtain ⟨d, hd⟩ : ∃ d, ds[i]? = some d := ⟨_, List.getElem?_eq_getElem hlt⟩
    obtain ⟨g1, g2⟩ := it.go i d H' e2 hd
    refine .inr ⟨g1, fun H2 => Ext H1 H2 ∧ ∃ acc S', SR X.K H2 S' ∧ Iv (i + 1) acc S', fun H2 ⟨x1, x2⟩ => ⟨ds.length - (i + 1), by omega, rfl, hlt, x1, x2⟩, fun x H2 y => ?_⟩
    obtain ⟨y1, y2, y3⟩ := g2 x H2 y
    refine G d x σ H2 δ S' _ _ y2 ((rs.ext (e1.trans (e2.trans y1))).wipe) (turn i d acc S' hd iv) fun δ2 σ2 hw rs2 q => ⟨hw, δ2, S', _, rs2, y3 _ sr2, q, fun b S3 H3 q3 s3 e3 => ?_⟩
    rw [bif_if] at q3
    split
    · rename_i hb
      rw [if_pos hb] at q3
      refine ⟨δ2, S3, _, rs2.ext e3, s3, q3, fun y S4 v H4 ⟨h0, hl, h4⟩ r4 s4 e4 => ?_⟩
      obtain ⟨vs, hv, r5⟩ := s4.lst h0
      exact ⟨vs, hv, by rw [r5.length]; exact hl, e2.trans (y1.trans (e3.trans (e4.trans (.mutL hv)))), _, _, s4.mut h0 (r5.append (.single r4)), h4⟩
    · rename_i hb
      rw [if_neg hb] at q3
      exact ⟨e2.trans (y1.trans e3), acc, S3, s3, q3⟩
  · have : i = ds.length := by omega
    subst this
    obtain ⟨vs, hv, r5⟩ := sr2.lst hS
    refine .inl ⟨it.stop _ H' e2 (Nat.le_refl _), hQ _ _ ?_⟩
    exact fin _ _ _ _ (last acc S' iv) rfl sr2 (e1.trans e2)
theorem s_setLcM {g : TG} {dg : DG} {own : List (Str × Nat)} {is : List Nat} (i : Nat) {y : Str} {py spos : Pos} (hown : own.map (·.2) = is) (G : LcG X.K g dg is) (hc : X.calm = true) (hN : X.N.Nodup) (hi : QI X tg iter di) (ok : BlkOk X.N X.env.scope scope own)
    (hg : ∀ (s : Shared) (H : Hp) (C : Addr) (cl : List (Str × Addr)) (fp : List Addr), L2.PG (X.blk s H scope (compEnvC scope cl C X.env) fp) tg g) (ht : ∀ (s : Shared) (H : Hp) (C : Addr) (cl : List (Str × Addr)) (fp : List Addr), PTs (X.blk s H scope (compEnvC scope cl C X.env) fp) ifs (lT X.K dt))
    (he : ∀ (s : Shared) (H : Hp) (C : Addr) (cl : List (Str × Addr)) (fp : List Addr), L2.PE (X.blk s H scope (compEnvC scope cl C X.env) fp) elt (lE X.K te))
    (hsw : swapsWith (.ListComp elt [⟨tg, iter, ifs, 0⟩] scope pos) (some (.Name y py)) spos.line X.env = pure true) (hy : X.N[i]? = some y := by rfl) (hyl : X.env.scope.names.lookup y = some .local := by rfl) (hs : ∀ x, foldedSetIterable iter X.env x = pure x := by intro _; rfl) :
    QS X (.Assign [.Name y py] (.ListComp elt [⟨tg, iter, ifs, 0⟩] scope pos) spos) (dSet i (dLcM di dg dt te is)) :=
  PS.imp (ps_setLc hc hN hy hyl hsw hi ok hg ht he hs) fun D σ H ⟨δ, S, P, rs, sr, h, fin⟩ => by
    subst hown
    exact lc_coreM (Q := fun v H2 => D.nx (σ.set i (some v)) H2) G ⟨δ, S, _, rs, sr, h, fun d S1 v H1 h1 r1 s1 e1 => fin.nx _ S1 _ H1 h1 ((rs.ext e1).set r1) s1 e1⟩ fun v H1 q => q
theorem e_lcM {t : DI} {g : DG} {tt : DT} {te : DE} {vs : List Nat} {δ : DSt} {S : Sto} {P : DK} : dLcM t g tt te vs δ S P = t δ S fun ds S1 => lcBM g tt te vs δ ds S1 P := rfl
end
/-! ### comprehensions by their parts -/
/-- each element as f says, whatever the target -/
theorem lc_growG {g : DG} {is : List Nat} {tt : DT} {te : DE} {δ : DSt} {ds : List D} {S : Sto} {P : DK} (at1 : D → DSt) (q : D → Bool) (f : D → D) (hz : ds.length ≤ sizeLine)
    (hg : ∀ d ∈ ds, ∀ (S2 : Sto) (Q : DSt → Sto → Prop), Q (at1 d) S2 → g d (dwipe δ is) S2 Q)
    (ht : ∀ d ∈ ds, ∀ (S2 : Sto) (Q : Bool → Sto → Prop), (∀ S3, Step [] S2 S3 → Q (q d) S3) → tt (at1 d) S2 Q)
    (he : ∀ d ∈ ds, q d = true → ∀ (S2 : Sto) (Q : DK), (∀ S3, Step [] S2 S3 → Q (f d) S3) → te (at1 d) S2 Q)
    (h : ∀ S', Step [] S S' → P (.lst ((ds.filter q).map f)) S') : lcB g tt te is δ ds S P := by
  intro p np
  refine ⟨fun j acc S' => acc = ((ds.take j).filter q).map f ∧ S' p = some (.lst acc) ∧ ∀ b, S b ≠ none → S' b = S b, ⟨rfl, sup_same, fun b hb => sup_ne fun e => hb (by rw [e]; exact np)⟩, fun _ _ _ z => z.2.1, fun j d acc S' hd ⟨e1, e2, e3⟩ => ?_, fun acc S' ⟨e1, e2, e3⟩ => ?_⟩
  · have hm : d ∈ ds := List.mem_of_getElem? hd
    refine hg d hm S' _ ?_
    refine ht d hm S' _ fun S3 s3 => ?_
    have k3 : S3 p = some (.lst acc) := s3.at e2 List.not_mem_nil
    have o3 : ∀ b, S b ≠ none → S3 b = S b := fun b hb => by rw [s3 b (by rw [e3 b hb]; exact hb) List.not_mem_nil, e3 b hb]
    have tk : ds.take (j + 1) = ds.take j ++ [d] := by rw [List.take_add_one, hd]; rfl
    cases hq : q d with
    | false =>
      show acc = _ ∧ _ ∧ _
      refine ⟨?_, k3, o3⟩
      rw [tk, List.filter_append, List.filter_cons_of_neg (by rw [hq]; exact Bool.false_ne_true), List.filter_nil, List.append_nil]
      exact e1
    | true =>
      show te _ S3 _
      refine he d hm hq S3 _ fun S4 s4 => ⟨s4.at k3 List.not_mem_nil, ?_, ?_, sup_same, fun b hb => ?_⟩
      · have l1 : acc.length ≤ (ds.take j).length := by rw [e1, List.length_map]; exact List.length_filter_le _ _
        have l2 : (ds.take j).length < ds.length := by
          have hj := (List.getElem?_eq_some_iff.mp hd).1
          rw [List.length_take]; omega
        omega
      · rw [tk, List.filter_append, List.filter_cons_of_pos hq, List.filter_nil, List.map_append, ← e1]
        rfl
      · have hne : b ≠ p := fun e => hb (by rw [e]; exact np)
        rw [sup_ne hne, s4 b (by rw [o3 b hb]; exact hb) List.not_mem_nil, o3 b hb]
  · rw [List.take_length] at e1
    rw [e1]
    refine h _ fun b hb _ => ?_
    have hne : b ≠ p := fun e => hb (by rw [e]; exact np)
    unfold sdel
    rw [if_neg hne]
    exact e3 b hb
/-- some of the elements, in a list that may change -/
theorem lc_someM {i : Nat} {tt : DT} {te : DE} {δ : DSt} {ds : List D} {S : Sto} {P : DK} (q : D → Bool) (hz : ds.length ≤ sizeLine)
    (ht : ∀ d ∈ ds, ∀ (S2 : Sto) (Q : Bool → Sto → Prop), (∀ S3, Step [] S2 S3 → Q (q d) S3) → tt ((δ.set i none).set i (some d)) S2 Q)
    (he : ∀ d ∈ ds, q d = true → ∀ (S2 : Sto) (Q : DK), (∀ S3, Step [] S2 S3 → Q d S3) → te ((δ.set i none).set i (some d)) S2 Q)
    (h : ∀ p S', S p = none → S' p = some (.lst (ds.filter q)) → Step [] S S' → P (.ref p) S') : lcBM (gN i) tt te [i] δ ds S P := by
  intro p np
  refine ⟨fun j acc S' => acc = (ds.take j).filter q ∧ S' p = some (.lst acc) ∧ ∀ b, S b ≠ none → S' b = S b, ⟨rfl, sup_same, fun b hb => sup_ne fun e => hb (by rw [e]; exact np)⟩, fun _ _ _ z => z.2.1, fun j d acc S' hd ⟨e1, e2, e3⟩ => ?_, fun acc S' ⟨e1, e2, e3⟩ => ?_⟩
  · have hm : d ∈ ds := List.mem_of_getElem? hd
    refine ht d hm S' _ fun S3 s3 => ?_
    have k3 : S3 p = some (.lst acc) := s3.at e2 List.not_mem_nil
    have o3 : ∀ b, S b ≠ none → S3 b = S b := fun b hb => by rw [s3 b (by rw [e3 b hb]; exact hb) List.not_mem_nil, e3 b hb]
    have tk : ds.take (j + 1) = ds.take j ++ [d] := by rw [List.take_add_one, hd]; rfl
    cases hq : q d with
    | false =>
      show acc = _ ∧ _ ∧ _
      refine ⟨?_, k3, o3⟩
      rw [tk, List.filter_append, List.filter_cons_of_neg (by rw [hq]; exact Bool.false_ne_true), List.filter_nil, List.append_nil]
      exact e1
    | true =>
      show te _ S3 _
      refine he d hm hq S3 _ fun S4 s4 => ⟨s4.at k3 List.not_mem_nil, ?_, ?_, sup_same, fun b hb => ?_⟩
      · have l1 : acc.length ≤ (ds.take j).length := by rw [e1]; exact List.length_filter_le _ _
        have l2 : (ds.take j).length < ds.length := by
          have hj := (List.getElem?_eq_some_iff.mp hd).1
          rw [List.length_take]; omega
        omega
      · rw [tk, List.filter_append, List.filter_cons_of_pos hq, List.filter_nil, ← e1]
      · have hne : b ≠ p := fun e => hb (by rw [e]; exact np)
        rw [sup_ne hne, s4 b (by rw [o3 b hb]; exact hb) List.not_mem_nil, o3 b hb]
  · rw [List.take_length] at e1
    rw [e1] at e2
    exact h p S' np e2 fun b hb _ => e3 b hb
theorem ext_tt {x : D} {zs : List D} {S : Sto} {P : DK} : extendL x [.tup zs] S P = onL x S fun a xs => xs.length + zs.length ≤ sizeLine ∧ P .non (sup S a (.lst (xs ++ zs))) := rfl
theorem ext_ll {x : D} {zs : List D} {S : Sto} {P : DK} : extendL x [.lst zs] S P = onL x S fun a xs => xs.length + zs.length ≤ sizeLine ∧ P .non (sup S a (.lst (xs ++ zs))) := rfl
theorem pop_at {x : D} {i : Int} {S : Sto} {P : DK} : popAtD x [.int i] S P = onL x S fun a xs => (0 ≤ i ∧ i < 2 ^ 62) ∧ (xs[i.toNat]?).elim False fun d => P d (sup S a (.lst (xs.eraseIdx i.toNat))) := rfl
end DL
set_option Elab.async false
set_option linter.all false
set_option maxRecDepth 100000
set_option maxHeartbeats 1000000
namespace DL
open PySem PySem.Spec PyProof.Rows L2
/-- a turn of a while, its two ways apart -/
theorem wh_gen {c : DT} {δ : DSt} {S : Sto} {t u : Sto → Prop} (h : ∀ M1 M2 : Sto → Prop, M1 = t → M2 = u → c δ S fun b S1 => bif b then M1 S1 else M2 S1) : c δ S fun b S1 => bif b then t S1 else u S1 := h _ _ rfl rfl
section
variable {d x : D} {S : Sto} {P : DK} {z : Str} {ds xs : List D} {δ : DSt} {is : List Nat} {Q : DSt → Sto → Prop} {te : DE}
theorem mem_eqT : memS d [z] = eqT d z := by
  cases d <;> first | rfl | skip
  show ((z == _) || false) = _
  rw [Bool.or_false]
  exact BEq.comm
/-- a tuple of just this text -/
def eq1T : D → Str → Bool
  | .tup [x], z => eqT x z
  | _, _ => false
theorem eq1_T : eq1 d z = eq1T d z := by
  cases d with
  | tup xs =>
    match xs with
    | [] => rfl
    | [x] => exact mem_eqT
    | _ :: _ :: _ => rfl
  | _ => rfl
theorem neF_T (h : flat d = true) : neF d (.str z) S P = P (.bl (!eqT d z)) S := by rw [neF_t h, mem_eqT]
theorem eqE_T (h : flat1 d = true) : eqE d (.tup [.str z]) S P = P (.bl (eq1T d z)) S := by rw [eqE_1 h, eq1_T]
theorem notN_e : notND x .non S P = P (.bl (!isNon x)) S := propext ⟨fun h => h.2, fun h => ⟨rfl, h⟩⟩
theorem gTT_t : gTT is (.tup ds) δ S Q = (ds.length = is.length ∧ Q (setAll δ is ds) S) := rfl
theorem gT_t : gT is (.tup ds) δ S Q = (ds.length = is.length ∧ Q (setAll δ is ds) S) := rfl
theorem gT_l : gT is (.lst ds) δ S Q = (ds.length = is.length ∧ Q (setAll δ is ds) S) := rfl
def lenS (d : D) (S : Sto) (P : DK) : Prop := match d with
  | .lst ds => (strsD ds).elim False fun xs => xs.length ≤ 4000 ∧ P (.int (cntU xs xs.length)) S
  | .ref a => match S a with
    | some (.lst ds) => (strsD ds).elim False fun xs => xs.length ≤ 4000 ∧ P (.int (cntU xs xs.length)) S
    | _ => False
  | _ => False
theorem e_lenset : dLenSet te δ S P = te δ S fun d S1 => lenS d S1 P := rfl
theorem strsD_map : ∀ zs : List Str, strsD (zs.map D.str) = some zs
  | [] => rfl
  | z :: r => by show (strsD (r.map D.str)).map _ = _; rw [strsD_map r]; rfl
theorem lenS_l {zs : List Str} : lenS (.lst (zs.map .str)) S P = (zs.length ≤ 4000 ∧ P (.int (cntU zs zs.length)) S) := by
  show (strsD (zs.map D.str)).elim False _ = _
  rw [strsD_map]
  rfl
theorem addM_ll {ys : List D} : addM (.lst xs) (.lst ys) S P = (xs.length + ys.length ≤ sizeLine ∧ ∀ a, S a = none → P (.ref a) (sup S a (.lst (xs ++ ys)))) := rfl
theorem addL_ll {ys : List D} : addL (.lst xs) (.lst ys) S P = (xs.length + ys.length ≤ sizeLine ∧ P (.lst (xs ++ ys)) S) := rfl
theorem addL_rl {ys : List D} {a : Addr} (e : S a = some (.lst xs)) : addL (.ref a) (.lst ys) S P = (xs.length + ys.length ≤ sizeLine ∧ P (.lst (xs ++ ys)) S) := by
  unfold addL lsts
  rw [norm_ref, e]
  rfl
theorem addL_lr {ys : List D} {a : Addr} (e : S a = some (.lst ys)) : addL (.lst xs) (.ref a) S P = (xs.length + ys.length ≤ sizeLine ∧ P (.lst (xs ++ ys)) S) := by
  unfold addL lsts
  rw [norm_ref, e]
  rfl
end
end DL
set_option Elab.async false
set_option linter.all false
set_option maxRecDepth 100000
set_option maxHeartbeats 1000000
namespace DL
open PySem PySem.Spec PyProof.Rows L2
/-! ### a number in a tuple of numbers -/
def inI : DR := fun x y S P => match x, y with
  | .int i, .tup ys => (intsD ys).elim False fun zs => P (.bl (zs.any fun z => z == i)) S
  | _, _ => False
def eInt (i : Int) : Value → Bool
  | .int b _ => b == i
  | _ => false
theorem any_eInt {i : Int} : ∀ {zs : List Int} {us : List Value}, Vals (zs.map V.int) us → us.any (eInt i) = zs.any fun z => z == i
  | [], _, r => by cases r; rfl
  | z :: zs, _, r => by
    cases r with
    | cons r1 r2 =>
      obtain ⟨t, rfl⟩ := r1
      rw [List.any_cons, List.any_cons, any_eInt r2]
      rfl
theorem eqs_int {A : Around} {s : Shared} {i : Int} {t : Tok} : ∀ {zs : List Int} {us : List Value}, Vals (zs.map V.int) us → ∀ y ∈ us, SeqAt.EqAt A s y (.int i t) (eInt i y)
  | [], _, r, y, hy => by cases r; cases hy
  | z :: zs, _, r, y, hy => by
    cases r with
    | cons r1 r2 =>
      obtain ⟨t', rfl⟩ := r1
      rcases List.mem_cons.mp hy with rfl | hy
      · exact SeqAt.EqAt.int_int _ _ _ _
      · exact eqs_int r2 y hy
theorem op_inI {X : Cx} : OpD X (compareOp .In) inI := by
  intro pins s σ H x y v u Q I rx ry ⟨d, e, S, P, r1, r2, sr, h, fin⟩
  unfold inI at h
  split at h
  · rename_i i ys
    obtain ⟨zs, hz, q⟩ := el_of h
    cases r1
    obtain ⟨t, rfl⟩ := rx
    obtain ⟨a, vs, rfl, ha, r3⟩ := r2
    cases ry
    rw [intsD_eq hz] at r3
    rw [r3.ints] at ha
    obtain ⟨its, q1, p1, _⟩ := I.tuple ha
    refine SeqAt.in_tupleAt (eInt i) p1 (fun w hw => eqs_int q1 w (by simpa using hw)) ?_
    rw [show its.toArray.any (eInt i) = its.any (eInt i) by simp, any_eInt q1]
    exact ⟨.bl _, H, I, rfl, fin (.bl _) S _ H q rfl sr (.refl H)⟩
  · exact h.elim
theorem nin_l {z : Str} {zs : List Str} {S : Sto} {P : DK} : inD true (.str z) (.lst (zs.map .str)) S P = P (.bl (!decide (z ∈ zs))) S := by
  unfold inD
  show ((if flat (.str z) = true then (strsD (zs.map D.str)).map (memS (.str z)) else none).elim False _) = _
  rw [if_pos (show flat (.str z) = true from rfl), strsD_map]
  show P (.bl (true != memS (.str z) zs)) S = _
  have e : memS (.str z) zs = decide (z ∈ zs) := by
    show (zs.any fun y => y == z) = _
    rw [Bool.eq_iff_iff, List.any_eq_true, decide_eq_true_iff]
    exact ⟨fun ⟨y, h1, h2⟩ => by rw [← beq_iff_eq.mp h2]; exact h1, fun h => ⟨z, h, beq_self_eq_true z⟩⟩
  rw [e]
  cases decide (z ∈ zs) <;> rfl
theorem in_i3 {i a b c : Int} {S : Sto} {P : DK} : inI (.int i) (.tup [.int a, .int b, .int c]) S P = P (.bl (a == i || (b == i || (c == i || false)))) S := rfl
end DL
set_option Elab.async false
set_option linter.all false
set_option maxRecDepth 100000
set_option maxHeartbeats 2000000
namespace DL
open PySem PySem.Spec PyProof.Rows L2
/-! ### what gives a token out: written texts and numbers, and what they stand in -/
section
variable {X : Cx} {k : Nat} {ps : List Str} {sp : DSp} {x : Str} {p pos : Pos} {a b e o : Expr} {es sts : List Expr} {te ta tb' to : DE} {t : DA}
theorem p_str {c : Str} {j : Nat} : PEP X (.Constant (.str c) j pos) (dC (.str c)) := fun pins s σ H Q I ⟨δ, S, P, rs, sr, q, fin⟩ =>
  Calls.Constant_str ⟨Nat.le_add_left 1 s.toks, .str c, H, I.tok _, ⟨_, rfl⟩, fin _ S _ H q rfl sr (.refl H)⟩
theorem p_int {c : Int} {j : Nat} : PEP X (.Constant (.int c) j pos) (dC (.int c)) := fun pins s σ H Q I ⟨δ, S, P, rs, sr, q, fin⟩ =>
  wpAny_Constant_int ⟨Nat.le_add_left 1 s.toks, .int c, H, I.tok _, ⟨_, rfl⟩, fin _ S _ H q rfl sr (.refl H)⟩
theorem p_ix {r : DR} (hr : IxD X r) (ha : QE X a ta) (hb : PEP X b tb') (hs : PlainIx b := by exact fun _ _ => rfl) : PEP X (.Subscript a b pos) (dOp r ta tb') := fun pins s σ H Q I q => by
  refine Subscript_ (thn (ha.run pins s σ H _ I (l2_of q)) fun v s1 ⟨y, H1, I1, r1, z⟩ => thn (hb pins s1 σ H1 _ I1 z) fun u s2 ⟨ht, w, H2, I2, r2, z2⟩ => later ht ?_)
  exact hr a b pins s2 σ H2 y w v u Q I2 r1 r2 z2 (hs _ _)
/-- arguments: a token is out behind them -/
abbrev PAP (X : Cx) (es : List Expr) (t : DA) : Prop := ∀ (pos : Pos) (pins : List (Addr × Obj)) (s : Shared) (σ : L2.St) (H : Hp) (Q : List V → Hp → Prop), L2.Inv X pins σ H s → lA X.K t σ H Q →
  wpAny (model X.prog X.w) X.A (spliced (backTo pos (starEach es X.env))) (fun us s' => 1 ≤ s'.toks ∧ AP X pins σ Q us s') X.xe s
theorem pa_first (ha : PEP X e te) (hr : KA' X es t) (hs : starEach (e :: es) X.env = (false, eval e X.env) :: starEach es X.env := by rfl) : PAP X (e :: es) (dCons te t) := fun pos pins s σ H Q I ⟨δ, S, P, rs, sr, q, fin⟩ => by
  rw [hs]
  show wpAny _ _ (spliced ((false, eval e X.env) :: backTo pos (starEach es X.env))) _ _ s
  refine Calls.spliced_cons (thn (ha pins s σ H (fun y H1 => ∃ d S1, Rp X.K H1 d y ∧ SR X.K H1 S1 ∧ RS X.K H1 σ δ ∧ (∀ ds S' vs H', P ds S' → RpA X.K H' ds vs → SR X.K H' S' → Ext H1 H' → Q vs H') ∧ t δ S1 fun ds S2 => P (d :: ds) S2) I ⟨δ, S, _, rs, sr, q, fun d S1 y H1 z r1 s1 e1 => ⟨d, S1, r1, s1, rs.ext e1, fun ds S' vs H' g1 g2 g3 g4 => fin ds S' vs H' g1 g2 g3 (e1.trans g4), z⟩⟩) fun v s1 ⟨ht, y, H1, I1, ry, d, S1, rd, sr1, rs1, fin1, z⟩ => ?_)
  refine thn (later ht (hr pos pins s1 σ H1 (fun vs H' => Q (y :: vs) H') ht I1 ⟨δ, S1, _, rs1, sr1, z, fun ds S2 vs H2 h2 r2 s2 e2 => fin1 (d :: ds) S2 (y :: vs) H2 h2 ⟨y, vs, rfl, rd.ext e2, r2⟩ s2 e2⟩)) fun us s2 ⟨ht2, vs, H2, I2, r2, w⟩ => ?_
  exact ⟨ht2, y :: vs, H2, I2, .cons ry r2, w⟩
theorem pa_more (ha : QE X e te) (hr : PAP X es t) (hs : starEach (e :: es) X.env = (false, eval e X.env) :: starEach es X.env := by rfl) : PAP X (e :: es) (dCons te t) := fun pos pins s σ H Q I ⟨δ, S, P, rs, sr, q, fin⟩ => by
  rw [hs]
  show wpAny _ _ (spliced ((false, eval e X.env) :: backTo pos (starEach es X.env))) _ _ s
  refine Calls.spliced_cons (thn (ha.run pins s σ H (fun y H1 => ∃ d S1, Rp X.K H1 d y ∧ SR X.K H1 S1 ∧ RS X.K H1 σ δ ∧ (∀ ds S' vs H', P ds S' → RpA X.K H' ds vs → SR X.K H' S' → Ext H1 H' → Q vs H') ∧ t δ S1 fun ds S2 => P (d :: ds) S2) I ⟨δ, S, _, rs, sr, q, fun d S1 y H1 z r1 s1 e1 => ⟨d, S1, r1, s1, rs.ext e1, fun ds S' vs H' g1 g2 g3 g4 => fin ds S' vs H' g1 g2 g3 (e1.trans g4), z⟩⟩) fun v s1 ⟨y, H1, I1, ry, d, S1, rd, sr1, rs1, fin1, z⟩ => ?_)
  refine thn (hr pos pins s1 σ H1 (fun vs H' => Q (y :: vs) H') I1 ⟨δ, S1, _, rs1, sr1, z, fun ds S2 vs H2 h2 r2 s2 e2 => fin1 (d :: ds) S2 (y :: vs) H2 h2 ⟨y, vs, rfl, rd.ext e2, r2⟩ s2 e2⟩) fun us s2 ⟨ht2, vs, H2, I2, r2, w⟩ => ?_
  exact ⟨ht2, y :: vs, H2, I2, .cons ry r2, w⟩
theorem a_ofP (h : PAP X es t) : QA X es t := ⟨fun pos pins s σ H Q I q => wpAny_mono (h pos pins s σ H Q I q) (fun _ _ z => z.2) fun _ _ z => z⟩
theorem pe_ofP (h : PEP X e te) : QE X e te := ⟨fun pins s σ H Q I q => wpAny_mono (h pins s σ H Q I q) (fun _ _ z => z.2) fun _ _ z => z⟩
/-- a call that wants a token, which its arguments give out -/
theorem q_callP (G : HasP X.prog X.w X.K X.mg X.base k x ps sp) (hr : Room k X.A) (hgd : X.A.guards = some []) (ha : PAP X (e :: es) t) (hg : Gl X x := by rfl) (hdb : (x == ("__debug__" : Str)) = false := by decide)
    (he : starEach (e :: es) X.env = (false, eval e X.env) :: starEach es X.env := by rfl) (hpl : (backTo pos (starEach es X.env)).any (·.1) = false := by rfl) : QE X (.Call (.Name x p) (e :: es) [] pos) (dCB sp t) := by
  obtain ⟨f, fd, F, hb, hk, hm⟩ := G
  refine ⟨fun pins s σ H Q I ⟨δ, S, P, rs, sr, h, fin⟩ => wpAny_Call_Name_kw (ld_glob I hg hm ?_ hdb)⟩
  refine PySem.W.callWith_K (h₀ := X.base) I.ok.mod.kin hk ?_ he hpl
  refine thn (ha pos pins s σ H (fun vs H1 => ∃ ds S1, RpA X.K H1 ds vs ∧ SR X.K H1 S1 ∧ sp ds S1 P ∧ Fin X.K H1 P Q) I ⟨δ, S, _, rs, sr, h, fun ds S1 vs H1 h1 r1 s1 e1 => ⟨ds, S1, r1, s1, h1, fin.ext e1⟩⟩) fun us s1 ⟨ht, vs, H1, I1, r, ds, S1, r1, s2, q, fin1⟩ => ⟨I1.kIn, ?_⟩
  have hl : us.length = ps.length := by rw [← r.length, r1.length]; exact F.len _ _ _ q
  have hb' : BindsTo s1 fd ⟨us, []⟩ (ps.zip us) := by have z := hb s1 us I1.kIn (by simpa using hl); rw [List.append_nil] at z; exact z
  refine wpAny_call (codeAny_mono (F.run X.A X.stack s1 H1 ⟨us, []⟩ us vs Q ht hr hgd I1.env0 hb' r ⟨ds, S1, P, r1, s2, q, fin1⟩) fun r s' hq => ?_)
  cases r with
  | error e => exact False.elim hq
  | ok fl => cases fl with
    | ret u => exact I1.after hq
    | _ => exact False.elim hq
/-- a type called once a token is out -/
theorem k_callTy {T : String} {r : List D → Sto → DK → Prop} (hc : CallD X (.type T) r) (hg : Gl X x) (hm : X.mg x = none) (hv : bootBuiltins x = some (.type T)) (ha : KA' X (e :: es) t) (hn : x ≠ "__name__" := by decide) (hdb : (x == ("__debug__" : Str)) = false := by decide)
    (he : starEach (e :: es) X.env = (false, eval e X.env) :: starEach es X.env := by rfl) (hpl : (backTo pos (starEach es X.env)).any (·.1) = false := by rfl) : KE' X (.Call (.Name x p) (e :: es) [] pos) (dCB r t) := fun pins s σ H Q h0 I q =>
  wpAny_Call_Name_kw (ld_blt I hg hm hv (PyProof.Rows.callWith_type1 (thn (ha pos pins s σ H _ h0 I (lC_of q)) fun us s1 ⟨vs, H1, I1, r1, z⟩ => hc pins s1 σ H1 vs us Q I1 r1 z) he hpl) hn hdb)
/-! ### text.partition(a written text) -/
def partD : D → List D → Sto → DK → Prop := fun x ds S P => match x, ds with
  | .str a, [.str c] => ((c.length == 0) = false ∧ a.length ≤ sizeLine) ∧ P (.tup [.str (Txt.partition a c).1, .str (Txt.partition a c).2.1, .str (Txt.partition a c).2.2]) S
  | _, _ => False
theorem m_partition : MtD X "str.partition" partD := MtR.imp mt_partition fun x xs H Q hh => by
  obtain ⟨d, ds, S, P, r1, r2, sr, h, fin⟩ := hh
  unfold partD at h
  split at h
  · rename_i a c
    obtain ⟨⟨h1, h2⟩, q⟩ := h
    cases r1
    obtain ⟨v, vs, rfl, r3, r4⟩ := r2
    cases r3
    cases r4
    exact ⟨a, c, rfl, rfl, h1, h2, fun p np => fin _ S _ _ q ⟨p, _, rfl, .of upd_same, _, _, rfl, rfl, _, _, rfl, rfl, _, _, rfl, rfl, rfl⟩ (sr.new np) (.new np)⟩
  · exact h.elim
theorem part_s {a c : Str} {S : Sto} {P : DK} : partD (.str a) [.str c] S P = (((c.length == 0) = false ∧ a.length ≤ sizeLine) ∧ P (.tup [.str (Txt.partition a c).1, .str (Txt.partition a c).2.1, .str (Txt.partition a c).2.2]) S) := rfl
end
end DL
set_option Elab.async false
set_option linter.all false
set_option maxRecDepth 100000
set_option maxHeartbeats 2000000
namespace DL
open PySem PySem.Spec PyProof.Rows L2
section
variable {X : Cx} {e o : Expr} {te to : DE} {g : DG} {pos : Pos}
theorem p_asg {tg : Expr} (he : PEP X e te) (hg : QG X tg g) (hs : swapsWithSole [tg] e pos.line X.env = pure false := by rfl) (hw : swappedStores [tg] e X.env = pure none := by rfl)
    (h1 : (assignEach [tg] X.env).map (·.2) = [assign tg X.env] := by rfl) : PSP X (.Assign [tg] e pos) (dAsg te g) := fun pins s σ H D I ⟨δ, S, P, rs, sr, h, fin⟩ => by
  refine wpAny_Assign_stores (thn (he pins s σ H (fun v H1 => ∃ d δ1 S1 N, Rp X.K H1 d v ∧ RS X.K H1 σ δ1 ∧ SR X.K H1 S1 ∧ g d δ1 S1 N ∧ NxF X.K H1 N D.nx) I ⟨δ, S, _, rs, sr, h, fun d S1 v H1 q r1 s1 e1 => ⟨d, δ, S1, P.nx, r1, rs.ext e1, s1, q, fin.nx.ext e1⟩⟩) fun v s1 ⟨ht, y, H1, I1, r1, w⟩ => ?_) hs hw
  rw [h1]
  exact thn (later ht (hg.run pins s1 σ H1 y v _ I1 r1 w)) fun _ s2 q => q
/-- text.partition(' ') gives a token out -/
theorem p_part {c : Str} {j : Nat} {c0 apos : Pos} (ho : QE X o to) (hst : starEach [.Constant (.str c) j c0] X.env = [(false, eval (.Constant (.str c) j c0) X.env)] := by rfl)
    (hbase : attributeBase o "partition" X.env (eval o X.env) = eval o X.env := by rfl) (hline : (apos.endLine == pos.line) = true := by rfl) : PEP X (.Call (.Attribute o "partition" apos) [.Constant (.str c) j c0] [] pos) (dMtS partD to (dCons (dC (.str c)) dNil)) := fun pins s σ H Q I ⟨δ, S, P, rs, sr, h, fin⟩ => by
  refine PySem.Call_method1 hbase hst hline (thn (ho.run pins s σ H (fun v H1 => ∃ a S1, v = .str a ∧ SR X.K H1 S1 ∧ partD (.str a) [.str c] S1 P ∧ Fin X.K H1 P Q) I ⟨δ, S, _, rs, sr, h, fun d S1 v H1 h1 r1 s1 e1 => ?_⟩) fun v s1 ⟨x, H1, I1, r1, a, S1, e1, s2, q, fin1⟩ => ?_)
  · obtain ⟨a, rfl, h2⟩ := asS_of h1
    cases r1
    exact ⟨a, S1, rfl, s1, h2, fin.ext e1⟩
  · subst e1
    obtain ⟨tk, rfl⟩ := _root_.id r1
    refine ⟨"str", _, F.plainAttrs_str, F.slot_str_partition, F.type_str_partition, typeIs_str _ _ _, (fun _ e => nomatch e), Calls.callWith_builtin rfl (Calls.evalArgs_plain (Calls.spliced_cons (Calls.Constant_str (Calls.spliced_nil ?_))))⟩
    exact later (Nat.le_add_left 1 s1.toks) (m_partition pins _ σ H1 (.str a) [.str c] _ _ Q (I1.tok _) r1 (.cons ⟨_, rfl⟩ .nil) ⟨.str a, [.str c], S1, P, rfl, ⟨_, _, rfl, rfl, rfl⟩, s2, q, fin1⟩)
end
/-! ### a comprehension whose elements want a token -/
section
variable {X : Cx}
theorem lc_tok {pins : List (Addr × Obj)} {sa : Shared} {σ : L2.St} {Ha : Hp} {Q : VK} {elt tg src : Expr} {ifs : List Expr} {tt : TT} {scope : Scope} {own : List (Str × Nat)} {pos pos' : Pos} {wi : TI} {g : TG} {te : TE} {Qf : Value → Shared → Prop}
    (t0 : 1 ≤ sa.toks) (hc : X.calm = true) (hN : X.N.Nodup) (I : L2.Inv X pins σ Ha sa) (hi : L2.PI X tg src wi) (ok : BlkOk X.N X.env.scope scope own)
    (hg : ∀ (s : Shared) (H : Hp) (C : Addr) (cl : List (Str × Addr)) (fp : List Addr), L2.PG (X.blk s H scope (compEnvC scope cl C X.env) fp) tg g)
    (he : ∀ (s : Shared) (H : Hp) (C : Addr) (cl : List (Str × Addr)) (fp : List Addr), L2.PET (X.blk s H scope (compEnvC scope cl C X.env) fp) elt te) (hs : ∀ x, foldedSetIterable src X.env x = pure x)
    (ht : ∀ (s : Shared) (H : Hp) (C : Addr) (cl : List (Str × Addr)) (fp : List Addr), PTs (X.blk s H scope (compEnvC scope cl C X.env) fp) ifs tt)
    (h : tLc wi g tt te (own.map (·.2)) σ Ha Q)
    (hRR : ∀ D C s' m H', L2.Inv X pins σ H' s' → Q (.ref D) H' → s'.heap.Ns C m → FpOk X pins H' C → compPost (model X.prog X.w) X.A X.xe none Qf (.ref D) C (.ok .next) s') :
    wpAny (model X.prog X.w) X.A (comprehension (.ListComp elt [⟨tg, src, ifs, 0⟩] scope pos) scope X.env pos' (newList []) false (eval src X.env) none) Qf X.xe sa := by
  have seen : ∀ y ∈ scope.names, y.2 = .free → ∃ c, X.env.cells.lookup y.1 = some c := fun y hy e => (ok.free y hy e).elim (fun k => I.ok.has _ (.inl k)) fun k => I.ok.has _ (.inr k)
  refine wpAny_comprehension_free (use := none) rfl hs (closure_ok seen) ok.kind (fun y hy e => by rw [ok.uniq y hy, e]) (thn (later t0 (hi.run pins sa σ Ha _ I h)) fun xv sb ⟨tb, hx⟩ => thn (later tb hx) fun itv sc ⟨tc, hc2⟩ => ?_)
  obtain ⟨it, fp, tn, J, Hc, e, Ic, T, stc, fc, q⟩ := hc2
  subst e
  refine wpAny_newObj_type (newEnv_comp ?_) (by show 0 ≤ sizeLine; decide)
  generalize hD : sc.heap.objs.size = D
  have nD : Hc D = none := Ic.hok.fresh (Nat.le_of_eq hD)
  obtain ⟨W, ⟨m0, w0⟩, turn⟩ := q D nD
  generalize esd : ({ sc with heap := sc.heap.push { cls := .type "list", data := .seq ([] : List Value).toArray } } : Shared) = sd
  have td : 1 ≤ sd.toks := by rw [← esd]; exact tc
  have Id : L2.Inv X pins σ (upd Hc D (.lst [])) sd := by
    rw [← esd]
    exact Ic.laid (t' := sc.toks) (fun b o e => Heap.get?_push_of_some _ e) (Nat.le_of_eq hD) ⟨Nat.zero_le _, [], 0, .nil, by rw [← hD]; exact Heap.get?_push_size _ rfl⟩
  have hd : sd.heap = sc.heap.push { cls := .type "list", data := .seq ([] : List Value).toArray } := by rw [← esd]
  have fd : ∀ b ∈ fp, FpOk X pins (upd Hc D (.lst [])) b ∧ b < sd.heap.objs.size := fun b hb => by
    obtain ⟨o, eo, _⟩ := T.obj _ _ stc b hb
    have lt := Heap.lt_size eo
    refine ⟨⟨?_, (fc b hb).2⟩, by rw [hd, Heap.size_push]; exact Nat.lt_succ_of_lt lt⟩
    rw [upd_ne (by rw [← hD]; exact Nat.ne_of_lt lt)]
    exact (fc b hb).1
  have std : tn 0 sd.heap := T.keep _ _ _ stc fun b _ o eo => by rw [hd]; exact Heap.get?_push_of_some _ eo
  have Ie := block_start Id ok hN fd
  have pg := hg sd (upd Hc D (.lst [])) sd.heap.objs.size (cellsFrom (sd.heap.objs.size + 1) scope.names (cloFrom X.env.cells scope.names [])) fp
  have pe := he sd (upd Hc D (.lst [])) sd.heap.objs.size (cellsFrom (sd.heap.objs.size + 1) scope.names (cloFrom X.env.cells scope.names [])) fp
  show codeAny _ _ (.compStart (.ListComp elt [⟨tg, src, ifs, 0⟩] scope pos) 0 (.ref it) (.ref D) (compEnvC scope (cellsFrom (sd.heap.objs.size + 1) scope.names (cloFrom X.env.cells scope.names [])) sd.heap.objs.size X.env)) (compPost (model X.prog X.w) X.A X.xe none Qf (.ref D) sd.heap.objs.size) { sd with heap := pushCells (sd.heap.push { cls := .type "dict", data := .dict #[] }) scope.names }
  have pt := ht sd (upd Hc D (.lst [])) sd.heap.objs.size (cellsFrom (sd.heap.objs.size + 1) scope.names (cloFrom X.env.cells scope.names [])) fp
  have nfp : ∀ b ∈ fp, (upd Hc D (.lst [])) b = none := fun b hb => (fd b hb).1.1
  generalize ece : compEnvC scope (cellsFrom (sd.heap.objs.size + 1) scope.names (cloFrom X.env.cells scope.names [])) sd.heap.objs.size X.env = ce at Ie pg pe pt ⊢
  have cL : ce.locals = sd.heap.objs.size := by subst ece; rfl
  generalize eHd : upd Hc D (.lst []) = Hd at Id Ie pg pe pt w0 nfp fd
  generalize ese : ({ sd with heap := pushCells (sd.heap.push { cls := .type "dict", data := .dict #[] }) scope.names } : Shared) = se at Ie ⊢
  have tE : 1 ≤ se.toks := by rw [← ese]; exact td
  have ste : tn 0 se.heap := T.keep _ _ _ std fun b _ o eo => by rw [← ese]; exact pushCells_keeps _ _ _ _ (Heap.get?_push_of_some _ eo)
  have still : ∀ {σ' : L2.St} {H' : Hp} {s' : Shared}, L2.Inv (X.blk sd Hd scope ce fp) [] σ' H' s' → (∀ b ∈ fp, H' b = none) → ∀ b ∈ fp, FpOk (X.blk sd Hd scope ce fp) [] H' b := fun {σ' H' s'} I' hn b hb =>
    ⟨hn b hb, (I'.ok.exf b hb).1, I'.ok.exfs b hb, .inl hb, fun x c e => (I'.ok.exf b hb).2 x c e, fun p hp => absurd (show p ∈ ([] : List (Addr × Obj)) ++ [] from hp) (by simp)⟩
  have round : codeAny (model X.prog X.w) X.A (.compLoop (.ListComp elt [⟨tg, src, ifs, 0⟩] scope pos) 0 (.ref it) (.ref D) ce) (compPost (model X.prog X.w) X.A X.xe none Qf (.ref D) sd.heap.objs.size) se := by
    refine compLoop_any (fun n s' => 1 ≤ s'.toks ∧ ∃ i H', L2.Inv (X.blk sd Hd scope ce fp) [] (wipe σ (own.map (·.2))) H' s' ∧ tn i s'.heap ∧ (∀ b ∈ fp, H' b = none) ∧ W i n H') ?_ m0 ⟨tE, 0, Hd, Ie, ste, nfp, w0⟩
    rintro n sf ⟨tf, i, Hf, If, stf, nf, wf⟩
    rcases turn i n Hf wf with ⟨stop, qq⟩ | ⟨go, Nx, hNx, step⟩
    · refine thnF (T.done (X.blk sd Hd scope ce fp) rfl rfl rfl hc i [] sf _ Hf (fun _ _ => False) If (still If nf) stf stop) fun r sg ⟨hr, Ig⟩ => ?_
      subst hr
      have Ih : L2.Inv X pins σ Hf sg := Id.call' (ch := fp) Ig.os Ig.base Ig.hok Ig.bare fun b hb => ⟨(fd b hb).1.2.2.2.1, (fd b hb).1.2.1, (fd b hb).1.2.2.2.2.1, (fd b hb).1.2.2.2.2.2⟩
      have nC : Hf ce.locals = none := Ig.free
      rw [cL] at nC
      obtain ⟨m, hn, _⟩ := Ig.loc
      have hn : sg.heap.Ns ce.locals m := hn
      rw [cL] at hn
      exact hRR D sd.heap.objs.size sg m Hf Ih qq hn (Id.fpOk (Nat.le_refl _) nC)
    · refine thnF (later tf (T.item (X.blk sd Hd scope ce fp) rfl rfl rfl hc i [] sf _ Hf (fun _ _ => False) If (still If nf) stf go)) fun r sg ⟨tg', u, hr, hg'⟩ => ?_
      subst hr
      refine thnF (later tg' hg') fun _ sh ⟨th, x, Hh, Ih, rh, yh, sth, nh⟩ => ?_
      have Ip := Ih.pinned (still Ih nh) (T.obj _ _ sth)
      refine thnF (later th (pg.run _ sh _ Hh x u _ Ip rh (step x Hh yh))) fun _ sj ⟨tj, σj, Hj, Ij, hwj, qj⟩ => ?_
      have more : ∀ {s' : Shared} {H' : Hp}, 1 ≤ s'.toks → L2.Inv (X.blk sd Hd scope ce fp) ([] ++ pinsAt fp sh.heap) σj H' s' → Nx H' → ∃ m, m < n ∧ 1 ≤ s'.toks ∧ ∃ i H', L2.Inv (X.blk sd Hd scope ce fp) [] (wipe σ (own.map (·.2))) H' s' ∧ tn i s'.heap ∧ (∀ b ∈ fp, H' b = none) ∧ W i m H' := fun {s' H'} tk I' nx => by
        obtain ⟨m', hm, w'⟩ := hNx H' nx
        have pinned : ∀ b ∈ fp, ∀ o, sh.heap.get? b = some o → s'.heap.get? b = some o ∧ H' b = none := fun b hb o eo =>
          let z := I'.pin (b, o) (List.mem_append_right _ (List.mem_append_right _ (mem_pinsAt hb eo)))
          ⟨z.1, z.2.1⟩
        have len : (wipe σ (own.map (·.2))).length = σj.length := by rw [← hwj, wipe_length]
        refine ⟨m', hm, tk, i + 1, H', (I'.unpinned (pins := [])).weak len (fun j v ev => ?_), T.keep _ _ _ sth fun b hb o eo => (pinned b hb o eo).1, fun b hb => ?_, w'⟩
        · rw [← hwj] at ev
          exact (wipe_some ev).1
        · obtain ⟨o, eo, _⟩ := T.obj _ _ sth b hb
          exact (pinned b hb o eo).2
      refine thnF (later tj (pt.run _ sj σj Hj _ Ij qj)) fun b sk ⟨tk, Hk, Ik, qk⟩ => ?_
      cases b with
      | false =>
        simp only [Bool.false_eq_true, if_false] at qk ⊢
        exact more tk Ik qk
      | true =>
        simp only [if_true] at qk ⊢
        refine thnF (later tk (pe _ sk σj Hk _ tk Ik qk)) fun z sl ⟨tl, yv, Hl, Il, rl, acc, hDl, hzl, nx⟩ => ?_
        exact thnF (later tl (app_ok (X := X.blk sd Hd scope ce fp) (Q := fun _ sm => L2.Inv (X.blk sd Hd scope ce fp) ([] ++ pinsAt fp sh.heap) σj (upd Hl D (.lst (acc ++ [yv]))) sm) Il hDl hzl rl fun sm Im => Im)) fun _ sm ⟨tm, Im⟩ => more tm Im nx
  exact codeAny_compStart_list round (T.self X.A 0 _ _ _ ste round)
variable {elt tg iter : Expr} {ifs : List Expr} {scope : Scope} {pos : Pos} {di : DI} {dt : DT} {te : DE} {dg : DG}
theorem k_lc {g : TG} {own : List (Str × Nat)} {is : List Nat} (hown : own.map (·.2) = is) (G : LcG X.K g dg is) (hc : X.calm = true) (hN : X.N.Nodup) (hi : QI X tg iter di) (ok : BlkOk X.N X.env.scope scope own)
    (hg : ∀ (s : Shared) (H : Hp) (C : Addr) (cl : List (Str × Addr)) (fp : List Addr), L2.PG (X.blk s H scope (compEnvC scope cl C X.env) fp) tg g) (ht : ∀ (s : Shared) (H : Hp) (C : Addr) (cl : List (Str × Addr)) (fp : List Addr), PTs (X.blk s H scope (compEnvC scope cl C X.env) fp) ifs (lT X.K dt))
    (he : ∀ (s : Shared) (H : Hp) (C : Addr) (cl : List (Str × Addr)) (fp : List Addr), L2.PET (X.blk s H scope (compEnvC scope cl C X.env) fp) elt (lE X.K te)) (hs : ∀ x, foldedSetIterable iter X.env x = pure x := by intro _; rfl) :
    KE' X (.ListComp elt [⟨tg, iter, ifs, 0⟩] scope pos) (dLc di dg dt te is) := fun pins s σ H Q h0 I h => by
  subst hown
  have h2 := DL.lc_core (Q' := fun v H1 => ∃ a xs, v = .ref a ∧ H1 a = some (.lst xs) ∧ ∀ o, Q v (upd H1 a (.frz o (.lst xs)))) G h fun v H1 a xs e1 e2 q => ⟨a, xs, e1, e2, q⟩
  rw [eval_ListComp]
  refine wpAny_mono (lc_tok (Qf := EP X pins σ fun v H1 => ∃ a xs, v = .ref a ∧ H1 a = some (.lst xs) ∧ ∀ o, Q v (upd H1 a (.frz o (.lst xs)))) h0 hc hN I hi ok hg he hs ht h2 fun D C s' m H' I' q hn f => ⟨m, hn, fun h'' sb => ?_⟩) (fun _ _ q => freezeE q) fun _ _ z => z
  obtain ⟨f0, f1, f2, f3, f4, f5⟩ := f
  exact ⟨.ref D, H', I'.turned (t' := s'.toks) (fun b o hb e => (sb.2 b hb).trans e) f0 f1 f3 f4 f5, rfl, q⟩
end
end DL
set_option Elab.async false
set_option linter.all false
set_option maxRecDepth 100000
set_option maxHeartbeats 2000000
namespace DL
open PySem PySem.Spec PyProof.Rows L2
/-! ### f'..' of several parts -/
section
variable {X : Cx} {e v1 v2 : Expr} {te : DE} {pos : Pos} {es rest : List Expr} {ts : List DE}
def fmtD (d : D) (S : Sto) (P : DK) : Prop := match d with
  | .str y => y.length ≤ sizeLine ∧ P (.str y) S
  | .int i => i.natAbs.log2 < 1920 ∧ P (.str (toString i)) S
  | _ => False
def dFmt (te : DE) : DE := fun δ S P => te δ S fun d S1 => fmtD d S1 P
theorem q_fmt (he : QE X e te) : QE X (.FormattedValue e (-1) none pos) (dFmt te) := PE.imp (pe_fmt he) fun σ H Q ⟨δ, S, P, rs, sr, h, fin⟩ => ⟨δ, S, _, rs, sr, h, fun d S1 v H1 h1 r1 s1 e1 => by
  unfold fmtD at h1
  split at h1
  · cases r1
    exact .inl ⟨_, rfl, h1.1, fin _ S1 _ H1 h1.2 rfl s1 e1⟩
  · cases r1
    exact .inr ⟨_, rfl, h1.1, fin _ S1 _ H1 h1.2 rfl s1 e1⟩
  · exact h1.elim⟩
def jsP (k : Str → Sto → DK → Prop) (acc : Str) (d : D) (S : Sto) (P : DK) : Prop := match d with
  | .str y => (acc ++ y).length ≤ sizeLine ∧ k (acc ++ y) S P
  | _ => False
def dJs : List DE → Str → DSt → Sto → DK → Prop
  | [], acc, _, S, P => P (.str acc) S
  | t :: ts, acc, δ, S, P => t δ S fun d S1 => jsP (fun a S P => dJs ts a δ S P) acc d S1 P
def dJoin (ts : List DE) : DE := fun δ S P => dJs ts Str.empty δ S P
inductive QJ (X : Cx) : List Expr → List DE → Prop where
  | nil : QJ X [] []
  | cons {e : Expr} {t : DE} {es : List Expr} {ts : List DE} (h : QE X e t) (r : QJ X es ts) : QJ X (e :: es) (t :: ts)
theorem QJ.pj {es : List Expr} {ts : List DE} (h : QJ X es ts) : PJ X es (ts.map (lE X.K)) := by
  induction h with
  | nil => exact .nil
  | cons a _ ih => exact .cons a ih
theorem js_of {K : PySem.W.Frag} {σ : L2.St} {Q : Str → Hp → Prop} : ∀ (ts : List DE) (acc : Str) (H : Hp) (δ : DSt) (S : Sto) (P : DK), RS K H σ δ → SR K H S → dJs ts acc δ S P → (∀ z S' H', P (.str z) S' → SR K H' S' → Ext H H' → Q z H') → tJs (ts.map (lE K)) acc σ H Q
  | [], acc, H, δ, S, P, rs, sr, h, fin => fin acc S H h sr (.refl H)
  | t :: ts, acc, H, δ, S, P, rs, sr, h, fin => ⟨δ, S, _, rs, sr, h, fun d S1 v H1 h1 r1 s1 e1 => by
    unfold jsP at h1
    split at h1
    · cases r1
      exact ⟨_, rfl, h1.1, js_of ts _ H1 δ S1 P (rs.ext e1) s1 h1.2 fun z S' H' p s' e' => fin z S' H' p s' (e1.trans e')⟩
    · exact h1.elim⟩
theorem q_join (h : QJ X (v1 :: v2 :: rest) ts) : QE X (.JoinedStr (v1 :: v2 :: rest) pos) (dJoin ts) := PE.imp (pe_joined h.pj) fun σ H Q ⟨δ, S, P, rs, sr, h, fin⟩ =>
  js_of ts _ H δ S P rs sr h fun z S' H' p s' e' => fin _ S' _ H' p rfl s' e'
theorem js_nil {acc : Str} {δ : DSt} {S : Sto} {P : DK} : dJs [] acc δ S P = P (.str acc) S := rfl
theorem js_cons {t : DE} {acc : Str} {δ : DSt} {S : Sto} {P : DK} : dJs (t :: ts) acc δ S P = t δ S fun d S1 => jsP (fun a S P => dJs ts a δ S P) acc d S1 P := rfl
theorem js_s {k : Str → Sto → DK → Prop} {acc y : Str} {S : Sto} {P : DK} : jsP k acc (.str y) S P = ((acc ++ y).length ≤ sizeLine ∧ k (acc ++ y) S P) := rfl
theorem e_join {δ : DSt} {S : Sto} {P : DK} : dJoin ts δ S P = dJs ts Str.empty δ S P := rfl
theorem e_fmt {δ : DSt} {S : Sto} {P : DK} : dFmt te δ S P = te δ S fun d S1 => fmtD d S1 P := rfl
theorem fmt_s {y : Str} {S : Sto} {P : DK} : fmtD (.str y) S P = (y.length ≤ sizeLine ∧ P (.str y) S) := rfl
theorem fmt_i {i : Int} {S : Sto} {P : DK} : fmtD (.int i) S P = (i.natAbs.log2 < 1920 ∧ P (.str (toString i)) S) := rfl
theorem q_dicS2 {a b x y : Str} {j1 j2 j4 j5 : Nat} {p1 p2 p4 p5 : Pos} (hab : a ≠ b := by decide) :
    QE X (.Dict [some (.Constant (.str a) j1 p1), some (.Constant (.str b) j2 p2)] [.Constant (.str x) j4 p4, .Constant (.str y) j5 p5] pos) (dDicS [(a, x), (b, y)]) :=
  PE.imp (pe_frzD (pe_disp (pps_cons pe_str pe_str (pps_cons pe_str pe_str pps_nil)) rfl rfl (by simp) (by simp))) fun σ H Q ⟨δ, S, P, rs, sr, h, fin⟩ => fun p np => by
    have m : mergeK [] ([(.inr a, .str x), (.inr b, .str y)] : List (Key × V)) = [(.inr a, .str x), (.inr b, .str y)] := by
      have e1 : ¬ (Sum.inr a : Key) = .inr b := fun e => hab (Sum.inr.inj e)
      simp [mergeK, putK, e1, hab]
    refine ⟨upd_same, [(.inr a, .str x), (.inr b, .str y)], rfl, by simp, p, _, rfl, upd_same, fun o => ?_⟩
    rw [upd_upd, upd_upd, m]
    exact fin _ S _ _ h ⟨p, o, _, rfl, upd_same, _, _, rfl, rfl, _, _, rfl, rfl, rfl⟩ (sr.new np) (.new np)
end
/-! ### [e for x in xs for y in ys] -/
def lcB2 (g : DG) (t1 : DI) (g1 : DG) (te : DE) (vs vs1 : List Nat) (δ : DSt) (ds : List D) (S1 : Sto) (P : DK) : Prop := ∀ p, S1 p = none → ∃ Inv : Nat → List D → Sto → Prop, Inv 0 [] (sup S1 p (.lst [])) ∧ (∀ j acc S', Inv j acc S' → S' p = some (.lst acc)) ∧
  (∀ j d acc S', ds[j]? = some d → Inv j acc S' → g d (dwipe δ vs) S' fun δ2 S2 => t1 δ2 S2 fun es S3 => ∃ Jv : Nat → List D → Sto → Prop, Jv 0 acc S3 ∧ (∀ i acc S', Jv i acc S' → S' p = some (.lst acc)) ∧
    (∀ i e acc S', es[i]? = some e → Jv i acc S' → g1 e (dwipe δ2 vs1) S' fun δ3 S4 => te δ3 S4 fun y S5 => S5 p = some (.lst acc) ∧ acc.length < sizeLine ∧ Jv (i + 1) (acc ++ [y]) (sup S5 p (.lst (acc ++ [y])))) ∧
    ∀ acc S', Jv es.length acc S' → Inv (j + 1) acc S') ∧
  ∀ acc S', Inv ds.length acc S' → P (.lst acc) (sdel S' p)
def dLc2 (t : DI) (g : DG) (t1 : DI) (g1 : DG) (te : DE) (vs vs1 : List Nat) : DE := fun δ S P => t δ S fun ds S1 => lcB2 g t1 g1 te vs vs1 δ ds S1 P
theorem lcg_in {K : PySem.W.Frag} {i : Nat} {vs : List Nat} (h : i ∈ vs) : LcG K (gName i) (gN i) vs := fun d v σ H δ S P Q r rs hh f =>
  f _ _ (wipe_ext (by rw [List.length_set, wipe_length]) fun j hj => List.getElem?_set_ne (fun e : i = j => hj (by rw [← e]; exact h))) (rs.set r) hh
section
variable {X : Cx} {tg iter tg1 iter1 elt : Expr} {scope : Scope} {pos : Pos} {t t1 : DI} {dg dg1 : DG} {te : DE}
theorem lc2_tree {g g1 : TG} {is is1 : List Nat} {σ : L2.St} {H : Hp} {Q Q' : VK} (G : LcG X.K g dg is) (G1 : LcG X.K g1 dg1 is1) (h : lE X.K (dLc2 t dg t1 dg1 te is is1) σ H Q)
    (hQ : ∀ v H1 a xs, v = V.ref a → H1 a = some (.lst xs) → (∀ o, Q v (upd H1 a (.frz o (.lst xs)))) → Q' v H1) : tLc2 (lI X.K t) g (lT X.K dYes) (lI X.K t1) g1 (lT X.K dYes) (lE X.K te) is is1 σ H Q' := by
  obtain ⟨δ, S, P, rs, sr, h, fin⟩ := h
  refine ⟨δ, S, _, rs, sr, h, fun ds S1 J H1 hp s1 e1 it => fun Dd nD => ?_⟩
  obtain ⟨Iv, i0, ip, turn, last⟩ := hp Dd (s1.none nD)
  refine ⟨fun i m H' => m = ds.length - i ∧ i ≤ ds.length ∧ Ext H1 H' ∧ ∃ acc S', SR X.K H' S' ∧ Iv i acc S', ⟨_, rfl, Nat.zero_le _, .new nD, [], _, s1.add (ds := []) nD (by simp [RpA]), i0⟩, ?_⟩
  rintro i m H' ⟨rfl, hi, e2, acc, S', sr2, iv⟩
  have hS := ip i acc S' iv
  by_cases hlt : i < ds.length
  · obtain ⟨d, hd⟩ : ∃ d, ds[i]? = some d := ⟨_, List.getElem?_eq_getElem hlt⟩
    obtain ⟨b1, b2⟩ := it.go i d H' e2 hd
    refine .inr ⟨b1, fun H2 => Ext H1 H2 ∧ ∃ acc S', SR X.K H2 S' ∧ Iv (i + 1) acc S', fun H2 ⟨x1, x2⟩ => ⟨ds.length - (i + 1), by omega, rfl, hlt, x1, x2⟩, fun x H2 y => ?_⟩
    obtain ⟨y1, y2, y3⟩ := b2 x H2 y
    refine G d x σ H2 δ S' _ _ y2 ((rs.ext (e1.trans (e2.trans y1))).wipe) (turn i d acc S' hd iv) fun δ2 σ2 hw rs2 q => ⟨hw, δ2, S', fun b S => b = true ∧ S = S', rs2, y3 _ sr2, ⟨rfl, rfl⟩, fun b S3 H3 ⟨eb, eS⟩ s3 e3 => ?_⟩
    subst eb eS
    rw [if_pos rfl]
    refine ⟨δ2, S3, _, rs2.ext e3, s3, q, fun es S4 J1 H4 hq s4 e4 it1 => ?_⟩
    obtain ⟨Jv, j0, jp, turn1, last1⟩ := hq
    refine ⟨fun j k H' => k = es.length - j ∧ j ≤ es.length ∧ Ext H4 H' ∧ ∃ acc S', SR X.K H' S' ∧ Jv j acc S', ⟨_, rfl, Nat.zero_le _, .refl _, acc, S4, s4, j0⟩, ?_⟩
    rintro j k H5 ⟨rfl, hj, e5, acc5, S5, sr5, jv⟩
    have hS5 := jp j acc5 S5 jv
    have eAll : Ext H1 H5 := e2.trans (y1.trans (e3.trans (e4.trans e5)))
    by_cases hlj : j < es.length
    · obtain ⟨d5, hd5⟩ : ∃ d, es[j]? = some d := ⟨_, List.getElem?_eq_getElem hlj⟩
      obtain ⟨c1, c2⟩ := it1.go j d5 H5 e5 hd5
      refine .inr ⟨c1, fun H6 => Ext H4 H6 ∧ ∃ acc S', SR X.K H6 S' ∧ Jv (j + 1) acc S', fun H6 ⟨x1, x2⟩ => ⟨es.length - (j + 1), by omega, rfl, hlj, x1, x2⟩, fun x6 H6 y6 => ?_⟩
      obtain ⟨z1, z2, z3⟩ := c2 x6 H6 y6
      refine G1 d5 x6 σ2 H6 δ2 S5 _ _ z2 ((rs2.ext (e3.trans (e4.trans (e5.trans z1)))).wipe) (turn1 j d5 acc5 S5 hd5 jv) fun δ3 σ3 hw3 rs3 q3 => ⟨hw3, δ3, S5, fun b S => b = true ∧ S = S5, rs3, z3 _ sr5, ⟨rfl, rfl⟩, fun b S7 H7 ⟨eb, eS⟩ s7 e7 => ?_⟩
      subst eb eS
      rw [if_pos rfl]
      refine ⟨δ3, S7, _, rs3.ext e7, s7, q3, fun w S8 v H8 ⟨h0, hl, h4⟩ r4 s8 e8 => ?_⟩
      obtain ⟨vs, hv, r5⟩ := s8.lst h0
      exact ⟨vs, hv, by rw [r5.length]; exact hl, e5.trans (z1.trans (e7.trans (e8.trans (.mutL hv)))), _, _, s8.mut h0 (r5.append (.single r4)), h4⟩
    · have : j = es.length := by omega
      subst this
      exact .inl ⟨it1.stop _ H5 e5 (Nat.le_refl _), eAll, acc5, S5, sr5, last1 acc5 S5 jv⟩
  · have : i = ds.length := by omega
    subst this
    obtain ⟨vs, hv, r5⟩ := sr2.lst hS
    refine .inl ⟨it.stop _ H' e2 (Nat.le_refl _), hQ _ _ Dd vs rfl hv fun o => ?_⟩
    exact fin _ _ _ _ (last acc S' iv) ⟨Dd, vs, rfl, .inl ⟨o, upd_same⟩, r5.ext (.mutL hv)⟩ (sr2.del hv) (e1.trans (e2.trans (.mutL hv)))
theorem q_lc2 {g g1 : TG} {own : List (Str × Nat)} {is is1 : List Nat} (hown : own.map (·.2) = is) (hv : ∀ i ∈ is1, i ∈ own.map (·.2)) (G : LcG X.K g dg is) (G1 : LcG X.K g1 dg1 is1) (hc : X.calm = true) (hN : X.N.Nodup) (hi : QI X tg iter t) (ok : BlkOk X.N X.env.scope scope own)
    (hg : ∀ (s : Shared) (H : Hp) (C : Addr) (cl : List (Str × Addr)) (fp : List Addr), L2.PG (X.blk s H scope (compEnvC scope cl C X.env) fp) tg g)
    (hi1 : ∀ (s : Shared) (H : Hp) (C : Addr) (cl : List (Str × Addr)) (fp : List Addr), L2.PI (X.blk s H scope (compEnvC scope cl C X.env) fp) tg1 iter1 (lI X.K t1))
    (hg1 : ∀ (s : Shared) (H : Hp) (C : Addr) (cl : List (Str × Addr)) (fp : List Addr), L2.PG (X.blk s H scope (compEnvC scope cl C X.env) fp) tg1 g1)
    (he : ∀ (s : Shared) (H : Hp) (C : Addr) (cl : List (Str × Addr)) (fp : List Addr), L2.PE (X.blk s H scope (compEnvC scope cl C X.env) fp) elt (lE X.K te))
    (hs : ∀ x, foldedSetIterable iter X.env x = pure x := by intro _; rfl) (hs1 : ∀ env x, foldedSetIterable iter1 env x = pure x := by intro _ _; rfl) :
    QE X (.ListComp elt [⟨tg, iter, [], 0⟩, ⟨tg1, iter1, [], 0⟩] scope pos) (dLc2 t dg t1 dg1 te is is1) :=
  PE.imp (pe_frz (pe_lc2 (tt := lT X.K dYes) (tt1 := lT X.K dYes) hc hN hi ok hv hg (fun _ _ _ _ _ => ts_nil (X := X.blk _ _ _ _ _)) hi1 hg1 (fun _ _ _ _ _ => ts_nil (X := X.blk _ _ _ _ _)) he hs hs1)) fun σ H Q h => by
    subst hown
    exact lc2_tree G G1 h fun v H1 a xs e1 e2 q => ⟨a, xs, e1, e2, q⟩
end
theorem e_lc2 {t t1 : DI} {g g1 : DG} {te : DE} {vs vs1 : List Nat} {δ : DSt} {S : Sto} {P : DK} : dLc2 t g t1 g1 te vs vs1 δ S P = t δ S fun ds S1 => lcB2 g t1 g1 te vs vs1 δ ds S1 P := rfl
/-- one list for each, one behind another -/
theorem lc2_flat {i j : Nat} {t1 : DI} {te : DE} {δ : DSt} {ds : List D} {S : Sto} {P : DK} (f : D → List D) (hz : (ds.flatMap f).length ≤ sizeLine)
    (ht : ∀ d ∈ ds, ∀ (S2 : Sto) (R : List D → Sto → Prop), (∀ S3, Step [] S2 S3 → R (f d) S3) → t1 ((dwipe δ [i, j]).set i (some d)) S2 R)
    (he : ∀ d ∈ ds, ∀ e ∈ f d, ∀ (S2 : Sto) (Q : DK), Q e S2 → te ((dwipe ((dwipe δ [i, j]).set i (some d)) [j]).set j (some e)) S2 Q)
    (h : ∀ S', Step [] S S' → P (.lst (ds.flatMap f)) S') : lcB2 (gN i) t1 (gN j) te [i, j] [j] δ ds S P := by
  intro p np
  refine ⟨fun k acc S' => acc = (ds.take k).flatMap f ∧ S' p = some (.lst acc) ∧ ∀ b, S b ≠ none → S' b = S b, ⟨rfl, sup_same, fun b hb => sup_ne fun e => hb (by rw [e]; exact np)⟩, fun _ _ _ z => z.2.1, fun k d acc S' hd ⟨e1, e2, e3⟩ => ?_, fun acc S' ⟨e1, e2, e3⟩ => ?_⟩
  · have hm : d ∈ ds := List.mem_of_getElem? hd
    have tk : ds.take (k + 1) = ds.take k ++ [d] := by rw [List.take_add_one, hd]; rfl
    have tot : ((ds.take (k + 1)).flatMap f).length ≤ (ds.flatMap f).length := by
      have : ds.flatMap f = (ds.take (k + 1)).flatMap f ++ (ds.drop (k + 1)).flatMap f := by rw [← List.flatMap_append, List.take_append_drop]
      rw [this, List.length_append]
      omega
    rw [tk, List.flatMap_append, List.length_append] at tot
    show t1 _ S' _
    refine ht d hm S' _ fun S3 s3 => ?_
    have k3 : S3 p = some (.lst acc) := s3.at e2 List.not_mem_nil
    have o3 : ∀ b, S b ≠ none → S3 b = S b := fun b hb => by rw [s3 b (by rw [e3 b hb]; exact hb) List.not_mem_nil, e3 b hb]
    refine ⟨fun m acc' S' => acc' = acc ++ (f d).take m ∧ S' p = some (.lst acc') ∧ ∀ b, S b ≠ none → S' b = S b, ⟨by simp, k3, o3⟩, fun _ _ _ z => z.2.1, fun m e acc' S4 hm4 ⟨f1, f2, f3⟩ => ?_, fun acc' S4 ⟨f1, f2, f3⟩ => ?_⟩
    · have hme : e ∈ f d := List.mem_of_getElem? hm4
      have lm := (List.getElem?_eq_some_iff.mp hm4).1
      show te _ S4 _
      refine he d hm e hme S4 _ ⟨f2, ?_, ?_, sup_same, fun b hb => ?_⟩
      · have e9 : ([d].flatMap f).length = (f d).length := by simp
        rw [f1, List.length_append, List.length_take, e1]
        omega
      · rw [f1, List.take_add_one, hm4, List.append_assoc]
        rfl
      · have hne : b ≠ p := fun e => hb (by rw [e]; exact np)
        rw [sup_ne hne]
        exact f3 b hb
    · rw [List.take_length] at f1
      refine ⟨?_, f2, f3⟩
      rw [f1, e1, tk, List.flatMap_append]
      simp
  · rw [List.take_length] at e1
    rw [e1]
    refine h _ fun b hb _ => ?_
    have hne : b ≠ p := fun e => hb (by rw [e]; exact np)
    unfold sdel
    rw [if_neg hne]
    exact e3 b hb
end DL
set_option Elab.async false
set_option linter.all false
set_option maxRecDepth 100000
set_option maxHeartbeats 1000000
namespace DL
open PySem PySem.Spec PyProof.Rows TL L2
section
variable {X : Cx}
/-- str of nothing, too -/
def strN : List D → Sto → DK → Prop := fun ds S P => match ds with
  | [.non] => P (.str "None") S
  | _ => strD ds S P
theorem c_strN : CallD X (.type "str") strN := by
  intro pins s σ H xs us Q I rv ⟨ds, S, P, ra, sr, h, fin⟩
  unfold strN at h
  split at h
  · obtain ⟨v, rfl, r⟩ := ra.one'
    cases r
    obtain ⟨u, rfl, ru⟩ := vals1 rv
    cases ru
    exact PySem.P.str_of_none ⟨.str _, H, I.tok _, ⟨_, rfl⟩, fin _ S _ H h rfl sr (.refl H)⟩
  · exact c_str pins s σ H xs us Q I rv ⟨ds, S, P, ra, sr, h, fin⟩
variable {S : Sto} {P : DK}
theorem strN_n : strN [.non] S P = P (.str "None") S := rfl
theorem strN_i {i : Int} : strN [.int i] S P = (i.natAbs.log2 < 1920 ∧ P (.str (toString i)) S) := rfl
end
end DL
set_option Elab.async false
set_option linter.all false
set_option maxRecDepth 100000
set_option maxHeartbeats 1000000
/-! DE2: cells taken away from the heap while others run, laid again behind. -/
namespace DL
open PySem PySem.Spec PyProof.Rows L2 NdefX LamX

/-! ### cells: taken away, laid again -/
abbrev Cs := List (Addr × D)
/-- without these -/
def hdel (H : Hp) (as : List Addr) : Hp := fun b => if b ∈ as then none else H b
/-- these as they are in H, all else as in H1 -/
def hback (H : Hp) (as : List Addr) (H1 : Hp) : Hp := fun b => if b ∈ as then H b else H1 b
def sdels (S : Sto) (as : List Addr) : Sto := fun b => if b ∈ as then none else S b
def sback (S : Sto) (as : List Addr) (S1 : Sto) : Sto := fun b => if b ∈ as then S b else S1 b
theorem hdel_in {H : Hp} {as : List Addr} {b : Addr} (h : b ∈ as) : hdel H as b = none := if_pos h
theorem hdel_out {H : Hp} {as : List Addr} {b : Addr} (h : b ∉ as) : hdel H as b = H b := if_neg h
theorem hback_in {H H1 : Hp} {as : List Addr} {b : Addr} (h : b ∈ as) : hback H as H1 b = H b := if_pos h
theorem hback_out {H H1 : Hp} {as : List Addr} {b : Addr} (h : b ∉ as) : hback H as H1 b = H1 b := if_neg h
theorem sdels_in {S : Sto} {as : List Addr} {b : Addr} (h : b ∈ as) : sdels S as b = none := if_pos h
theorem sdels_out {S : Sto} {as : List Addr} {b : Addr} (h : b ∉ as) : sdels S as b = S b := if_neg h
theorem sback_in {S S1 : Sto} {as : List Addr} {b : Addr} (h : b ∈ as) : sback S as S1 b = S b := if_pos h
theorem sback_out {S S1 : Sto} {as : List Addr} {b : Addr} (h : b ∉ as) : sback S as S1 b = S1 b := if_neg h

/-- the heap of H grows to that of H', but for what is told of a def's own table or a dict's keys, which stay -/
theorem ObjOk.grow {P : Program} {w : World} {H H' : Hp} {h : Heap} {a : Addr} : ∀ {o : HO}, ObjOk P w H h a o → (∀ b x, H b = some (.own x) → H' b = some (.own x)) → (∀ b xs, H b = some (.tup xs) → H' b = some (.tup xs)) → ObjOk P w H' h a o := fun {o} x k1 k2 => x.stay (fun _ _ _ q => q) (fun c q => k1 c _ q) k2

section
variable {P : Program} {w : World} {K : PySem.W.Frag} {mg : Str → Option Value} {base : Heap} {A : Around} {outer : List Env} {s : Shared} {H : Hp} {as : List Addr}
/-- each of these is a frozen cell -/
def AllCells (H : Hp) (as : List Addr) : Prop := ∀ c ∈ as, ∃ o v, H c = some (.frz o (CellO c v))
theorem AllCells.own (h : AllCells H as) : ∀ b x, H b = some (.own x) → b ∉ as := fun b x e hb => by obtain ⟨o, v, z⟩ := h b hb; rw [e] at z; cases z
theorem AllCells.tup (h : AllCells H as) : ∀ b x, H b = some (.tup x) → b ∉ as := fun b x e hb => by obtain ⟨o, v, z⟩ := h b hb; rw [e] at z; cases z
theorem hok_del {h : Heap} (ok : HOk P w H h) (c : AllCells H as) : HOk P w (hdel H as) h := fun a o e => by
  by_cases ha : a ∈ as
  · rw [hdel_in ha] at e; cases e
  · rw [hdel_out ha] at e
    exact ObjOk.grow (ok a o e) (fun b x q => by rw [hdel_out (c.own b x q)]; exact q) (fun b x q => by rw [hdel_out (c.tup b x q)]; exact q)
theorem env0_del (e0 : Env0 P w K mg base A outer s H) (c : AllCells H as) : Env0 P w K mg base A outer s (hdel H as) :=
  have n : ∀ b, H b = none → hdel H as b = none := fun b e => by unfold hdel; split; rfl; exact e
  ⟨e0.frames, e0.mod, fun b o e => ⟨(e0.bs b o e).1, n b (e0.bs b o e).2⟩, e0.bsz, e0.funs, fun b hb => n b (e0.frf b hb), hok_del e0.hok c, e0.bare⟩
/-- a frozen cell's object -/
theorem cell_at {h : Heap} (ok : HOk P w H h) {c : Addr} {o : Obj} {v : V} (e : H c = some (.frz o (CellO c v))) : h.get? c = some o ∧ ∃ u, RelV v u ∧ h.IsCell c (some u) := by
  obtain ⟨h1, ⟨u, r, z⟩, _⟩ := ok c _ e
  exact ⟨h1, u, r, z⟩
theorem fn_at {h : Heap} (ok : HOk P w H h) {f : Addr} {F : FF} (e : H f = some (FnG f F)) : ∃ (od : Option Addr) (sl : Array (Option Value)) (doc pm ctv : Value), h.get? f = some (⟨.type "function", od, .func (F.fd doc pm ctv), sl⟩ : Obj) := by
  obtain ⟨z, _, _⟩ := ok f _ e
  exact z
theorem code_at {h : Heap} (ok : HOk P w H h) {c p : Addr} {q : Str} (e : H c = some (CodeX c p q)) : PySem.W.CodeHd h c p ∧ h.CodeRec (.ref c) q := by
  obtain ⟨⟨z, oc, vs, t, h1, h2, h3⟩, _, _⟩ := ok c _ e
  exact ⟨z, c, oc, vs, t, rfl, h1, h2, h3⟩
/-- behind a run in which the cells were not held: they are held again -/
theorem back_after {Q Q' : VK} {u : Value} {s' : Shared} (e0 : Env0 P w K mg base A outer s H) (c : AllCells H as) (h : CE outer P w (hdel H as) s Q' u s')
    (hq : ∀ v H1, Q' v H1 → (∀ b ∈ as, H1 b = none) → Q v (hback H as H1)) : CE outer P w H s Q u s' := by
  obtain ⟨v, H1, os, bare, un, hok, rv, q⟩ := h
  have nfs : ∀ b ∈ as, b ∉ frs outer := fun b hb hf => by
    obtain ⟨o, x, e⟩ := c b hb
    rw [e0.frf b hf] at e; cases e
  have gone : ∀ b ∈ as, H1 b = none := fun b hb => by
    obtain ⟨o, x, e⟩ := c b hb
    exact un.free b o (e0.hok b _ e).1 (hdel_in hb) List.not_mem_nil
  have stays : ∀ b ∈ as, ∀ o, s.heap.get? b = some o → s'.heap.get? b = some o := fun b hb o e => un.keep b o e (hdel_in hb) (nfs b hb) List.not_mem_nil
  have none_out : ∀ b, H b = none → b ∉ as := fun b e hb => by obtain ⟨o, x, z⟩ := c b hb; rw [e] at z; cases z
  have some_out : ∀ b, b ∉ as → hdel H as b = H b := fun b hb => hdel_out hb
  refine ⟨v, hback H as H1, os, bare, ⟨fun b o e n hb hx => un.keep b o e (by rw [hdel_out (none_out b n)]; exact n) hb hx, fun b o e n hb hx => un.slot b o e (by rw [hdel_out (none_out b n)]; exact n) hb hx, fun b o e n hx => ?_, un.there, fun b xs e => ?_, fun b o x e => ?_, fun b ps e => ?_⟩, fun a o e => ?_, rv, hq v H1 q gone⟩
  · rw [hback_out (none_out b n)]; exact un.free b o e (by rw [hdel_out (none_out b n)]; exact n) hx
  · have nb := c.tup b xs e
    rw [hback_out nb]; exact un.tups b xs (by rw [hdel_out nb]; exact e)
  · by_cases hb : b ∈ as
    · rw [hback_in hb]; exact e
    · rw [hback_out hb]; exact un.frzs b o x (by rw [hdel_out hb]; exact e)
  · have nb : b ∉ as := fun hb => by obtain ⟨o, x, z⟩ := c b hb; rw [e] at z; cases z
    obtain ⟨m, z⟩ := un.tbls b ps (by rw [hdel_out nb]; exact e)
    exact ⟨m, by rw [hback_out nb]; exact z⟩
  · have g1 : ∀ b x, H1 b = some (.own x) → hback H as H1 b = some (.own x) := fun b x e1 => by rw [hback_out (fun hb => by rw [gone b hb] at e1; cases e1)]; exact e1
    have g2 : ∀ b x, H1 b = some (.tup x) → hback H as H1 b = some (.tup x) := fun b x e1 => by rw [hback_out (fun hb => by rw [gone b hb] at e1; cases e1)]; exact e1
    by_cases ha : a ∈ as
    · rw [hback_in ha] at e
      obtain ⟨ob, x, z⟩ := c a ha
      rw [e] at z; cases z
      obtain ⟨h1, h2, ⟨o2, h3⟩, h4⟩ := e0.hok a _ e
      have k := stays a ha ob h1
      exact ⟨k, h4 s.heap s'.heap h2 (fun o e => stays a ha o e), ⟨ob, k⟩, h4⟩
    · rw [hback_out ha] at e
      exact ObjOk.grow (hok a o e) g1 g2
end
/-! ### what is told of trees holds without the cells, too -/
structure LessC (H H' : Hp) : Prop where
  t : ∀ a xs, H a = some (.tup xs) → H' a = some (.tup xs)
  f : ∀ a o u, H a = some (.frz o u) → (∀ φ, u ≠ .ext φ) → H' a = some (.frz o u)
  n : ∀ k a, TWn H k a → TWn H' k a
section
variable {K : PySem.W.Frag} {H H' : Hp}
theorem LessC.sqT {a : Addr} {xs : List V} (e : LessC H H') (h : SqT K H a xs) : SqT K H' a xs := by
  rcases h with (h | ⟨o, h⟩) | h
  · exact .inl (.inl (e.t _ _ h))
  · exact .inl (.inr ⟨o, e.f _ _ _ h (fun _ z => by cases z)⟩)
  · exact .inr h
theorem LessC.sqF {a : Addr} {xs : List V} (e : LessC H H') (h : SqF K H a xs) : SqF K H' a xs := h.elim (fun ⟨o, q⟩ => .inl ⟨o, e.f _ _ _ q (fun _ z => by cases z)⟩) .inr
mutual
theorem Rp.lessC (e : LessC H H') : ∀ {d : D} {v : V}, Rp K H d v → Rp K H' d v
  | .non, _, h => h
  | .bl _, _, h => h
  | .int _, _, h => h
  | .str _, _, h => h
  | .ref _, _, h => h
  | .ty _, _, h => h
  | .tup _, _, ⟨a, vs, h1, h2, h3⟩ => ⟨a, vs, h1, e.sqT h2, RpA.lessC e h3⟩
  | .lst _, _, ⟨a, vs, h1, h2, h3⟩ => ⟨a, vs, h1, e.sqF h2, RpA.lessC e h3⟩
  | .dic _, _, ⟨a, o, vs, h1, h2, h3⟩ => ⟨a, o, vs, h1, e.f _ _ _ h2 (fun _ z => by cases z), RpK.lessC e h3⟩
theorem RpA.lessC (e : LessC H H') : ∀ {ds : List D} {vs : List V}, RpA K H ds vs → RpA K H' ds vs
  | [], _, h => h
  | _ :: _, _, ⟨v, ws, h1, h2, h3⟩ => ⟨v, ws, h1, Rp.lessC e h2, RpA.lessC e h3⟩
theorem RpK.lessC (e : LessC H H') : ∀ {ds : List (Key × D)} {vs : List (Key × V)}, RpK K H ds vs → RpK K H' ds vs
  | [], _, h => h
  | _ :: _, _, ⟨v, ws, h1, h2, h3⟩ => ⟨v, ws, h1, Rp.lessC e h2, RpK.lessC e h3⟩
end
theorem AllCells.lessC {as : List Addr} (c : AllCells H as) : LessC H (hdel H as) :=
  ⟨fun a xs e => by rw [hdel_out (c.tup a xs e)]; exact e, fun a o u e n => by
    rw [hdel_out (fun ha => ?_)]; exact e
    obtain ⟨o', v, z⟩ := c a ha
    rw [e] at z; cases z; exact n _ rfl, fun k a q => q.stay (fun b ps e => by
      rw [hdel_out (fun hb => ?_)]; exact e
      obtain ⟨o', v, z⟩ := c b hb
      rw [e] at z; cases z) fun b φ e => by
      rw [hdel_out (fun hb => ?_)]; exact e
      obtain ⟨o', v, z⟩ := c b hb
      rw [e] at z; cases z⟩
theorem SR.lessC {as : List Addr} {S : Sto} (sr : SR K H S) (c : AllCells H as) : SR K (hdel H as) (sdels S as) := fun a o e => by
  by_cases ha : a ∈ as
  · rw [sdels_in ha] at e; cases e
  · rw [sdels_out ha] at e
    have h := sr a o e
    have q : hdel H as a = H a := hdel_out ha
    have nx : ∀ b φ, H b = some (.ext φ) → hdel H as b = some (.ext φ) := fun b φ e => by
      rw [hdel_out (fun hb => ?_)]; exact e
      obtain ⟨o', v, z⟩ := c b hb
      rw [e] at z; cases z
    cases o with
    | lst ds => obtain ⟨vs, h1, h2⟩ := h; exact ⟨vs, q.trans h1, h2.lessC c.lessC⟩
    | dic ds => obtain ⟨vs, h1, h2⟩ := h; exact ⟨vs, q.trans h1, h2.lessC c.lessC⟩
    | fn F n => obtain ⟨h1, P, h2, h3⟩ := h; exact ⟨q.trans h1, P, nx _ _ h2, c.lessC.n _ _ h3⟩
    | cell d => obtain ⟨o, v, h1, h2⟩ := h; exact ⟨o, v, q.trans h1, h2.lessC c.lessC⟩
    | tab n => exact c.lessC.n _ _ h
    | gho u => exact ⟨q.trans h.1, h.2⟩
theorem ext_back {as : List Addr} {H1 : Hp} (g : ∀ b ∈ as, H1 b = none) : Ext H1 (hback H as H1) :=
  have n : ∀ b u, H1 b = some u → b ∉ as := fun b u e hb => by rw [g b hb] at e; cases e
  ⟨fun a xs e => by rw [hback_out (n a _ e)]; exact e, fun a o u e => by rw [hback_out (n a _ e)]; exact e, fun a o e => by rw [hback_out (n a _ e)]; exact e,
   fun k a q => q.stay (fun b ps e => by rw [hback_out (n b _ e)]; exact e) fun b φ e => by rw [hback_out (n b _ e)]; exact e⟩
theorem ext_whole {as : List Addr} {H1 : Hp} (c : AllCells H as) (e : Ext (hdel H as) H1) (g : ∀ b ∈ as, H1 b = none) : Ext H (hback H as H1) :=
  ⟨fun a xs q => by have n := c.tup a xs q; rw [hback_out n]; exact e.t a xs (by rw [hdel_out n]; exact q),
   fun a o u q => by
    by_cases ha : a ∈ as
    · rw [hback_in ha]; exact q
    · rw [hback_out ha]; exact e.f a o u (by rw [hdel_out ha]; exact q),
   fun a φ q => by
    by_cases ha : a ∈ as
    · rw [hback_in ha]; exact q
    · rw [hback_out ha]; exact e.x a φ (by rw [hdel_out ha]; exact q),
   fun k a q => (ext_back g).n k a (e.n k a (c.lessC.n k a q))⟩
theorem SR.back {as : List Addr} {H1 : Hp} {S S1 : Sto} (sr : SR K H S) (sr1 : SR K H1 S1) (c : AllCells H as) (e : Ext (hdel H as) H1) (g : ∀ b ∈ as, H1 b = Option.none) : SR K (hback H as H1) (sback S as S1) := fun b o q => by
  by_cases hb : b ∈ as
  · rw [sback_in hb] at q
    exact (sr b o q).keep (ext_whole c e g) (hback_in hb)
  · rw [sback_out hb] at q
    exact (sr1 b o q).keep (ext_back g) (hback_out hb)
end

end DL
set_option Elab.async false
set_option linter.all false
set_option maxRecDepth 100000
set_option maxHeartbeats 1000000
/-! DE3: functions that were made, as they can be called. -/
namespace DL
open PySem PySem.Spec PyProof.Rows L2 NdefX LamX

def SubS (S0 S : Sto) : Prop := ∀ a o, S0 a = some o → S a = some o
theorem SubS.refl (S : Sto) : SubS S S := fun _ _ h => h
/-- what can be called: made at run time, or the module's own -/
def FnSt (K : PySem.W.Frag) (S0 : Sto) (f : Addr) : Prop := (∃ F n, S0 f = some (.fn F n)) ∨ ∃ oc od fd sl, K.lookup f = some ⟨oc, od, .func fd, sl⟩
def CallsD (P : Program) (w : World) (K : PySem.W.Frag) (mg : Str → Option Value) (base : Heap) (k : Nat) (f : Addr) (n : Nat) (S0 : Sto) (sp : DSp) : Prop :=
  FnSt K S0 f ∧ (∀ ds S P', sp ds S P' → ds.length = n) ∧
  ∀ (A : Around) (outer : List Env) (s : Shared) (H : Hp) (us : List Value) (vs : List V) (Q : VK), Room k A → A.guards = some [] → Env0 P w K mg base A outer s H → Vals vs us →
    (∃ ds S P', RpA K H ds vs ∧ SR K H S ∧ SubS S0 S ∧ sp ds S P' ∧ Fin K H P' Q) → codeAny (model P w) A (.call (.ref f) ⟨us, []⟩) (CR CX0 outer P w H s Q E0) s
theorem CallsD.mono {P : Program} {w : World} {K : PySem.W.Frag} {mg : Str → Option Value} {base : Heap} {j k : Nat} {f : Addr} {n : Nat} {S0 : Sto} {sp : DSp} (h : CallsD P w K mg base j f n S0 sp) (l : j ≤ k) : CallsD P w K mg base k f n S0 sp :=
  ⟨h.1, h.2.1, fun A outer s H us vs Q hr => h.2.2 A outer s H us vs Q (hr.mono l)⟩
theorem CallsD.imp {P : Program} {w : World} {K : PySem.W.Frag} {mg : Str → Option Value} {base : Heap} {k : Nat} {f : Addr} {n : Nat} {S0 : Sto} {sp sp' : DSp} (h : CallsD P w K mg base k f n S0 sp) (q : ∀ ds S P', SubS S0 S → sp' ds S P' → sp ds S P') (l : ∀ ds S P', sp' ds S P' → ds.length = n) : CallsD P w K mg base k f n S0 sp' :=
  ⟨h.1, l, fun A outer s H us vs Q hr hg e0 rv ⟨ds, S, P', a, b, c, d, e⟩ => h.2.2 A outer s H us vs Q hr hg e0 rv ⟨ds, S, P', a, b, c, q _ _ _ c d, e⟩⟩
theorem CallsD.sub {P : Program} {w : World} {K : PySem.W.Frag} {mg : Str → Option Value} {base : Heap} {k : Nat} {f : Addr} {n : Nat} {S0 S1 : Sto} {sp : DSp} (h : CallsD P w K mg base k f n S0 sp) (q : SubS S0 S1) : CallsD P w K mg base k f n S1 sp :=
  ⟨h.1.elim (fun ⟨F, n, e⟩ => .inl ⟨F, n, q _ _ e⟩) .inr, h.2.1, fun A outer s H us vs Q hr hg e0 rv ⟨ds, S, P', a, b, c, d, e⟩ => h.2.2 A outer s H us vs Q hr hg e0 rv ⟨ds, S, P', a, b, fun x o z => c x o (q x o z), d, e⟩⟩
/-- f(..), f a name that holds a function that was handed in -/
def dCallC (P : Program) (w : World) (K : PySem.W.Frag) (mg : Str → Option Value) (base : Heap) (k i : Nat) (t : DA) : DE := fun δ S P' => ∃ f n S0 sp, slot δ i = some (.ref f) ∧ CallsD P w K mg base k f n S0 sp ∧ SubS S0 S ∧ t δ S fun ds S1 => SubS S0 S1 ∧ sp ds S1 P'
section
variable {X : Cx} {k i : Nat} {x : Str} {p pos : Pos} {e : Expr} {es : List Expr} {t : DA}
theorem fn_here {pins : List (Addr × Obj)} {σ : L2.St} {H : Hp} {s : Shared} {S0 S : Sto} {f : Addr} (I : L2.Inv X pins σ H s) (sr : SR X.K H S) (sub : SubS S0 S) (e : FnSt X.K S0 f) : PySem.W.FnAt f s.heap := by
  rcases e with ⟨F, n, e⟩ | ⟨oc, od, fd, sl, e⟩
  · obtain ⟨od, sl, doc, pm, ctv, ho⟩ := fn_at I.hok (sr f _ (sub _ _ e)).1
    exact ⟨_, od, _, sl, ho⟩
  · exact ⟨oc, od, fd, sl, I.kIn _ _ e⟩
theorem q_callC (i : Nat) (hr : Room k X.A) (hgd : X.A.guards = some []) (ha : QA X (e :: es) t) (hN : X.N[i]? = some x := by rfl) (hv : Vis X.env.scope x := by first | exact Or.inl rfl | exact Or.inr (Or.inl rfl) | exact Or.inr (Or.inr rfl))
    (hdb : (x == ("__debug__" : Str)) = false := by decide) (hcd : (x == ("__classdict__" : Str)) = false := by decide)
    (he : starEach (e :: es) X.env = (false, eval e X.env) :: starEach es X.env := by rfl) (hpl : (backTo pos (starEach es X.env)).any (·.1) = false := by rfl) : QE X (.Call (.Name x p) (e :: es) [] pos) (dCallC X.prog X.w X.K X.mg X.base k i t) := by
  refine ⟨fun pins s σ H Q I ⟨δ, S, P, rs, sr, ⟨f, n, S0, sp, hs, C, sub, h⟩, fin⟩ => ?_⟩
  obtain ⟨v, hv2, r2⟩ := rs.2 i _ (slot_get hs)
  cases r2
  obtain ⟨hF, len, run⟩ := C
  refine wpAny_Call_Name_kw (thn ((pe_var (pos := p) hN hv hdb hcd).run pins s σ H (fun v H1 => v = .ref f ∧ H1 = H) I ⟨.ref f, hv2, rfl, rfl⟩) fun u s0 ⟨v, H0, I0, r1, q1⟩ => ?_)
  obtain ⟨rfl, rfl⟩ := q1
  cases r1
  refine PySem.W.callWith_F (first := []) (fn_here I0 sr sub hF) (thn (ha.run pos pins s0 σ _ (fun vs H1 => ∃ ds S1, RpA X.K H1 ds vs ∧ SR X.K H1 S1 ∧ (SubS S0 S1 ∧ sp ds S1 P) ∧ Fin X.K H1 P Q) I0 ⟨δ, S, _, rs, sr, h, fun ds S1 vs H1 h1 r1 s1 e1 => ⟨ds, S1, r1, s1, h1, fin.ext e1⟩⟩) fun us s1 ⟨vs, H1, I1, r, ds, S1, r1, s2, ⟨sub1, q⟩, fin1⟩ => ⟨fn_here I1 s2 sub1 hF, ?_⟩) he hpl
  show wpAny _ _ (call (.ref f) us) _ _ _
  refine wpAny_call (codeAny_mono (run X.A X.stack s1 H1 us vs Q hr hgd I1.env0 r ⟨ds, S1, P, r1, s2, sub1, q, fin1⟩) fun r s' hq => ?_)
  cases r with
  | error e => exact False.elim hq
  | ok fl => cases fl with
    | ret u => exact I1.after hq
    | _ => exact False.elim hq
end

/-! ### by its body -/
/-- what its cells hold -/
structure Cap (cl : List (Str × Addr)) (fr : List Str) (wd : List D) (S0 : Sto) : Prop where
  len : wd.length = fr.length
  all : ∀ y c, cl.lookup y = some c → y ∈ fr
  inj : ∀ x y c, cl.lookup x = some c → cl.lookup y = some c → x = y
  has : ∀ (i : Nat) (y : Str), fr[i]? = some y → ∃ c d, cl.lookup y = some c ∧ wd[i]? = some d ∧ S0 c = some (.cell d)
def cellsOf (cl : List (Str × Addr)) (fr : List Str) : List Addr := fr.filterMap fun y => cl.lookup y
theorem mem_cellsOf {cl : List (Str × Addr)} {fr : List Str} {c : Addr} : c ∈ cellsOf cl fr ↔ ∃ y ∈ fr, cl.lookup y = some c := by
  unfold cellsOf; rw [List.mem_filterMap]
def spBack (as : List Addr) (sp : DSp) : DSp := fun ds S P => sp ds (sdels S as) fun d S1 => P d (sback S as S1)
def nstart (N : List Str) (ds wd : List D) : DSt := ds.map some ++ (wd.map some ++ List.replicate (N.length - ds.length - wd.length) none)
theorem RS.nstart {K : PySem.W.Frag} {H : Hp} {N : List Str} {ds wd : List D} {vs ws : List V} (r : RpA K H ds vs) (rw' : RpA K H wd ws) : RS K H (startF N vs (ws.map some)) (nstart N ds wd) := by
  have l1 := r.length
  have l2 := rw'.length
  refine ⟨by unfold startF DL.nstart; simp [l1, l2], fun i d q => ?_⟩
  unfold DL.nstart at q
  unfold startF
  by_cases h1 : i < ds.length
  · rw [List.getElem?_append_left (by simpa using h1), List.getElem?_map] at q
    rw [List.getElem?_append_left (by rw [List.length_map]; omega), List.getElem?_map]
    cases e : ds[i]? with
    | none => rw [e] at q; cases q
    | some x =>
      rw [e] at q; cases q
      obtain ⟨v, a, b⟩ := r.get e
      exact ⟨v, by rw [a]; rfl, b⟩
  · rw [List.getElem?_append_right (by simpa using h1), List.length_map] at q
    rw [List.getElem?_append_right (by rw [List.length_map]; omega), List.length_map (as := vs), l1]
    by_cases h2 : i - ds.length < wd.length
    · rw [List.getElem?_append_left (by simpa using h2), List.getElem?_map] at q
      rw [List.getElem?_append_left (by rw [List.length_map, l2]; exact h2), List.getElem?_map]
      cases e : wd[i - ds.length]? with
      | none => rw [e] at q; cases q
      | some x =>
        rw [e] at q; cases q
        obtain ⟨v, a, b⟩ := rw'.get e
        exact ⟨v, by rw [a]; rfl, b⟩
    · rw [List.getElem?_append_right (by simpa using h2), List.getElem?_replicate] at q
      split at q <;> cases q
section
variable {P : Program} {w : World} {K : PySem.W.Frag} {mg : Str → Option Value} {base : Heap}
/-- these names' cells are none of the callers' frames, none of the module's -/
def FreeC (cl : List (Str × Addr)) (fr : List Str) (base : Heap) (outer : List Env) (n : Nat) : Prop := ∀ y ∈ fr, ∀ c, cl.lookup y = some c → c ∉ frs outer ∧ base.get? c = none ∧ c < n
theorem vals_of {H : Hp} {fr : List Str} {cl : List (Str × Addr)} {wd : List D} {S0 S : Sto} (sr : SR K H S) (sub : SubS S0 S) (cap : Cap cl fr wd S0) :
    ∃ ws : List V, RpA K H wd ws ∧ ∀ (i : Nat) (y : Str) (v : V), fr[i]? = some y → ws[i]? = some v → ∃ c o, cl.lookup y = some c ∧ H c = some (.frz o (CellO c v)) := by
  have each : ∀ i, i < wd.length → ∃ v y c o d, wd[i]? = some d ∧ Rp K H d v ∧ fr[i]? = some y ∧ cl.lookup y = some c ∧ H c = some (.frz o (CellO c v)) := fun i hi => by
    have hi' : i < fr.length := by rw [← cap.len]; exact hi
    obtain ⟨c, d, q1, q2, q3⟩ := cap.has i _ (List.getElem?_eq_getElem hi')
    obtain ⟨o, v, z1, z2⟩ := sr c _ (sub _ _ q3)
    exact ⟨v, _, c, o, d, q2, z2, List.getElem?_eq_getElem hi', q1, z1⟩
  have lists : ∀ n, n ≤ wd.length → ∃ ws : List V, ws.length = n ∧ RpA K H (wd.take n) ws ∧ ∀ i, i < n → ∃ v y c o, ws[i]? = some v ∧ fr[i]? = some y ∧ cl.lookup y = some c ∧ H c = some (.frz o (CellO c v)) := by
    intro n
    induction n with
    | zero => exact fun _ => ⟨[], rfl, by rw [List.take_zero]; rfl, fun i hi => absurd hi (Nat.not_lt_zero _)⟩
    | succ n ih =>
      intro hn
      obtain ⟨ws, l, r, a⟩ := ih (by omega)
      obtain ⟨v, y, c, o, d, z1, z2, z3, z4, z5⟩ := each n (by omega)
      refine ⟨ws ++ [v], by simp [l], ?_, fun i hi => ?_⟩
      · rw [List.take_add_one, z1]
        exact RpA.append r (RpA.single z2)
      · by_cases h : i < n
        · obtain ⟨v', y', c', o', e1, e2⟩ := a i h
          exact ⟨v', y', c', o', by rw [List.getElem?_append_left (by omega)]; exact e1, e2⟩
        · have : i = n := by omega
          subst this
          exact ⟨v, y, c, o, by rw [List.getElem?_append_right (by omega), l]; simp, z3, z4, z5⟩
  obtain ⟨ws, l, r, a⟩ := lists wd.length (Nat.le_refl _)
  rw [List.take_length] at r
  refine ⟨ws, r, fun i y v e1 e2 => ?_⟩
  obtain ⟨v', y', c, o, z1, z2, z3, z4⟩ := a i (by rw [← l]; exact (List.getElem?_eq_some_iff.mp e2).1)
  rw [e1] at z2; cases z2
  rw [e2] at z1; cases z1
  exact ⟨c, o, z3, z4⟩
/-- all that both kinds of bodies share: run is what is to be shown of the body in the entered frame -/
theorem okG0 {F : FF} {N ps fr : List Str} {k lv : Nat} {f : Addr} {S0 : Sto} {wd : List D} {sp : DSp} (Sc : GScope N ps fr F.scope)
    (len : ∀ ds S P', sp ds S P' → ds.length = ps.length) (hS : S0 f = some (.fn F lv)) (cap : Cap F.cl fr wd S0)
    (enter : ∀ (A : Around) (outer : List Env) (s : Shared) (H : Hp) (us : List Value) (vs : List V) (Q : VK) (S : Sto) (ds : List D) (P' : DK) (o : Obj) (doc pm ctv : Value) (ws : List V), Room (k + 1) A → A.guards = some [] → Env0 P w K mg base A outer s H → Vals vs us → vs.length = ps.length →
      RpA K H ds vs → RpA K H wd ws → SR K H S → S f = some (.fn F lv) → CellsAt F.cl fr (ws.map some) s.heap H → FreeC F.cl fr base outer s.heap.objs.size → sp ds S P' → Fin K H P' Q → s.heap.get? f = some o → o.data = .func (F.fd doc pm ctv) → s.heap.CodeRec (.ref F.c) F.qual → s.heap.NoLimit →
      codeAny (model P w) A (.call (.ref f) ⟨us, []⟩) (CR CX0 outer P w H s Q E0) s) :
    CallsD P w K mg base (k + 1) f ps.length S0 (spBack (cellsOf F.cl fr) sp) := by
  refine ⟨.inl ⟨F, lv, hS⟩, fun ds S P' q => len _ _ _ q, fun A outer s H us vs Q hr hgd e0 r ⟨ds, S, P', rp, sr, sub, hsp, fin⟩ => ?_⟩
  have ac : AllCells H (cellsOf F.cl fr) := fun c hc => by
    obtain ⟨y, hy, e⟩ := mem_cellsOf.mp hc
    obtain ⟨i, hi⟩ := List.mem_iff_getElem?.mp hy
    obtain ⟨c', d, e1, _, e3⟩ := cap.has i y hi
    rw [e] at e1; cases e1
    obtain ⟨o, v, z, _⟩ := sr c _ (sub _ _ e3)
    exact ⟨o, v, z⟩
  have e1 := env0_del e0 ac
  have nx : ∀ b φ, H b = some (.ext φ) → b ∉ cellsOf F.cl fr := fun b φ e hb => by
    obtain ⟨o', v, z⟩ := ac b hb
    rw [e] at z; cases z
  obtain ⟨hF1, P1, hF2, hF3⟩ := sr f _ (sub _ _ hS)
  obtain ⟨ws, rws, hws⟩ := vals_of sr sub cap
  have lws := rws.length
  have CA : CellsAt F.cl fr (ws.map some) s.heap (hdel H (cellsOf F.cl fr)) := by
    refine ⟨by rw [List.length_map, lws, cap.len], fun y c e => ?_, cap.inj, fun i y e => ?_⟩
    · have hm : c ∈ cellsOf F.cl fr := mem_cellsOf.mpr ⟨y, cap.all y c e, e⟩
      refine ⟨hdel_in hm, ?_⟩
      obtain ⟨o, v, z⟩ := ac c hm
      obtain ⟨_, u, _, z2⟩ := cell_at e0.hok z
      exact ⟨_, z2⟩
    · obtain ⟨c, d, q1, q2, q3⟩ := cap.has i y e
      refine ⟨c, q1, fun v ev => ?_⟩
      rw [List.getElem?_map] at ev
      cases ew : ws[i]? with
      | none => rw [ew] at ev; cases ev
      | some v' =>
        rw [ew] at ev; cases ev
        obtain ⟨c', o', z1, z2⟩ := hws i y v e ew
        rw [q1] at z1; cases z1
        exact (cell_at e0.hok z2).2
  have FC : FreeC F.cl fr base outer s.heap.objs.size := fun y hy c hc => by
    obtain ⟨o, v, z⟩ := ac c (mem_cellsOf.mpr ⟨y, hy, hc⟩)
    refine ⟨fun hb => (by rw [e0.frf c hb] at z; cases z), ?_, ?_⟩
    · cases q : base.get? c with
      | none => rfl
      | some ob => rw [(e0.bs c ob q).2] at z; cases z
    · exact Heap.lt_size (e0.hok c _ z).1
  obtain ⟨od, sl, doc, pm, ctv, ho⟩ := fn_at e0.hok hF1
  have nl : s.heap.NoLimit := e0.mod.nolimit.keeps fun b o e => (e0.bs b o e).1
  have hSf : sdels S (cellsOf F.cl fr) f = some (.fn F lv) := by rw [sdels_out (nx _ _ hF1)]; exact sub _ _ hS
  have whole := enter A outer s (hdel H (cellsOf F.cl fr)) us vs (fun v H1 => ∃ d S1, P' d (sback S (cellsOf F.cl fr) S1) ∧ Rp K H1 d v ∧ SR K H1 S1 ∧ Ext (hdel H (cellsOf F.cl fr)) H1) (sdels S (cellsOf F.cl fr)) ds _ _ doc pm ctv ws hr hgd e1 r (by rw [rp.length]; exact len _ _ _ hsp)
    (rp.lessC ac.lessC) (rws.lessC ac.lessC) (sr.lessC ac) hSf CA FC hsp (fun d S1 v H1 p r1 sr1 x => ⟨d, S1, p, r1, sr1, x⟩) ho rfl (code_at e0.hok hF2).2 nl
  refine codeAny_mono whole fun r' s' hs => ?_
  cases r' with
  | error e => exact hs
  | ok fl =>
    cases fl with
    | ret u => exact back_after e0 ac hs fun v H1 ⟨d, S1, p, r1, sr1, x⟩ g => fin d _ v _ p (r1.ext (ext_back g)) (sr.back sr1 ac x g) (ext_whole ac x g)
    | _ => exact hs
theorem okG {F : FF} {N ps fr : List Str} {k lv : Nat} {f : Addr} {S0 : Sto} {wd : List D} {sp : DSp} {body : List Stmt} (hbo : F.body = .stmts body) (Sc : GScope N ps fr F.scope)
    (hb : ∀ (doc pm ctv : Value) (us : List Value), us.length = ps.length → bindArgs (F.fd doc pm ctv) ⟨us, []⟩ = pure (ps.zip us))
    (len : ∀ ds S P', sp ds S P' → ds.length = ps.length) (hS : S0 f = some (.fn F lv)) (cap : Cap F.cl fr wd S0)
    (hbody : ∀ (A : Around) (outer : List Env) (s : Shared) (H : Hp), Room k (A.deeper (envG F f s.heap.objs.size)) → A.guards = some [] → FreeC F.cl fr base outer s.heap.objs.size →
      ∃ t, QSs (gcx P w K mg base N F f A outer s H E0).nox body t ∧ ∀ ds S' P', S' f = some (.fn F lv) → sp ds S' P' → t { nx := fun _ S2 => P' .non S2, rt := P' } (nstart N ds wd) S') :
    CallsD P w K mg base (k + 1) f ps.length S0 (spBack (cellsOf F.cl fr) sp) := by
  refine okG0 Sc len hS cap fun A outer s H us vs Q S ds P' o doc pm ctv ws hr hgd e0 r hl rp rws sr hSf CA FC hsp fin ho hd hco nl => ?_
  refine codeAny_call_function hr.depth ho hd Sc.co Sc.gen hbo hco ?_
  rw [hb doc pm ctv us (by rw [← r.length]; exact hl)]
  refine wpAny_pure (newEnv_own Sc.kind (fun p hp => Sc.par p.1 (List.of_mem_zip hp).1) fun h2 tk hns kp ow ap => ⟨nl.keeps kp, codeAny_func ?_⟩)
  obtain ⟨t, ht, hq⟩ := hbody A outer s H (hr.deeper _) hgd FC
  have I := inv_startG (E := E0) (f := f) (tk := tk) Sc hr.hd e0 hl r CA hns kp ow ap
  have go := ht.nox.run [] _ (startF N vs (ws.map some)) _ { nx := fun _ H' => Q .non H', rt := Q } I
    ⟨nstart N ds wd, S, _, RS.nstart rp rws, sr, hq ds _ _ hSf hsp, ⟨fun δ S2 σ H2 p _ sr2 x => fin _ S2 _ H2 p rfl sr2 x, fin, fun _ _ _ _ p => p.elim, fun _ _ _ _ p => p.elim⟩⟩
  refine wpAny_mono go (fun fl s' hs => ?_) fun e s' hs => hs
  cases fl with
  | ret u => obtain ⟨v, σ', H', J, rv, q⟩ := hs; exact ⟨v, H', J.os, J.bare, J.base, J.hok, rv, q⟩
  | next => obtain ⟨σ', H', J, q⟩ := hs; exact ⟨.non, H', J.os, J.bare, J.base, J.hok, rfl, q⟩
  | brk => obtain ⟨_, _, _, q⟩ := hs; exact False.elim q
  | cont => obtain ⟨_, _, _, q⟩ := hs; exact False.elim q
theorem okGL {F : FF} {N ps fr : List Str} {k lv : Nat} {f : Addr} {S0 : Sto} {wd : List D} {sp : DSp} {body : Expr} (hbo : F.body = .expr body) (Sc : GScope N ps fr F.scope)
    (hb : ∀ (doc pm ctv : Value) (us : List Value), us.length = ps.length → bindArgs (F.fd doc pm ctv) ⟨us, []⟩ = pure (ps.zip us))
    (len : ∀ ds S P', sp ds S P' → ds.length = ps.length) (hS : S0 f = some (.fn F lv)) (cap : Cap F.cl fr wd S0)
    (hbody : ∀ (A : Around) (outer : List Env) (s : Shared) (H : Hp), Room k (A.deeper (envG F f s.heap.objs.size)) → A.guards = some [] → FreeC F.cl fr base outer s.heap.objs.size →
      ∃ t, QE (gcx P w K mg base N F f A outer s H E0).nox body t ∧ ∀ ds S' P', S' f = some (.fn F lv) → sp ds S' P' → t (nstart N ds wd) S' P') :
    CallsD P w K mg base (k + 1) f ps.length S0 (spBack (cellsOf F.cl fr) sp) := by
  refine okG0 Sc len hS cap fun A outer s H us vs Q S ds P' o doc pm ctv ws hr hgd e0 r hl rp rws sr hSf CA FC hsp fin ho hd hco nl => ?_
  refine PySem.W.kla_callFunE hr.depth ho hd Sc.co Sc.gen hbo hco ?_
  rw [hb doc pm ctv us (by rw [← r.length]; exact hl)]
  refine wpAny_pure (newEnv_own Sc.kind (fun p hp => Sc.par p.1 (List.of_mem_zip hp).1) fun h2 tk hns kp ow ap => ⟨nl.keeps kp, ?_⟩)
  obtain ⟨t, ht, hq⟩ := hbody A outer s H (hr.deeper _) hgd FC
  have I := inv_startG (E := E0) (f := f) (tk := tk) Sc hr.hd e0 hl r CA hns kp ow ap
  have go := ht.nox.run [] _ (startF N vs (ws.map some)) _ Q I ⟨nstart N ds wd, S, _, RS.nstart rp rws, sr, hq ds _ _ hSf hsp, fin⟩
  refine PySem.W.kla_codeExpr (wpAny_mono go (fun v s' hs => ?_) fun e s' hs => hs)
  obtain ⟨w', H', J, rv, q⟩ := hs
  exact ⟨w', H', J.os, J.bare, J.base, J.hok, rv, q⟩
/-- a def of the top, handed about as others are -/
theorem callsD_top {x qual : Str} {st : Stmt} {f : Addr} {fd : FuncData} {ps : List Str} {k : Nat} {S0 : Sto} {sp : DSp} (F : FnD P w K mg base k f fd ps sp) (U : Fun K x qual st f fd) (hb : Binds K fd ps []) : CallsD P w K mg base k f ps.length S0 sp := by
  obtain ⟨oc, od, kV, doc, pm, an, cdv, ct, osl, _, lk, hcd⟩ := U.ex
  refine ⟨.inr ⟨oc, od, fd, osl, lk⟩, F.len, fun A outer s H us vs Q hr hgd e0 r ⟨ds, S, P', rp, sr, _, hsp, fin⟩ => ?_⟩
  have KX : K.In s.heap := e0.mod.kin.keeps fun b o e => (e0.bs b o e).1
  have hl : us.length = ps.length := by rw [← r.length, rp.length]; exact F.len _ _ _ hsp
  have hb' : BindsTo s fd ⟨us, []⟩ (ps.zip us) := by have z := hb s us KX (by simpa using hl); rw [List.append_nil] at z; exact z
  exact F.run A outer s H ⟨us, []⟩ us vs Q hr hgd e0 hb' r ⟨ds, S, P', rp, sr, hsp, fin⟩
end
end DL
set_option Elab.async false
set_option linter.all false
set_option maxRecDepth 100000
set_option maxHeartbeats 1000000
namespace DL
open PySem PySem.Spec PyProof.Rows L2 NdefX LamX

/-! ### a running frame's cells, frozen for a call -/
def hfz (H : Hp) (as : List Addr) (g : Addr → Obj × V) : Hp := fun b => if b ∈ as then some (.frz (g b).1 (CellO b (g b).2)) else H b
theorem hfz_in {H : Hp} {as : List Addr} {g : Addr → Obj × V} {b : Addr} (h : b ∈ as) : hfz H as g b = some (.frz (g b).1 (CellO b (g b).2)) := if_pos h
theorem hfz_out {H : Hp} {as : List Addr} {g : Addr → Obj × V} {b : Addr} (h : b ∉ as) : hfz H as g b = H b := if_neg h
/-- the store with these cells -/
def scells (S : Sto) (cs : List (Addr × D)) : Sto := fun b => match cs.lookup b with
  | some d => some (.cell d)
  | none => S b
theorem scells_in {S : Sto} {cs : List (Addr × D)} {b : Addr} {d : D} (h : cs.lookup b = some d) : scells S cs b = some (.cell d) := by unfold scells; rw [h]
theorem scells_out {S : Sto} {cs : List (Addr × D)} {b : Addr} (h : cs.lookup b = none) : scells S cs b = S b := by unfold scells; rw [h]
theorem look_zip {as : List Addr} {b : Addr} : ∀ {wd : List D} {d : D}, (as.zip wd).lookup b = some d → ∃ i : Nat, as[i]? = some b ∧ wd[i]? = some d := by
  induction as with
  | nil => intro wd d h; cases h
  | cons a r ih =>
    intro wd d h
    cases wd with
    | nil => cases h
    | cons x q =>
      rw [List.zip_cons_cons, List.lookup_cons] at h
      cases e : (b == a) with
      | true => rw [e] at h; cases h; exact ⟨0, by rw [beq_iff_eq.mp e]; rfl, rfl⟩
      | false => rw [e] at h; obtain ⟨i, h1, h2⟩ := ih h; exact ⟨i + 1, by simpa using h1, by simpa using h2⟩
theorem look_zip_none {as : List Addr} {b : Addr} (h : b ∉ as) {wd : List D} : (as.zip wd).lookup b = none := by
  cases e : (as.zip wd).lookup b with
  | none => rfl
  | some d => obtain ⟨i, h1, _⟩ := look_zip e; exact absurd (List.mem_of_getElem? h1) h
theorem zip_at {as : List Addr} : ∀ {wd : List D} {i : Nat} {c : Addr} {d : D}, as.Nodup → as[i]? = some c → wd[i]? = some d → (as.zip wd).lookup c = some d := by
  induction as with
  | nil => intro wd i c d _ h; simp at h
  | cons a r ih =>
    intro wd i c d nd h1 h2
    cases wd with
    | nil => simp at h2
    | cons x q =>
      rw [List.zip_cons_cons, List.lookup_cons]
      cases i with
      | zero => simp at h1 h2; subst h1; subst h2; rw [beq_self_eq_true]
      | succ i =>
        have h1 : r[i]? = some c := by simpa using h1
        have hne : (c == a) = false := by
          apply beq_eq_false_iff_ne.mpr
          rintro rfl
          exact (List.nodup_cons.mp nd).1 (List.mem_of_getElem? h1)
        rw [hne]
        exact ih (List.nodup_cons.mp nd).2 h1 (by simpa using h2)
section
variable {X : Cx} {pins : List (Addr × Obj)} {σ : L2.St} {H : Hp} {s : Shared} {as : List Addr} {g : Addr → Obj × V}
/-- these are cells of the running frame, as they stand -/
structure Fz (X : Cx) (H : Hp) (s : Shared) (as : List Addr) (g : Addr → Obj × V) : Prop where
  free : ∀ c ∈ as, H c = none
  ob : ∀ c ∈ as, s.heap.get? c = some (g c).1
  cell : ∀ c ∈ as, ∃ u, RelV (g c).2 u ∧ s.heap.IsCell c (some u)
  nst : ∀ c ∈ as, c ∉ frs X.stack
  nbs : ∀ c ∈ as, X.base.get? c = none
theorem Fz.ext (F : Fz X H s as g) : Ext H (hfz H as g) :=
  have n : ∀ b u, H b = some u → b ∉ as := fun b u e hb => by rw [F.free b hb] at e; cases e
  ⟨fun a xs e => by rw [hfz_out (n a _ e)]; exact e, fun a o u e => by rw [hfz_out (n a _ e)]; exact e, fun a o e => by rw [hfz_out (n a _ e)]; exact e,
   fun k a q => q.stay (fun b ps e => by rw [hfz_out (n b _ e)]; exact e) fun b φ e => by rw [hfz_out (n b _ e)]; exact e⟩
theorem Fz.hok {P : Program} {w : World} (F : Fz X H s as g) (ok : HOk P w H s.heap) : HOk P w (hfz H as g) s.heap := fun a o e => by
  have n : ∀ b u, H b = some u → b ∉ as := fun b u e hb => by rw [F.free b hb] at e; cases e
  by_cases ha : a ∈ as
  · rw [hfz_in ha] at e
    cases e
    obtain ⟨u, r, z⟩ := F.cell a ha
    refine ⟨F.ob a ha, ⟨u, r, z⟩, ⟨_, F.ob a ha⟩, fun h1 h2 ⟨u1, r1, ⟨o1, z1, z2⟩⟩ st => ⟨u1, r1, ⟨o1, st _ z1, z2⟩⟩⟩
  · rw [hfz_out ha] at e
    exact ObjOk.grow (ok a o e) (fun b x q => by rw [hfz_out (n b _ q)]; exact q) (fun b x q => by rw [hfz_out (n b _ q)]; exact q)
theorem Fz.env0 (F : Fz X H s as g) (I : L2.Inv X pins σ H s) : Env0 X.prog X.w X.K X.mg X.base X.A X.stack s (hfz H as g) := by
  have e0 := I.env0
  refine ⟨e0.frames, e0.mod, fun b o e => ⟨(e0.bs b o e).1, ?_⟩, e0.bsz, e0.funs, fun b hb => ?_, F.hok e0.hok, e0.bare⟩
  · rw [hfz_out (fun hb => by rw [F.nbs b hb] at e; cases e)]; exact (e0.bs b o e).2
  · rw [hfz_out (fun ha => F.nst b ha hb)]; exact e0.frf b hb
theorem Fz.after {Q Q' : VK} {u : Value} {s' : Shared} (F : Fz X H s as g) (h : CE X.stack X.prog X.w (hfz H as g) s Q' u s') (hq : ∀ v H1, Q' v H1 → AllCells H1 as → Q v (hdel H1 as)) : CE X.stack X.prog X.w H s Q u s' := by
  obtain ⟨v, H1, os, bare, un, hok, rv, q⟩ := h
  have n : ∀ b u, H b = some u → b ∉ as := fun b u e hb => by rw [F.free b hb] at e; cases e
  have kept : ∀ b ∈ as, H1 b = some (.frz (g b).1 (CellO b (g b).2)) := fun b hb => un.frzs b _ _ (hfz_in hb)
  have ac : AllCells H1 as := fun c hc => ⟨_, _, kept c hc⟩
  have obj : ∀ b ∈ as, s'.heap.get? b = some (g b).1 := fun b hb => (hok b _ (kept b hb)).1
  refine ⟨v, hdel H1 as, os, bare, ⟨fun b o e m hb hx => ?_, fun b o e m hb hx => ?_, fun b o e m hx => ?_, un.there, fun b xs e => ?_, fun b o x e => ?_, fun b ps e => ?_⟩, hok_del hok ac, rv, hq v H1 q ac⟩
  · by_cases ha : b ∈ as
    · rw [F.ob b ha] at e; cases e; exact obj b ha
    · exact un.keep b o e (by rw [hfz_out ha]; exact m) hb hx
  · by_cases ha : b ∈ as
    · exact absurd hb (F.nst b ha)
    · exact un.slot b o e (by rw [hfz_out ha]; exact m) hb hx
  · by_cases ha : b ∈ as
    · exact hdel_in ha
    · rw [hdel_out ha]; exact un.free b o e (by rw [hfz_out ha]; exact m) hx
  · rw [hdel_out (n b _ e)]; exact un.tups b xs (by rw [hfz_out (n b _ e)]; exact e)
  · rw [hdel_out (n b _ e)]; exact un.frzs b o x (by rw [hfz_out (n b _ e)]; exact e)
  · obtain ⟨m, z⟩ := un.tbls b ps (by rw [hfz_out (n b _ e)]; exact e)
    exact ⟨m, by rw [hdel_out (n b _ e)]; exact z⟩
theorem Fz.ext_back (F : Fz X H s as g) {H1 : Hp} (e : Ext (hfz H as g) H1) : Ext H (hdel H1 as) :=
  have n : ∀ b u, H b = some u → b ∉ as := fun b u e hb => by rw [F.free b hb] at e; cases e
  ⟨fun a xs q => by rw [hdel_out (n a _ q)]; exact e.t a xs (by rw [hfz_out (n a _ q)]; exact q), fun a o u q => by rw [hdel_out (n a _ q)]; exact e.f a o u (by rw [hfz_out (n a _ q)]; exact q), fun a φ q => by rw [hdel_out (n a _ q)]; exact e.x a φ (by rw [hfz_out (n a _ q)]; exact q),
   fun k a q => (show AllCells H1 as from fun c hc => ⟨_, _, e.f _ _ _ (hfz_in hc)⟩).lessC.n k a (e.n k a (F.ext.n k a q))⟩
/-- these names' cells are the frame's own, or no caller's frame and nothing of the module's -/
def CapOk (X : Cx) (fr : List Str) : Prop := ∀ y ∈ fr, ∀ c, X.env.cells.lookup y = some c → X.fn y = true ∨ (c ∉ frs X.stack ∧ X.base.get? c = none)
theorem capOk_fn {X : Cx} {fr : List Str} (h : ∀ y ∈ fr, X.fn y = true) : CapOk X fr := fun y hy _ _ => .inl (h y hy)
theorem capOk_G {P : Program} {w : World} {K : PySem.W.Frag} {mg : Str → Option Value} {base : Heap} {N ps fr fr' : List Str} {F : FF} {f : Addr} {A : Around} {outer : List Env} {s : Shared} {H : Hp} {E : XK} (Sc : GScope N ps fr F.scope)
    (FC : FreeC F.cl fr base outer s.heap.objs.size) (h : (fr'.all fun y => ownN F.scope y || decide (y ∈ fr)) = true) : CapOk (gcx P w K mg base N F f A outer s H E).nox fr' := fun y hy c hc => by
  have q := List.all_eq_true.mp h y hy
  rw [Bool.or_eq_true, decide_eq_true_eq] at q
  rcases q with q | q
  · exact .inl q
  · refine .inr ?_
    rcases lookG_cases (show (cellsFrom (s.heap.objs.size + 1) F.scope.names F.cl).lookup y = some c from hc) with z | z
    · exact absurd q (Sc.own _ (cellsFrom_kind z) rfl)
    · obtain ⟨h1, h2, h3⟩ := FC y q c z
      refine ⟨fun hm => ?_, h2⟩
      have hm : c ∈ frs (envG F f s.heap.objs.size :: outer) := hm
      unfold frs at hm
      rw [List.filterMap_cons] at hm
      rcases List.mem_cons.mp hm with e | e
      · rw [e] at h3; exact Nat.lt_irrefl _ h3
      · exact h1 e
end
/-- the cells that a function captured, in order -/
structure CellsIn (cl : List (Str × Addr)) (fr : List Str) (as : List Addr) : Prop where
  len : as.length = fr.length
  at_ : ∀ (i : Nat) (y : Str), fr[i]? = some y → ∃ c, cl.lookup y = some c ∧ as[i]? = some c
  nd : as.Nodup
theorem CellsIn.mem {cl : List (Str × Addr)} {fr : List Str} {as : List Addr} (h : CellsIn cl fr as) {c : Addr} : c ∈ as ↔ c ∈ cellsOf cl fr := by
  rw [mem_cellsOf]
  constructor
  · intro hc
    obtain ⟨i, hi⟩ := List.mem_iff_getElem?.mp hc
    have hl : i < fr.length := by rw [← h.len]; exact (List.getElem?_eq_some_iff.mp hi).1
    obtain ⟨c', e1, e2⟩ := h.at_ i _ (List.getElem?_eq_getElem hl)
    rw [hi] at e2; cases e2
    exact ⟨_, List.getElem_mem hl, e1⟩
  · intro ⟨y, hy, e⟩
    obtain ⟨i, hi⟩ := List.mem_iff_getElem?.mp hy
    obtain ⟨c', e1, e2⟩ := h.at_ i _ hi
    rw [e] at e1; cases e1
    exact List.mem_of_getElem? e2
theorem cellsIn_of {cl : List (Str × Addr)} (inj : ∀ x y c, cl.lookup x = some c → cl.lookup y = some c → x = y) : ∀ {fr : List Str}, fr.Nodup → (∀ y ∈ fr, ∃ c, cl.lookup y = some c) → CellsIn cl fr (cellsOf cl fr)
  | [], _, _ => ⟨rfl, fun i y e => by simp at e, List.nodup_nil⟩
  | x :: r, nd, h => by
    obtain ⟨c, hc⟩ := h x (by simp)
    have ih := cellsIn_of inj (fr := r) (List.nodup_cons.mp nd).2 fun y hy => h y (by simp [hy])
    have e : cellsOf cl (x :: r) = c :: cellsOf cl r := by unfold cellsOf; rw [List.filterMap_cons, hc]
    rw [e]
    refine ⟨by simp [ih.len], fun i y q => ?_, List.nodup_cons.mpr ⟨fun hm => ?_, ih.nd⟩⟩
    · cases i with
      | zero => simp at q; subst q; exact ⟨c, hc, rfl⟩
      | succ i => obtain ⟨c1, z1, z2⟩ := ih.at_ i y (by simpa using q); exact ⟨c1, z1, by simpa using z2⟩
    · obtain ⟨y, hy, q⟩ := mem_cellsOf.mp hm
      have := inj x y c hc q
      subst this
      exact (List.nodup_cons.mp nd).1 hy
/-- f(..) of a def of the top, to which a function is handed that was made here -/
def dCallFz (cl : List (Str × Addr)) (fr : List Str) (js : List Nat) (sp : DSp) (t : DA) : DE := fun δ S P => t δ S fun ds S1 => ∃ wd : List D, js.map (slot δ) = wd.map some ∧ ∀ as, CellsIn cl fr as → (∀ c ∈ as, S1 c = none) → sp ds (scells S1 (as.zip wd)) fun d S2 => P d (sdels S2 as)
section
variable {X : Cx} {cl : List (Str × Addr)} {fr : List Str} {js : List Nat} {k : Nat} {ps : List Str} {sp : DSp} {x : Str} {p pos : Pos} {e : Expr} {es : List Expr} {t : DA}
theorem fz_of {pins : List (Addr × Obj)} {σ : L2.St} {H : Hp} {s : Shared} {δ : DSt} {wd : List D} (I : L2.Inv X pins σ H s) (cp : Caps X cl fr js) (hfn : CapOk X fr) (nd : fr.Nodup) (rs : RS X.K H σ δ) (hw : js.map (slot δ) = wd.map some) :
    CellsIn cl fr (cellsOf cl fr) ∧ ∃ g, Fz X H s (cellsOf cl fr) g ∧ ∀ c d, ((cellsOf cl fr).zip wd).lookup c = some d → Rp X.K H d (g c).2 := by
  have CA := cells_of I cp
  have CI : CellsIn cl fr (cellsOf cl fr) := cellsIn_of CA.inj nd fun y hy => by
    obtain ⟨i, hi⟩ := List.mem_iff_getElem?.mp hy
    obtain ⟨c, h1, _⟩ := CA.has i y hi
    exact ⟨c, h1⟩
  have lj : js.length = wd.length := by have := congrArg List.length hw; simpa using this
  have lf : js.length = fr.length := by have := congrArg List.length cp.at_; simpa using this
  have each : ∀ c : Addr, ∃ q : Obj × V, c ∈ cellsOf cl fr → s.heap.get? c = some q.1 ∧ (∃ u, RelV q.2 u ∧ s.heap.IsCell c (some u)) ∧ ∀ d, ((cellsOf cl fr).zip wd).lookup c = some d → Rp X.K H d q.2 := fun c => by
    by_cases hc : c ∈ cellsOf cl fr
    · obtain ⟨i, hi⟩ := List.mem_iff_getElem?.mp hc
      have il : i < fr.length := by rw [← CI.len]; exact (List.getElem?_eq_some_iff.mp hi).1
      obtain ⟨c', h1, h2⟩ := CA.has i _ (List.getElem?_eq_getElem il)
      obtain ⟨c2, h3, h4⟩ := CI.at_ i _ (List.getElem?_eq_getElem il)
      rw [hi] at h4; cases h4
      rw [h1] at h3; cases h3
      have iw : i < wd.length := by omega
      have ij : i < js.length := by omega
      have e1 : slot δ js[i] = some wd[i] := by
        have := congrArg (fun l => l[i]?) hw
        simp only [List.getElem?_map, List.getElem?_eq_getElem ij, List.getElem?_eq_getElem iw, Option.map_some] at this
        exact Option.some.inj this
      obtain ⟨v, z1, z2⟩ := rs.2 _ _ (slot_get e1)
      obtain ⟨u, z3, ob, z4, z5⟩ := h2 v (by rw [List.getElem?_map, List.getElem?_eq_getElem ij]; exact congrArg some (slotAt_of z1))
      refine ⟨(ob, v), fun _ => ⟨z4, ⟨u, z3, ob, z4, z5⟩, fun d hd => ?_⟩⟩
      rw [zip_at CI.nd hi (List.getElem?_eq_getElem iw)] at hd
      cases hd
      exact z2
    · exact ⟨(⟨.none, none, .plain, #[]⟩, .non), fun h => absurd h hc⟩
  let g : Addr → Obj × V := fun c => Classical.choose (each c)
  have hg := fun c => Classical.choose_spec (each c)
  refine ⟨CI, g, ⟨fun c hc => ?_, fun c hc => (hg c hc).1, fun c hc => (hg c hc).2.1, fun c hc hs => ?_, fun c hc => ?_⟩, fun c d hd => (hg c ?_).2.2 d hd⟩
  · obtain ⟨y, hy, e⟩ := mem_cellsOf.mp hc
    exact (CA.all y c e).1
  · obtain ⟨y, hy, e⟩ := mem_cellsOf.mp hc
    have ex := cp.sub y c e
    rcases hfn y hy c ex with hf | hf
    · have lo := I.ok.cab y c hf ex
      rcases List.mem_cons.mp (I.stkSub c hs) with z | z
      · exact I.cne y c ex z
      · obtain ⟨_, o, ho, _⟩ := I.ok.funs.mem z
        exact absurd (Nat.lt_of_lt_of_le (Heap.lt_size ho) lo) (Nat.lt_irrefl _)
    · exact hf.1 hs
  · obtain ⟨y, hy, e⟩ := mem_cellsOf.mp hc
    have ex := cp.sub y c e
    rcases hfn y hy c ex with hf | hf
    · have lo := I.ok.cab y c hf ex
      cases q : X.base.get? c with
      | none => rfl
      | some o => exact absurd (Nat.lt_of_lt_of_le (Heap.lt_size (I.ok.bs c o q).1) lo) (Nat.lt_irrefl _)
    · exact hf.2
  · obtain ⟨i, h1, _⟩ := look_zip hd
    exact List.mem_of_getElem? h1
theorem q_callFz (cp : X.Ok → Caps X cl fr js) (hfn : CapOk X fr) (nd : fr.Nodup) (G : Has X.prog X.w X.K X.mg X.base k x ps sp) (hr : Room k X.A) (hgd : X.A.guards = some []) (ha : QA X (e :: es) t) (hg : Gl X x := by rfl) (hdb : (x == ("__debug__" : Str)) = false := by decide)
    (he : starEach (e :: es) X.env = (false, eval e X.env) :: starEach es X.env := by rfl) (hpl : (backTo pos (starEach es X.env)).any (·.1) = false := by rfl) : QE X (.Call (.Name x p) (e :: es) [] pos) (dCallFz cl fr js sp t) := by
  obtain ⟨f, fd, F, hb, hk, hm⟩ := G
  refine ⟨fun pins s σ H Q I ⟨δ, S, P, rs, sr, h, fin⟩ => wpAny_Call_Name_kw (ld_glob I hg hm ?_ hdb)⟩
  refine PySem.W.callWith_K (h₀ := X.base) I.ok.mod.kin hk ?_ he hpl
  refine thn (ha.run pos pins s σ H (fun vs H1 => ∃ ds S1, RpA X.K H1 ds vs ∧ SR X.K H1 S1 ∧ RS X.K H1 σ δ ∧ (∃ wd : List D, js.map (slot δ) = wd.map some ∧ ∀ as, CellsIn cl fr as → (∀ c ∈ as, S1 c = none) → sp ds (scells S1 (as.zip wd)) fun d S2 => P d (sdels S2 as)) ∧ Fin X.K H1 P Q) I
    ⟨δ, S, _, rs, sr, h, fun ds S1 vs H1 h1 r1 s1 e1 => ⟨ds, S1, r1, s1, rs.ext e1, h1, fin.ext e1⟩⟩) fun us s1 ⟨vs, H1, I1, r, ds, S1, r1, s2, rs1, ⟨wd, hw, q⟩, fin1⟩ => ⟨I1.kIn, ?_⟩
  obtain ⟨CI, g, FZ, hg2⟩ := fz_of I1 (cp I1.ok) hfn nd rs1 hw
  have hsp := q _ CI fun c hc => s2.none (FZ.free c hc)
  have ex := FZ.ext
  have sr2 : SR X.K (hfz H1 (cellsOf cl fr) g) (scells S1 ((cellsOf cl fr).zip wd)) := fun b o e => by
    cases hl : ((cellsOf cl fr).zip wd).lookup b with
    | some d =>
      rw [scells_in hl] at e
      cases e
      obtain ⟨i, h1, _⟩ := look_zip hl
      exact ⟨_, _, hfz_in (List.mem_of_getElem? h1), (hg2 b d hl).ext ex⟩
    | none =>
      rw [scells_out hl] at e
      refine (s2 b o e).keep ex (hfz_out fun hb => ?_)
      obtain ⟨u, z⟩ := (s2 b o e).some
      rw [FZ.free b hb] at z; cases z
  have hl : us.length = ps.length := by rw [← r.length, r1.length]; exact F.len _ _ _ hsp
  have hb' : BindsTo s1 fd ⟨us, []⟩ (ps.zip us) := by have z := hb s1 us I1.kIn (by simpa using hl); rw [List.append_nil] at z; exact z
  refine wpAny_call (codeAny_mono (F.run X.A X.stack s1 (hfz H1 (cellsOf cl fr) g) ⟨us, []⟩ us vs (fun v H2 => ∃ d S2, P d (sdels S2 (cellsOf cl fr)) ∧ Rp X.K H2 d v ∧ SR X.K H2 S2 ∧ Ext (hfz H1 (cellsOf cl fr) g) H2) hr hgd (FZ.env0 I1) hb' r
    ⟨ds, _, _, r1.ext ex, sr2, hsp, fun d S2 v H2 p r2 sr3 x => ⟨d, S2, p, r2, sr3, x⟩⟩) fun r' s' hq => ?_)
  cases r' with
  | error e => exact False.elim hq
  | ok fl => cases fl with
    | ret u => exact I1.after (FZ.after hq fun v H2 ⟨d, S2, p, r2, sr3, x⟩ ac => fin1 d _ v _ p (r2.lessC ac.lessC) (sr3.lessC ac) (FZ.ext_back x))
    | _ => exact False.elim hq
end
end DL
set_option Elab.async false
set_option linter.all false
set_option maxRecDepth 100000
set_option maxHeartbeats 1000000
/-! DE5: functions made within any def, their code objects with the tables that these have. -/
namespace DL
open PySem PySem.Spec PyProof.Rows L2 NdefX LamX

section
variable {M : Model} {A : Around} {E : Value → Shared → Prop} {s : Shared} {F0 : FF} {env : Env} {c P : Addr} {ps : Array Value} {pos : Pos} {line : Nat} {mg : Str → Option Value} {Q : Value → Shared → Prop}
  {name qual : Str} {params : Arguments} {fb : FuncBody} {scope : Scope} {clos : List (Str × Addr)}
abbrev madeO (F : FF) (doc pm ctv : Value) : Obj := { cls := .type "function", data := .func (F.fd doc pm ctv) }
theorem mk_tail (hcl : closureFor scope env = pure clos) (hge : env.globals = mainGlobals) (hg : s.heap.Ns mainGlobals mg) (hcode : env.code = .ref c) (C : PySem.W.CodeHd s.heap c P)
    (hP : s.heap.get? P = some (PySem.W.tabObj ps)) (ht : TriplesOk ps.toList) (hnf : codeAmong pos ps.toList = none) (hgP : mainGlobals ≠ P) (hb : s.heap.BuiltinsAt mg P)
    (h : ∀ c1 P1 ctv doc pm h' tk, Heap.ExtBut P s.heap h' → s.heap.objs.size ≤ c1 → s.heap.objs.size ≤ P1 → c1 < h'.objs.size → P1 < h'.objs.size → h'.CodeRec (.ref c1) qual → PySem.W.CodeHd h' c1 P1 → h'.get? P1 = some (PySem.W.tabObj #[]) →
      h'.get? P = some (PySem.W.tabObj (ps ++ #[rawInt pos.line, rawInt pos.col, .ref c1])) →
      Q (.ref h'.objs.size) { s with heap := h'.push (madeO ⟨name, qual, params, fb, scope, clos, c1⟩ doc pm ctv), toks := tk }) :
    wpAny M A (makeTail name qual params fb scope env .none .none none pos line) Q E s := by
  obtain ⟨bm, ob, b1, b2, _, b4, b5, b6, b7, b8⟩ := hb
  unfold makeTail
  rw [hcl, hge]
  refine wpAny_bind (wpAny_pure ?_)
  cases clos with
  | nil =>
    simp only [List.isEmpty_nil, if_true]
    refine wpAny_bind (wpAny_pure ?_)
    refine wpAny_bind (wpAny_functionCodeX hcode (C.code hP ht) (C.tab hP) hnf fun c1 h' tk x le lt _ rec tab ⟨P1, le1, ic, it⟩ => ?_)
    have hg2 := hg.extBut x hgP
    refine wpAny_bind (wpAny_builtinsFor hg2 b1 b2 (x _ _ b4 b5) b6 b7 b8 ?_)
    refine wpAny_bind (wpAny_nsGet hg2 ?_)
    have lt1 : P1 < h'.objs.size := Heap.lt_size it.2
    cases fb with
    | expr e => exact wpAny_bind (wpAny_pure (wpAny_newObj_type (h c1 P1 .none .none _ h' tk x le le1 lt lt1 rec (.of ic it) it.2 tab.2) (by size_fits)))
    | stmts body =>
      cases hdoc : docOf body with
      | none => simp only [hdoc]; exact wpAny_bind (wpAny_pure (wpAny_newObj_type (h c1 P1 .none .none _ h' tk x le le1 lt lt1 rec (.of ic it) it.2 tab.2) (by size_fits)))
      | some t => simp only [hdoc]; exact wpAny_bind (wpAny_mkText (wpAny_newObj_type (h c1 P1 .none _ _ h' _ x le le1 lt lt1 rec (.of ic it) it.2 tab.2) (by size_fits)))
  | cons q r =>
    simp only [List.isEmpty_cons, Bool.false_eq_true, if_false]
    refine wpAny_bind (wpAny_newTextTuple ?_)
    refine wpAny_bind (wpAny_functionCodeX hcode ((C.keeps fun b o e => Heap.get?_push_of_some _ e).code (Heap.get?_push_of_some _ hP) ht) ((C.keeps fun b o e => Heap.get?_push_of_some _ e).tab (Heap.get?_push_of_some _ hP)) hnf fun c1 h' tk x le lt _ rec tab ⟨P1, le1, ic, it⟩ => ?_)
    have hg2 := (hg.push _).extBut x hgP
    have x2 : Heap.ExtBut P s.heap h' := fun b o ne e => x b o ne (Heap.get?_push_of_some _ e)
    have le2 : s.heap.objs.size ≤ c1 := Nat.le_trans (by rw [Heap.size_push]; omega) le
    have le3 : s.heap.objs.size ≤ P1 := Nat.le_trans (by rw [Heap.size_push]; omega) le1
    refine wpAny_bind (wpAny_builtinsFor hg2 b1 b2 (x2 _ _ b4 b5) b6 b7 b8 ?_)
    refine wpAny_bind (wpAny_nsGet hg2 ?_)
    have lt1 : P1 < h'.objs.size := Heap.lt_size it.2
    cases fb with
    | expr e => exact wpAny_bind (wpAny_pure (wpAny_newObj_type (h c1 P1 _ .none _ h' tk x2 le2 le3 lt lt1 rec (.of ic it) it.2 tab.2) (by size_fits)))
    | stmts body =>
      cases hdoc : docOf body with
      | none => simp only [hdoc]; exact wpAny_bind (wpAny_pure (wpAny_newObj_type (h c1 P1 _ .none _ h' tk x2 le2 le3 lt lt1 rec (.of ic it) it.2 tab.2) (by size_fits)))
      | some t => simp only [hdoc]; exact wpAny_bind (wpAny_mkText (wpAny_newObj_type (h c1 P1 _ _ _ h' _ x2 le2 le3 lt lt1 rec (.of ic it) it.2 tab.2) (by size_fits)))
theorem mk_new (hcl : closureFor scope env = pure clos) (hge : env.globals = mainGlobals) (hg : s.heap.Ns mainGlobals mg) (hcode : env.code = .ref c) (C : PySem.W.CodeHd s.heap c P)
    (hP : s.heap.get? P = some (PySem.W.tabObj ps)) (ht : TriplesOk ps.toList) (hnf : codeAmong pos ps.toList = none) (hgP : mainGlobals ≠ P) (hb : s.heap.BuiltinsAt mg P)
    (h : ∀ c1 P1 ctv doc pm h' tk, Heap.ExtBut P s.heap h' → s.heap.objs.size ≤ c1 → s.heap.objs.size ≤ P1 → c1 < h'.objs.size → P1 < h'.objs.size → h'.CodeRec (.ref c1) qual → PySem.W.CodeHd h' c1 P1 → h'.get? P1 = some (PySem.W.tabObj #[]) →
      h'.get? P = some (PySem.W.tabObj (ps ++ #[rawInt pos.line, rawInt pos.col, .ref c1])) →
      Q (.ref h'.objs.size) { s with heap := h'.push (madeO ⟨name, qual, params, fb, scope, clos, c1⟩ doc pm ctv), toks := tk }) :
    wpAny M A (makeFunction name qual params fb scope env [] [] [] pos line) Q E s := by
  rw [makeFunction_eq]
  simp only [List.zip_nil_right, List.filterMap_nil, List.isEmpty_nil, if_true, pure_bind]
  exact mk_tail hcl hge hg hcode C hP ht hnf hgP hb h
theorem mk_hit {c1 : Addr} (hcl : closureFor scope env = pure clos) (hge : env.globals = mainGlobals) (hg : s.heap.Ns mainGlobals mg) (hcode : env.code = .ref c) (C : PySem.W.CodeHd s.heap c P)
    (hP : s.heap.get? P = some (PySem.W.tabObj ps)) (ht : TriplesOk ps.toList) (hf : codeAmong pos ps.toList = some (.ref c1)) (hb : s.heap.BuiltinsAt mg P)
    (h : ∀ (ctv doc pm : Value) (h' : Heap) (tk : Tok), (∀ b o, s.heap.get? b = some o → h'.get? b = some o) → s.heap.objs.size ≤ h'.objs.size →
      Q (.ref h'.objs.size) { s with heap := h'.push (madeO ⟨name, qual, params, fb, scope, clos, c1⟩ doc pm ctv), toks := tk }) :
    wpAny M A (makeFunction name qual params fb scope env [] [] [] pos line) Q E s := by
  cases fb with
  | stmts body => exact PySem.W.makeFunction_hit hcl hge hg hcode C hP ht hf hb fun ctv doc h' tk k le => h ctv doc _ h' tk k le
  | expr e => exact PySem.W.kla_makeFunctionHit hcl hge hg hcode C hP ht hf hb fun ctv h' tk k le => h ctv .none _ h' tk k le
end

theorem TWn.grow {H H1 : Hp} {P P1 c1 : Addr} {ps : Array Value} {pos : Pos} (hP : H P = some (.tbl ps)) (h1 : H1 P = some (.tbl (ps ++ #[rawInt pos.line, rawInt pos.col, .ref c1]))) (old : ∀ b o, b ≠ P → H b = some o → H1 b = some o)
    (hc : H1 c1 = some (CodeX c1 P1 (nmG pos.line pos.col))) (hn : H1 P1 = some (.tbl #[])) : ∀ {k : Nat} {a : Addr}, TWn H k a → TWn H1 k a
  | 0, a, ⟨qs, h⟩ => by
    by_cases e : a = P
    · subst e; exact ⟨_, h1⟩
    · exact ⟨qs, old _ _ e h⟩
  | k + 1, a, ⟨qs, h, t, ks⟩ => by
    have ks' : ∀ (p : Pos) (cv : Value), codeAmong p qs.toList = some cv → ∃ c P2, cv = .ref c ∧ H1 c = some (CodeX c P2 (nmG p.line p.col)) ∧ TWn H1 k P2 := fun p cv hcv => by
      obtain ⟨c, P2, e1, e2, e3⟩ := ks p cv hcv
      exact ⟨c, P2, e1, old _ _ (fun z => by rw [z, hP] at e2; cases e2) e2, e3.grow hP h1 old hc hn⟩
    by_cases e : a = P
    · subst e
      rw [hP] at h; cases h
      have eL : (ps ++ #[rawInt pos.line, rawInt pos.col, .ref c1]).toList = ps.toList ++ [rawInt pos.line, rawInt pos.col, .ref c1] := by simp
      refine ⟨_, h1, by rw [eL]; exact PySem.TriplesOk_snoc _ _ _ _ t, fun p cv hcv => ?_⟩
      rw [eL] at hcv
      rcases among_app2 _ t hcv with z | ⟨z, z1, z2⟩
      · exact ks' p cv z
      · exact ⟨c1, P1, z, by rw [← z1, ← z2]; exact hc, TWn.nil hn k⟩
    · exact ⟨qs, old _ _ e h, t, ks'⟩
section
variable {X : Cx} {pins : List (Addr × Obj)} {σ : L2.St} {H : Hp} {s : Shared}
theorem inv_grow {P : Addr} {ps more : Array Value} {h' : Heap} {t' : Nat} {H1 : Hp} (I : L2.Inv X pins σ H s) (hP : H P = some (.tbl ps)) (k : ∀ b o, b ≠ P → s.heap.get? b = some o → h'.get? b = some o)
    (hm : h'.get? P = some { cls := .none, data := .fields (ps ++ more) }) (e1 : ∀ b, b ≠ P → b < s.heap.objs.size → H1 b = H b) (e2 : H1 P = some (.tbl (ps ++ more))) (e3 : ∀ b u, s.heap.objs.size ≤ b → H1 b = some u → ObjOk X.prog X.w H1 h' b u) :
    L2.Inv X pins σ H1 { s with heap := h', toks := t' } := by
  have lt : ∀ b u, H b = some u → b < s.heap.objs.size := fun b u e => Nat.lt_of_not_le fun z => by rw [I.hok.fresh z] at e; cases e
  have old : ∀ b u, b ≠ P → H b = some u → H1 b = some u := fun b u n e => by rw [e1 b n (lt b u e)]; exact e
  have nP : ∀ b u, H b = some u → (∀ q, u ≠ .tbl q) → b ≠ P := fun b u e q z => by rw [z, hP] at e; exact q ps (Option.some.inj e).symm
  have nN : ∀ b, H b = none → b ≠ P := fun b e z => by rw [z, hP] at e; cases e
  refine I.step (g' := s.gens) (d' := s.drawn) (ch := []) (fun b hb => absurd hb (by simp)) (fun b o _ _ _ e n => k b o (nN b n) e) (fun b o _ _ _ e n => ⟨o.slots, k b o (nN b n) e⟩)
    (fun b o _ e n => by rw [e1 b (nN b n) (Heap.lt_size e)]; exact n) (fun b o _ e => ?_) (fun b xs e => old b _ (nP b _ e (fun q z => by cases z)) e) (fun b o u e => old b _ (nP b _ e (fun q z => by cases z)) e) (fun b qs e => ?_) (fun m hn => ?_) (fun b u e => ?_) I.bare
  · by_cases hb : b = P
    · rw [hb]; exact ⟨_, hm⟩
    · exact ⟨o, k b o hb e⟩
  · by_cases hb : b = P
    · rw [hb, hP] at e; cases e
      rw [hb, e2]; exact ⟨more, rfl⟩
    · exact ⟨#[], by rw [old b _ hb e]; simp⟩
  · obtain ⟨ob, es, ep, ho, r⟩ := hn
    exact ⟨ob, es, ep, k _ ob (nN _ I.free) ho, r⟩
  · by_cases hs : s.heap.objs.size ≤ b
    · exact e3 b u hs e
    · by_cases hb : b = P
      · rw [hb, e2] at e; cases e
        rw [hb]; exact hm
      · rw [e1 b hb (Nat.lt_of_not_le hs)] at e
        refine (I.hok b u e).stay (fun d v hd q => k d v ?_ q) (fun d q => old d _ (nP d _ q (fun q z => by cases z)) q) fun d xs q => old d _ (nP d _ q (fun q z => by cases z)) q
        rcases hd with z | z
        · rw [z]; exact hb
        · exact nP d _ z (fun q z => by cases z)
theorem inv_fnG {F : FF} {o : Obj} {t' : Nat} {doc pm ctv : Value} (I : L2.Inv X pins σ H s) (ho : o = madeO F doc pm ctv) :
    L2.Inv X pins σ (upd H s.heap.objs.size (FnG s.heap.objs.size F)) { s with heap := s.heap.push o, toks := t' } := by
  subst ho
  refine I.laid (a := s.heap.objs.size) (fun b u e => Heap.get?_push_of_some _ e) (Nat.le_refl _) ?_
  have e : (s.heap.push (madeO F doc pm ctv)).get? s.heap.objs.size = some (madeO F doc pm ctv) := Heap.get?_push_size _ rfl
  exact ⟨⟨_, _, doc, pm, ctv, e⟩, ⟨_, e⟩, fun h1 h2 ⟨od, sl, d, p, t, z⟩ st => ⟨od, sl, d, p, t, st _ z⟩⟩
/-- a function is made -/
theorem make_G {c P : Addr} {name : Str} {params : Arguments} {fb : FuncBody} {scope : Scope} {pos : Pos} {line k : Nat} {E : Value → Shared → Prop} {Q : Value → Shared → Prop} (I : L2.Inv X pins σ H s) (hcode : X.env.code = .ref c) (C : PySem.W.CodeHd s.heap c P)
    (hb : s.heap.BuiltinsAt X.mg P) (gP : mainGlobals ≠ P) (hT : TWn H (k + 1) P) (hn : nmG pos.line pos.col = X.env.qual ++ name) (hfree : ∀ y ∈ scope.names, y.2 = .free → ∃ c, X.env.cells.lookup y.1 = some c)
    (h : ∀ (f c1 P1 : Addr) (H1 : Hp) (s' : Shared), L2.Inv X pins σ H1 s' → Ext H H1 → (∀ b o, b ≠ P → H b = some o → H1 b = some o) → H f = none → H1 f = some (FnG f ⟨name, X.env.qual ++ name, params, fb, scope, cloFrom X.env.cells scope.names [], c1⟩) →
      H1 c1 = some (CodeX c1 P1 (X.env.qual ++ name)) → TWn H1 k P1 → Q (.ref f) s') :
    wpAny (model X.prog X.w) X.A (makeFunction name (X.env.qual ++ name) params fb scope X.env [] [] [] pos line) Q E s := by
  obtain ⟨ps, hP, ht, ha⟩ := id hT
  have g0 : s.heap.get? P = some { cls := .none, data := .fields ps } := I.hok P _ hP
  have hg := I.mod.glob.keeps I.bk
  cases hc : codeAmong pos ps.toList with
  | some cv =>
    obtain ⟨c1, P1, rfl, hco, ht1⟩ := ha pos cv hc
    rw [hn] at hco
    refine mk_hit (mg := X.mg) (c := c) (P := P) (ps := ps) (closure_ok hfree) I.ok.glob hg hcode C g0 ht hc hb fun ctv doc pm h1 tk hx hsz => ?_
    have J : L2.Inv X pins σ H { s with heap := h1, toks := tk } := I.kept hx
    have fr : H h1.objs.size = none := J.hok.fresh (Nat.le_refl _)
    have J2 := inv_fnG (F := ⟨name, X.env.qual ++ name, params, fb, scope, cloFrom X.env.cells scope.names [], c1⟩) (t' := tk) (doc := doc) (pm := pm) (ctv := ctv) J rfl
    have keep : ∀ b o, H b = some o → upd H h1.objs.size (FnG h1.objs.size ⟨name, X.env.qual ++ name, params, fb, scope, cloFrom X.env.cells scope.names [], c1⟩) b = some o := fun b o e => by rw [upd_ne (ne_of_none e fr)]; exact e
    exact h _ c1 P1 _ _ J2 (.new fr) (fun b o _ e => keep b o e) fr upd_same (keep _ _ hco) (ht1.stay (fun a ps e => keep _ _ e) fun a φ e => keep _ _ e)
  | none =>
    refine mk_new (mg := X.mg) (c := c) (P := P) (ps := ps) (closure_ok hfree) I.ok.glob hg hcode C g0 ht hc gP hb fun c1 P1 ctv doc pm h1 tk hx hc1 hP1 lc lP hrec hcd htn htb => ?_
    have nPs : P < s.heap.objs.size := Heap.lt_size g0
    have lt : ∀ b u, H b = some u → b < s.heap.objs.size := fun b u e => Nat.lt_of_not_le fun z => by rw [I.hok.fresh z] at e; cases e
    have cP : c1 ≠ P1 := by
      obtain ⟨o, vs, file, tf, flags, tg, inF, text, tt, _, _, _, _, _, _, _, _, _, z⟩ := hcd
      exact z
    -- the new heap's description
    generalize hH1 : (upd (upd (upd H P (.tbl (ps ++ #[rawInt pos.line, rawInt pos.col, .ref c1]))) P1 (.tbl #[])) c1 (CodeX c1 P1 (X.env.qual ++ name)) : Hp) = H1
    have a1 : H1 c1 = some (CodeX c1 P1 (X.env.qual ++ name)) := by rw [← hH1, upd_same]
    have a2 : H1 P1 = some (.tbl #[]) := by rw [← hH1, upd_ne cP.symm, upd_same]
    have a3 : H1 P = some (.tbl (ps ++ #[rawInt pos.line, rawInt pos.col, .ref c1])) := by rw [← hH1, upd_ne (Nat.ne_of_lt (Nat.lt_of_lt_of_le nPs hc1)), upd_ne (Nat.ne_of_lt (Nat.lt_of_lt_of_le nPs hP1)), upd_same]
    have a4 : ∀ b, b ≠ P → b < s.heap.objs.size → H1 b = H b := fun b n l => by rw [← hH1, upd_ne (Nat.ne_of_lt (Nat.lt_of_lt_of_le l hc1)), upd_ne (Nat.ne_of_lt (Nat.lt_of_lt_of_le l hP1)), upd_ne n]
    have old : ∀ b o, b ≠ P → H b = some o → H1 b = some o := fun b o n e => by rw [a4 b n (lt b o e)]; exact e
    obtain ⟨c2, oc, vs, t, q1, q2, q3, q4⟩ := hrec
    cases q1
    have J : L2.Inv X pins σ H1 { s with heap := h1, toks := tk } := inv_grow I hP (fun b o n e => hx b o n e) htb a4 a3 fun b u hs e => by
      by_cases e1 : b = c1
      · subst e1
        rw [a1] at e; cases e
        exact ⟨⟨hcd, oc, vs, t, q2, q3, q4⟩, ⟨oc, q2⟩, fun h1 h2 ⟨z, oc, vs, t, y1, y2, y3⟩ st => ⟨by
          obtain ⟨o, vs, file, tf, flags, tg, inF, text, tt, w1, w2⟩ := z
          exact ⟨o, vs, file, tf, flags, tg, inF, text, tt, st _ w1, w2⟩, oc, vs, t, st _ y1, y2, y3⟩⟩
      · by_cases e2 : b = P1
        · subst e2
          rw [a2] at e; cases e
          exact htn
        · exact absurd e (by rw [← hH1, upd_ne e1, upd_ne e2, upd_ne (Nat.ne_of_gt (Nat.lt_of_lt_of_le nPs hs)), I.hok.fresh hs]; exact nofun)
    have fr : H1 h1.objs.size = none := J.hok.fresh (Nat.le_refl _)
    have J2 := inv_fnG (F := ⟨name, X.env.qual ++ name, params, fb, scope, cloFrom X.env.cells scope.names [], c1⟩) (t' := tk) (doc := doc) (pm := pm) (ctv := ctv) J rfl
    have x1 : Ext H H1 := ⟨fun a xs e => old a _ (fun z => by rw [z, hP] at e; cases e) e, fun a o u e => old a _ (fun z => by rw [z, hP] at e; cases e) e, fun a φ e => old a _ (fun z => by rw [z, hP] at e; cases e) e,
      fun j a q => q.grow hP a3 old (by rw [hn]; exact a1) a2⟩
    have frH : H h1.objs.size = none := I.hok.fresh (by omega)
    have keep : ∀ b o, H1 b = some o → upd H1 h1.objs.size (FnG h1.objs.size ⟨name, X.env.qual ++ name, params, fb, scope, cloFrom X.env.cells scope.names [], c1⟩) b = some o := fun b o e => by rw [upd_ne (ne_of_none e fr)]; exact e
    exact h _ c1 P1 _ _ J2 (x1.trans (.new fr)) (fun b o n e => keep b o (old b o n e)) frH upd_same (keep _ _ a1) (TWn.nil (keep _ _ a2) k)
end
/-- what a function captured are cells of unlike names, all among fr -/
structure CapI (cl : List (Str × Addr)) (fr : List Str) : Prop where
  all : ∀ y c, cl.lookup y = some c → y ∈ fr
  inj : ∀ x y c, cl.lookup x = some c → cl.lookup y = some c → x = y
theorem clo_sub {cells : List (Str × Addr)} {names : List (Str × NameKind)} {y : Str} {c : Addr} (e : (cloFrom cells names []).lookup y = some c) : (y, NameKind.free) ∈ names := by
  rcases cloFrom_mem (PySem.mem_of_lookup e) with hm | ⟨h1, _⟩
  · cases hm
  · exact h1
/-- the running frame's code object and its table, found by the store -/
def CodeIn (X : Cx) (S : Sto) (k : Nat) : Prop := ∃ c, X.env.code = .ref c ∧ ((∃ P, TabB X.base X.mg c P ∧ S P = some (.tab k)) ∨ ((∃ c0 P0, TabB X.base X.mg c0 P0) ∧ ∃ f F, S f = some (.fn F k) ∧ F.c = c))
section
variable {X : Cx} {pins : List (Addr × Obj)} {σ : L2.St} {H : Hp} {s : Shared} {S : Sto}
theorem codeIn_at {k : Nat} (I : L2.Inv X pins σ H s) (sr : SR X.K H S) (h : CodeIn X S k) : ∃ c P, X.env.code = .ref c ∧ PySem.W.CodeHd s.heap c P ∧ s.heap.BuiltinsAt X.mg P ∧ mainGlobals ≠ P ∧ TWn H k P := by
  obtain ⟨c, hc, ⟨P, TB, hS⟩ | ⟨⟨c0, P0, TB⟩, f, F, hS, rfl⟩⟩ := h
  · exact ⟨c, P, hc, TB.code.keeps I.bk, TB.bm.keeps I.bk, TB.gP, sr P _ hS⟩
  · obtain ⟨_, P, h2, h3⟩ := sr f _ hS
    obtain ⟨ps, hP⟩ := h3.at_
    obtain ⟨bm, ob, b1, b2, b3, _, b5, b6⟩ := TB.bm
    have nb : ∀ b o, X.base.get? b = some o → b ≠ P := fun b o e z => by
      have := (I.bs b o e).2
      rw [z, hP] at this; cases this
    obtain ⟨go, _, _, hgo, _⟩ := I.mod.glob
    exact ⟨F.c, P, hc, (code_at I.hok h2).1, ⟨bm, ob, b1, b2, b3, nb _ _ b5, I.bk _ _ b5, b6⟩, nb _ _ hgo, h3⟩
end
/-- def name(..) within a def: the slot i holds the new function -/
def dNdef (q : Sto → Prop) (k i : Nat) (fr : List Str) (mk : Addr → FF) : DS := fun E δ S => q S ∧ ∀ f c1, S f = none → CapI (mk c1).cl fr → E.nx (δ.set i (some (.ref f))) (sup S f (.fn (mk c1) k))
/-- lambda ..: a new function -/
def dLam (q : Sto → Prop) (k : Nat) (fr : List Str) (mk : Addr → FF) : DE := fun _ S P => q S ∧ ∀ f c1, S f = none → CapI (mk c1).cl fr → P (.ref f) (sup S f (.fn (mk c1) k))
section
variable {X : Cx}
theorem SR.made {K : PySem.W.Frag} {H H1 : Hp} {S : Sto} {P0 f c1 P1 : Addr} {F : FF} {k : Nat} {ps : Array Value} (sr : SR K H S) (x : Ext H H1) (hP : H P0 = some (.tbl ps)) (keep : ∀ b o, b ≠ P0 → H b = some o → H1 b = some o) (f1 : H1 f = some (FnG f F)) (e : F.c = c1) (c2 : H1 c1 = some (CodeX c1 P1 F.qual)) (t : TWn H1 k P1) : SR K H1 (sup S f (.fn F k)) := fun b o z => by
  by_cases hb : b = f
  · subst hb; rw [sup_same] at z; cases z; subst e; exact ⟨f1, P1, c2, t⟩
  · rw [sup_ne hb] at z
    have h := sr b o z
    by_cases hbP : b = P0
    · subst hbP
      cases o with
      | tab n => exact x.n _ _ h
      | lst ds => obtain ⟨vs, h1, _⟩ := h; rw [hP] at h1; cases h1
      | dic ds => obtain ⟨vs, h1, _⟩ := h; rw [hP] at h1; cases h1
      | fn F n => have h1 := h.1; rw [hP] at h1; cases h1
      | cell d => obtain ⟨o, v, h1, _⟩ := h; rw [hP] at h1; cases h1
      | gho u =>
        obtain ⟨h1, h2⟩ := h
        rw [hP] at h1; cases h1
        rcases h2 with ⟨_, z⟩ | ⟨_, _, z⟩ | ⟨_, z⟩ <;> cases z
    · obtain ⟨u, w⟩ := h.some
      exact h.keep x (by rw [w, keep b u hbP w])
def FF.ofDef (st : Stmt) (name qual : Str) (cl : List (Str × Addr)) (c : Addr) : FF := ⟨name, qual, C8.fnArgs st, .stmts (C8.fnBody st), C8.fnScope st, cl, c⟩
theorem s_ndefG {q : Sto → Prop} {k : Nat} {st : Stmt} {name : Str} {pos : Pos} {i : Nat} {fr : List Str} (hst : st = .FunctionDef name (C8.fnArgs st) (C8.fnBody st) [] none [] (C8.fnScope st) none name pos) (hq : ∀ S, q S → CodeIn X S (k + 1)) (hn : nmG pos.line pos.col = X.env.qual ++ name)
    (hfree : ∀ y ∈ (C8.fnScope st).names, y.2 = .free → X.env.scope.names.lookup y.1 = some .cell ∨ X.env.scope.names.lookup y.1 = some .free) (hfr : ∀ y ∈ (C8.fnScope st).names, y.2 = .free → y.1 ∈ fr) (hd0 : (C8.fnArgs st).defaults = []) (hk0 : (C8.fnArgs st).kw_defaults = [])
    (ha : annTrees (C8.fnArgs st) none X.env = []) (hN : X.N.Nodup) (hi : X.N[i]? = some name) (hx : Loc X.env.scope name) (hf : X.fn name = true ∨ X.env.scope.names.lookup name = some .local) :
    QS X st (dNdef q k i fr (FF.ofDef st name (X.env.qual ++ name) (cloFrom X.env.cells (C8.fnScope st).names []))) := by
  rw [hst]
  refine ⟨fun pins s σ H D I ⟨δ, S, E, rs, sr, ⟨hS, h⟩, fin⟩ => ?_⟩
  have hqn : qualnameIn X.env name name = X.env.qual ++ name := by
    have hk : X.env.kindOf name = some .local ∨ X.env.kindOf name = some .cell := hx
    unfold qualnameIn
    rcases hk with k | k
    · rw [k]; rfl
    · rw [k]; exact if_neg (by decide)
  refine PySem.W.nestDef_K hd0 hk0 ha ?_
  rw [hqn]
  have hfc : ∀ y ∈ (C8.fnScope st).names, y.2 = .free → ∃ c, X.env.cells.lookup y.1 = some c := fun y hy e => (hfree y hy e).elim (fun z => I.ok.has _ (.inl z)) fun z => I.ok.has _ (.inr z)
  obtain ⟨c, P, g1, g2, g3, g4, g5⟩ := codeIn_at I sr (hq S hS)
  obtain ⟨tps, hP⟩ := g5.at_
  refine make_G I g1 g2 g3 g4 g5 hn hfc fun f c1 P1 H1 s' I1 x keep f0 f1 c1' t1 => ?_
  have ci : CapI (cloFrom X.env.cells (C8.fnScope st).names []) fr := ⟨fun y c e => hfr _ (clo_sub e) rfl, fun a b c e1 e2 => I.ok.inj a b c (clo_cm hfc e1) (clo_cm hfc e2)⟩
  exact store_ok I1 hN hi hx (v := .ref f) rfl (fun s'' J => ⟨_, H1, J, fin.nx _ _ _ _ (h f c1 (sr.none f0) ci) ((rs.ext x).set rfl) (sr.made x hP keep f1 rfl c1' t1) x⟩) hf
def FF.ofLam (params : Arguments) (body : Expr) (scope : Scope) (qual : Str) (cl : List (Str × Addr)) (c : Addr) : FF := ⟨"<lambda>", qual, params, .expr body, scope, cl, c⟩
theorem q_lam {q : Sto → Prop} {k : Nat} {params : Arguments} {body : Expr} {scope : Scope} {pos : Pos} {fr : List Str} (hq : ∀ S, q S → CodeIn X S (k + 1)) (hn : nmG pos.line pos.col = X.env.qual ++ "<lambda>") (hdef : defaultsOf params X.env = ([], []))
    (hfree : ∀ y ∈ scope.names, y.2 = .free → X.env.scope.names.lookup y.1 = some .cell ∨ X.env.scope.names.lookup y.1 = some .free) (hfr : ∀ y ∈ scope.names, y.2 = .free → y.1 ∈ fr) :
    QE X (.Lambda params body scope pos) (dLam q k fr (FF.ofLam params body scope (X.env.qual ++ "<lambda>") (cloFrom X.env.cells scope.names []))) := by
  refine ⟨fun pins s σ H Q I ⟨δ, S, P, rs, sr, ⟨hS, h⟩, fin⟩ => ?_⟩
  refine PySem.W.kla_eval hdef ?_
  have hfc : ∀ y ∈ scope.names, y.2 = .free → ∃ c, X.env.cells.lookup y.1 = some c := fun y hy e => (hfree y hy e).elim (fun z => I.ok.has _ (.inl z)) fun z => I.ok.has _ (.inr z)
  obtain ⟨c, P, g1, g2, g3, g4, g5⟩ := codeIn_at I sr (hq S hS)
  obtain ⟨tps, hP⟩ := g5.at_
  refine make_G I g1 g2 g3 g4 g5 hn hfc fun f c1 P1 H1 s' I1 x keep f0 f1 c1' t1 => ?_
  have ci : CapI (cloFrom X.env.cells scope.names []) fr := ⟨fun y c e => hfr _ (clo_sub e) rfl, fun a b c e1 e2 => I.ok.inj a b c (clo_cm hfc e1) (clo_cm hfc e2)⟩
  exact ⟨.ref f, H1, I1, rfl, fin _ _ _ _ (h f c1 (sr.none f0) ci) rfl (sr.made x hP keep f1 rfl c1' t1) x⟩
end
end DL
set_option Elab.async false
set_option linter.all false
set_option maxRecDepth 100000
set_option maxHeartbeats 1000000
namespace DL
open PySem PySem.Spec PyProof.Rows L2 NdefX LamX

/-! ### the end of a law whose text makes functions -/
/-- code object, its table, how many levels deep it is known -/
abbrev TbL := List (Addr × Addr × Nat)
def tabS (T : TbL) : Sto := fun b => ((T.find? fun p => p.2.1 == b).map fun p => .tab p.2.2)
theorem tabS_some {T : TbL} {b : Addr} {o : SO} (h : tabS T b = some o) : ∃ p ∈ T, p.2.1 = b ∧ o = .tab p.2.2 := by
  unfold tabS at h
  cases e : T.find? (fun p => p.2.1 == b) with
  | none => rw [e] at h; cases h
  | some p =>
    rw [e] at h
    cases h
    exact ⟨p, List.mem_of_find?_eq_some e, by simpa using List.find?_some e, rfl⟩
theorem law_endT {P : Program} {w : World} {K : PySem.W.Frag} {mg mb : Str → Option Value} {k : Nat} {fa a : Addr} {fd : FuncData} {x : Str} {sp : DSp} {s1 : Shared} {vs : List Value} {ns : List Int} {T : TbL}
    (KX : K.In s1.heap) (hns : s1.heap.Ns mainGlobals mg) (hb : s1.heap.Ns builtinsNs mb) (hbb : ∀ x : Str, x ≠ "__name__" → mb x = bootBuiltins x) (hlim : s1.heap.NoLimit) (hg : s1.gens = #[])
    (hT : ∀ p ∈ T, s1.heap.get? p.2.1 = some { cls := .none, data := .fields #[] }) (nT : ∀ p ∈ T, K.lookup p.2.1 = none) (C : ∀ p ∈ T, PySem.W.CodeHd s1.heap p.1 p.2.1)
    (hbm : ∃ (bm : Addr) (ob : Obj), mg "__builtins__" = some (.ref bm) ∧ bm ≠ builtinsNs ∧ s1.heap.get? bm = some ob ∧ ob.cls = .type "module" ∧ ob.dict = some builtinsNs ∧ ob.data = .plain)
    (ha : s1.heap.get? a = some { cls := .type "list", data := .seq vs.toArray }) (hi : IntsAre vs ns) (hl : ns.length ≤ sizeLine) (hr : Room k callerA)
    (F : ∀ base : Heap, K.In base → base.Ns mainGlobals mg → (∀ p ∈ T, LamX.TabB base mg p.1 p.2.1) → FnD P w K mg base k fa fd [x] sp) (hbind : ∀ (s : Shared) (u : Value), BindsTo s fd ⟨[u], []⟩ [(x, u)])
    (hsp : sp [.lst (ns.map .int)] (tabS T) fun d _ => d = .bl true) :
    codeAny (model P w) callerA (.call (.ref fa) ⟨[.ref a], []⟩) (fun r s' => r = .ok (.ret (.bool true)) ∧ OldK s1.heap s'.heap ∧ s'.os = s1.os ∧ AllBare s'.gens) s1 := by
  have rv := vals_ints hi
  let ts := T.map fun p => p.2.1
  have isT : ∀ b, b ∈ ts → s1.heap.get? b = some { cls := .none, data := .fields #[] } := fun b hb => by
    obtain ⟨p, hp, e⟩ := List.mem_map.mp hb
    rw [← e]; exact hT p hp
  have memT : ∀ p ∈ T, p.2.1 ∈ ts := fun p hp => List.mem_map.mpr ⟨p, hp, rfl⟩
  have aT : a ∉ ts := fun z => by
    have q := isT a z
    rw [ha] at q
    have z' := congrArg Obj.data (Option.some.inj q)
    cases z'
  have core : ∀ H : Hp, (∀ b ∈ ts, H b = some (.tbl #[])) → (∀ b, H b = none ∨ b ∈ ts ∨ ∃ o xs, H b = some (.frz o (.lst xs))) → SqF K H a (ns.map V.int) → HOk P w H s1.heap → (∀ b, H b ≠ none → b = a ∨ b ∈ ts) → (H a ≠ none → K.lookup a = none) →
      codeAny (model P w) callerA (.call (.ref fa) ⟨[.ref a], []⟩) (fun r s' => r = .ok (.ret (.bool true)) ∧ OldK s1.heap s'.heap ∧ s'.os = s1.os ∧ AllBare s'.gens) s1 := by
    intro H hH hO hS hok hA hK
    have free : ∀ {b : Addr} {o : Obj}, s1.heap.get? b = some o → (∀ vs n, o.data ≠ .seq vs n) → o.data ≠ .fields #[] → H b = none := fun {b o} e h1 h2 => by
      cases q : H b with
      | none => rfl
      | some u =>
        rcases hA b (by rw [q]; exact nofun) with e' | e'
        · rw [e', ha] at e; cases e; exact (h1 _ _ rfl).elim
        · rw [isT b e'] at e; cases e; exact (h2 rfl).elim
    have noA : ∀ {b : Addr} {o : Obj} {es : Array DictEntry} {ep : Nat}, s1.heap.get? b = some o → o.data = .dict es ep → H b = none := fun {b o es ep} e d => free e (fun vs n z => by rw [d] at z; cases z) fun z => by rw [d] at z; cases z
    have nsK : ∀ {b : Addr} {m : Str → Option Value}, s1.heap.Ns b m → (hidT s1.heap H).Ns b m := fun {b m} ⟨o, es, ep, e, d, r⟩ => ⟨o, es, ep, hidT_get e (noA e d), d, r⟩
    have hKb : K.In (hidT s1.heap H) := fun b o e => hidT_get (KX b o e) (by
      cases q : H b with
      | none => rfl
      | some u =>
        rcases hA b (by rw [q]; exact nofun) with e' | e'
        · rw [e'] at e q
          rw [hK (by rw [q]; exact nofun)] at e; cases e
        · obtain ⟨p, hp, ep⟩ := List.mem_map.mp e'
          rw [← ep, nT p hp] at e; cases e)
    have hM : Mod K mg (hidT s1.heap H) := ⟨hKb, nsK hns, ⟨mb, nsK hb, hbb⟩, let ⟨mc, h1, h2⟩ := hlim; ⟨mc, nsK h1, h2⟩⟩
    have TB : ∀ p ∈ T, LamX.TabB (hidT s1.heap H) mg p.1 p.2.1 := fun p hp => by
      have hTp := hT p hp
      obtain ⟨mo, mes, mep, me, md, _⟩ := hns
      refine ⟨?_, ?_, fun z => ?_⟩
      · obtain ⟨o, us, file, tf, flags, tg, inF, text, tt, e1, r1, r2, r3, more⟩ := C p hp
        refine ⟨o, us, file, tf, flags, tg, inF, text, tt, hidT_get e1 (free e1 (fun vs n z => ?_) fun z => ?_), r1, r2, r3, more⟩
        · rw [r2] at z; cases z
        · rw [r2] at z; cases z; simp at r3
      · obtain ⟨bm, ob, b1, b2, b3, b4, b5, b6⟩ := hbm
        have g1 : bm ≠ mainGlobals := fun q => by rw [q, me] at b3; cases b3; rw [md] at b6; cases b6
        have g2 : bm ≠ p.2.1 := fun q => by rw [q, hTp] at b3; cases b3; cases b6
        exact ⟨bm, ob, b1, b2, g1, g2, hidT_get b3 (free b3 (fun vs n z => by rw [b6] at z; cases z) fun z => by rw [b6] at z; cases z), b4, b5, b6⟩
      · rw [z, hTp] at me; cases me; cases md
    have e0 : Env0 P w K mg (hidT s1.heap H) callerA [] s1 H := ⟨rfl, hM, fun b o e => of_hidT e, Nat.le_of_eq (hidT_size _ _), trivial, fun b hb => (List.not_mem_nil hb).elim, hok, .of_eq hg⟩
    have sr : SR K H (tabS T) := fun b o q => by
      obtain ⟨p, hp, e1, e2⟩ := tabS_some q
      subst e2
      subst e1
      exact TWn.nil (hH _ (memT p hp)) _
    refine codeAny_mono ((F _ hKb (nsK hns) TB).run callerA [] s1 H ⟨[.ref a], []⟩ [.ref a] [.ref a] (fun v _ => v = .bl true) hr rfl e0 (hbind s1 (.ref a)) (.cons rfl .nil)
      ⟨[.lst (ns.map .int)], tabS T, _, ⟨_, _, rfl, ⟨a, _, rfl, hS, RpA.of_ints ns⟩, rfl⟩, sr, hsp, fun d S' v H' q r _ _ => by subst q; exact r⟩) fun r s' h => ?_
    cases r with
    | error e => exact False.elim h
    | ok fl =>
      cases fl with
      | ret u =>
        obtain ⟨v, H', os, bare, un, hok', r', q⟩ := h
        subst q
        cases r'
        have key : ∀ b o, b ∉ ts → s1.heap.get? b = some o → s'.heap.get? b = some o := fun b o nb e => by
          cases q : H b with
          | none => exact un.keep b o e q List.not_mem_nil List.not_mem_nil
          | some u =>
            rcases hO b with z | z | ⟨ob, xs, z⟩
            · rw [q] at z; cases z
            · exact absurd z nb
            · have z1 := (hok b _ z).1
              have z2 := (hok' b _ (un.frzs b ob _ z)).1
              rw [e] at z1; cases z1
              exact z2
        have grown : ∀ p ∈ T, ∃ more : Array Value, s'.heap.get? p.2.1 = some { cls := .none, data := .fields more } := fun p hp => by
          obtain ⟨more, z⟩ := un.tbls p.2.1 #[] (hH _ (memT p hp))
          exact ⟨_, hok' p.2.1 _ z⟩
        refine ⟨rfl, ⟨fun b o e => ?_, fun b o e => ?_⟩, os, bare⟩
        · by_cases hb : b ∈ ts
          · obtain ⟨p, hp, ep⟩ := List.mem_map.mp hb
            obtain ⟨more, hm⟩ := grown p hp
            have ep : p.2.1 = b := ep
            subst ep
            rw [hT p hp] at e
            cases e
            exact .inr (.inl ⟨((C p hp).tab (hT p hp)).isCodeTable, rfl, #[], more, rfl, by rw [Array.empty_append]; exact hm⟩)
          · exact .inl (key b o hb e)
        · by_cases hb : b ∈ ts
          · obtain ⟨p, hp, ep⟩ := List.mem_map.mp hb
            obtain ⟨more, hm⟩ := grown p hp
            have ep : p.2.1 = b := ep
            subst ep
            exact ⟨_, hm⟩
          · exact ⟨o, key b o hb e⟩
      | _ => exact False.elim h
  cases hk : K.lookup a with
  | some o =>
    have e := KX a o hk
    rw [ha] at e
    cases e
    refine core (fun b => if b ∈ ts then some (.tbl #[]) else none) (fun b hb => if_pos hb) (fun b => ?_) (.inr ⟨_, vs.toArray, _, hk, rfl, rfl, rfl, by rw [List.size_toArray, hi.length]; exact hl, by simpa using rv⟩) (fun b u z => ?_) (fun b z => ?_) fun z => absurd (if_neg aT) z
    · by_cases h : b ∈ ts
      · exact .inr (.inl h)
      · exact .inl (if_neg h)
    · by_cases h : b ∈ ts
      · cases (if_pos h).symm.trans z; exact isT b h
      · cases (if_neg h).symm.trans z
    · by_cases h : b ∈ ts
      · exact .inr h
      · exact absurd (if_neg h) z
  | none =>
    refine core (fun b => if b = a then some (.frz { cls := .type "list", data := .seq vs.toArray } (.lst (ns.map V.int))) else if b ∈ ts then some (.tbl #[]) else none) (fun b hb => (if_neg (fun z => aT (by rw [← z]; exact hb))).trans (if_pos hb)) (fun b => ?_) (.inl ⟨_, if_pos rfl⟩) (fun b u z => ?_) (fun b z => ?_) fun _ => hk
    · by_cases h : b = a
      · exact .inr (.inr ⟨_, _, if_pos h⟩)
      · by_cases h2 : b ∈ ts
        · exact .inr (.inl h2)
        · exact .inl ((if_neg h).trans (if_neg h2))
    · by_cases h : b = a
      · cases (if_pos h).symm.trans z
        subst h
        exact ⟨ha, by rw [List.length_map]; exact hl, vs, _, rv, ha⟩
      · have z1 := (if_neg h).symm.trans z
        by_cases h2 : b ∈ ts
        · cases (if_pos h2).symm.trans z1; exact isT b h2
        · cases (if_neg h2).symm.trans z1
    · by_cases h : b = a
      · exact .inl h
      · by_cases h2 : b ∈ ts
        · exact .inr h2
        · exact absurd ((if_neg h).trans (if_neg h2)) z
theorem walkDT {l : PySem.W.OpenLaw} {n k : Nat} {q : Program} {loose : List Str} {XP : (Str → Option Value) → Heap → Prop} {YP : World → Heap → Prop} {d : DefRec} {K : Params → PySem.W.Frag} {sp : DSp} {x : Str} {T : TbL}
    (hn : l.most = some n) (hn2 : n ≤ sizeLine) (hdf : d.params.defaults = []) (hr : Room k callerA) (hY : ∀ (w : World) (h : Heap), YP w h → (K w.params).In h ∧ ∀ p ∈ T, h.get? p.2.1 = some { cls := .none, data := .fields #[] })
    (nT : ∀ (w : World), ∀ p ∈ T, (K w.params).lookup p.2.1 = none ∧ PySem.W.codeHdIn (K w.params) p.1 p.2.1 = true)
    (F : ∀ (w : World) (mg : Str → Option Value) (fa : Addr) (h : Heap), (K w.params).In h → h.Ns mainGlobals mg → mg d.name = some (.ref fa) →
      ∃ fd : FuncData, (∀ (s : Shared) (u : Value), BindsTo s fd ⟨[u], []⟩ [(x, u)]) ∧ ∀ base : Heap, (K w.params).In base → base.Ns mainGlobals mg → (∀ p ∈ T, LamX.TabB base mg p.1 p.2.1) → FnD l.prog w (K w.params) mg base k fa fd [x] sp)
    (hsp : ∀ ns : List Int, ns.length ≤ n → sp [.lst (ns.map .int)] (tabS T) fun d _ => d = .bl true) :
    PySem.W.WalkO q loose XP YP l.row.toRowW d [] (fun f vs => PySem.call f vs) := by
  refine Att.attach_callB hn hdf fun w s0 s1 mg mb fa o pm cd doc a vs ns G Y ho hd hcd hmg hobj hints hlen hbits hg => ?_
  obtain ⟨KX, hT⟩ := hY w _ Y
  obtain ⟨fd, hb, hF⟩ := F w mg fa _ KX G.T.g hmg
  exact law_endT KX G.T.g G.T.b G.T.builtins G.T.nolimit hg hT (fun p hp => (nT w p hp).1) (fun p hp => PySem.W.codeHd_of_K KX (nT w p hp).2) G.T.bmain hobj hints (Nat.le_trans hlen hn2) hr hF hb (hsp ns hlen)
end DL
set_option Elab.async false
set_option linter.all false
set_option maxRecDepth 100000
set_option maxHeartbeats 1000000
/-! DE7: equations, what stays, lambda's words. -/
namespace DL
open PySem PySem.Spec PyProof.Rows L2 NdefX
def lamArg : Stmt → Nat → Expr
  | .Return (some (.Call _ args _ _)) _, i => args.getD i (.Constant .none 0 ⟨0, 0, 0, 0⟩)
  | _, _ => .Constant .none 0 ⟨0, 0, 0, 0⟩
def lamP : Expr → Arguments
  | .Lambda p _ _ _ => p
  | _ => ⟨[], [], none, [], [], none, []⟩
def lamB : Expr → Expr
  | .Lambda _ b _ _ => b
  | e => e
def lamS : Expr → Scope
  | .Lambda _ _ s _ => s
  | _ => { kind := .function, names := [], isGenerator := false, isCoroutine := false, more := [] }
def dNo : DE := fun _ _ _ => False
theorem q_no {X : Cx} {e : Expr} : QE X e dNo := ⟨fun pins s σ H Q I ⟨_, _, _, _, _, h, _⟩ => h.elim⟩
section
variable {E : DEnds} {δ : DSt} {S : Sto} {P : DK} {tA : DA} {i k : Nat} {sp : DSp} {Pr : Program} {w : World} {K : PySem.W.Frag} {mg : Str → Option Value} {base : Heap}
theorem e_callC : dCallC Pr w K mg base k i tA δ S P = ∃ f n S0 sp, slot δ i = some (.ref f) ∧ CallsD Pr w K mg base k f n S0 sp ∧ SubS S0 S ∧ tA δ S fun ds S1 => SubS S0 S1 ∧ sp ds S1 P := rfl
theorem e_callFz {cl : List (Str × Addr)} {fr : List Str} {js : List Nat} : dCallFz cl fr js sp tA δ S P = tA δ S fun ds S1 => ∃ wd : List D, js.map (slot δ) = wd.map some ∧ ∀ as, CellsIn cl fr as → (∀ c ∈ as, S1 c = none) → sp ds (scells S1 (as.zip wd)) fun d S2 => P d (sdels S2 as) := rfl
theorem e_ndef {q : Sto → Prop} {fr : List Str} {mk : Addr → FF} : dNdef q k i fr mk E δ S = (q S ∧ ∀ f c1, S f = none → CapI (mk c1).cl fr → E.nx (δ.set i (some (.ref f))) (sup S f (.fn (mk c1) k))) := rfl
theorem e_lam {q : Sto → Prop} {fr : List Str} {mk : Addr → FF} : dLam q k fr mk δ S P = (q S ∧ ∀ f c1, S f = none → CapI (mk c1).cl fr → P (.ref f) (sup S f (.fn (mk c1) k))) := rfl
theorem e_no : dNo δ S P = False := rfl
end
theorem SubS.step {S0 S S' : Sto} (h : SubS S0 S) (s : Step [] S S') : SubS S0 S' := fun a o e => s.at (h a o e) List.not_mem_nil
/-! ### what stays when cells come and go -/
theorem cap_of {cl : List (Str × Addr)} {fr : List Str} {wd : List D} {as : List Addr} {S : Sto} (ci : CapI cl fr) (cin : CellsIn cl fr as) (l : wd.length = fr.length) : Cap cl fr wd (scells S (as.zip wd)) := by
  refine ⟨l, ci.all, ci.inj, fun i y e => ?_⟩
  obtain ⟨c, h1, h2⟩ := cin.at_ i y e
  have hi : i < wd.length := by rw [l]; exact (List.getElem?_eq_some_iff.mp e).1
  exact ⟨c, wd[i], h1, List.getElem?_eq_getElem hi, scells_in (zip_at cin.nd h2 (List.getElem?_eq_getElem hi))⟩
theorem clo_step {S S' : Sto} {as : List Addr} (h : Step [] (sdels S as) S') : Step [] S (sback S as S') := fun b hb _ => by
  by_cases q : b ∈ as
  · rw [sback_in q]
  · rw [sback_out q]
    have := h b (by rw [sdels_out q]; exact hb) List.not_mem_nil
    rw [this, sdels_out q]
theorem back_step {S S2 : Sto} {as : List Addr} {wd : List D} (g : ∀ c ∈ as, S c = none) (h : Step [] (scells S (as.zip wd)) S2) : Step [] S (sdels S2 as) := fun b hb _ => by
  have q : b ∉ as := fun z => hb (g b z)
  have e : scells S (as.zip wd) b = S b := scells_out (look_zip_none q)
  rw [sdels_out q, h b (by rw [e]; exact hb) List.not_mem_nil, e]
end DL
set_option Elab.async false
set_option linter.all false
set_option maxRecDepth 100000
set_option maxHeartbeats 1000000
namespace K22
open PySem PySem.Spec PyProof.Rows L2 DL
/-! ### terms -/
inductive Tm where
  | at (k : Nat)
  | world (k : Nat)
  | hole (z : Str)
  | bin (w m : Str) (a b : Tm)
  | app (w n : Str) (ts : List Tm)
  | shp (n s : Str) (ts : List Tm)
mutual
def enc : Tm → D
  | .at k => .tup [.str "at", .int (k : Nat)]
  | .world k => .tup [.str "world", .int (k : Nat)]
  | .hole z => .tup [.str "hole", .str z]
  | .bin w m a b => .tup [.str w, .str m, enc a, enc b]
  | .app w n ts => .tup [.str w, .str n, .tup (encs ts)]
  | .shp n s ts => .tup [.str "shape", .str n, .str s, .tup (encs ts)]
def encs : List Tm → List D
  | [] => []
  | t :: r => enc t :: encs r
end
theorem encs_map : ∀ ts : List Tm, encs ts = ts.map enc
  | [] => by simp only [encs, List.map_nil]
  | t :: r => by simp only [encs, List.map_cons, encs_map r]
theorem encs_app (xs ys : List Tm) : encs (xs ++ ys) = encs xs ++ encs ys := by simp only [encs_map, List.map_append]
theorem encs_len (xs : List Tm) : (encs xs).length = xs.length := by rw [encs_map, List.length_map]
def tfg : List Str := ["to", "fun", "give"]
def fc : List Str := ["family", "call"]
def marks : List Str := ["run", "gone"]
def nice (z : Str) : Bool := decide (z.length ≤ 20) && z.cps.toList.all fun c => decide (c < 128)
mutual
def okT : Tm → Bool
  | .at k => decide (k ≤ 1000)
  | .world k => decide (k ≤ 1000)
  | .hole z => nice z
  | .bin w m a b => decide (w ∈ tfg) && decide (m ∈ marks) && okT a && okT b
  | .app w n ts => decide (w ∈ fc) && nice n && decide (ts.length ≤ 100) && okTs ts
  | .shp n s ts => nice n && nice s && decide (ts.length ≤ 100) && okTs ts
def okTs : List Tm → Bool
  | [] => true
  | t :: r => okT t && okTs r
end
theorem okTs_all : ∀ ts : List Tm, okTs ts = ts.all okT
  | [] => by simp only [okTs, List.all_nil]
  | t :: r => by simp only [okTs, List.all_cons, okTs_all r]
theorem okTs_mem {ts : List Tm} (h : okTs ts = true) : ∀ t ∈ ts, okT t = true := by rw [okTs_all] at h; exact fun t ht => List.all_eq_true.mp h t ht
mutual
def dpT : Tm → Nat
  | .bin _ _ a b => max (dpT a) (dpT b) + 1
  | .app _ _ ts => dpTs ts + 1
  | .shp _ _ ts => dpTs ts + 1
  | _ => 0
def dpTs : List Tm → Nat
  | [] => 0
  | t :: r => max (dpT t) (dpTs r)
end
theorem dpTs_mem : ∀ {ts : List Tm}, ∀ t ∈ ts, dpT t ≤ dpTs ts
  | a :: r, t, h => by
    simp only [dpTs]
    rcases List.mem_cons.mp h with rfl | h
    · omega
    · have := dpTs_mem (ts := r) t h; omega
theorem dpTs_le {n : Nat} : ∀ {ts : List Tm}, (∀ t ∈ ts, dpT t ≤ n) → dpTs ts ≤ n
  | [], _ => Nat.zero_le _
  | a :: r, h => by
    simp only [dpTs]
    have h1 := h a (by simp)
    have h2 := dpTs_le (ts := r) fun t ht => h t (by simp [ht])
    omega
/-! how many holes -/
mutual
def nh : Tm → Nat
  | .hole _ => 1
  | .bin _ _ a b => nh a + nh b
  | .app _ _ ts => nhs ts
  | .shp _ _ ts => nhs ts
  | _ => 0
def nhs : List Tm → Nat
  | [] => 0
  | t :: r => nh t + nhs r
end
/-! all holes are such -/
mutual
def hin (A : Str → Bool) : Tm → Bool
  | .hole z => A z
  | .bin _ _ a b => hin A a && hin A b
  | .app _ _ ts => hins A ts
  | .shp _ _ ts => hins A ts
  | _ => true
def hins (A : Str → Bool) : List Tm → Bool
  | [] => true
  | t :: r => hin A t && hins A r
end
/-- a body more for the second part -/
def bd (w : Str) : Nat := if w = "give" then 0 else 1
mutual
def mapH (g : Str → Nat → Tm) (b : Nat) : Tm → Tm
  | .at k => .at k
  | .world k => .world k
  | .hole z => g z b
  | .bin w m x y => .bin w m (mapH g b x) (mapH g (b + bd w) y)
  | .app w n ts => .app w n (mapHs g b ts)
  | .shp n s ts => .shp n s (mapHs g b ts)
def mapHs (g : Str → Nat → Tm) (b : Nat) : List Tm → List Tm
  | [] => []
  | t :: r => mapH g b t :: mapHs g b r
end
theorem mapHs_map (g : Str → Nat → Tm) (b : Nat) : ∀ ts : List Tm, mapHs g b ts = ts.map (mapH g b)
  | [] => by simp only [mapHs, List.map_nil]
  | t :: r => by simp only [mapHs, List.map_cons, mapHs_map g b r]
theorem mapHs_len (g : Str → Nat → Tm) (b : Nat) (ts : List Tm) : (mapHs g b ts).length = ts.length := by rw [mapHs_map, List.length_map]
mutual
theorem mapH_off (h : Str → Nat → Tm) (k : Nat) : ∀ (b : Nat) (t : Tm), mapH (fun z c => h z (k + c)) b t = mapH h (k + b) t
  | b, .at _ => by simp only [mapH]
  | b, .world _ => by simp only [mapH]
  | b, .hole z => by simp only [mapH]
  | b, .bin w m x y => by simp only [mapH]; rw [mapH_off h k b x, mapH_off h k (b + bd w) y, Nat.add_assoc]
  | b, .app w n ts => by simp only [mapH]; rw [mapHs_off h k b ts]
  | b, .shp n s ts => by simp only [mapH]; rw [mapHs_off h k b ts]
theorem mapHs_off (h : Str → Nat → Tm) (k : Nat) : ∀ (b : Nat) (ts : List Tm), mapHs (fun z c => h z (k + c)) b ts = mapHs h (k + b) ts
  | b, [] => by simp only [mapHs]
  | b, t :: r => by simp only [mapHs]; rw [mapH_off h k b t, mapHs_off h k b r]
end
mutual
theorem mapH_comp (g h : Str → Nat → Tm) : ∀ (b : Nat) (t : Tm), mapH g b (mapH h b t) = mapH (fun z c => mapH g c (h z c)) b t
  | b, .at _ => by simp only [mapH]
  | b, .world _ => by simp only [mapH]
  | b, .hole z => by simp only [mapH]
  | b, .bin w m x y => by simp only [mapH]; rw [mapH_comp g h b x, mapH_comp g h (b + bd w) y]
  | b, .app w n ts => by simp only [mapH]; rw [mapHs_comp g h b ts]
  | b, .shp n s ts => by simp only [mapH]; rw [mapHs_comp g h b ts]
theorem mapHs_comp (g h : Str → Nat → Tm) : ∀ (b : Nat) (ts : List Tm), mapHs g b (mapHs h b ts) = mapHs (fun z c => mapH g c (h z c)) b ts
  | b, [] => by simp only [mapHs]
  | b, t :: r => by simp only [mapHs]; rw [mapH_comp g h b t, mapHs_comp g h b r]
end
mutual
theorem mapH_congr {A : Str → Bool} {g h : Str → Nat → Tm} (e : ∀ z c, A z = true → g z c = h z c) : ∀ {b : Nat} {t : Tm}, hin A t = true → mapH g b t = mapH h b t
  | b, .at _, _ => by simp only [mapH]
  | b, .world _, _ => by simp only [mapH]
  | b, .hole z, q => by simp only [mapH]; simp only [hin] at q; exact e z b q
  | b, .bin w m x y, q => by
    simp only [hin, Bool.and_eq_true] at q
    simp only [mapH]; rw [mapH_congr e q.1, mapH_congr e q.2]
  | b, .app w n ts, q => by simp only [hin] at q; simp only [mapH]; rw [mapHs_congr e q]
  | b, .shp n s ts, q => by simp only [hin] at q; simp only [mapH]; rw [mapHs_congr e q]
theorem mapHs_congr {A : Str → Bool} {g h : Str → Nat → Tm} (e : ∀ z c, A z = true → g z c = h z c) : ∀ {b : Nat} {ts : List Tm}, hins A ts = true → mapHs g b ts = mapHs h b ts
  | b, [], _ => by simp only [mapHs]
  | b, t :: r, q => by
    simp only [hins, Bool.and_eq_true] at q
    simp only [mapHs]; rw [mapH_congr e q.1, mapHs_congr e q.2]
end
mutual
theorem mapH_hole : ∀ (b : Nat) (t : Tm), mapH (fun z _ => .hole z) b t = t
  | b, .at _ => by simp only [mapH]
  | b, .world _ => by simp only [mapH]
  | b, .hole z => by simp only [mapH]
  | b, .bin w m x y => by simp only [mapH]; rw [mapH_hole b x, mapH_hole (b + bd w) y]
  | b, .app w n ts => by simp only [mapH]; rw [mapHs_hole b ts]
  | b, .shp n s ts => by simp only [mapH]; rw [mapHs_hole b ts]
theorem mapHs_hole : ∀ (b : Nat) (ts : List Tm), mapHs (fun z _ => .hole z) b ts = ts
  | b, [] => by simp only [mapHs]
  | b, t :: r => by simp only [mapHs]; rw [mapH_hole b t, mapHs_hole b r]
end
theorem mapH_id {A : Str → Bool} {g : Str → Nat → Tm} (e : ∀ z c, A z = true → g z c = .hole z) {b : Nat} {t : Tm} (q : hin A t = true) : mapH g b t = t := (mapH_congr e q).trans (mapH_hole b t)
mutual
theorem hin_mapH {A : Str → Bool} {g : Str → Nat → Tm} (e : ∀ z c, hin A (g z c) = true) : ∀ (b : Nat) (t : Tm), hin A (mapH g b t) = true
  | b, .at _ => by simp only [mapH, hin]
  | b, .world _ => by simp only [mapH, hin]
  | b, .hole z => by simp only [mapH]; exact e z b
  | b, .bin w m x y => by simp only [mapH, hin]; rw [hin_mapH e b x, hin_mapH e (b + bd w) y]; rfl
  | b, .app w n ts => by simp only [mapH, hin]; exact hins_mapH e b ts
  | b, .shp n s ts => by simp only [mapH, hin]; exact hins_mapH e b ts
theorem hins_mapH {A : Str → Bool} {g : Str → Nat → Tm} (e : ∀ z c, hin A (g z c) = true) : ∀ (b : Nat) (ts : List Tm), hins A (mapHs g b ts) = true
  | b, [] => by simp only [mapHs, hins]
  | b, t :: r => by simp only [mapHs, hins]; rw [hin_mapH e b t, hins_mapH e b r]; rfl
end
theorem bd_le (w : Str) : bd w ≤ 1 := by unfold bd; split <;> omega
mutual
theorem mapH_ok {g : Str → Nat → Tm} : ∀ {b : Nat} {t : Tm}, okT t = true → (∀ z c, nice z = true → b ≤ c → c ≤ b + dpT t → okT (g z c) = true) → okT (mapH g b t) = true
  | b, .at _, q, _ => by simpa only [mapH] using q
  | b, .world _, q, _ => by simpa only [mapH] using q
  | b, .hole z, q, e => by simp only [mapH]; simp only [okT] at q; exact e z b q (Nat.le_refl _) (by omega)
  | b, .bin w m x y, q, e => by
    simp only [okT, Bool.and_eq_true] at q ⊢
    simp only [dpT] at e
    have := bd_le w
    simp only [mapH, okT, Bool.and_eq_true]
    exact ⟨⟨q.1.1, mapH_ok q.1.2 fun z c nz h1 h2 => e z c nz h1 (by omega)⟩, mapH_ok q.2 fun z c nz h1 h2 => e z c nz (by omega) (by omega)⟩
  | b, .app w n ts, q, e => by
    simp only [okT, Bool.and_eq_true] at q
    simp only [dpT] at e
    simp only [mapH, okT, Bool.and_eq_true, mapHs_len]
    exact ⟨q.1, mapHs_ok q.2 fun z c nz h1 h2 => e z c nz h1 (by omega)⟩
  | b, .shp n s ts, q, e => by
    simp only [okT, Bool.and_eq_true] at q
    simp only [dpT] at e
    simp only [mapH, okT, Bool.and_eq_true, mapHs_len]
    exact ⟨q.1, mapHs_ok q.2 fun z c nz h1 h2 => e z c nz h1 (by omega)⟩
theorem mapHs_ok {g : Str → Nat → Tm} : ∀ {b : Nat} {ts : List Tm}, okTs ts = true → (∀ z c, nice z = true → b ≤ c → c ≤ b + dpTs ts → okT (g z c) = true) → okTs (mapHs g b ts) = true
  | b, [], _, _ => by simp only [mapHs, okTs]
  | b, t :: r, q, e => by
    simp only [okTs, Bool.and_eq_true] at q
    simp only [dpTs] at e
    simp only [mapHs, okTs, Bool.and_eq_true]
    exact ⟨mapH_ok q.1 fun z c nz h1 h2 => e z c nz h1 (by omega), mapHs_ok q.2 fun z c nz h1 h2 => e z c nz h1 (by omega)⟩
end
mutual
theorem mapH_dp {g : Str → Nat → Tm} {m : Nat} (e : ∀ z c, dpT (g z c) ≤ m) : ∀ (b : Nat) (t : Tm), dpT (mapH g b t) ≤ dpT t + m
  | b, .at _ => by simp only [mapH, dpT]; omega
  | b, .world _ => by simp only [mapH, dpT]; omega
  | b, .hole z => by simp only [mapH, dpT]; have := e z b; omega
  | b, .bin w n x y => by have := mapH_dp e b x; have := mapH_dp e (b + bd w) y; simp only [mapH, dpT]; omega
  | b, .app w n ts => by have := mapHs_dp e b ts; simp only [mapH, dpT]; omega
  | b, .shp n s ts => by have := mapHs_dp e b ts; simp only [mapH, dpT]; omega
theorem mapHs_dp {g : Str → Nat → Tm} {m : Nat} (e : ∀ z c, dpT (g z c) ≤ m) : ∀ (b : Nat) (ts : List Tm), dpTs (mapHs g b ts) ≤ dpTs ts + m
  | b, [] => by simp only [mapHs, dpTs]; omega
  | b, t :: r => by have := mapH_dp e b t; have := mapHs_dp e b r; simp only [mapHs, dpTs]; omega
end
mutual
theorem mapH_sz {g : Str → Nat → Tm} {m : Nat} : ∀ (b : Nat) (t : Tm), (∀ z c, c ≤ b + dpT t → sz (enc (g z c)) ≤ m) → sz (enc (mapH g b t)) ≤ sz (enc t) + nh t * m
  | b, .at _, _ => by simp only [mapH]; omega
  | b, .world _, _ => by simp only [mapH]; omega
  | b, .hole z, e => by simp only [mapH, nh]; have := e z b (by omega); omega
  | b, .bin w n x y, e => by
    simp only [dpT] at e
    have hb := bd_le w
    have h1 := mapH_sz b x fun z c h => e z c (by omega)
    have h2 := mapH_sz (b + bd w) y fun z c h => e z c (by omega)
    simp only [mapH, enc, sz, szA, nh, Nat.add_mul]; omega
  | b, .app w n ts, e => by
    simp only [dpT] at e
    have h1 := mapHs_sz b ts fun z c h => e z c (by omega)
    simp only [mapH, enc, sz, szA, nh]; omega
  | b, .shp n s ts, e => by
    simp only [dpT] at e
    have h1 := mapHs_sz b ts fun z c h => e z c (by omega)
    simp only [mapH, enc, sz, szA, nh]; omega
theorem mapHs_sz {g : Str → Nat → Tm} {m : Nat} : ∀ (b : Nat) (ts : List Tm), (∀ z c, c ≤ b + dpTs ts → sz (enc (g z c)) ≤ m) → szA (encs (mapHs g b ts)) ≤ szA (encs ts) + nhs ts * m
  | b, [], _ => by simp only [mapHs, encs, szA]; omega
  | b, t :: r, e => by
    simp only [dpTs] at e
    have h1 := mapH_sz b t fun z c h => e z c (by omega)
    have h2 := mapHs_sz b r fun z c h => e z c (by omega)
    simp only [mapHs, encs, szA, nhs, Nat.add_mul]; omega
end
mutual
theorem dp_enc : ∀ t : Tm, dp (enc t) ≤ 2 * dpT t + 1
  | .at _ => by simp only [enc, dp, dpA]; omega
  | .world _ => by simp only [enc, dp, dpA]; omega
  | .hole _ => by simp only [enc, dp, dpA]; omega
  | .bin _ _ a b => by have := dp_enc a; have := dp_enc b; simp only [enc, dp, dpA, dpT]; omega
  | .app _ _ ts => by have := dp_encs ts; simp only [enc, dp, dpA, dpT]; omega
  | .shp _ _ ts => by have := dp_encs ts; simp only [enc, dp, dpA, dpT]; omega
theorem dp_encs : ∀ ts : List Tm, dpA (encs ts) ≤ 2 * dpTs ts + 1
  | [] => by simp only [encs, dpA]; omega
  | t :: r => by have := dp_enc t; have := dp_encs r; simp only [encs, dpA, dpTs]; omega
end

/-! ### trees with short leaves -/
mutual
def lit : D → Bool
  | .non => true
  | .bl _ => true
  | .int i => decide (i.natAbs < 10 ^ 10)
  | .str z => nice z
  | .tup xs => litA xs
  | .lst xs => litA xs
  | _ => false
def litA : List D → Bool
  | [] => true
  | d :: r => lit d && litA r
end
theorem litA_all : ∀ {ds : List D}, litA ds = ds.all lit
  | [] => by simp only [litA, List.all_nil]
  | _ :: r => by simp only [litA, List.all_cons, litA_all (ds := r)]
theorem litA_app {xs ys : List D} : litA (xs ++ ys) = (litA xs && litA ys) := by rw [litA_all, litA_all, litA_all, List.all_append]
theorem litA_of {ds : List D} (h : ∀ d ∈ ds, lit d = true) : litA ds = true := by rw [litA_all]; exact List.all_eq_true.mpr h
theorem nice_len {z : Str} (h : nice z = true) : z.length ≤ 20 := by
  unfold nice at h; rw [Bool.and_eq_true] at h; exact of_decide_eq_true h.1
theorem nice_asc {z : Str} (h : nice z = true) : ∀ c ∈ z.cps.toList, c < 128 := fun c hc => by
  unfold nice at h; rw [Bool.and_eq_true] at h; exact of_decide_eq_true (List.all_eq_true.mp h.2 c hc)
mutual
theorem lit_fits : ∀ {d : D}, lit d = true → fits d = true
  | .non, _ => by simp only [fits]
  | .bl _, _ => by simp only [fits]
  | .int i, h => by
    simp only [lit, decide_eq_true_eq] at h
    simp only [fits, decide_eq_true_eq]
    exact goodI_log (k := 0) (by decide) (decide_eq_true (by omega))
  | .str z, h => by
    simp only [lit] at h
    simp only [fits, decide_eq_true_eq]
    have h1 := StrLaws.reprText_len z fun c hc => by have := nice_asc h c hc; omega
    have h2 := nice_len h
    have h3 := line_big
    omega
  | .tup xs, h => by simp only [lit] at h; simp only [fits]; exact litA_fits h
  | .lst xs, h => by simp only [lit] at h; simp only [fits]; exact litA_fits h
  | .ref _, h => by simp [lit] at h
  | .ty _, h => by simp [lit] at h
  | .dic _, h => by simp [lit] at h
theorem litA_fits : ∀ {ds : List D}, litA ds = true → fitsA ds = true
  | [], _ => by simp only [fitsA]
  | d :: r, h => by
    simp only [litA, Bool.and_eq_true] at h
    simp only [fitsA, Bool.and_eq_true]
    exact ⟨lit_fits h.1, litA_fits h.2⟩
end
theorem lit_shown {i : Int} (h : i.natAbs < 10 ^ 10) : (PyData.shown (.int i)).length ≤ 12 := by
  have h3 := int_text_length_le10 (k := 10) (by decide) h
  have e : (Str.ofString (toString i)).length = (toString i).length := PySem.ofString_length _
  simp only [PyData.shown]
  show (Str.ofString (toString i)).length ≤ _
  omega
mutual
theorem lit_short : ∀ {d : D}, lit d = true → (py d).leavesShort 13 = true ∧ (py d).bulk + 1 ≤ 24 * sz d
  | .non, _ => by simp only [py, PyData.leavesShort, PyData.bulk, sz]; exact ⟨trivial, by omega⟩
  | .bl _, _ => by simp only [py, PyData.leavesShort, PyData.bulk, sz]; exact ⟨trivial, by omega⟩
  | .int i, h => by
    simp only [lit, decide_eq_true_eq] at h
    simp only [py, PyData.leavesShort, PyData.bulk, sz]
    exact ⟨decide_eq_true (by have := lit_shown h; omega), by omega⟩
  | .str z, h => by
    simp only [lit] at h
    simp only [py, PyData.leavesShort, PyData.bulk, sz]
    have h2 : z.cps.size ≤ 20 := nice_len h
    exact ⟨List.all_eq_true.mpr fun c hc => decide_eq_true (by have := nice_asc h c hc; omega), by omega⟩
  | .tup xs, h => by
    simp only [lit] at h
    obtain ⟨a, b⟩ := litA_short h
    simp only [py, PyData.leavesShort, PyData.bulk, sz]
    exact ⟨a, by omega⟩
  | .lst xs, h => by
    simp only [lit] at h
    obtain ⟨a, b⟩ := litA_short h
    simp only [py, PyData.leavesShort, PyData.bulk, sz]
    exact ⟨a, by omega⟩
  | .ref _, h => by simp [lit] at h
  | .ty _, h => by simp [lit] at h
  | .dic _, h => by simp [lit] at h
theorem litA_short : ∀ {ds : List D}, litA ds = true → PyData.leavesShortAll 13 (pyA ds) = true ∧ PyData.bulkAll (pyA ds) ≤ 24 * szA ds
  | [], _ => by simp only [pyA, PyData.leavesShortAll, PyData.bulkAll]; exact ⟨trivial, by omega⟩
  | d :: r, h => by
    simp only [litA, Bool.and_eq_true] at h
    obtain ⟨a, b⟩ := lit_short h.1
    obtain ⟨a2, b2⟩ := litA_short h.2
    have := sz_pos d
    simp only [pyA, PyData.leavesShortAll, PyData.bulkAll, szA, Bool.and_eq_true]
    exact ⟨⟨a, a2⟩, by omega⟩
end
theorem lit_repr {d : D} (h : lit d = true) (hs : sz d ≤ 40000) (hd : dp d ≤ 150) : fits d = true ∧ (py d).shown.length ≤ sizeLine ∧ (py d).depth ≤ 150 := by
  obtain ⟨a, b⟩ := lit_short h
  have e := PyData.shown_le_bulk 13 (by decide) (py d) a
  have q := py_depth d
  refine ⟨lit_fits h, ?_, by omega⟩
  rw [sizeLine_eq]
  omega
mutual
theorem lit_enc : ∀ {t : Tm}, okT t = true → lit (enc t) = true
  | .at k, h => by
    simp only [okT, decide_eq_true_eq] at h
    simp only [enc, lit, litA, Bool.and_eq_true, decide_eq_true_eq]
    exact ⟨by decide, by omega, trivial⟩
  | .world k, h => by
    simp only [okT, decide_eq_true_eq] at h
    simp only [enc, lit, litA, Bool.and_eq_true, decide_eq_true_eq]
    exact ⟨by decide, by omega, trivial⟩
  | .hole z, h => by
    simp only [okT] at h
    simp only [enc, lit, litA, Bool.and_eq_true]
    exact ⟨by decide, h, trivial⟩
  | .bin w m a b, h => by
    simp only [okT, Bool.and_eq_true, decide_eq_true_eq] at h
    simp only [enc, lit, litA, Bool.and_eq_true]
    have hw : nice w = true := by
      have := h.1.1.1; simp only [tfg, List.mem_cons, List.not_mem_nil, or_false] at this
      rcases this with rfl | rfl | rfl <;> decide
    have hm : nice m = true := by
      have := h.1.1.2; simp only [marks, List.mem_cons, List.not_mem_nil, or_false] at this
      rcases this with rfl | rfl <;> decide
    exact ⟨hw, hm, lit_enc h.1.2, lit_enc h.2, trivial⟩
  | .app w n ts, h => by
    simp only [okT, Bool.and_eq_true, decide_eq_true_eq] at h
    simp only [enc, lit, litA, Bool.and_eq_true]
    have hw : nice w = true := by
      have := h.1.1.1; simp only [fc, List.mem_cons, List.not_mem_nil, or_false] at this
      rcases this with rfl | rfl <;> decide
    exact ⟨hw, h.1.1.2, lit_encs h.2, trivial⟩
  | .shp n s ts, h => by
    simp only [okT, Bool.and_eq_true, decide_eq_true_eq] at h
    simp only [enc, lit, litA, Bool.and_eq_true]
    exact ⟨by decide, h.1.1.1, h.1.1.2, lit_encs h.2, trivial⟩
theorem lit_encs : ∀ {ts : List Tm}, okTs ts = true → litA (encs ts) = true
  | [], _ => by simp only [encs, litA]
  | t :: r, h => by
    simp only [okTs, Bool.and_eq_true] at h
    simp only [encs, litA, Bool.and_eq_true]
    exact ⟨lit_enc h.1, lit_encs h.2⟩
end
end K22
set_option Elab.async false
set_option linter.all false
set_option maxRecDepth 100000
set_option maxHeartbeats 1000000
namespace K22
open PySem PySem.Spec PyProof.Rows L2 DL
/-! ### patterns -/
inductive Pt where
  | take
  | due
  | shp (ps : List Pt)
mutual
def encP : Pt → D
  | .take => .tup [.str "take"]
  | .due => .tup [.str "due"]
  | .shp ps => .tup [.str "shape", .str "next", .tup (encPs ps)]
def encPs : List Pt → List D
  | [] => []
  | p :: r => encP p :: encPs r
end
theorem encPs_map : ∀ ps : List Pt, encPs ps = ps.map encP
  | [] => by simp only [encPs, List.map_nil]
  | p :: r => by simp only [encPs, List.map_cons, encPs_map r]
theorem encPs_len (ps : List Pt) : (encPs ps).length = ps.length := by rw [encPs_map, List.length_map]
mutual
def tk : Pt → Nat
  | .take => 1
  | .due => 0
  | .shp ps => tks ps
def tks : List Pt → Nat
  | [] => 0
  | p :: r => tk p + tks r
end
mutual
def np : Pt → Nat
  | .take => 1
  | .due => 1
  | .shp ps => nps ps + 1
def nps : List Pt → Nat
  | [] => 0
  | p :: r => np p + nps r
end
theorem tks_app : ∀ xs ys : List Pt, tks (xs ++ ys) = tks xs + tks ys
  | [], ys => by simp only [List.nil_append, tks, Nat.zero_add]
  | x :: r, ys => by simp only [List.cons_append, tks, tks_app r ys]; omega
theorem nps_app : ∀ xs ys : List Pt, nps (xs ++ ys) = nps xs + nps ys
  | [], ys => by simp only [List.nil_append, nps, Nat.zero_add]
  | x :: r, ys => by simp only [List.cons_append, nps, nps_app r ys]; omega
theorem tks_rev : ∀ xs : List Pt, tks xs.reverse = tks xs
  | [] => rfl
  | x :: r => by rw [List.reverse_cons, tks_app, tks_rev r]; simp only [tks]; omega
theorem nps_rev : ∀ xs : List Pt, nps xs.reverse = nps xs
  | [] => rfl
  | x :: r => by rw [List.reverse_cons, nps_app, nps_rev r]; simp only [nps]; omega
theorem np_pos : ∀ p : Pt, 1 ≤ np p
  | .take => by simp only [np]; omega
  | .due => by simp only [np]; omega
  | .shp ps => by simp only [np]; omega
theorem len_nps : ∀ ps : List Pt, ps.length ≤ nps ps
  | [] => Nat.zero_le _
  | p :: r => by have := np_pos p; have := len_nps r; simp only [List.length_cons, nps]; omega
mutual
theorem tk_np : ∀ p : Pt, tk p ≤ np p
  | .take => by simp only [tk, np]; omega
  | .due => by simp only [tk, np]; omega
  | .shp ps => by have := tks_nps ps; simp only [tk, np]; omega
theorem tks_nps : ∀ ps : List Pt, tks ps ≤ nps ps
  | [] => by simp only [tks, nps]; omega
  | p :: r => by have := tk_np p; have := tks_nps r; simp only [tks, nps]; omega
end
mutual
theorem litP : ∀ p : Pt, lit (encP p) = true
  | .take => by simp only [encP, lit, litA]; decide
  | .due => by simp only [encP, lit, litA]; decide
  | .shp ps => by
    simp only [encP, lit, litA, Bool.and_eq_true]
    exact ⟨by decide, by decide, litPs ps, trivial⟩
theorem litPs : ∀ ps : List Pt, litA (encPs ps) = true
  | [] => by simp only [encPs, litA]
  | p :: r => by simp only [encPs, litA, litP p, litPs r]; rfl
end
mutual
theorem szP : ∀ p : Pt, sz (encP p) ≤ 4 * np p
  | .take => by simp only [encP, sz, szA, np]; omega
  | .due => by simp only [encP, sz, szA, np]; omega
  | .shp ps => by have := szPs ps; simp only [encP, sz, szA, np]; omega
theorem szPs : ∀ ps : List Pt, szA (encPs ps) ≤ 4 * nps ps
  | [] => by simp only [encPs, szA, nps]; omega
  | p :: r => by have := szP p; have := szPs r; simp only [encPs, szA, nps]; omega
end
/-! ### lots -/
abbrev Row := List Pt × Tm
structure Df where
  name : Str
  tele : D
  res : D
  less : D
  rows : List Row
def encR (r : Row) : D := .tup [.tup (encPs r.1), enc r.2]
def encF (d : Df) : D := .tup [.str d.name, d.tele, d.res, d.less, .tup (d.rows.map encR)]
def encL (l : List Df) : D := .tup [.str "lot", .tup (l.map encF)]
abbrev GT := List Pt → Tm → Tm
def mapR (G : GT) (r : Row) : Row := (r.1, G r.1 r.2)
def mapF (G : GT) (d : Df) : Df := ⟨d.name, d.tele, d.res, d.less, d.rows.map (mapR G)⟩
def mapL (G : GT) (l : List Df) : List Df := l.map (mapF G)
structure GRow (r : Row) : Prop where
  ok : okT r.2 = true
  dp : dpT r.2 ≤ 12
  tk : tks r.1 ≤ 60
  np : nps r.1 ≤ 900
  dq : dpA (encPs r.1) ≤ 20
structure GDf (d : Df) : Prop where
  nm : nice d.name = true
  lt : lit d.tele = true
  lr : lit d.res = true
  ll : lit d.less = true
  dt : DL.dp d.tele ≤ 20
  dr : DL.dp d.res ≤ 20
  dl : DL.dp d.less ≤ 20
  len : d.rows.length ≤ 100
  rows : ∀ r ∈ d.rows, GRow r
structure GLot (l : List Df) : Prop where
  len : l.length ≤ 100
  dfs : ∀ d ∈ l, GDf d
theorem mapL_comp (G H : GT) (l : List Df) : mapL G (mapL H l) = mapL (fun ps b => G ps (H ps b)) l := by
  unfold mapL
  rw [List.map_map]
  refine List.map_congr_left fun d _ => ?_
  show mapF G (mapF H d) = _
  unfold mapF
  simp only [List.map_map]
  rfl
theorem mapL_congr {G H : GT} {l : List Df} (h : ∀ d ∈ l, ∀ r ∈ d.rows, G r.1 r.2 = H r.1 r.2) : mapL G l = mapL H l := by
  unfold mapL
  refine List.map_congr_left fun d hd => ?_
  unfold mapF
  rw [List.map_congr_left (l := d.rows) (f := mapR G) (g := mapR H) fun r hr => by unfold mapR; rw [h d hd r hr]]
theorem mapL_id {G : GT} {l : List Df} (h : ∀ d ∈ l, ∀ r ∈ d.rows, G r.1 r.2 = r.2) : mapL G l = l := by
  have e : mapL (fun _ b => b) l = l := by
    unfold mapL
    have : ∀ d : Df, mapF (fun _ b => b) d = d := fun d => by
      unfold mapF
      rw [show mapR (fun _ b => b) = id from rfl, List.map_id]
    rw [List.map_congr_left (g := id) fun d _ => this d, List.map_id]
  exact (mapL_congr h).trans e
theorem GLot.map {G : GT} {l : List Df} (g : GLot l) (h : ∀ d ∈ l, ∀ r ∈ d.rows, GRow r → okT (G r.1 r.2) = true ∧ dpT (G r.1 r.2) ≤ 12) : GLot (mapL G l) := by
  refine ⟨by unfold mapL; rw [List.length_map]; exact g.len, fun d hd => ?_⟩
  obtain ⟨d0, h0, rfl⟩ := List.mem_map.mp hd
  obtain ⟨a1, a2, a3, a4, a5, a6, a7, a8, a9⟩ := g.dfs d0 h0
  refine ⟨a1, a2, a3, a4, a5, a6, a7, by unfold mapF; rw [List.length_map]; exact a8, fun r hr => ?_⟩
  obtain ⟨r0, hr0, rfl⟩ := List.mem_map.mp hr
  obtain ⟨b1, b2, b3, b4, b5⟩ := a9 r0 hr0
  obtain ⟨c1, c2⟩ := h d0 h0 r0 hr0 (a9 r0 hr0)
  exact ⟨c1, c2, b3, b4, b5⟩
theorem GRow.lit {r : Row} (g : GRow r) : lit (encR r) = true := by
  unfold encR
  simp only [K22.lit, litA, Bool.and_eq_true]
  exact ⟨litPs r.1, lit_enc g.ok, trivial⟩
theorem GDf.lit {d : Df} (g : GDf d) : lit (encF d) = true := by
  unfold encF
  simp only [K22.lit, litA, Bool.and_eq_true]
  refine ⟨g.nm, g.lt, g.lr, g.ll, litA_of fun x hx => ?_, trivial⟩
  obtain ⟨r, hr, rfl⟩ := List.mem_map.mp hx
  exact (g.rows r hr).lit
theorem GLot.lit {l : List Df} (g : GLot l) : lit (encL l) = true := by
  unfold encL
  simp only [K22.lit, litA, Bool.and_eq_true]
  refine ⟨by decide, litA_of fun x hx => ?_, trivial⟩
  obtain ⟨d, hd, rfl⟩ := List.mem_map.mp hx
  exact (g.dfs d hd).lit
theorem GLot.dp {l : List Df} (g : GLot l) : DL.dp (encL l) ≤ 60 := by
  have hl : dpA (l.map encF) ≤ 50 := dpA_le fun x hx => by
    obtain ⟨d, hd, rfl⟩ := List.mem_map.mp hx
    have gd := g.dfs d hd
    have h1 : dpA (d.rows.map encR) ≤ 30 := dpA_le fun y hy => by
      obtain ⟨r, hr, rfl⟩ := List.mem_map.mp hy
      have gr := gd.rows r hr
      have := dp_enc r.2
      have := gr.dp
      have := gr.dq
      unfold encR
      simp only [DL.dp, dpA]
      omega
    have := gd.dt
    have := gd.dr
    have := gd.dl
    unfold encF
    simp only [DL.dp, dpA]
    omega
  unfold encL
  simp only [DL.dp, dpA]
  omega
def nhL (l : List Df) : Nat := (l.map fun d => (d.rows.map fun r => nh r.2).sum).sum
theorem mapR_sz {G : GT} {m : Nat} : ∀ {rs : List Row}, (∀ r ∈ rs, sz (enc (G r.1 r.2)) ≤ sz (enc r.2) + nh r.2 * m) → szA ((rs.map (mapR G)).map encR) ≤ szA (rs.map encR) + (rs.map fun r => nh r.2).sum * m
  | [], _ => by simp
  | r :: q, h => by
    have h1 := h r (by simp)
    have h2 := mapR_sz (rs := q) fun x hx => h x (by simp [hx])
    simp only [List.map_cons, List.sum_cons, szA, Nat.add_mul]
    have e : sz (encR (mapR G r)) + sz (enc r.2) = sz (encR r) + sz (enc (G r.1 r.2)) := by unfold encR mapR; simp only [sz, szA]; omega
    omega
theorem mapL_sz {G : GT} {m : Nat} {l : List Df} (h : ∀ d ∈ l, ∀ r ∈ d.rows, sz (enc (G r.1 r.2)) ≤ sz (enc r.2) + nh r.2 * m) : sz (encL (mapL G l)) ≤ sz (encL l) + nhL l * m := by
  have key : szA ((mapL G l).map encF) ≤ szA (l.map encF) + nhL l * m := by
    unfold mapL nhL
    induction l with
    | nil => simp
    | cons d q ih =>
      have h1 := mapR_sz (rs := d.rows) (h d (by simp))
      have h2 := ih fun x hx => h x (by simp [hx])
      simp only [List.map_cons, List.sum_cons, szA, Nat.add_mul]
      have e : sz (encF (mapF G d)) + szA (d.rows.map encR) = sz (encF d) + szA ((d.rows.map (mapR G)).map encR) := by unfold encF mapF; simp only [sz, szA]; omega
      omega
  unfold encL
  simp only [sz, szA]
  omega
/-! ### lifted, filled -/
def callT (z : Str) (m : Nat) : Tm := .app "call" z ((List.range m).map fun k => .at (m - 1 - k))
def fillT (gap : Str) (one : Tm) (z : Str) (_ : Nat) : Tm := if z = gap then one else .hole z
def liftG : GT := fun ps b => mapH callT (tks ps) b
def fillG (gap : Str) (one : Tm) : GT := fun _ b => mapH (fillT gap one) 0 b
theorem callT_ok {z : Str} {m : Nat} (hz : nice z = true) (hm : m ≤ 100) : okT (callT z m) = true := by
  unfold callT
  simp only [okT, Bool.and_eq_true, decide_eq_true_eq]
  refine ⟨⟨⟨by simp [fc], hz⟩, by simp; omega⟩, ?_⟩
  rw [okTs_all, List.all_eq_true]
  intro t ht
  obtain ⟨k, hk, rfl⟩ := List.mem_map.mp ht
  rw [List.mem_range] at hk
  simp only [okT, decide_eq_true_eq]
  omega
theorem callT_dp (z : Str) (m : Nat) : dpT (callT z m) ≤ 1 := by
  unfold callT
  simp only [dpT]
  have : dpTs ((List.range m).map fun k => Tm.at (m - 1 - k)) ≤ 0 := dpTs_le fun t ht => by
    obtain ⟨k, _, rfl⟩ := List.mem_map.mp ht
    simp only [dpT]; omega
  omega
theorem callT_sz (z : Str) (m : Nat) : sz (enc (callT z m)) = 4 + 3 * m := by
  unfold callT
  simp only [enc, sz, szA]
  have : szA (encs ((List.range m).map fun k => Tm.at (m - 1 - k))) = 3 * m := by
    generalize hf : (fun k => Tm.at (m - 1 - k)) = f
    have hs : ∀ k, sz (enc (f k)) = 3 := fun k => by rw [← hf]; simp only [enc, sz, szA]
    clear hf
    rw [encs_map, List.map_map]
    have : ∀ l : List Nat, szA (l.map (enc ∘ f)) = 3 * l.length := fun l => by
      induction l with
      | nil => rfl
      | cons a r ih => simp only [List.map_cons, szA, Function.comp, List.length_cons] at ih ⊢; rw [hs, ih]; omega
    rw [this, List.length_range]
  omega
theorem callT_hin (z : Str) (m : Nat) (A : Str → Bool) : hin A (callT z m) = true := by
  unfold callT
  simp only [hin]
  have : ∀ l : List Nat, hins A (l.map fun k => Tm.at (m - 1 - k)) = true := fun l => by
    induction l with
    | nil => rfl
    | cons a r ih => simp only [List.map_cons, hins, hin, Bool.true_and]; exact ih
  exact this _
theorem lift_ok {r : Row} (g : GRow r) : okT (liftG r.1 r.2) = true :=
  mapH_ok g.ok fun z c nz _ h => callT_ok nz (by have := g.tk; have := g.dp; omega)
theorem lift_row {r : Row} (g : GRow r) (hd : dpT r.2 ≤ 11) : okT (liftG r.1 r.2) = true ∧ dpT (liftG r.1 r.2) ≤ 12 :=
  ⟨lift_ok g, by have := mapH_dp callT_dp (tks r.1) r.2; unfold liftG; omega⟩
/-- lifted once more it is the same -/
theorem lift_lift (l : List Df) : mapL liftG (mapL liftG l) = mapL liftG l := by
  rw [mapL_comp]
  refine mapL_congr fun d _ r _ => ?_
  show mapH callT (tks r.1) (mapH callT (tks r.1) r.2) = _
  exact mapH_id (A := fun _ => false) (fun z c h => by cases h) (hin_mapH (fun z c => callT_hin z c _) _ _)
theorem fill_any (gap : Str) (one : Tm) (k : Nat) (b : Tm) : mapH (fillT gap one) k b = mapH (fillT gap one) 0 b := by
  have := mapH_off (fillT gap one) k 0 b
  rw [Nat.add_zero] at this
  rw [← this]
  rfl
theorem fillT_ok {gap : Str} {one : Tm} (h1 : okT one = true) {z : Str} {c : Nat} (hz : nice z = true) : okT (fillT gap one z c) = true := by
  unfold fillT
  split
  · exact h1
  · simp only [okT]; exact hz
theorem fillT_dp {gap : Str} {one : Tm} {m : Nat} (h : dpT one ≤ m) (z : Str) (c : Nat) : dpT (fillT gap one z c) ≤ m := by
  unfold fillT
  split
  · exact h
  · simp only [dpT]; omega
theorem fill_row {gap : Str} {one : Tm} (h1 : okT one = true) (h2 : dpT one ≤ 2) {r : Row} (g : GRow r) (hd : dpT r.2 ≤ 10) : okT (fillG gap one r.1 r.2) = true ∧ dpT (fillG gap one r.1 r.2) ≤ 12 :=
  ⟨mapH_ok g.ok fun z c nz _ _ => fillT_ok h1 nz, by have := mapH_dp (fillT_dp (gap := gap) h2) 0 r.2; unfold fillG; omega⟩
/-- two holes, in either order -/
theorem fill_fill {gap far : Str} {one other : Tm} (ne : gap ≠ far) (h1 : hin (fun z => !decide (z = far)) one = true) (h2 : hin (fun z => !decide (z = gap)) other = true) (l : List Df) :
    mapL (fillG far other) (mapL (fillG gap one) l) = mapL (fillG gap one) (mapL (fillG far other) l) := by
  rw [mapL_comp, mapL_comp]
  refine mapL_congr fun d _ r _ => ?_
  show mapH (fillT far other) 0 (mapH (fillT gap one) 0 r.2) = mapH (fillT gap one) 0 (mapH (fillT far other) 0 r.2)
  rw [mapH_comp, mapH_comp]
  refine congrArg (fun g => mapH g 0 r.2) ?_
  funext z c
  have keep : ∀ (g : Str) (u o : Tm) (c : Nat), hin (fun z => !decide (z = g)) u = true → mapH (fillT g o) c u = u := fun g u o c h =>
    mapH_id (A := fun z => !decide (z = g)) (fun z c q => by unfold fillT; rw [if_neg (by simpa using q)]) h
  by_cases q1 : z = gap
  · have q2 : z ≠ far := fun e => ne (q1.symm.trans e)
    rw [show fillT gap one z c = one by unfold fillT; rw [if_pos q1], show fillT far other z c = .hole z by unfold fillT; rw [if_neg q2], keep far one other c h1]
    simp only [mapH]
    unfold fillT; rw [if_pos q1]
  · rw [show fillT gap one z c = .hole z by unfold fillT; rw [if_neg q1]]
    by_cases q2 : z = far
    · rw [show fillT far other z c = other by unfold fillT; rw [if_pos q2], keep gap other one c h2]
      simp only [mapH]
      unfold fillT; rw [if_pos q2]
    · rw [show fillT far other z c = .hole z by unfold fillT; rw [if_neg q2]]
      simp only [mapH]
      unfold fillT; rw [if_neg q2, if_neg q1]
end K22
set_option Elab.async false
set_option linter.all false
set_option maxRecDepth 100000
set_option maxHeartbeats 1000000
/-! DE8: list(reversed(a tuple)). -/
namespace DL
open PySem PySem.Spec PyProof.Rows L2 RT
theorem rt_no_len : typeLookup (.type "reversed") "__len__" = pure none := by rw [typeLookup_type, builtinLookup_eq_fast]; kernel_rfl
theorem slot_rt_hint : Slot "reversed" "__length_hint__" "reversed.__length_hint__" :=
  .of (owner := "reversed") (n := "__length_hint__") (by rw [typeLookup_type, builtinLookup_eq_fast]; kernel_rfl) (by decide +kernel) (by decide +kernel) (by decide +kernel)
    (by first | exact .inl (by decide +kernel) | exact .inr (by decide +kernel)) (by rw [isSubtype_type]; kernel_rfl)
theorem entry_rt_hint : entryFor table "reversed.__length_hint__" = some Builtin.«reversed.__length_hint__» := entryFor_of_tree (by kernel_rfl)
theorem args_rt_hint (a : Value) : argsOk "reversed.__length_hint__" ⟨[a], []⟩ := by
  unfold argsOk; rw [signature?_of (id := "reversed.__length_hint__") (n := ['_', '_', 't', 'n', 'i', 'h', '_', 'h', 't', 'g', 'n', 'e', 'l', '_', '_']) (o := ['d', 'e', 's', 'r', 'e', 'v', 'e', 'r']) (by kernel_rfl) owner_rt]; kernel_rfl
section
variable {prog : Program} {w : World} {A : Around} {E : Value → Shared → Prop} {s : Shared}
theorem walks_rt (hh : A.handled = none) {it t : Addr} (hne : t ≠ it) {items : Array Value} (hz : items.size ≤ sizeLine) :
    Walks prog w A it [it, t] [it] items.size (fun i v => items[items.size - 1 - i]? = some v) (fun i h => i ≤ items.size ∧ IsRt h it t ((items.size : Int) - 1 - (i : Int)) ∧ IsTup h t items) where
  sub := fun b hb => by simp at hb; simp [hb]
  frame := fun _ _ _ x hk => ⟨x.1, x.2.1.at fun o e => hk it (by simp) o e, let ⟨o, ho, r⟩ := x.2.2; ⟨o, hk t (by simp) o ho, r⟩⟩
  item := fun i s Q E hi x hQ => by
    have e : (items.size : Int) - 1 - (i : Int) = ((items.size - 1 - i : Nat) : Int) := by omega
    have hit := x.2.1
    rw [e] at hit
    have hx : items[items.size - 1 - i]? = some (items[items.size - 1 - i]'(by omega)) := Array.getElem?_eq_getElem (by omega)
    refine next_rt_item hit x.2.2 hx hz fun h' st' sb => ?_
    have e2 : ((items.size - 1 - i : Nat) : Int) - 1 = (items.size : Int) - 1 - ((i + 1 : Nat) : Int) := by omega
    rw [e2] at st'
    exact hQ _ h' _ hx ⟨hi, st', let ⟨o, ho, r⟩ := x.2.2; ⟨o, (sb.2 t hne).trans ho, r⟩⟩ fun b o hb eo => sb.extBut b o (fun h => hb (by simp [h])) eo
  done := fun s Q E x hQ => by
    have e : (items.size : Int) - 1 - (items.size : Int) = -1 := by omega
    have hit := x.2.1
    rw [e] at hit
    exact next_rt_end hh hit fun h' he' => hQ h' s.toks fun b o hb eo => he' b o (fun h => hb (by simp [h])) eo
  self := fun _ _ _ _ x hQ => iter_rt x.2.1 hQ
theorem call_hint_rt {it t : Addr} {items : Array Value} {Q : Value → Shared → Prop} (hit : IsRt s.heap it t ((items.size : Int) - 1)) (ht : IsTup s.heap t items) (hz : items.size ≤ sizeLine)
    (hQ : ∀ tk u, Q (.int (items.size : Nat) u) { s with toks := tk }) : wpAny (model prog w) A (call (.builtin "reversed.__length_hint__") [.ref it]) Q E s := by
  obtain ⟨o, ho, hc, hd⟩ := id hit
  rw [sizeLine_eq] at hz
  refine wpAny_call_entry slot_rt_hint hit.typeIs entry_rt_hint ?_ (args_rt_hint _)
  unfold Builtin.«reversed.__length_hint__»
  refine wpAny_bind (wpAny_of_eq (a := Value.ref it) rfl ?_)
  try dsimp only
  refine wpAny_bind (wpAny_field ho hd (x := .ref t) rfl ?_)
  try dsimp only
  rw [if_neg (show ¬ (Value.ref t == Value.none) = true from Bool.false_ne_true)]
  refine wpAny_bind (len_tuple ht (by omega) ?_)
  refine wpAny_bind (wpAny_of_eq (a := some ((items.size : Nat) : Int)) rfl ?_)
  try dsimp only
  refine wpAny_bind (wpAny_field ho hd (x := rawInt ((items.size : Int) - 1)) rfl ?_)
  show wpAny _ _ (if ((items.size : Nat) : Int) < ((items.size : Int) - 1) + 1 then _ else _) _ _ _
  rw [if_neg (by omega)]
  show wpAny _ _ (retInt _) _ _ _
  unfold retInt
  refine wpAny_bind (wpAny_mkInt ?_)
  rw [show ((items.size : Nat) : Int) - 1 + 1 = ((items.size : Nat) : Int) by omega]
  exact wpAny_pure ⟨_, rfl, hQ _ _⟩
theorem hint_rt {it t : Addr} {items : Array Value} {Q : Bool → Shared → Prop} (hit : IsRt s.heap it t ((items.size : Int) - 1)) (ht : IsTup s.heap t items) (hz : items.size ≤ sizeLine)
    (hQ : ∀ tk b, Q b { s with toks := tk }) : wpAny (model prog w) A (Builtin.List.listLengthHint (.ref it)) Q E s := by
  have hT := hit.typeIs
  unfold Builtin.List.listLengthHint
  refine wpAny_bind (wpAny_specialOf hT rt_no_len ?_)
  show wpAny _ _ (specialOf (Value.ref it) (Str.ofString "__length_hint__") >>= _) _ _ _
  refine wpAny_bind (wpAny_specialOf hT slot_rt_hint.lookup ?_)
  generalize hid : ("reversed.__length_hint__" : String) = id0
  wp_delta
  rw [show splitId id0 = some ("reversed", "__length_hint__") from by subst hid; decide +kernel]
  subst hid
  refine wpAny_bind (wpAny_isInstance (b := true) hT (by rw [isSubtype_type]; kernel_rfl) ?_)
  rw [if_neg (by decide)]
  try dsimp only
  rw [if_neg (by decide +kernel)]
  refine wpAny_bind (wpAny_rule ?_)
  refine wpAny_bind (wpAny_of_eq (slot_rt_hint.bind _) ?_)
  try dsimp only
  refine wpAny_bind (wpAny_attempt (call_hint_rt hit ht hz fun tk u => ?_))
  try dsimp only
  rw [show asInt? (Value.int ((items.size : Nat) : Int) u) = pure (some ((items.size : Nat) : Int)) by unfold asInt?; rfl, pure_bind]
  have f2 : Builtin.List.listTooLong (((items.size : Nat) : Int)).toNat = false := by unfold Builtin.List.listTooLong; exact decide_eq_false (by omega)
  rw [sizeLine_eq] at hz
  have f1 : Builtin.List.listFitsIndex ((items.size : Nat) : Int) = true := by
    unfold Builtin.List.listFitsIndex
    rw [Bool.and_eq_true, decide_eq_true_eq, decide_eq_true_eq]
    refine ⟨?_, ?_⟩
    · exact Int.le_trans (by decide) (Int.natCast_nonneg items.size)
    · exact Int.lt_of_le_of_lt (Int.ofNat_le.mpr hz) (by decide)
  try dsimp only
  rw [f1, f2]
  rw [if_neg (show ¬ (!true) = true by decide), if_neg (show ¬ ((items.size : Nat) : Int) < 0 by omega), if_neg Bool.false_ne_true]
  exact wpAny_pure (hQ _ _)
theorem call_list_rt {it t : Addr} {items : Array Value} {Q : Value → Shared → Prop} (hh : A.handled = none) (hne : t ≠ it) (hit : IsRt s.heap it t ((items.size : Int) - 1)) (ht : IsTup s.heap t items) (hz : items.size ≤ sizeLine)
    (hQ : ∀ (h' : Heap) (tk : Nat) (acc : Array Value) (c : Nat), (∀ b o, b ≠ it → s.heap.get? b = some o → h'.get? b = some o) → ItemsOf (fun i v => items[items.size - 1 - i]? = some v) acc items.size →
      h'.get? s.heap.objs.size = some { cls := .type "list", dict := none, data := .seq acc c, slots := #[] } → Q (.ref s.heap.objs.size) { s with heap := h', toks := tk }) :
    wpAny (model prog w) A (call (.type "list") [.ref it]) Q E s := by
  have W := (walks_rt (prog := prog) (w := w) (A := A.in1.in1) hh hne hz).toS
  obtain ⟨oi, hoi, _⟩ := id hit
  obtain ⟨ol, hol, _⟩ := id ht
  have hSi : s.heap.objs.size ≠ it := Nat.ne_of_gt (Heap.lt_size hoi)
  have hSl : s.heap.objs.size ≠ t := Nat.ne_of_gt (Heap.lt_size hol)
  have hSf : s.heap.objs.size ∉ [it, t] := by simp only [List.mem_cons, List.not_mem_nil, or_false, not_or]; exact ⟨hSi, hSl⟩
  have e0 : ((items.size : Nat) : Int) - 1 - ((0 : Nat) : Int) = (items.size : Int) - 1 := by omega
  have lt : ∀ {b o}, s.heap.get? b = some o → s.heap.objs.size ≠ b := fun e => Nat.ne_of_gt (Heap.lt_size e)
  refine callType_codes (Q₁ := fun obj s1 => obj = .ref s.heap.objs.size ∧ s1 = { s with heap := s.heap.push { cls := .type "list", data := .seq #[] } }) F.called_list (F.typeCall_list_1 _) F.entry_list_init
    (code_list_new _ ⟨rfl, rfl⟩) fun obj s1 h1 => ?_
  obtain ⟨rfl, rfl⟩ := h1
  have hS : (s.heap.push { cls := .type "list", data := .seq #[] }).get? s.heap.objs.size = some { cls := .type "list", data := .seq #[] } := Heap.get?_push_size _ rfl
  refine ⟨⟨_, hS, rfl⟩, F.args_list_init_2 _ _, ?_⟩
  show wpAny _ A.in1.in1 (do let old ← Builtin.List.listItems (.ref s.heap.objs.size); Builtin.List.listUpdate (.ref s.heap.objs.size) (fun _ => #[]); letGo old.toList.reverse; Builtin.List.listExtendWith (.ref s.heap.objs.size) (.ref it) .none) _ _ _
  refine wpAny_bind ?_
  unfold Builtin.List.listItems
  refine wpAny_bind (wpAny_seqItems hS rfl (wpAny_pure ?_))
  show wpAny _ A.in1.in1 (updateSeq s.heap.objs.size (fun _ => #[]) >>= fun _ => letGo (#[] : Array Value).toList.reverse >>= fun _ => Builtin.List.listExtendWith (.ref s.heap.objs.size) (.ref it) .none) _ _ _
  refine wpAny_bind (wpAny_updateSeq hS rfl ?_)
  have hS2 := Heap.get?_update_self (Obj.mapSeq (fun _ => (#[] : Array Value))) hS rfl
  have k2 : ∀ b o, s.heap.get? b = some o → ((s.heap.push { cls := .type "list", data := .seq #[] }).update s.heap.objs.size (Obj.mapSeq (fun _ => (#[] : Array Value)))).get? b = some o :=
    fun b o e => (Heap.get?_update_other _ _ (lt e)).trans (Heap.get?_push_of_some _ e)
  refine wpAny_bind (wpAny_letGo ?_)
  have hit2 : IsRt ((s.heap.push { cls := .type "list", data := .seq #[] }).update s.heap.objs.size (Obj.mapSeq (fun _ => (#[] : Array Value)))) it t ((items.size : Int) - 1) := hit.at fun o e => k2 _ _ e
  have ht2 : IsTup ((s.heap.push { cls := .type "list", data := .seq #[] }).update s.heap.objs.size (Obj.mapSeq (fun _ => (#[] : Array Value)))) t items := ht.keeps k2
  generalize ((s.heap.push { cls := .type "list", data := .seq #[] }).update s.heap.objs.size (Obj.mapSeq (fun _ => (#[] : Array Value)))) = hp at hS2 k2 hit2 ht2
  unfold Builtin.List.listExtendWith
  refine wpAny_bind (wpAny_typeOf (T := "reversed") (IsRt.typeIs (s := { s with heap := hp }) hit2) ?_)
  have q1 : Builtin.List.listSameRef (.ref s.heap.objs.size) (.ref it) = false := by simp [Builtin.List.listSameRef, hSi]
  rw [if_neg (by rw [q1]; decide)]
  refine wpAny_bind (iter_rt (s := { s with heap := hp }) hit2 ?_)
  refine wpAny_bind (wpAny_holding (hint_rt (s := { s with heap := hp }) hit2 ht2 hz fun tk b => ?_))
  -- the room, if it is made
  have room : ∀ (h2 : Heap) (tk : Nat), (∀ b o, s.heap.get? b = some o → h2.get? b = some o) → (∃ c0, h2.get? s.heap.objs.size = some { cls := .type "list", data := .seq #[] c0 }) →
      wpAny (model prog w) A.in1.in1 (again (.builtin "list.extend.loop" ⟨[.ref s.heap.objs.size, .ref it, .none], []⟩)) (fun fin s' => match fin with
        | .done f => wants (fun r s₂ => r = .none ∧ Q (.ref s.heap.objs.size) s₂) E (.ok f) s'
        | .again c' => c'.quiet = true ∧ codeAny (model prog w) A.in1 c' (wants (fun r s₂ => r = .none ∧ Q (.ref s.heap.objs.size) s₂) E) s')
        (fun e s' => wants (fun r s₂ => r = .none ∧ Q (.ref s.heap.objs.size) s₂) E (.error e) s') { s with heap := h2, toks := tk } := fun h2 tk kp ⟨c0, hl2⟩ => by
    refine wpAny_pure ⟨plainId_quiet F.plain_extend_loop _, codeAny_extend_loopS W hz _ hSf _ items.size 0 _ _ _ rfl (Nat.zero_le _) ⟨Nat.zero_le _, by rw [e0]; exact hit.at fun o e => kp _ _ e, ht.keeps kp⟩ hl2 (ItemsOf.nil _) fun s' acc' c' hm hS' hacc => ⟨rfl, ?_⟩⟩
    rw [Moved.eq_with hm]
    refine hQ s'.heap s'.toks acc' c' (fun b o hb e => hm.heap b o (fun hmem => ?_) (kp _ _ e)) hacc hS'
    rcases List.mem_cons.mp hmem with e' | hmem
    · exact absurd (Heap.lt_size e) (by rw [e']; exact Nat.lt_irrefl _)
    · exact hb (List.mem_singleton.mp hmem)
  try dsimp only
  split
  · refine wpAny_bind (wpAny_rule ?_)
    refine wpAny_bind ?_
    show wpAny _ _ (updateSeq s.heap.objs.size (·.push .none) >>= fun _ => updateSeq s.heap.objs.size (·.pop)) _ _ _
    refine wpAny_bind (wpAny_updateSeq hS2 rfl ?_)
    have hS3 := Heap.get?_update_self (Obj.mapSeq (·.push Value.none)) hS2 rfl
    refine wpAny_updateSeq (hz := by seq_fits) hS3 rfl ?_
    have hS4 := Heap.get?_update_self (Obj.mapSeq (·.pop)) hS3 rfl
    exact room _ _ (fun b o e => (Heap.get?_update_other _ _ (lt e)).trans ((Heap.get?_update_other _ _ (lt e)).trans (k2 b o e))) ⟨_, hS4⟩
  · exact room _ _ k2 ⟨_, hS2⟩
end
end DL
set_option Elab.async false
set_option linter.all false
set_option maxRecDepth 100000
set_option maxHeartbeats 1000000
/-! DE9: list(reversed(a tuple)) as an expression; a def called by several of its parameters' names. -/
namespace DL
open PySem PySem.Spec PyProof.Rows L2 RT
section
variable {X : Cx} {e : Expr} {te : DE} {p p2 pos pos2 : Pos}
/-- a new list that may change -/
def dLRevM (te : DE) : DE := fun δ S P => te δ S fun d S1 => match d with
  | .tup ds => ∀ a, S1 a = none → P (.ref a) (sup S1 a (.lst ds.reverse))
  | _ => False
/-- a new list that stays -/
def dLRev (te : DE) : DE := fun δ S P => te δ S fun d S1 => match d with
  | .tup ds => P (.lst ds.reverse) S1
  | _ => False
theorem pe_lrev {t : TE} (hc : X.calm = true) (hg : Gl X "list") (hm : X.mg "list" = none) (hg2 : Gl X "reversed") (hm2 : X.mg "reversed" = none) (he : L2.PE X e t)
    (hs : starEach [e] X.env = (false, eval e X.env) :: starEach [] X.env) (hs2 : starEach [.Call (.Name "reversed" p2) [e] [] pos2] X.env = (false, eval (.Call (.Name "reversed" p2) [e] [] pos2) X.env) :: starEach [] X.env) :
    L2.PE X (.Call (.Name "list" p) [.Call (.Name "reversed" p2) [e] [] pos2] [] pos) (fun σ H Q => t σ H fun v H1 => ∃ (a : Addr) (xs : List V), v = .ref a ∧ SqT X.K H1 a xs ∧ ∀ l o, H1 l = none → Q (.ref l) (upd H1 l (.lst xs.reverse)) ∨ Q (.ref l) (upd H1 l (.frz o (.lst xs.reverse)))) := by
  refine ⟨fun pins s σ H Q I h => ?_⟩
  refine Call_ (ld_blt I hg hm PyProof.Rows.boot_list (PyProof.Rows.callWith_type1 (args_cons (Call_ (ld_blt I hg2 hm2 PyProof.Rows.boot_reversed (PyProof.Rows.callWith_type1 (args_cons (thn (he.run pins s σ H _ I h) fun u s1 ⟨v, H1, I1, r1, q1⟩ => args_nil ?_) hs) hs rfl))) hs2) hs2 rfl))
  obtain ⟨a, xs, ev, hq, q⟩ := q1
  subst ev
  obtain rfl : u = Value.ref a := r1
  obtain ⟨its, rv, p', hz⟩ := I1.tuple hq
  have hl := rv.length
  have hn := line63
  refine call_reversed_tup p' (fun A E Q k => len_tuple p' (by simp only [List.size_toArray] <;> omega) k) (args_nil ?_)
  have k0 : ∀ b o, s1.heap.get? b = some o → (s1.heap.push (rtObj a ((its.toArray.size : Int) - 1))).get? b = some o := fun b o e => Heap.get?_push_of_some _ e
  obtain ⟨ol, hol, _⟩ := id p'
  have hne : a ≠ s1.heap.objs.size := Nat.ne_of_lt (Heap.lt_size hol)
  have hz2 : its.toArray.size ≤ sizeLine := by rw [List.size_toArray, ← rv.length]; exact hz
  refine call_list_rt (s := { s1 with heap := s1.heap.push (rtObj a ((its.toArray.size : Int) - 1)), toks := s1.toks + 1 + 1 }) (I1.ok.hd hc) hne ⟨_, Heap.get?_push_size _ rfl, rfl, rfl⟩ (p'.keeps k0) hz2 fun h' tk acc c hk hi hS => ?_
  have kk : ∀ b o, s1.heap.get? b = some o → h'.get? b = some o := fun b o e => hk b o (Nat.ne_of_lt (Heap.lt_size e)) (k0 b o e)
  have le : s1.heap.objs.size ≤ (s1.heap.push (rtObj a ((its.toArray.size : Int) - 1))).objs.size := by rw [Heap.size_push]; omega
  have rr := vals_rev rv hi
  have ea : acc = acc.toList.toArray := by simp
  have hob : ∀ H2, ObjOk X.prog X.w H2 h' (s1.heap.push (rtObj a ((its.toArray.size : Int) - 1))).objs.size (.lst xs.reverse) := fun H2 => ⟨by rw [List.length_reverse]; exact hz, acc.toList, c, rr, by rw [← ea]; exact hS⟩
  rcases q (s1.heap.push (rtObj a ((its.toArray.size : Int) - 1))).objs.size _ (I1.hok.fresh le) with q | q
  · exact ⟨.ref _, _, I1.laid (t' := tk) kk le (hob _), rfl, q⟩
  · exact ⟨.ref _, _, I1.laid (t' := tk) kk le (show ObjOk X.prog X.w _ h' _ (.frz _ (.lst xs.reverse)) from ⟨hS, hob _⟩), rfl, q⟩
theorem q_lrevM (hc : X.calm = true) (hg : Gl X "list") (hm : X.mg "list" = none) (hg2 : Gl X "reversed") (hm2 : X.mg "reversed" = none) (he : QE X e te)
    (hs : starEach [e] X.env = (false, eval e X.env) :: starEach [] X.env := by rfl) (hs2 : starEach [.Call (.Name "reversed" p2) [e] [] pos2] X.env = (false, eval (.Call (.Name "reversed" p2) [e] [] pos2) X.env) :: starEach [] X.env := by rfl) :
    QE X (.Call (.Name "list" p) [.Call (.Name "reversed" p2) [e] [] pos2] [] pos) (dLRevM te) :=
  PE.imp (pe_lrev hc hg hm hg2 hm2 he hs hs2) fun σ H Q ⟨δ, S, P, rs, sr, h, fin⟩ => ⟨δ, S, _, rs, sr, h, fun d S1 v H1 h1 r1 s1 e1 => by
    split at h1
    · rename_i ds
      obtain ⟨a, vs, rfl, hq, r3⟩ := r1
      refine ⟨a, vs, rfl, hq, fun l o hl => .inl ?_⟩
      exact fin (.ref l) _ _ _ (h1 l (s1.none hl)) rfl (s1.add hl r3.rev) (e1.trans (.new hl))
    · exact h1.elim⟩
theorem q_lrev (hc : X.calm = true) (hg : Gl X "list") (hm : X.mg "list" = none) (hg2 : Gl X "reversed") (hm2 : X.mg "reversed" = none) (he : QE X e te)
    (hs : starEach [e] X.env = (false, eval e X.env) :: starEach [] X.env := by rfl) (hs2 : starEach [.Call (.Name "reversed" p2) [e] [] pos2] X.env = (false, eval (.Call (.Name "reversed" p2) [e] [] pos2) X.env) :: starEach [] X.env := by rfl) :
    QE X (.Call (.Name "list" p) [.Call (.Name "reversed" p2) [e] [] pos2] [] pos) (dLRev te) :=
  PE.imp (pe_lrev hc hg hm hg2 hm2 he hs hs2) fun σ H Q ⟨δ, S, P, rs, sr, h, fin⟩ => ⟨δ, S, _, rs, sr, h, fun d S1 v H1 h1 r1 s1 e1 => by
    split at h1
    · rename_i ds
      obtain ⟨a, vs, rfl, hq, r3⟩ := r1
      refine ⟨a, vs, rfl, hq, fun l o hl => .inr ?_⟩
      exact fin (.lst ds.reverse) _ _ _ h1 ⟨l, vs.reverse, rfl, .inl ⟨o, upd_same⟩, r3.rev.ext (.new hl)⟩ (s1.new hl) (e1.trans (.new hl))
    · exact h1.elim⟩
theorem e_lrevM {δ : DSt} {S : Sto} {P : DK} : dLRevM te δ S P = te δ S fun d S1 => match d with
  | .tup ds => ∀ a, S1 a = none → P (.ref a) (sup S1 a (.lst ds.reverse))
  | _ => False := rfl
theorem e_lrev {δ : DSt} {S : Sto} {P : DK} : dLRev te δ S P = te δ S fun d S1 => match d with
  | .tup ds => P (.lst ds.reverse) S1
  | _ => False := rfl
end
end DL
set_option Elab.async false
set_option linter.all false
set_option maxRecDepth 100000
set_option maxHeartbeats 1000000
/-! DE10: x(a=.., b=.., c=..). -/
namespace DL
open PySem PySem.Spec PyProof.Rows L2
section
variable {X : Cx} {k : Nat} {sp : DSp} {x y1 y2 y3 : Str} {p pos kp1 kp2 kp3 : Pos} {e1 e2 e3 : Expr} {t1 t2 t3 : DE}
theorem q_kws3 (G : HasW X.prog X.w X.K X.mg X.base k x [y1, y2, y3] sp) (hr : Room k X.A) (hgd : X.A.guards = some []) (h1 : QE X e1 t1) (h2 : QE X e2 t2) (h3 : QE X e3 t3) (hg : Gl X x := by rfl) (hdb : (x == ("__debug__" : Str)) = false := by decide)
    (hall : (backToKw pos (keywordEach [⟨some y1, e1, kp1⟩, ⟨some y2, e2, kp2⟩, ⟨some y3, e3, kp3⟩] X.env)).all (·.1.isSome) = true := by rfl) (hks : (backToKw pos (keywordEach [⟨some y1, e1, kp1⟩, ⟨some y2, e2, kp2⟩, ⟨some y3, e3, kp3⟩] X.env)).filterMap (·.1) = [y1, y2, y3] := by rfl)
    (hpl : ((backTo pos (starEach [] X.env)).any (·.1) || (backToKw pos (keywordEach [⟨some y1, e1, kp1⟩, ⟨some y2, e2, kp2⟩, ⟨some y3, e3, kp3⟩] X.env)).any (·.1.isNone)) = false := by rfl) :
    QE X (.Call (.Name x p) [] [⟨some y1, e1, kp1⟩, ⟨some y2, e2, kp2⟩, ⟨some y3, e3, kp3⟩] pos) (dCB sp (dCons t1 (dCons t2 (dCons t3 dNil)))) := by
  obtain ⟨f, fd, F, kw, hk, m⟩ := G
  refine ⟨fun pins s σ H Q I ⟨δ, S, P, rs, sr, h, fin⟩ => wpAny_Call_Name_kw (ld_glob I hg m ?_ hdb)⟩
  refine PySem.W.callWith_KW0 (h₀ := X.base) I.ok.mod.kin hk hall ?_ hpl
  refine thn ((pk_cons (nm := some y1) (kpos := kp1) h1 (pk_cons (nm := some y2) (kpos := kp2) h2 (pk_cons (nm := some y3) (kpos := kp3) h3 pk_nil))).run pos pins s σ H (fun vs H1 => ∃ ds S1, RpA X.K H1 ds vs ∧ SR X.K H1 S1 ∧ sp ds S1 P ∧ Fin X.K H1 P Q) I
    ⟨δ, S, _, rs, sr, h, fun d1 S1 v1 H1 g1 r1 s1 x1 => ⟨δ, S1, _, rs.ext x1, s1, g1, fun d2 S2 v2 H2 g2 r2 s2 x2 => ⟨δ, S2, _, rs.ext (x1.trans x2), s2, g2, fun d3 S3 v3 H3 g3 r3 s3 x3 => ⟨[d1, d2, d3], S3, ⟨_, _, rfl, r1.ext (x2.trans x3), _, _, rfl, r2.ext x3, _, _, rfl, r3, rfl⟩, s3, g3, fin.ext (x1.trans (x2.trans x3))⟩⟩⟩⟩) fun us s1 ⟨vs, H1, I1, r, ds, S1, r1, s2, q, fin1⟩ => ⟨I1.kIn, ?_⟩
  have hl : us.length = [y1, y2, y3].length := by rw [← r.length, r1.length]; exact F.len _ _ _ q
  rw [hks]
  refine wpAny_call (codeAny_mono (F.run X.A X.stack s1 H1 ⟨[], [y1, y2, y3].zip us⟩ us vs Q hr hgd I1.env0 (.of_eq (kw us hl)) r ⟨ds, S1, P, r1, s2, q, fin1⟩) fun r s' hq => ?_)
  cases r with
  | error e => exact False.elim hq
  | ok fl => cases fl with
    | ret u => exact I1.after hq
    | _ => exact False.elim hq
end
end DL
set_option Elab.async false
set_option linter.all false
set_option maxRecDepth 100000
set_option maxHeartbeats 1000000
/-! DE11: a list that an expression tells, left as it is from there on. -/
namespace DL
open PySem PySem.Spec PyProof.Rows L2
section
variable {X : Cx} {e : Expr} {te : DE}
def dFrzE (te : DE) : DE := fun δ S P => te δ S fun d S1 => ∃ p xs, d = .ref p ∧ S1 p = some (.lst xs) ∧ P (.lst xs) (sdel S1 p)
theorem q_frzE (he : QE X e te) : QE X e (dFrzE te) := by
  refine ⟨fun pins s σ H Q I ⟨δ, S, P, rs, sr, h, fin⟩ => ?_⟩
  refine thn (he.run pins s σ H (fun v H1 => ∃ d S1, Rp X.K H1 d v ∧ SR X.K H1 S1 ∧ Ext H H1 ∧ ∃ p xs, d = .ref p ∧ S1 p = some (.lst xs) ∧ P (.lst xs) (sdel S1 p)) I ⟨δ, S, _, rs, sr, h, fun d S1 v H1 h1 r1 s1 e1 => ⟨d, S1, r1, s1, e1, h1⟩⟩) fun u s1 ⟨v, H1, I1, r1, d, S1, rd, sr1, e1, p, xs, ed, hS, q⟩ => ?_
  subst ed
  cases rd
  obtain ⟨vs, hw, rw'⟩ := sr1.lst hS
  obtain ⟨o, J⟩ := freezeL I1 hw
  have x : Ext H1 (upd H1 p (.frz o (.lst vs))) := .mutL hw
  exact ⟨.ref p, _, J, r1, fin _ _ _ _ q ⟨p, vs, rfl, .inl ⟨o, upd_same⟩, rw'.ext x⟩ (sr1.del hw) (e1.trans x)⟩
theorem e_frzE {δ : DSt} {S : Sto} {P : DK} : dFrzE te δ S P = te δ S fun d S1 => ∃ p xs, d = .ref p ∧ S1 p = some (.lst xs) ∧ P (.lst xs) (sdel S1 p) := rfl
end
end DL
set_option Elab.async false
set_option linter.all false
set_option maxRecDepth 100000
set_option maxHeartbeats 1000000
/-! DE12: comprehensions with any target, what is old in sight. -/
namespace DL
open PySem PySem.Spec PyProof.Rows L2
theorem lc_oldG {α : Type} {g : DG} {is : List Nat} {te : DE} {δ : DSt} {S : Sto} {P : DK} (xs : List α) (en : α → D) (at1 : α → DSt) (L : List Addr) (J : Nat → List D → Sto → Prop) (hz : xs.length ≤ sizeLine)
    (hJ : ∀ n acc S1 S2, (∀ b, S b ≠ none → S2 b = S1 b) → J n acc S1 → J n acc S2) (hL : ∀ b ∈ L, S b ≠ none) (h0 : J 0 [] S)
    (hg : ∀ x ∈ xs, ∀ (S2 : Sto) (Q : DSt → Sto → Prop), Q (at1 x) S2 → g (en x) (dwipe δ is) S2 Q)
    (he : ∀ n x acc, xs[n]? = some x → acc.length = n → ∀ (S2 : Sto) (Q : DK), Step L S S2 → J n acc S2 → (∀ y S3, J (n + 1) (acc ++ [y]) S3 → Step L S2 S3 → Q y S3) → te (at1 x) S2 Q)
    (h : ∀ ys S', ys.length = xs.length → J xs.length ys S' → Step L S S' → P (.lst ys) S') : lcB g dYes te is δ (xs.map en) S P := by
  intro p np
  have nS : ∀ b, S b ≠ none → b ≠ p := fun b hb e => hb (by rw [e]; exact np)
  refine ⟨fun j acc S' => acc.length = min j xs.length ∧ J j acc S' ∧ S' p = some (.lst acc) ∧ ∀ b, S b ≠ none → b ∉ L → S' b = S b, ⟨by simp, hJ _ _ S _ (fun b hb => sup_ne (nS b hb)) h0, sup_same, fun b hb _ => sup_ne (nS b hb)⟩, fun _ _ _ z => z.2.2.1, fun j d acc S' hd ⟨e1, e2, e3, e4⟩ => ?_, fun acc S' ⟨e1, e2, e3, e4⟩ => ?_⟩
  · obtain ⟨x, hx, rfl⟩ : ∃ x, xs[j]? = some x ∧ en x = d := by
      rw [List.getElem?_map] at hd
      cases q : xs[j]? with
      | none => rw [q] at hd; cases hd
      | some x => rw [q] at hd; exact ⟨x, rfl, Option.some.inj hd⟩
    have hj := (List.getElem?_eq_some_iff.mp hx).1
    refine hg x (List.mem_of_getElem? hx) S' _ ?_
    show te (at1 x) S' _
    refine he j x acc hx (by omega) S' _ (fun b hb nb => e4 b hb nb) e2 fun y S3 j3 s3 => ⟨s3.at e3 (fun z => hL p z np), by omega, by rw [List.length_append, e1]; simp; omega, hJ _ _ S3 _ (fun b hb => sup_ne (nS b hb)) j3, sup_same, fun b hb nb => ?_⟩
    rw [sup_ne (nS b hb), s3 b (by rw [e4 b hb nb]; exact hb) nb, e4 b hb nb]
  · rw [List.length_map] at e1 e2
    rw [Nat.min_self] at e1
    refine h acc _ e1 (hJ _ _ S' _ (fun b hb => ?_) e2) fun b hb nb => ?_
    · unfold sdel; rw [if_neg (nS b hb)]
    · unfold sdel
      rw [if_neg (nS b hb)]
      exact e4 b hb nb
/-- each by itself -/
theorem lc_mapO {α : Type} {g : DG} {is : List Nat} {te : DE} {δ : DSt} {S : Sto} {P : DK} (xs : List α) (en : α → D) (at1 : α → DSt) (f : α → D) (hz : xs.length ≤ sizeLine)
    (hg : ∀ x ∈ xs, ∀ (S2 : Sto) (Q : DSt → Sto → Prop), Q (at1 x) S2 → g (en x) (dwipe δ is) S2 Q)
    (he : ∀ x ∈ xs, ∀ (S2 : Sto) (Q : DK), Step [] S S2 → (∀ S3, Step [] S2 S3 → Q (f x) S3) → te (at1 x) S2 Q)
    (h : ∀ S', Step [] S S' → P (.lst (xs.map f)) S') : lcB g dYes te is δ (xs.map en) S P := by
  refine lc_oldG xs en at1 [] (fun n acc _ => acc = (xs.take n).map f) hz (fun _ _ _ _ _ e => e) (by simp) (by simp) hg (fun n x acc hx hn S2 Q s2 e q => he x (List.mem_of_getElem? hx) S2 Q s2 fun S3 s3 => q _ S3 ?_ s3) fun ys S' hl e s => ?_
  · rw [List.take_add_one, hx, e, List.map_append]; rfl
  · rw [List.take_length] at e; rw [e]; exact h S' s
theorem q_callCB {X : Cx} {P : Program} {w : World} {K : PySem.W.Frag} {mg : Str → Option Value} {base : Heap} {k : Nat} {x : Str} {p pos : Pos} {e : Expr} {es : List Expr} {t : DA} (i : Nat) (e1 : X.prog = P) (e2 : X.w = w) (e3 : X.K = K) (e4 : X.mg = mg) (e5 : X.base = base)
    (hr : Room k X.A) (hgd : X.A.guards = some []) (ha : QA X (e :: es) t) (hN : X.N[i]? = some x := by rfl) (hv : Vis X.env.scope x := by first | exact Or.inl rfl | exact Or.inr (Or.inl rfl) | exact Or.inr (Or.inr rfl))
    (hdb : (x == ("__debug__" : Str)) = false := by decide) (hcd : (x == ("__classdict__" : Str)) = false := by decide)
    (he : starEach (e :: es) X.env = (false, eval e X.env) :: starEach es X.env := by rfl) (hpl : (backTo pos (starEach es X.env)).any (·.1) = false := by rfl) : QE X (.Call (.Name x p) (e :: es) [] pos) (dCallC P w K mg base k i t) := by
  subst e1; subst e2; subst e3; subst e4; subst e5
  exact q_callC i hr hgd ha hN hv hdb hcd he hpl
theorem Step.subS {S0 S S' : Sto} (h : SubS S0 S) (s : Step [] S S') : SubS S0 S' := h.step s
end DL
set_option Elab.async false
set_option linter.all false
set_option maxRecDepth 100000
set_option maxHeartbeats 1000000
namespace DL
open PySem PySem.Spec PyProof.Rows L2 NdefX LamX

/-! ### a def of the top whose code object is known -/
section
variable {P : Program} {w : World} {K : PySem.W.Frag} {mg : Str → Option Value} {base : Heap}
def DefC (K : PySem.W.Frag) (mg : Str → Option Value) (x : Str) (st : Stmt) (ps : List Str) (c : Addr) : Prop := ∃ f, (∃ (oc : Value) (od : Option Addr) (kV doc pm : Value) (an : Option Addr) (ct : Value) (osl : Array (Option Value)),
    K.lookup f = some ⟨oc, od, .func (PySem.W.fnOf x x (defArgs st) (defBody st) (defScope st) .none kV doc pm an (.ref c) ct), osl⟩ ∧ PySem.W.codeIn K (.ref c) x = true ∧ Binds K (PySem.W.fnOf x x (defArgs st) (defBody st) (defScope st) .none kV doc pm an (.ref c) ct) ps []) ∧ PySem.W.keepIn K (.ref f) = true ∧ mg x = some (.ref f)
theorem DefC.has {x : Str} {st : Stmt} {N ps : List Str} {k : Nat} {sp : DSp} {c : Addr} (DD : DefC K mg x st ps c) (S : FnScope N ps (defScope st)) (len : ∀ ds S P, sp ds S P → ds.length = ps.length)
    (hbody : ∀ (f : Addr) (A : Around) (outer : List Env) (s : Shared) (H : Hp), Room k (A.deeper (envOfC x (defScope st) s.heap.objs.size f (.ref c))) → A.guards = some [] →
      ∃ t, QSs (cxOf CX0 P w K mg base N x (defScope st) f (.ref c) A outer s H E0).nox (defBody st) t ∧ ∀ ds S' P', sp ds S' P' → t { nx := fun _ S2 => P' .non S2, rt := P' } (dstart N ds) S') : Has P w K mg base (k + 1) x ps sp := by
  obtain ⟨f, ⟨oc, od, kV, doc, pm, an, ct, osl, lk, hcd, hbi⟩, kp, m⟩ := DD
  refine ⟨f, _, ⟨len, fun A outer s H args us vs Q hr hgd e0 hb r ⟨ds, S', P', rp, sr, hsp, fin⟩ => ?_⟩, hbi, kp, m⟩
  have hl : vs.length = ps.length := by rw [rp.length]; exact len _ _ _ hsp
  have KX : K.In s.heap := e0.mod.kin.keeps fun b o e => (e0.bs b o e).1
  refine codeAny_call_function hr.depth (KX _ _ lk) rfl S.co S.gen rfl (PySem.W.codeRec_of KX hcd) (hb _ _ _ _ ?_)
  refine wpAny_newFunctionEnv_cells S.kind (fun ⟨n, v⟩ hy => ?_) fun env he s1 x => ?_
  · rcases S.par n (List.of_mem_zip hy).1 with q | q
    · exact Or.inl q
    · exact Or.inr ⟨q, PySem.W.cellsFrom_some _ _ _ (Or.inl q)⟩
  subst he
  refine ⟨(e0.mod.nolimit.keeps fun b o e => (e0.bs b o e).1).keeps x.toInCall.keep, codeAny_func ?_⟩
  obtain ⟨t, ht, hq⟩ := hbody f A outer s H (hr.deeper _) hgd
  have I := inv_start (CX := CX0) (E := E0) S hr.hd e0 hl r x
  refine wpAny_mono (ht.nox.run [] s1 (start N vs) H { nx := fun _ H' => Q .non H', rt := Q } I ⟨dstart N ds, S', _, RS.start rp, sr, hq ds S' P' hsp, ⟨fun δ S2 σ H2 p rs sr e => fin _ S2 _ H2 p rfl sr e, fin, fun _ _ _ _ p => p.elim, fun _ _ _ _ p => p.elim⟩⟩) (fun fl s' hs => ?_) fun e s' hs => hs
  cases fl with
  | ret u => obtain ⟨v, σ', H', J, rv, q⟩ := hs; exact ⟨v, H', J.os, J.bare, J.base, J.hok, rv, q⟩
  | next => obtain ⟨σ', H', J, q⟩ := hs; exact ⟨.non, H', J.os, J.bare, J.base, J.hok, rfl, q⟩
  | brk => obtain ⟨_, _, _, q⟩ := hs; exact False.elim q
  | cont => obtain ⟨_, _, _, q⟩ := hs; exact False.elim q
end
end DL
set_option Elab.async false
set_option linter.all false
set_option maxRecDepth 100000
set_option maxHeartbeats 1000000
/-! DE14: a dict that changes: written with three texts for keys, read by a text. -/
namespace DL
open PySem PySem.Spec PyProof.Rows L2
section
variable {X : Cx} {o i : Expr} {to ti t1 t2 t3 : DE} {pos : Pos}
def dGetR (to ti : DE) : DE := fun δ S P => to δ S fun d S1 => ti δ S1 fun k S2 => ∃ a kvs z x, d = .ref a ∧ k = .str z ∧ S2 a = some (.dic kvs) ∧ valD kvs (.inr z) = some x ∧ P x S2
theorem q_dgetR (hu : X.A.units + 1 < cLine) (ho : QE X o to) (hi : QE X i ti) (hs : NoSl i := by intro _ _; rfl) : QE X (.Subscript o i pos) (dGetR to ti) :=
  PE.imp (pe_dget hu ho hi hs) fun σ H Q ⟨δ, S, P, rs, sr, h, fin⟩ => ⟨δ, S, _, rs, sr, h, fun d S1 v H1 h1 r1 s1 e1 => ⟨δ, S1, _, rs.ext e1, s1, h1, fun k S2 u H2 h2 r2 s2 e2 => by
    obtain ⟨a, kvs, z, x, rfl, rfl, hS, hx, h2⟩ := h2
    cases r1
    cases r2
    obtain ⟨ws, hw, rw'⟩ := s2.dic hS
    obtain ⟨y, hy, ry⟩ := rw'.val hx
    exact ⟨a, y, rfl, .inl ⟨ws, .inr _, .inl hw, rfl, hy.symm⟩, fin _ S2 _ H2 h2 ry s2 (e1.trans e2)⟩⟩⟩
theorem e_dgetR {δ : DSt} {S : Sto} {P : DK} : dGetR to ti δ S P = to δ S fun d S1 => ti δ S1 fun k S2 => ∃ a kvs z x, d = .ref a ∧ k = .str z ∧ S2 a = some (.dic kvs) ∧ valD kvs (.inr z) = some x ∧ P x S2 := rfl
def dDicG3 (a b c : Str) (t1 t2 t3 : DE) : DE := fun δ S P => ∀ p, S p = none → t1 δ (sup S p (.dic [])) fun d1 S1 => t2 δ S1 fun d2 S2 => t3 δ S2 fun d3 S3 => S3 p = some (.dic []) ∧ P (.ref p) (sup S3 p (.dic [(.inr a, d1), (.inr b, d2), (.inr c, d3)]))
theorem q_dicG3 {a b c : Str} {j1 j2 j3 : Nat} {p1 p2 p3 : Pos} {e1 e2 e3 : Expr} (h1 : QE X e1 t1) (h2 : QE X e2 t2) (h3 : QE X e3 t3) (hab : a ≠ b := by decide) (hac : a ≠ c := by decide) (hbc : b ≠ c := by decide) :
    QE X (.Dict [some (.Constant (.str a) j1 p1), some (.Constant (.str b) j2 p2), some (.Constant (.str c) j3 p3)] [e1, e2, e3] pos) (dDicG3 a b c t1 t2 t3) :=
  PE.imp (pe_disp (pps_cons pe_str h1 (pps_cons pe_str h2 (pps_cons pe_str h3 pps_nil))) rfl rfl (by simp) (by simp)) fun σ H Q ⟨δ, S, P, rs, sr, h, fin⟩ => fun p np => by
    have x0 : Ext H (upd H p (.dK [])) := .new np
    refine ⟨δ, _, _, rs.ext x0, sr.addK (ds := []) np rfl, h p (sr.none np), fun d1 S1 v1 H1 g1 r1 s1 x1 => ⟨δ, S1, _, rs.ext (x0.trans x1), s1, g1, fun d2 S2 v2 H2 g2 r2 s2 x2 => ⟨δ, S2, _, rs.ext (x0.trans (x1.trans x2)), s2, g2, fun d3 S3 v3 H3 g3 r3 s3 x3 => ?_⟩⟩⟩
    obtain ⟨hp, g3⟩ := g3
    obtain ⟨ws, hw, rw'⟩ := s3.dic hp
    cases rw'
    have m : mergeK [] ([(.inr a, v1), (.inr b, v2), (.inr c, v3)] : List (Key × V)) = [(.inr a, v1), (.inr b, v2), (.inr c, v3)] := by
      have e1 : ¬ (Sum.inr a : Key) = .inr b := fun e => hab (Sum.inr.inj e)
      have e2 : ¬ (Sum.inr a : Key) = .inr c := fun e => hac (Sum.inr.inj e)
      have e3 : ¬ (Sum.inr b : Key) = .inr c := fun e => hbc (Sum.inr.inj e)
      simp [mergeK, putK, e1, e2, e3, hab, hac, hbc]
    refine ⟨hw, [(.inr a, v1), (.inr b, v2), (.inr c, v3)], rfl, by simp, ?_⟩
    rw [m]
    exact fin _ _ _ _ g3 rfl (s3.mutK hp ⟨_, _, rfl, r1.ext (x2.trans x3), _, _, rfl, r2.ext x3, _, _, rfl, r3, rfl⟩) (x0.trans (x1.trans (x2.trans (x3.trans (.mutK hw)))))
theorem e_dicG3 {a b c : Str} {δ : DSt} {S : Sto} {P : DK} : dDicG3 a b c t1 t2 t3 δ S P = ∀ p, S p = none → t1 δ (sup S p (.dic [])) fun d1 S1 => t2 δ S1 fun d2 S2 => t3 δ S2 fun d3 S3 => S3 p = some (.dic []) ∧ P (.ref p) (sup S3 p (.dic [(.inr a, d1), (.inr b, d2), (.inr c, d3)])) := rfl
end
end DL
set_option Elab.async false
set_option linter.all false
set_option maxRecDepth 100000
set_option maxHeartbeats 1000000
namespace K22
open PySem PySem.Spec PyProof.Rows L2 DL
local macro_rules | `(tactic| walk_at "rh_k22a") => `(tactic| simp only [↓DL.e_next, ↓DL.e_seq, ↓DL.e_drop, ↓DL.e_ret, ↓DL.e_retN, ↓DL.e_if, ↓DL.e_cont, ↓DL.e_break, ↓DL.e_set, ↓DL.e_asg, ↓DL.e_par, ↓DL.e_setI, ↓DL.e_for, ↓DL.e_var, ↓DL.e_c, ↓DL.e_op, ↓DL.e_un, ↓DL.e_test, ↓DL.e_chain, ↓DL.e_and, ↓DL.e_or, ↓DL.e_not, ↓DL.e_andV, ↓DL.e_orV, ↓DL.e_notV, ↓DL.e_ife, ↓DL.e_nil, ↓DL.e_cons, ↓DL.e_tup, ↓DL.e_lst, ↓DL.e_lstM, ↓DL.e_noPart, ↓DL.e_part, ↓DL.e_sl, ↓DL.e_cb, ↓DL.e_mtL, ↓DL.e_mt0, ↓DL.e_mtS, ↓DL.e_mtS0, ↓DL.e_tru, ↓DL.e_lc, ↓DL.e_itS, ↓DL.e_itStr, ↓DL.e_rng1, ↓DL.e_rev, ↓DL.e_dic0, ↓DL.e_dic1, ↓DL.e_s0, ↓DL.e_s1, ↓DL.e_ct, ↓DL.e_cf, dstart, slot, gN, ↓asB_bl, ↓asI_int, ↓asS_str, cond_true, cond_false, List.map_cons, List.map_nil, List.length_cons, List.length_nil, List.set_cons_zero, List.set_cons_succ, Option.elim_some, Option.elim_none, List.cons_append, List.nil_append, List.replicate, Nat.sub_self, Nat.reduceSub, Nat.reduceAdd, Bool.not_true, Bool.not_false, setAll, Int.cast_ofNat_Int, Int.reduceLT, Int.reduceLE, Int.reduceBEq, Nat.reduceBEq, decide_true, decide_false, ↓DL.pred_s, ↓DL.len_str, ↓DL.len_tup, ↓DL.len_lst, ↓DL.le_ii, ↓DL.le_ss, ↓DL.cmp_ii, ↓DL.add_ii, ↓DL.add_ib, ↓DL.add_bi, ↓DL.add_ss, ↓DL.add_tt, ↓DL.add_ll, ↓DL.sub_ii, ↓DL.sub_ib, ↓DL.sub_bi, ↓DL.mul_ii, ↓DL.ii_ii, ↓DL.neg_i, ↓DL.is_bb, ↓DL.isn_bb, ↓DL.all_b, ↓DL.all_map, ↓DL.sum_i, ↓DL.eq_ii, ↓DL.eq_bi, ↓DL.eq_t0, ↓DL.eq_l0, ↓DL.ne_ss, ↓DL.ne_ii, ↓DL.ne_t0, ↓DL.ne_l0, ↓DL.ix_tup, ↓DL.ix_lst, ↓DL.ix_str, ↓DL.in_c, ↓DL.nin_c, ↓DL.sl_str, ↓DL.sl_tup, ↓DL.sl_lst, ↓DL.app_1, ↓DL.pop_0, ↓DL.ext_t, ↓DL.tuple_l, ↓DL.list_t, ↓DL.list_l, ↓DL.int_b, ↓DL.int_i, ↓DL.min_ii, ↓DL.str_i, ↓DL.str_b, ↓DL.repr_1, ↓DL.back_t, ↓DL.tru_l, ↓DL.at0, ↓DL.at1, ↓DL.at2, ↓DL.at3, ↓DL.e_callE, ↓DL.e_getOr, ↓DL.e_dicI3, ↓DL.e_lcM, ↓DL.e_lstRg, ↓DL.e_enT, ↓DL.e_enL, ↓DL.e_lenset, ↓DL.e_fs, ↓DL.e_callL, ↓DL.e_never, ↓DL.e_dicM, ↓DL.e_dicS, ↓DL.e_dget, ↓DL.e_dput, ↓DL.e_forK, ↓DL.e_isN, ↓DL.e_revI, ↓DL.e_varF, ↓DL.fs_s, ↓DL.fs_i, ↓DL.get_d, ↓DL.rev_t, ↓DL.int_e, DL.isNon, ↓DL.e_callC, ↓DL.e_callFz, ↓DL.e_ndef, ↓DL.e_lam, ↓DL.e_no, ↓DL.e_lrevM, ↓DL.e_lrev, ↓DL.e_frzE, DL.nstart, ↓DL.e_dgetR, ↓DL.e_dicG3])
local macro_rules | `(tactic| walk_at "rd_k22a") => `(tactic| simp only [dNext, dSeq, dDrop, dRet, dRetN, dIfS, dCont, dBreak, dSet, dAsg, dPar, dSetI, dFor, dVar, dC, dOp, dUn, dTest, dChain, dAnd, dOr, dNot, dAndV, dOrV, dNotV, dIf, dNil, dCons, dTup, dLst, dLstM, dNoPart, dPart, dSl, dCB, dMtL, dMt0, dMtS, dMtS0, dTru, dLc, dItS, dItStr, dRng1, dRng2, dRev, dRevM, dDic0, dstart, slot, asB_bl, asI_int, asS_str, cond_true, cond_false, List.map_cons, List.map_nil, List.length_cons, List.length_nil, List.set_cons_zero, List.set_cons_succ, Option.elim_some, Option.elim_none, List.cons_append, List.nil_append, List.replicate, Nat.sub_self, Nat.reduceSub, Nat.reduceAdd, Bool.not_true, Bool.not_false, setAll, Int.cast_ofNat_Int, Nat.zero_add, Int.reduceLT, Int.reduceLE, Int.reduceBEq, Nat.reduceBEq, decide_true, decide_false, DL.pred_s, DL.len_str, DL.len_tup, DL.len_lst, DL.le_ii, DL.le_ss, DL.cmp_ii, DL.add_ii, DL.add_ib, DL.add_bi, DL.add_ss, DL.add_tt, DL.add_ll, DL.sub_ii, DL.sub_ib, DL.sub_bi, DL.mul_ii, DL.ii_ii, DL.neg_i, DL.is_bb, DL.isn_bb, DL.all_b, DL.all_map, DL.sum_i, DL.eq_ii, DL.eq_bi, DL.eq_t0, DL.eq_l0, DL.ne_ss, DL.ne_ii, DL.ne_t0, DL.ne_l0, DL.ix_tup, DL.ix_lst, DL.ix_str, DL.in_c, DL.nin_c, DL.sl_str, DL.sl_tup, DL.sl_lst, DL.app_1, DL.pop_0, DL.ext_t, DL.tuple_l, DL.list_t, DL.list_l, DL.int_b, DL.int_i, DL.min_ii, DL.str_i, DL.str_b, DL.repr_1, DL.back_t, DL.tru_l, DL.at0, DL.at1, DL.at2, DL.at3])
def top (i : Nat) : Stmt := PySem.Challenge.pw_kindsbyworth_k22_lifted_and_filled.main.body.getD i (.Pass ⟨0, 0, 0, 0⟩)
abbrev co_SAFE_DEPTH : D := .int 40
theorem small1 {n : Nat} (h : n ≤ 1000) : n ≤ sizeLine := Nat.le_of_lt (small1000 h)
theorem mem_tfg {w : Str} (h : w ∈ tfg) : w = "to" ∨ w = "fun" ∨ w = "give" := by simpa [tfg] using h
theorem mem_fc {w : Str} (h : w ∈ fc) : w = "family" ∨ w = "call" := by simpa [fc] using h
/-- the parts -/
def kids : Tm → List Tm
  | .bin _ _ a b => [a, b]
  | .app _ _ ts => ts
  | .shp _ _ ts => ts
  | _ => []
def reKids : Tm → List Tm → Tm
  | .bin w m _ _, [a, b] => .bin w m a b
  | .app w n _, ts => .app w n ts
  | .shp n s _, ts => .shp n s ts
  | t, _ => t
/-- what a made function tells of a number and the bodies above it -/
def spC (g : Str → Nat → Tm) : DSp := fun ds S P => ∃ (z : Str) (b : Nat), ds = [.str z, .int (b : Nat)] ∧ nice z = true ∧ b ≤ 40 ∧ ∀ S', Step [] S S' → P (enc (g z b)) S'
section
variable {P : Program} {w : World} {K : PySem.W.Frag} {mg : Str → Option Value} {base : Heap}

abbrev st_parts_of : Stmt := top 2
theorem sc_parts_of : FnScope ["term", "many"] ["term"] (defScope st_parts_of) := ⟨rfl, rfl, rfl, by decide +kernel, rfl, by decide +kernel, by decide +kernel⟩
def sp_parts_of : DSp := fun ds S P => ∃ t, ds = [enc t] ∧ okT t = true ∧ P (.tup (encs (kids t))) S
theorem len_parts_of {ds : List D} {S : Sto} {P : DK} (h : sp_parts_of ds S P) : ds.length = 1 := by obtain ⟨d, rfl, _⟩ := h; rfl
theorem ok_parts_of {k : Nat}  (DD : Def K mg "parts_of" st_parts_of ["term"]) (m_len : mg "len" = none) : Has P w K mg base (k + 1) "parts_of" ["term"] (sp_parts_of) := by
  refine DD.has sc_parts_of (fun ds S P h => len_parts_of h) (fun f cdv A outer s H hr hgd => ⟨_, (ss_cons (s_set 1 sc_parts_of.nd (q_callB (c_len) rfl m_len PySem.boot_len (a_cons (q_var 0) a_nil)))
      (ss_cons (s_if (t_cmp (op_eqD (DL.Room.un1 hr)) (q_var 1) q_int) (ss_one (s_ret (q_tup a_nil))) ss_nil)
      (ss_cons (s_if (t_cmp (op_eqD (DL.Room.un1 hr)) (q_var 1) q_int) (ss_one (s_ret (q_ix ix_D (q_var 0) q_int))) ss_nil)
      (ss_one (s_ret (q_ifExp (t_cmp (op_eqD (DL.Room.un1 hr)) (q_ix ix_D (q_var 0) q_int) q_str) (q_ix ix_D (q_var 0) q_int) (q_slice sl_D (q_var 0) (o_some q_int) o_none))))))), fun ds S P h => ?_⟩)
  obtain ⟨t, rfl, ok, h⟩ := h
  cases t with
  | «at» k => simp only [enc]; walk_at "rd_k22a"; exact ⟨Nat.zero_le _, by simpa only [kids, encs] using h⟩
  | world k => simp only [enc]; walk_at "rd_k22a"; exact ⟨Nat.zero_le _, by simpa only [kids, encs] using h⟩
  | hole z => simp only [enc]; walk_at "rd_k22a"; exact ⟨Nat.zero_le _, by simpa only [kids, encs] using h⟩
  | bin w m a b =>
    simp only [okT, Bool.and_eq_true, decide_eq_true_eq] at ok
    simp only [enc]
    walk_at "rd_k22a"
    rw [DL.eq_str' rfl]
    have e : DL.eqT (.str w) "shape" = false := by rcases mem_tfg ok.1.1.1 with rfl | rfl | rfl <;> decide
    rw [e]
    walk_at "rd_k22a"
    simp only [kids, encs] at h
    exact h
  | app w n ts =>
    simp only [enc]
    walk_at "rd_k22a"
    simpa only [kids] using h
  | shp n s ts =>
    simp only [enc]
    walk_at "rd_k22a"
    rw [DL.eq_str' rfl]
    have e : DL.eqT (.str (Str.ofString "shape")) "shape" = true := by decide
    rw [e]
    walk_at "rd_k22a"
    simpa only [kids] using h
abbrev st_with_parts : Stmt := top 3
theorem sc_with_parts : FnScope ["term", "parts", "many"] ["term", "parts"] (defScope st_with_parts) := ⟨rfl, rfl, rfl, by decide +kernel, rfl, by decide +kernel, by decide +kernel⟩
def sp_with_parts : DSp := fun ds S P => ∃ t ts, ds = [enc t, .tup (encs ts)] ∧ okT t = true ∧ ts.length = (kids t).length ∧ kids t ≠ [] ∧ P (enc (reKids t ts)) S
theorem len_with_parts {ds : List D} {S : Sto} {P : DK} (h : sp_with_parts ds S P) : ds.length = 2 := by obtain ⟨d, _, rfl, _⟩ := h; rfl
theorem ok_with_parts {k : Nat}  (DD : Def K mg "with_parts" st_with_parts ["term", "parts"]) (m_len : mg "len" = none) : Has P w K mg base (k + 1) "with_parts" ["term", "parts"] (sp_with_parts) := by
  refine DD.has sc_with_parts (fun ds S P h => len_with_parts h) (fun f cdv A outer s H hr hgd => ⟨_, (ss_cons (s_set 2 sc_with_parts.nd (q_callB (c_len) rfl m_len PySem.boot_len (a_cons (q_var 0) a_nil)))
      (ss_cons (s_if (t_cmp (op_eqD (DL.Room.un1 hr)) (q_var 2) q_int) (ss_one (s_ret (q_var 0))) ss_nil)
      (ss_cons (s_if (t_cmp (op_eqD (DL.Room.un1 hr)) (q_var 2) q_int) (ss_one (s_ret (q_tup (a_cons (q_ix ix_D (q_var 0) q_int) (a_cons (q_ix ix_D (q_var 0) q_int) (a_cons (q_var 1) a_nil)))))) ss_nil)
      (ss_cons (s_if (t_cmp (op_eqD (DL.Room.un1 hr)) (q_ix ix_D (q_var 0) q_int) q_str) (ss_one (s_ret (q_tup (a_cons (q_ix ix_D (q_var 0) q_int) (a_cons (q_ix ix_D (q_var 0) q_int) (a_cons (q_ix ix_D (q_var 0) q_int) (a_cons (q_var 1) a_nil))))))) ss_nil)
      (ss_one (s_ret (q_op op_addD (q_slice sl_D (q_var 0) o_none (o_some q_int)) (q_var 1)))))))), fun ds S P h => ?_⟩)
  obtain ⟨t, ts, rfl, ok, hl, hk, h⟩ := h
  have l8 : 8 ≤ sizeLine := small1 (by decide)
  cases t with
  | «at» k => exact absurd rfl hk
  | world k => exact absurd rfl hk
  | hole z => exact absurd rfl hk
  | bin w m a b =>
    simp only [okT, Bool.and_eq_true, decide_eq_true_eq] at ok
    obtain ⟨x, y, rfl⟩ : ∃ x y, ts = [x, y] := by
      match ts, hl with
      | [x, y], _ => exact ⟨x, y, rfl⟩
    simp only [enc, encs]
    walk_at "rd_k22a"
    rw [DL.eq_str' rfl]
    have e : DL.eqT (.str w) "shape" = false := by rcases mem_tfg ok.1.1.1 with rfl | rfl | rfl <;> decide
    rw [e]
    walk_at "rd_k22a"
    simp only [reKids, enc] at h
    exact ⟨by show 4 ≤ sizeLine; omega, h⟩
  | app w n us =>
    simp only [enc]
    walk_at "rd_k22a"
    refine ⟨by show 3 ≤ sizeLine; omega, ?_⟩
    simpa only [reKids, enc] using h
  | shp n s us =>
    simp only [enc]
    walk_at "rd_k22a"
    rw [DL.eq_str' rfl]
    have e : DL.eqT (.str (Str.ofString "shape")) "shape" = true := by decide
    rw [e]
    walk_at "rd_k22a"
    refine ⟨by show 4 ≤ sizeLine; omega, ?_⟩
    simpa only [reKids, enc] using h
abbrev st_leaves_changed : Stmt := top 6
theorem sc_leaves_changed : FnScope ["term", "leaf", "changed", "bodies", "left", "word", "kind", "parts", "part"] ["term", "leaf", "changed", "bodies", "left"] (defScope st_leaves_changed) := ⟨rfl, rfl, rfl, by decide +kernel, rfl, by decide +kernel, by decide +kernel⟩
def sp_lc (P : Program) (w : World) (K : PySem.W.Frag) (mg : Str → Option Value) (base : Heap) (kc n : Nat) : DSp := fun ds S P' => ∃ (t : Tm) (f : Addr) (S0 : Sto) (g : Str → Nat → Tm) (b left : Nat), ds = [enc t, .str "hole", .ref f, .int (b : Nat), .int (left : Nat)] ∧ dpT t ≤ left ∧ dpT t < n ∧ okT t = true ∧ b + dpT t ≤ 40 ∧
  CallsD P w K mg base kc f 2 S0 (spC g) ∧ SubS S0 S ∧ ∀ S', Step [] S S' → P' (enc (mapH g b t)) S'
theorem len_leaves_changed {n kc : Nat} {ds : List D} {S : Sto} {P' : DK} (h : sp_lc P w K mg base kc n ds S P') : ds.length = 5 := by obtain ⟨_, _, _, _, _, _, rfl, _⟩ := h; rfl
theorem lc_kids {n kc : Nat} {ts : List Tm} {f0 : Addr} {S0 S : Sto} {g : Str → Nat → Tm} {b left : Nat} {d0 d5 : D} {x6 x7 : Option D} {Q : DK} (hl : ts.length ≤ 100) (hd : dpTs ts + 1 ≤ left) (hn : dpTs ts < n) (ok : okTs ts = true) (hb : b + dpTs ts ≤ 40) (C : CallsD P w K mg base kc f0 2 S0 (spC g)) (sub : SubS S0 S)
    (h : ∀ S', Step [] S S' → Q (.lst (encs (mapHs g b ts))) S') :
    lcB (gN 8) dYes (dCB (sp_lc P w K mg base kc n) (dCons (dVar 8) (dCons (dVar 1) (dCons (dVar 2) (dCons (dVar 3) (dCons (dOp subD (dVar 4) (dC (D.int 1))) dNil)))))) [8]
      [some d0, some (.str "hole"), some (.ref f0), some (.int (b : Nat)), some (.int (left : Nat)), some d5, x6, x7, none] (encs ts) S Q := by
  have left1 : ((left : Nat) : Int) - 1 = ((left - 1 : Nat) : Int) := by omega
  refine lc_old [] (fun i acc _ => acc = encs (mapHs g b (ts.take i))) (by rw [encs_len]; exact small1 (by omega)) (fun _ _ _ _ _ e => e) (by simp) (by simp [mapHs, encs]) (fun i d acc hd2 hi S2 Q2 s2 e q => ?_) fun ys S' hl2 e s => ?_
  · rw [encs_map, List.getElem?_map] at hd2
    cases ht : ts[i]? with
    | none => rw [ht] at hd2; cases hd2
    | some t =>
      rw [ht] at hd2
      cases hd2
      have hm := List.mem_of_getElem? ht
      have h1 := dpTs_mem t hm
      walk_at "rh_k22a"
      refine ⟨t, f0, S0, g, b, left - 1, by rw [left1], by omega, by omega, okTs_mem ok t hm, by omega, C, sub.step s2, fun S3 s3 => q _ S3 ?_ s3⟩
      rw [List.take_add_one, ht, mapHs_map, List.map_append, encs_app, e, mapHs_map]
      simp only [Option.toList, List.map_cons, List.map_nil, encs]
  · rw [encs_len, List.take_length] at e
    rw [e]
    exact h S' s
theorem ok_leaves_changed {k : Nat} {n kc:Nat} (DD : Def K mg "leaves_changed" st_leaves_changed ["term", "leaf", "changed", "bodies", "left"]) (G_with_parts : Has P w K mg base (kc) "with_parts" ["term", "parts"] (sp_with_parts)) (G_leaves_changed : Has P w K mg base (kc + n + 1) "leaves_changed" ["term", "leaf", "changed", "bodies", "left"] (sp_lc P w K mg base kc n)) (G_parts_of : Has P w K mg base (kc) "parts_of" ["term"] (sp_parts_of)) (m_tuple : mg "tuple" = none) (m_len : mg "len" = none) : Has P w K mg base (kc + n + 1 + 1) "leaves_changed" ["term", "leaf", "changed", "bodies", "left"] (sp_lc P w K mg base kc (n + 1)) := by
  refine DD.has sc_leaves_changed (fun ds S P h => len_leaves_changed h) (fun f cdv A outer s H hr hgd => ⟨_, (ss_cons (s_set 5 sc_leaves_changed.nd (q_ix ix_D (q_var 0) q_int))
      (ss_cons (s_if (t_cmp (op_eqD (DL.Room.un1 hr)) (q_var 5) (q_var 1)) (ss_one (s_ret (q_callCB (P := P) (w := w) (K := K) (mg := mg) (base := base) (k := kc) 2 rfl rfl rfl rfl rfl (hr.mono (by omega)) hgd (a_cons (q_ix ix_D (q_var 0) q_int) (a_cons (q_var 3) a_nil))))) ss_nil)
      (ss_cons (s_if (t_cmp (op_eqD (DL.Room.un1 hr)) (q_callB (c_len) rfl m_len PySem.boot_len (a_cons (q_var 0) a_nil)) q_int) (ss_one (s_ret (q_var 0))) ss_nil)
      (ss_cons (s_if (t_cmp (op_eqD (DL.Room.un1 hr)) (q_var 4) q_int) (ss_one (s_ret q_no)) ss_nil)
      (ss_cons (s_if (t_w (w_or (t_cmp (op_eqD (DL.Room.un1 hr)) (q_var 5) q_str) (w_or1 (t_cmp (op_eqD (DL.Room.un1 hr)) (q_var 5) q_str)))) (ss_cons (s_set 6 sc_leaves_changed.nd (q_def G_leaves_changed (hr.mono (by omega)) hgd (a_cons (q_ix ix_D (q_var 0) q_int) (a_cons (q_var 1) (a_cons (q_var 2) (a_cons (q_var 3) (a_cons (q_op op_subD (q_var 4) q_int) a_nil)))))))
      (ss_one (s_ret (q_tup (a_cons (q_var 5) (a_cons (q_ix ix_D (q_var 0) q_int) (a_cons (q_var 6) (a_cons (q_def G_leaves_changed (hr.mono (by omega)) hgd (a_cons (q_ix ix_D (q_var 0) q_int) (a_cons (q_var 1) (a_cons (q_var 2) (a_cons (q_op op_addD (q_var 3) q_int) (a_cons (q_op op_subD (q_var 4) q_int) a_nil)))))) a_nil)))))))) ss_nil)
      (ss_cons (s_set 7 sc_leaves_changed.nd (q_def G_parts_of (hr.mono (by omega)) hgd (a_cons (q_var 0) a_nil)))
      (ss_cons (s_if (t_not (t_tru (q_var 7))) (ss_one (s_ret (q_var 0))) ss_nil)
      (ss_one (s_ret (q_def G_with_parts (hr.mono (by omega)) hgd (a_cons (q_var 0) (a_cons (q_callTy (c_tuple) rfl m_tuple DL.bt_tuple (a_cons (q_lc (own := [("part", 8)]) (is := [8]) rfl lcg_name rfl sc_leaves_changed.nd (i_seq (q_var 7)) (blkOk_by (own := [("part", 8)]) (N := ["term", "leaf", "changed", "bodies", "left", "word", "kind", "parts", "part"]) (sc := defScope st_leaves_changed) (by decide +kernel)) (fun _ _ _ _ _ => pg_name (i := 8) sc_leaves_changed.nd rfl (Or.inl rfl)) (fun _ _ _ _ _ => ts_nil) (fun _ _ _ _ _ => (q_def G_leaves_changed (hr.mono (by omega)) hgd (a_cons (q_var 8) (a_cons (q_var 1) (a_cons (q_var 2) (a_cons (q_var 3) (a_cons (q_op op_subD (q_var 4) q_int) a_nil)))))))) a_nil)) a_nil)))))))))))), fun ds S P h => ?_⟩)
  obtain ⟨t, f0, S0, g, b, left, rfl, hd, hn, ok, hb, C, sub, h⟩ := h
  have l8 : 8 ≤ sizeLine := small1 (by decide)
  cases t with
  | «at» k =>
    simp only [enc]
    walk_at "rh_k22a"
    rw [DL.eq_str' rfl, show DL.eqT (.str (Str.ofString "at")) "hole" = false by decide]
    walk_at "rh_k22a"
    have := h S (.refl S)
    simpa only [mapH, enc] using this
  | world k =>
    simp only [enc]
    walk_at "rh_k22a"
    rw [DL.eq_str' rfl, show DL.eqT (.str (Str.ofString "world")) "hole" = false by decide]
    walk_at "rh_k22a"
    have := h S (.refl S)
    simpa only [mapH, enc] using this
  | hole z =>
    simp only [okT] at ok
    simp only [dpT] at hb
    simp only [enc]
    walk_at "rh_k22a"
    rw [DL.eq_str' rfl, show DL.eqT (.str (Str.ofString "hole")) "hole" = true by decide]
    walk_at "rh_k22a"
    refine ⟨f0, 2, S0, spC g, rfl, C, sub, sub, z, b, rfl, ok, by omega, fun S' s => ?_⟩
    simpa only [mapH] using h S' s
  | bin w m x y =>
    simp only [okT, Bool.and_eq_true, decide_eq_true_eq] at ok
    obtain ⟨⟨⟨hw, hm⟩, okx⟩, oky⟩ := ok
    simp only [dpT] at hd hn hb
    have e0 : DL.eqT (.str w) "hole" = false := by rcases mem_tfg hw with rfl | rfl | rfl <;> decide
    have left1 : ((left : Nat) : Int) - 1 = ((left - 1 : Nat) : Int) := by omega
    have hl0 : (((left : Nat) : Int) == 0) = false := by simp; omega
    simp only [enc]
    walk_at "rh_k22a"
    rw [DL.eq_str' rfl, e0]
    walk_at "rh_k22a"
    rw [hl0]
    walk_at "rh_k22a"
    rcases mem_tfg hw with rfl | rfl | rfl
    · rw [DL.eq_str' rfl, show DL.eqT (.str (Str.ofString "to")) (Str.ofString "to") = true by decide]
      walk_at "rh_k22a"
      refine ⟨x, f0, S0, g, b, left - 1, by rw [left1], by omega, by omega, okx, by omega, C, sub, fun S1 s1 => ⟨y, f0, S0, g, b + 1, left - 1, by rw [left1]; rfl, by omega, by omega, oky, by omega, C, sub.step s1, fun S2 s2 => ⟨by omega, ?_⟩⟩⟩
      have := h S2 (s1.trans s2)
      simp only [mapH, enc] at this
      exact this
    · rw [DL.eq_str' rfl, show DL.eqT (.str (Str.ofString "fun")) (Str.ofString "to") = false by decide]
      walk_at "rh_k22a"
      rw [DL.eq_str' rfl, show DL.eqT (.str (Str.ofString "fun")) (Str.ofString "fun") = true by decide]
      walk_at "rh_k22a"
      refine ⟨x, f0, S0, g, b, left - 1, by rw [left1], by omega, by omega, okx, by omega, C, sub, fun S1 s1 => ⟨y, f0, S0, g, b + 1, left - 1, by rw [left1]; rfl, by omega, by omega, oky, by omega, C, sub.step s1, fun S2 s2 => ⟨by omega, ?_⟩⟩⟩
      have := h S2 (s1.trans s2)
      simp only [mapH, enc] at this
      exact this
    · rw [DL.eq_str' rfl, show DL.eqT (.str (Str.ofString "give")) (Str.ofString "to") = false by decide]
      walk_at "rh_k22a"
      rw [DL.eq_str' rfl, show DL.eqT (.str (Str.ofString "give")) (Str.ofString "fun") = false by decide]
      walk_at "rh_k22a"
      refine ⟨.bin "give" m x y, by simp only [enc], by simp only [okT, Bool.and_eq_true, decide_eq_true_eq]; exact ⟨⟨⟨hw, hm⟩, okx⟩, oky⟩, ?_⟩
      simp only [kids]
      rw [show truB S (.tup (encs [x, y])) = some true from rfl]
      walk_at "rh_k22a"
      refine lc_kids (ts := [x, y]) (by simp) (by simp only [dpTs]; omega) (by simp only [dpTs]; omega) (by simp only [okTs, okx, oky]; rfl) (by simp only [dpTs]; omega) C sub fun S1 s1 => ?_
      refine ⟨.bin "give" m x y, mapHs g b [x, y], by simp only [enc], by simp only [okT, Bool.and_eq_true, decide_eq_true_eq]; exact ⟨⟨⟨hw, hm⟩, okx⟩, oky⟩, by rw [mapHs_len]; rfl, by simp [kids], ?_⟩
      have := h S1 s1
      simp only [mapH] at this
      simp only [mapHs, reKids]
      exact this
  | app w m ts =>
    simp only [okT, Bool.and_eq_true, decide_eq_true_eq] at ok
    obtain ⟨⟨⟨hw, hm⟩, hl⟩, okx⟩ := ok
    simp only [dpT] at hd hn hb
    have e0 : DL.eqT (.str w) "hole" = false := by rcases mem_fc hw with rfl | rfl <;> decide
    have e1 : DL.eqT (.str w) "to" = false := by rcases mem_fc hw with rfl | rfl <;> decide
    have e2 : DL.eqT (.str w) "fun" = false := by rcases mem_fc hw with rfl | rfl <;> decide
    have hl0 : (((left : Nat) : Int) == 0) = false := by simp; omega
    have hok : okT (.app w m ts) = true := by simp only [okT, Bool.and_eq_true, decide_eq_true_eq]; exact ⟨⟨⟨hw, hm⟩, hl⟩, okx⟩
    simp only [enc]
    walk_at "rh_k22a"
    rw [DL.eq_str' rfl, e0]
    walk_at "rh_k22a"
    rw [hl0]
    walk_at "rh_k22a"
    rw [DL.eq_str' rfl, e1]
    walk_at "rh_k22a"
    rw [DL.eq_str' rfl, e2]
    walk_at "rh_k22a"
    refine ⟨.app w m ts, by simp only [enc], hok, ?_⟩
    simp only [kids]
    cases hts : ts with
    | nil =>
      subst hts
      rw [show truB S (.tup (encs [])) = some false from rfl]
      walk_at "rh_k22a"
      have := h S (.refl S)
      simp only [mapH, mapHs, enc] at this
      exact this
    | cons t0 r0 =>
      rw [← hts]
      rw [show truB S (.tup (encs ts)) = some true by rw [hts]; rfl]
      walk_at "rh_k22a"
      refine lc_kids (ts := ts) (by omega) (by omega) (by omega) okx (by omega) C sub fun S1 s1 => ?_
      refine ⟨.app w m ts, mapHs g b ts, by simp only [enc], hok, by rw [mapHs_len]; rfl, by simp [kids, hts], ?_⟩
      have := h S1 s1
      simp only [mapH] at this
      simp only [reKids]
      exact this
  | shp m z ts =>
    simp only [okT, Bool.and_eq_true, decide_eq_true_eq] at ok
    obtain ⟨⟨⟨hm, hz⟩, hl⟩, okx⟩ := ok
    simp only [dpT] at hd hn hb
    have hl0 : (((left : Nat) : Int) == 0) = false := by simp; omega
    have hok : okT (.shp m z ts) = true := by simp only [okT, Bool.and_eq_true, decide_eq_true_eq]; exact ⟨⟨⟨hm, hz⟩, hl⟩, okx⟩
    simp only [enc]
    walk_at "rh_k22a"
    rw [DL.eq_str' rfl, show DL.eqT (.str (Str.ofString "shape")) (Str.ofString "hole") = false by decide]
    walk_at "rh_k22a"
    rw [hl0]
    walk_at "rh_k22a"
    rw [DL.eq_str' rfl, show DL.eqT (.str (Str.ofString "shape")) (Str.ofString "to") = false by decide]
    walk_at "rh_k22a"
    rw [DL.eq_str' rfl, show DL.eqT (.str (Str.ofString "shape")) (Str.ofString "fun") = false by decide]
    walk_at "rh_k22a"
    refine ⟨.shp m z ts, by simp only [enc], hok, ?_⟩
    simp only [kids]
    cases hts : ts with
    | nil =>
      subst hts
      rw [show truB S (.tup (encs [])) = some false from rfl]
      walk_at "rh_k22a"
      have := h S (.refl S)
      simp only [mapH, mapHs, enc] at this
      exact this
    | cons t0 r0 =>
      rw [← hts]
      rw [show truB S (.tup (encs ts)) = some true by rw [hts]; rfl]
      walk_at "rh_k22a"
      refine lc_kids (ts := ts) (by omega) (by omega) (by omega) okx (by omega) C sub fun S1 s1 => ?_
      refine ⟨.shp m z ts, mapHs g b ts, by simp only [enc], hok, by rw [mapHs_len]; rfl, by simp [kids, hts], ?_⟩
      have := h S1 s1
      simp only [mapH] at this
      simp only [reKids]
      exact this
abbrev st_with_holes : Stmt := top 7
theorem sc_with_holes : FnScope ["term", "changed"] ["term", "changed"] (defScope st_with_holes) := ⟨rfl, rfl, rfl, by decide +kernel, rfl, by decide +kernel, by decide +kernel⟩
def sp_wa (P : Program) (w : World) (K : PySem.W.Frag) (mg : Str → Option Value) (base : Heap) (kc : Nat) : DSp := fun ds S P' => ∃ (t : Tm) (f : Addr) (S0 : Sto) (g : Str → Nat → Tm), ds = [enc t, .ref f] ∧ dpT t ≤ 40 ∧ okT t = true ∧
  CallsD P w K mg base kc f 2 S0 (spC g) ∧ SubS S0 S ∧ ∀ S', Step [] S S' → P' (enc (mapH g 0 t)) S'
theorem len_with_holes {kc : Nat} {ds : List D} {S : Sto} {P' : DK} (h : sp_wa P w K mg base kc ds S P') : ds.length = 2 := by obtain ⟨_, _, _, _, rfl, _⟩ := h; rfl
theorem ok_with_holes {k : Nat} {kc:Nat} (DD : Def K mg "with_holes" st_with_holes ["term", "changed"]) (G_leaves_changed : Has P w K mg base (kc+41+1) "leaves_changed" ["term", "leaf", "changed", "bodies", "left"] (sp_lc P w K mg base kc 41)) (C_SAFE_DEPTH : Con K mg "SAFE_DEPTH" co_SAFE_DEPTH) : Has P w K mg base (kc+42 + 1) "with_holes" ["term", "changed"] (sp_wa P w K mg base kc) := by
  refine DD.has sc_with_holes (fun ds S P h => len_with_holes h) (fun f cdv A outer s H hr hgd => ⟨_, (ss_one (s_ret (q_def G_leaves_changed (hr.mono (by omega)) hgd (a_cons (q_var 0) (a_cons q_str (a_cons (q_var 1) (a_cons q_int (a_cons (q_con C_SAFE_DEPTH) a_nil)))))))), fun ds S P h => ?_⟩)
  obtain ⟨t, f0, S0, g, rfl, hd, ok, C, sub, h⟩ := h
  walk_at "rh_k22a"
  exact ⟨t, f0, S0, g, 0, 40, rfl, by omega, by omega, ok, by omega, C, sub, fun S1 s1 => h S1 s1⟩
theorem len_spC {g : Str → Nat → Tm} {ds : List D} {S : Sto} {P' : DK} (h : spC g ds S P') : ds.length = 2 := by obtain ⟨_, _, rfl, _⟩ := h; rfl
theorem spC_of {k : Nat} {f : Addr} {S0 : Sto} {as : List Addr} {g : Str → Nat → Tm} (h : CallsD P w K mg base k f 2 S0 (spBack as (spC g))) : CallsD P w K mg base k f 2 S0 (spC g) := by
  refine h.imp (fun ds S P' _ q => ?_) fun ds S P' q => len_spC q
  obtain ⟨z, b, rfl, nz, hb, q⟩ := q
  exact ⟨z, b, rfl, nz, hb, fun S' s => q _ (clo_step s)⟩
end
end K22
set_option Elab.async false
set_option linter.all false
set_option maxRecDepth 100000
set_option maxHeartbeats 1000000
namespace K22
open PySem PySem.Spec PyProof.Rows L2 DL
local macro_rules | `(tactic| walk_at "rh_k22b") => `(tactic| simp only [↓DL.e_next, ↓DL.e_seq, ↓DL.e_drop, ↓DL.e_ret, ↓DL.e_retN, ↓DL.e_if, ↓DL.e_cont, ↓DL.e_break, ↓DL.e_set, ↓DL.e_asg, ↓DL.e_par, ↓DL.e_setI, ↓DL.e_for, ↓DL.e_var, ↓DL.e_c, ↓DL.e_op, ↓DL.e_un, ↓DL.e_test, ↓DL.e_chain, ↓DL.e_and, ↓DL.e_or, ↓DL.e_not, ↓DL.e_andV, ↓DL.e_orV, ↓DL.e_notV, ↓DL.e_ife, ↓DL.e_nil, ↓DL.e_cons, ↓DL.e_tup, ↓DL.e_lst, ↓DL.e_lstM, ↓DL.e_noPart, ↓DL.e_part, ↓DL.e_sl, ↓DL.e_cb, ↓DL.e_mtL, ↓DL.e_mt0, ↓DL.e_mtS, ↓DL.e_mtS0, ↓DL.e_tru, ↓DL.e_lc, ↓DL.e_itS, ↓DL.e_itStr, ↓DL.e_rng1, ↓DL.e_rev, ↓DL.e_dic0, ↓DL.e_dic1, ↓DL.e_s0, ↓DL.e_s1, ↓DL.e_ct, ↓DL.e_cf, dstart, slot, gN, ↓asB_bl, ↓asI_int, ↓asS_str, cond_true, cond_false, List.map_cons, List.map_nil, List.length_cons, List.length_nil, List.set_cons_zero, List.set_cons_succ, Option.elim_some, Option.elim_none, List.cons_append, List.nil_append, List.replicate, Nat.sub_self, Nat.reduceSub, Nat.reduceAdd, Bool.not_true, Bool.not_false, setAll, Int.cast_ofNat_Int, Int.reduceLT, Int.reduceLE, Int.reduceBEq, Nat.reduceBEq, decide_true, decide_false, ↓DL.pred_s, ↓DL.len_str, ↓DL.len_tup, ↓DL.len_lst, ↓DL.le_ii, ↓DL.le_ss, ↓DL.cmp_ii, ↓DL.add_ii, ↓DL.add_ib, ↓DL.add_bi, ↓DL.add_ss, ↓DL.add_tt, ↓DL.add_ll, ↓DL.sub_ii, ↓DL.sub_ib, ↓DL.sub_bi, ↓DL.mul_ii, ↓DL.ii_ii, ↓DL.neg_i, ↓DL.is_bb, ↓DL.isn_bb, ↓DL.all_b, ↓DL.all_map, ↓DL.sum_i, ↓DL.eq_ii, ↓DL.eq_bi, ↓DL.eq_t0, ↓DL.eq_l0, ↓DL.ne_ss, ↓DL.ne_ii, ↓DL.ne_t0, ↓DL.ne_l0, ↓DL.ix_tup, ↓DL.ix_lst, ↓DL.ix_str, ↓DL.in_c, ↓DL.nin_c, ↓DL.sl_str, ↓DL.sl_tup, ↓DL.sl_lst, ↓DL.app_1, ↓DL.pop_0, ↓DL.ext_t, ↓DL.tuple_l, ↓DL.list_t, ↓DL.list_l, ↓DL.int_b, ↓DL.int_i, ↓DL.min_ii, ↓DL.str_i, ↓DL.str_b, ↓DL.repr_1, ↓DL.back_t, ↓DL.tru_l, ↓DL.at0, ↓DL.at1, ↓DL.at2, ↓DL.at3, ↓DL.e_callE, ↓DL.e_getOr, ↓DL.e_dicI3, ↓DL.e_lcM, ↓DL.e_lstRg, ↓DL.e_enT, ↓DL.e_enL, ↓DL.e_lenset, ↓DL.e_fs, ↓DL.e_callL, ↓DL.e_never, ↓DL.e_dicM, ↓DL.e_dicS, ↓DL.e_dget, ↓DL.e_dput, ↓DL.e_forK, ↓DL.e_isN, ↓DL.e_revI, ↓DL.e_varF, ↓DL.fs_s, ↓DL.fs_i, ↓DL.get_d, ↓DL.rev_t, ↓DL.int_e, DL.isNon, ↓DL.e_callC, ↓DL.e_callFz, ↓DL.e_ndef, ↓DL.e_lam, ↓DL.e_no, ↓DL.e_lrevM, ↓DL.e_lrev, ↓DL.e_frzE, DL.nstart, ↓DL.e_dgetR, ↓DL.e_dicG3])
def isTk : Pt → Bool
  | .take => true
  | _ => false
def cnt (fs : List Pt) : Nat := (fs.filter isTk).length
theorem cnt_app (xs ys : List Pt) : cnt (xs ++ ys) = cnt xs + cnt ys := by unfold cnt; rw [List.filter_append, List.length_append]
theorem onL_eq {a : Addr} {S : Sto} {xs : List D} {f : Addr → List D → Prop} (h : S a = some (.lst xs)) : onL (.ref a) S f = f a xs := by
  show (match S a with | some (.lst xs) => f a xs | _ => False) = _
  rw [h]
theorem encP_head (p : Pt) : ∃ w r, encP p = .tup (.str w :: r) ∧ DL.eqT (.str w) "take" = isTk p := by
  cases p with
  | take => exact ⟨_, _, by simp only [encP]; rfl, by show DL.eqT (.str "take") "take" = true; decide⟩
  | due => exact ⟨_, _, by simp only [encP]; rfl, by show DL.eqT (.str "due") "take" = false; decide⟩
  | shp ps => exact ⟨_, _, by simp only [encP]; rfl, by show DL.eqT (.str "shape") "take" = false; decide⟩
section
variable {P : Program} {w : World} {K : PySem.W.Frag} {mg : Str → Option Value} {base : Heap}

abbrev st_places_of : Stmt := top 9
theorem sc_places_of : FnScope ["patterns", "found", "left", "here"] ["patterns"] (defScope st_places_of) := ⟨rfl, rfl, rfl, by decide +kernel, rfl, by decide +kernel, by decide +kernel⟩
def sp_places_of : DSp := fun ds S P => ∃ ps : List Pt, ds = [.tup (encPs ps)] ∧ nps ps ≤ 900 ∧ ∀ (a : Addr) (ys : List Pt) (S' : Sto), S' a = some (.lst (ys.map encP)) → cnt ys = tks ps → ys.length ≤ 900 → S a = none → Step [] S S' → P (.ref a) S'
theorem len_places_of {ds : List D} {S : Sto} {P : DK} (h : sp_places_of ds S P) : ds.length = 1 := by obtain ⟨d, rfl, _⟩ := h; rfl
theorem small900 {n : Nat} (h : n ≤ 900) : n < sizeLine := Nat.lt_of_lt_of_le (by omega) (small1 (n := 1000) (by omega))
theorem ok_places_of {k : Nat}  (DD : Def K mg "places_of" st_places_of ["patterns"]) (m_list : mg "list" = none) (m_reversed : mg "reversed" = none) : Has P w K mg base (k + 1) "places_of" ["patterns"] (sp_places_of) := by
  refine DD.has sc_places_of (fun ds S P h => len_places_of h) (fun f cdv A outer s H hr hgd => ⟨_, (ss_cons (s_set 1 sc_places_of.nd (q_lstM a_nil))
      (ss_cons (s_set 2 sc_places_of.nd (q_lrevM rfl rfl m_list rfl m_reversed (q_var 0)))
      (ss_cons (s_while PassesOwn.never (t_tru (q_var 2)) (ss_cons (s_set 3 sc_places_of.nd (q_mtL0 PySem.F.slot_list_pop PySem.F.type_list_pop m_pop (q_var 2)))
      (ss_cons (s_expr (q_mtL PySem.F.slot_list_append PySem.F.type_list_append m_append (q_var 1) (a_cons (q_var 3) a_nil)))
      (ss_one (s_if (t_cmp (op_eqD (DL.Room.un1 hr)) (q_ix ix_D (q_var 3) q_int) q_str) (ss_one (s_expr (q_mtL PySem.F.slot_list_extend PySem.F.type_list_extend m_extendL (q_var 2) (a_cons (q_lrev rfl rfl m_list rfl m_reversed (q_ix ix_D (q_var 3) q_int)) a_nil)))) ss_nil)))))
      (ss_one (s_ret (q_var 1)))))), fun ds S P h => ?_⟩)
  obtain ⟨ps, rfl, hn, h⟩ := h
  walk_at "rh_k22b"
  refine ⟨Nat.zero_le _, fun a na l nl => ?_⟩
  have nla : l ≠ a := fun e => by rw [e, sup_same] at nl; cases nl
  have nS : S l = none := by rw [sup_ne nla] at nl; exact nl
  refine ⟨fun m δ S' => ∃ fs ls x, δ = [some (.tup (encPs ps)), some (.ref a), some (.ref l), x] ∧ S' a = some (.lst (fs.map encP)) ∧ S' l = some (.lst (ls.map encP)) ∧ cnt fs + tks ls = tks ps ∧ m = nps ls ∧ fs.length + nps ls ≤ 900 ∧ Step [] S S',
    ⟨nps ps, [], ps.reverse, none, rfl, by rw [sup_ne nla.symm]; exact sup_same, by rw [sup_same, encPs_map, List.map_reverse], by rw [tks_rev]; simp [cnt], by rw [nps_rev], by rw [nps_rev]; simpa using hn, fun b hb _ => by
      rw [sup_ne (fun e => hb (by rw [e]; exact nS)), sup_ne (fun e => hb (by rw [e]; exact na))]⟩, fun m δ S1 ⟨fs, ls, x, ed, ha, hl, hc, hm, hz, s1⟩ => ?_⟩
  subst ed
  walk_at "rh_k22b"
  rw [DL.tru_r hl]
  cases e : ls.reverse with
  | nil =>
    have : ls = [] := by simpa using e
    subst this
    simp only [List.map_nil, List.isEmpty_nil, Bool.not_true, cond_false]
    try walk_at "rh_k22b"
    simp only [tks] at hc
    exact h a fs S1 ha (by omega) (by omega) na s1
  | cons p q =>
    have el : ls = q.reverse ++ [p] := by have := congrArg List.reverse e; simpa using this
    subst el
    rw [show (!(List.map encP (q.reverse ++ [p])).isEmpty) = true by simp]
    simp only [cond_true]
    try walk_at "rh_k22b"
    refine ⟨⟨_, _, rfl, hl⟩, ?_⟩
    rw [onL_eq hl]
    rw [show (List.map encP (q.reverse ++ [p]))[(List.map encP (q.reverse ++ [p])).length - 1]? = some (encP p) by simp, show (List.map encP (q.reverse ++ [p])).dropLast = List.map encP q.reverse by simp]
    simp only [Option.elim_some]
    have ha2 : (sup S1 l (.lst (List.map encP q.reverse))) a = some (.lst (fs.map encP)) := by rw [sup_ne nla.symm]; exact ha
    have hl2 : (sup S1 l (.lst (List.map encP q.reverse))) l = some (.lst (List.map encP q.reverse)) := sup_same
    have s2 : Step [] S (sup S1 l (.lst (List.map encP q.reverse))) := fun b hb nb => by rw [sup_ne (fun z => hb (by rw [z]; exact nS))]; exact s1 b hb nb
    generalize (sup S1 l (.lst (List.map encP q.reverse))) = S2 at ha2 hl2 s2
    try walk_at "rh_k22b"
    refine ⟨⟨_, _, rfl, ha2⟩, ?_⟩
    rw [onL_eq ha2]
    rw [tks_app, tks_rev] at hc
    rw [nps_app, nps_rev] at hm hz
    simp only [tks, nps] at hc hm hz
    have pp := np_pos p
    refine ⟨by rw [List.length_map]; exact small900 (by omega), ?_⟩
    have ha3 : (sup S2 a (.lst (fs.map encP ++ [encP p]))) a = some (.lst ((fs ++ [p]).map encP)) := by rw [sup_same, List.map_append]; rfl
    have hl3 : (sup S2 a (.lst (fs.map encP ++ [encP p]))) l = some (.lst (List.map encP q.reverse)) := by rw [sup_ne nla]; exact hl2
    have s3 : Step [] S (sup S2 a (.lst (fs.map encP ++ [encP p]))) := fun b hb nb => by rw [sup_ne (fun z => hb (by rw [z]; exact na))]; exact s2 b hb nb
    generalize (sup S2 a (.lst (fs.map encP ++ [encP p]))) = S3 at ha3 hl3 s3
    cases p with
    | take =>
      simp only [encP]
      try walk_at "rh_k22b"
      rw [DL.eq_str' rfl, show DL.eqT (.str (Str.ofString "take")) (Str.ofString "shape") = false by decide]
      try walk_at "rh_k22b"
      simp only [np, tk] at hc hm hz
      exact ⟨nps q, by omega, fs ++ [.take], q.reverse, _, rfl, ha3, hl3, by rw [cnt_app, tks_rev, show cnt [Pt.take] = 1 from rfl]; omega, by rw [nps_rev], by rw [nps_rev, List.length_append]; simp only [List.length_cons, List.length_nil]; omega, s3⟩
    | due =>
      simp only [encP]
      try walk_at "rh_k22b"
      rw [DL.eq_str' rfl, show DL.eqT (.str (Str.ofString "due")) (Str.ofString "shape") = false by decide]
      try walk_at "rh_k22b"
      simp only [np, tk] at hc hm hz
      exact ⟨nps q, by omega, fs ++ [.due], q.reverse, _, rfl, ha3, hl3, by rw [cnt_app, tks_rev, show cnt [Pt.due] = 0 from rfl]; omega, by rw [nps_rev], by rw [nps_rev, List.length_append]; simp only [List.length_cons, List.length_nil]; omega, s3⟩
    | shp us =>
      simp only [encP]
      try walk_at "rh_k22b"
      rw [DL.eq_str' rfl, show DL.eqT (.str (Str.ofString "shape")) (Str.ofString "shape") = true by decide]
      try walk_at "rh_k22b"
      simp only [np, tk] at hc hm hz
      have l1 := len_nps q
      have l2 := len_nps us
      refine ⟨⟨_, _, rfl, hl3⟩, ?_⟩
      show extendL (.ref l) [.lst (encPs us).reverse] S3 _
      unfold extendL
      simp only []
      rw [onL_eq hl3]
      refine ⟨Nat.le_of_lt (small900 (by rw [List.length_map, List.length_reverse, List.length_reverse, encPs_len]; omega)), ?_⟩
      refine ⟨nps q + nps us, by omega, fs ++ [.shp us], q.reverse ++ us.reverse, _, rfl, by rw [sup_ne nla.symm]; exact ha3, by rw [sup_same, List.map_append, encPs_map, ← List.map_reverse], ?_, ?_, ?_, fun b hb nb => by rw [sup_ne (fun z => hb (by rw [z]; exact nS))]; exact s3 b hb nb⟩
      · rw [cnt_app, tks_app, tks_rev, tks_rev, show cnt [Pt.shp us] = 0 from rfl]; omega
      · rw [nps_app, nps_rev, nps_rev]
      · rw [nps_app, nps_rev, nps_rev, List.length_append]; simp only [List.length_cons, List.length_nil]; omega
abbrev st_takes_in : Stmt := top 10
theorem sc_takes_in : FnScope ["patterns", "place"] ["patterns"] (defScope st_takes_in) := ⟨rfl, rfl, rfl, by decide +kernel, rfl, by decide +kernel, by decide +kernel⟩
def sp_takes_in : DSp := fun ds S P => ∃ ps : List Pt, ds = [.tup (encPs ps)] ∧ nps ps ≤ 900 ∧ ∀ S', Step [] S S' → P (.int (tks ps : Nat)) S'
theorem len_takes_in {ds : List D} {S : Sto} {P : DK} (h : sp_takes_in ds S P) : ds.length = 1 := by obtain ⟨d, rfl, _⟩ := h; rfl
theorem ok_takes_in {k : Nat}  (DD : Def K mg "takes_in" st_takes_in ["patterns"]) (G_places_of : Has P w K mg base (k) "places_of" ["patterns"] (sp_places_of)) (m_len : mg "len" = none) : Has P w K mg base (k + 1) "takes_in" ["patterns"] (sp_takes_in) := by
  refine DD.has sc_takes_in (fun ds S P h => len_takes_in h) (fun f cdv A outer s H hr hgd => ⟨_, (ss_one (s_ret (q_callB (c_len) rfl m_len PySem.boot_len (a_cons (q_lc (own := [("place", 1)]) (is := [1]) rfl lcg_name rfl sc_takes_in.nd (i_seq (q_frzE (q_def G_places_of (hr.mono (by omega)) hgd (a_cons (q_var 0) a_nil)))) (blkOk_by (own := [("place", 1)]) (N := ["patterns", "place"]) (sc := defScope st_takes_in) (by decide +kernel)) (fun _ _ _ _ _ => pg_name (i := 1) sc_takes_in.nd rfl (Or.inl rfl)) (fun _ _ _ _ _ => (ts_one (t_cmp (op_eqD (DL.Room.un1 hr)) (q_ix ix_D (q_var 1) q_int) q_str))) (fun _ _ _ _ _ => (q_var 1))) a_nil)))), fun ds S P h => ?_⟩)
  obtain ⟨ps, rfl, hn, h⟩ := h
  walk_at "rh_k22b"
  refine ⟨ps, rfl, hn, fun a ys S1 ha hc hl na s1 => ⟨a, _, rfl, ha, ?_⟩⟩
  refine lc_grow (fun d => match d with | .tup (.str w :: _) => DL.eqT (.str w) "take" | _ => false) id (by rw [List.length_map]; exact Nat.le_of_lt (small900 (by omega))) (fun d hd S2 Q q => ?_) (fun d hd _ S2 Q q => ?_) fun S' s => ?_
  · obtain ⟨p, _, rfl⟩ := List.mem_map.mp hd
    obtain ⟨wd, r, e, _⟩ := encP_head p
    rw [e] at q ⊢
    walk_at "rh_k22b"
    rw [DL.eq_str' rfl]
    exact q S2 (.refl _)
  · walk_at "rh_k22b"
    exact q S2 (.refl _)
  · rw [List.map_id, List.filter_map, show ((fun d : D => match d with | .tup (.str w :: _) => DL.eqT (.str w) "take" | _ => false) ∘ encP) = isTk from funext fun p => by
      obtain ⟨wd, r, e, q⟩ := encP_head p
      show (match encP p with | .tup (.str w :: _) => DL.eqT (.str w) "take" | _ => false) = _
      rw [e]; exact q]
    show P (.int ((((ys.filter isTk).map encP).length : Nat) : Int)) S'
    rw [List.length_map, show (ys.filter isTk).length = tks ps from hc]
    exact h S' (fun b hb nb => by rw [s b (by unfold sdel; rw [if_neg (fun z => hb (by rw [z]; exact na))]; rw [s1 b hb nb]; exact hb) nb]; unfold sdel; rw [if_neg (fun z => hb (by rw [z]; exact na))]; exact s1 b hb nb)
end
end K22
set_option Elab.async false
set_option linter.all false
set_option maxRecDepth 100000
set_option maxHeartbeats 1000000
namespace K22
open PySem PySem.Spec PyProof.Rows L2 DL NdefX
local macro_rules | `(tactic| walk_at "rh_k22c") => `(tactic| simp only [↓DL.e_next, ↓DL.e_seq, ↓DL.e_drop, ↓DL.e_ret, ↓DL.e_retN, ↓DL.e_if, ↓DL.e_cont, ↓DL.e_break, ↓DL.e_set, ↓DL.e_asg, ↓DL.e_par, ↓DL.e_setI, ↓DL.e_for, ↓DL.e_var, ↓DL.e_c, ↓DL.e_op, ↓DL.e_un, ↓DL.e_test, ↓DL.e_chain, ↓DL.e_and, ↓DL.e_or, ↓DL.e_not, ↓DL.e_andV, ↓DL.e_orV, ↓DL.e_notV, ↓DL.e_ife, ↓DL.e_nil, ↓DL.e_cons, ↓DL.e_tup, ↓DL.e_lst, ↓DL.e_lstM, ↓DL.e_noPart, ↓DL.e_part, ↓DL.e_sl, ↓DL.e_cb, ↓DL.e_mtL, ↓DL.e_mt0, ↓DL.e_mtS, ↓DL.e_mtS0, ↓DL.e_tru, ↓DL.e_lc, ↓DL.e_itS, ↓DL.e_itStr, ↓DL.e_rng1, ↓DL.e_rev, ↓DL.e_dic0, ↓DL.e_dic1, ↓DL.e_s0, ↓DL.e_s1, ↓DL.e_ct, ↓DL.e_cf, dstart, slot, gN, ↓asB_bl, ↓asI_int, ↓asS_str, cond_true, cond_false, List.map_cons, List.map_nil, List.length_cons, List.length_nil, List.set_cons_zero, List.set_cons_succ, Option.elim_some, Option.elim_none, List.cons_append, List.nil_append, List.replicate, Nat.sub_self, Nat.reduceSub, Nat.reduceAdd, Bool.not_true, Bool.not_false, setAll, Int.cast_ofNat_Int, Int.reduceLT, Int.reduceLE, Int.reduceBEq, Nat.reduceBEq, decide_true, decide_false, ↓DL.pred_s, ↓DL.len_str, ↓DL.len_tup, ↓DL.len_lst, ↓DL.le_ii, ↓DL.le_ss, ↓DL.cmp_ii, ↓DL.add_ii, ↓DL.add_ib, ↓DL.add_bi, ↓DL.add_ss, ↓DL.add_tt, ↓DL.add_ll, ↓DL.sub_ii, ↓DL.sub_ib, ↓DL.sub_bi, ↓DL.mul_ii, ↓DL.ii_ii, ↓DL.neg_i, ↓DL.is_bb, ↓DL.isn_bb, ↓DL.all_b, ↓DL.all_map, ↓DL.sum_i, ↓DL.eq_ii, ↓DL.eq_bi, ↓DL.eq_t0, ↓DL.eq_l0, ↓DL.ne_ss, ↓DL.ne_ii, ↓DL.ne_t0, ↓DL.ne_l0, ↓DL.ix_tup, ↓DL.ix_lst, ↓DL.ix_str, ↓DL.in_c, ↓DL.nin_c, ↓DL.sl_str, ↓DL.sl_tup, ↓DL.sl_lst, ↓DL.app_1, ↓DL.pop_0, ↓DL.ext_t, ↓DL.tuple_l, ↓DL.list_t, ↓DL.list_l, ↓DL.int_b, ↓DL.int_i, ↓DL.min_ii, ↓DL.str_i, ↓DL.str_b, ↓DL.repr_1, ↓DL.back_t, ↓DL.tru_l, ↓DL.at0, ↓DL.at1, ↓DL.at2, ↓DL.at3, ↓DL.e_callE, ↓DL.e_getOr, ↓DL.e_dicI3, ↓DL.e_lcM, ↓DL.e_lstRg, ↓DL.e_enT, ↓DL.e_enL, ↓DL.e_lenset, ↓DL.e_fs, ↓DL.e_callL, ↓DL.e_never, ↓DL.e_dicM, ↓DL.e_dicS, ↓DL.e_dget, ↓DL.e_dput, ↓DL.e_forK, ↓DL.e_isN, ↓DL.e_revI, ↓DL.e_varF, ↓DL.fs_s, ↓DL.fs_i, ↓DL.get_d, ↓DL.rev_t, ↓DL.int_e, DL.isNon, ↓DL.e_callC, ↓DL.e_callFz, ↓DL.e_ndef, ↓DL.e_lam, ↓DL.e_no, ↓DL.e_lrevM, ↓DL.e_lrev, ↓DL.e_frzE, DL.nstart, ↓DL.e_dgetR, ↓DL.e_dicG3])
section
variable {P : Program} {w : World} {K : PySem.W.Frag} {mg : Str → Option Value} {base : Heap}
/-- what a change of bodies tells -/
def spB (G : GT) : DSp := fun ds S P => ∃ (ps : List Pt) (b : Tm), ds = [.tup (encPs ps), enc b] ∧ GRow (ps, b) ∧ ∀ S', Step [] S S' → P (enc (G ps b)) S'
theorem len_spB {G : GT} {ds : List D} {S : Sto} {P' : DK} (h : spB G ds S P') : ds.length = 2 := by obtain ⟨_, _, rfl, _⟩ := h; rfl
theorem at5_4 {a b c d e : D} : atI [a, b, c, d, e] 4 = some e := rfl
theorem cut5_4 {a b c d e : D} : DL.cutD [a, b, c, d, e] none (some 4) = [a, b, c, d] := rfl
theorem iota_nat : ∀ n : Nat, iota 0 n = (List.range n).map fun (j : Nat) => D.int (j : Nat) := fun n => by
  unfold iota
  refine List.map_congr_left fun i _ => ?_
  rw [Int.zero_add]
/-- a family, left as it is -/
def famD (r : List D) : D := .tup (.str "family" :: r)
def lcScope : Stmt → Scope
  | .Return (some (.Tuple [_, .Call _ [.ListComp _ _ sc _] _ _] _ _)) _ => sc
  | _ => { kind := .function, names := [], isGenerator := false, isCoroutine := false, more := [] }
abbrev sc_wb_inner : Scope := relabel (lcScope ((defBody (top 12)).getD 1 (.Pass ⟨0, 0, 0, 0⟩))) (envOfC "with_bodies" (defScope (top 12)) 0 0 .none)

abbrev st_with_bodies : Stmt := top 12
theorem sc_with_bodies : FnScope ["item", "changed", "definition", "patterns", "body"] ["item", "changed"] (defScope st_with_bodies) := ⟨rfl, rfl, rfl, by decide +kernel, rfl, by decide +kernel, by decide +kernel⟩
def sp_wb (P : Program) (w : World) (K : PySem.W.Frag) (mg : Str → Option Value) (base : Heap) (kc : Nat) : DSp := fun ds S P' => (∃ r d, ds = [famD r, d] ∧ P' (famD r) S) ∨ ∃ (l : List Df) (f : Addr) (S0 : Sto) (G : GT), ds = [encL l, .ref f] ∧ GLot l ∧
  CallsD P w K mg base kc f 2 S0 (spB G) ∧ SubS S0 S ∧ ∀ S', Step [] S S' → P' (encL (mapL G l)) S'
theorem len_with_bodies {kc : Nat} {ds : List D} {S : Sto} {P' : DK} (h : sp_wb P w K mg base kc ds S P') : ds.length = 2 := by
  rcases h with ⟨_, _, rfl, _⟩ | ⟨_, _, _, _, rfl, _⟩ <;> rfl
theorem ok_with_bodies {k : Nat} {kc:Nat} (DD : Def K mg "with_bodies" st_with_bodies ["item", "changed"]) (m_tuple : mg "tuple" = none) : Has P w K mg base (kc+k+1 + 1) "with_bodies" ["item", "changed"] (sp_wb P w K mg base kc) := by
  refine DD.has sc_with_bodies (fun ds S P h => len_with_bodies h) (fun f cdv A outer s H hr hgd => ⟨_, (ss_cons (s_if (t_cmp (op_eqD (DL.Room.un1 hr)) (q_ix ix_D (q_var 0) q_int) q_str) (ss_one (s_ret (q_var 0))) ss_nil)
      (ss_one (s_ret (q_tup (a_cons q_str (a_cons (q_callTy (c_tuple) rfl m_tuple DL.bt_tuple (a_cons (q_lc (own := [("definition", 2)]) (is := [2]) rfl lcg_name rfl sc_with_bodies.nd (i_seq (q_ix ix_D (q_var 0) q_int)) (blkOk_by (own := [("definition", 2)]) (N := ["item", "changed", "definition", "patterns", "body"]) (sc := defScope st_with_bodies) (by decide +kernel)) (fun _ _ _ _ _ => pg_name (i := 2) sc_with_bodies.nd rfl (Or.inl rfl)) (fun _ _ _ _ _ => ts_nil) (fun _ _ _ _ _ => (q_op op_addD (q_slice sl_D (q_var 2) o_none (o_some q_int)) (q_tup (a_cons (q_callTy (c_tuple) rfl m_tuple DL.bt_tuple (a_cons (q_lc (own := [("patterns", 3), ("body", 4)]) (is := [3, 4]) rfl (lcg_tup rfl) rfl sc_with_bodies.nd (i_seq (q_ix ix_D (q_var 2) q_int)) (blkOk_by (own := [("patterns", 3), ("body", 4)]) (N := ["item", "changed", "definition", "patterns", "body"]) (sc := sc_wb_inner) (by decide +kernel)) (fun _ _ _ _ _ => pg_tup rfl (gs_cons 3 sc_with_bodies.nd (gs_cons 4 sc_with_bodies.nd gs_nil (hx := Or.inl rfl)) (hx := Or.inl rfl)) rfl rfl) (fun _ _ _ _ _ => ts_nil) (fun _ _ _ _ _ => (q_tup (a_cons (q_var 3) (a_cons (q_callCB (P := P) (w := w) (K := K) (mg := mg) (base := base) (k := kc) 1 rfl rfl rfl rfl rfl (hr.mono (by omega)) hgd (a_cons (q_var 3) (a_cons (q_var 4) a_nil))) a_nil))))) a_nil)) a_nil))))) a_nil)) a_nil)))))), fun ds S P h => ?_⟩)
  have l8 : 8 ≤ sizeLine := small1 (by decide)
  rcases h with ⟨r, d, rfl, h⟩ | ⟨l, f0, S0, G, rfl, gl, C, sub, h⟩
  · unfold famD
    walk_at "rh_k22c"
    rw [DL.eq_str' rfl, show DL.eqT (.str (Str.ofString "family")) (Str.ofString "family") = true by decide]
    walk_at "rh_k22c"
    exact h
  · unfold encL
    walk_at "rh_k22c"
    rw [DL.eq_str' rfl, show DL.eqT (.str (Str.ofString "lot")) (Str.ofString "family") = false by decide]
    walk_at "rh_k22c"
    refine lc_mapO l encF (fun d => [some (.tup [.str (Str.ofString "lot"), .tup (l.map encF)]), some (.ref f0), some (encF d), none, none]) (fun d => encF (mapF G d)) (by have := gl.len; exact small1 (by omega)) (fun d hd S2 Q q => q) (fun d hd S2 Q s2 q => ?_) fun S1 s1 => ?_
    · generalize (D.tup [.str (Str.ofString "lot"), .tup (l.map encF)]) = it
      unfold encF
      walk_at "rh_k22c"
      have gd := gl.dfs d hd
      simp only [at5_4, Option.elim_some, cut5_4]
      refine lc_mapO d.rows encR (fun r => [some it, some (.ref f0), some (.tup [.str d.name, d.tele, d.res, d.less, .tup (d.rows.map encR)]), some (.tup (encPs r.1)), some (enc r.2)]) (fun r => encR (mapR G r)) (by have := gd.len; exact small1 (by omega)) (fun r hr S3 Q3 q3 => ?_) (fun r hr S3 Q3 s3 q3 => ?_) fun S3 s3 => ?_
      · exact ⟨rfl, q3⟩
      · walk_at "rh_k22c"
        refine ⟨f0, 2, S0, spB G, rfl, C, (sub.step s2).step s3, (sub.step s2).step s3, r.1, r.2, rfl, gd.rows r hr, fun S4 s4 => ⟨by omega, ?_⟩⟩
        exact q3 S4 s4
      · walk_at "rh_k22c"
        have q := q S3 s3
        unfold mapF encF at q
        simp only [List.map_map] at q
        exact ⟨by omega, by show 4 + 1 ≤ sizeLine; omega, q⟩
    · walk_at "rh_k22c"
      have h := h S1 s1
      unfold encL mapL at h
      rw [List.map_map] at h
      exact ⟨by omega, h⟩
abbrev nst_lifted_body : Stmt := (defBody (top 13)).getD 0 (.Pass ⟨0, 0, 0, 0⟩)
abbrev nst_lifted_hole : Stmt := (C8.fnBody nst_lifted_body).getD 1 (.Pass ⟨0, 0, 0, 0⟩)
theorem nmq_lifted_hole : nmG 78 8 = ((Str.ofString "lifted_with") ++ ".<locals>." ++ "lifted_body") ++ ".<locals>." ++ "lifted_hole" := by decide +kernel
theorem nsc_lifted_hole : GScope ["name", "bodies", "sign", "takes", "many", "place"] ["name", "bodies"] ["sign", "takes"] (C8.fnScope nst_lifted_hole) := gscope_by (by decide +kernel)
theorem len_lifted_hole {g : Str → Nat → Tm} {ds : List D} {S : Sto} {P' : DK} (h : spC g ds S P') : ds.length = 2 := len_spC h
theorem empty_str (z : Str) : (Str.ofString "") ++ z = z := by
  apply congrArg Str.mk
  simp [Str.ofString]
  rfl
theorem ok_lifted_hole {k : Nat} {m:Nat} (hm:m≤60) {S0 : Sto} {f c : Addr} {cl : List (Str × Addr)} (hS : S0 f = some (.fn (FF.ofDef nst_lifted_hole "lifted_hole" (((Str.ofString "lifted_with") ++ ".<locals>." ++ "lifted_body") ++ ".<locals>." ++ "lifted_hole") cl c) 0)) (cap : Cap cl ["sign", "takes"] [.str "",.int (m : Nat)] S0) (m_tuple : mg "tuple" = none) (m_range : mg "range" = none) : CallsD P w K mg base (k + 1) f 2 S0 (spBack (cellsOf cl ["sign", "takes"]) (spC (fun z b => callT z (m + b)))) := by
  refine DL.okG (F := FF.ofDef nst_lifted_hole "lifted_hole" (((Str.ofString "lifted_with") ++ ".<locals>." ++ "lifted_body") ++ ".<locals>." ++ "lifted_hole") cl c) (N := ["name", "bodies", "sign", "takes", "many", "place"]) (ps := ["name", "bodies"]) (fr := ["sign", "takes"]) rfl nsc_lifted_hole (fun _ _ _ us hl => match us, hl with | [_, _], _ => rfl) (fun ds S P h => len_lifted_hole h) hS cap (fun A outer s H hr hgd FC => ⟨_, (ss_cons (s_set 4 nsc_lifted_hole.nd (q_op op_addD (q_var 3) (q_var 1)))
      (ss_one (s_ret (q_tup (a_cons q_str (a_cons (q_op op_addD (q_var 2) (q_var 0)) (a_cons (q_callTy (c_tuple) rfl m_tuple DL.bt_tuple (a_cons (q_lc (own := [("place", 5)]) (is := [5]) rfl lcg_name rfl nsc_lifted_hole.nd (i_rng1 rfl m_range (a_cons (q_var 4) a_nil)) (blkOk_by (own := [("place", 5)]) (N := ["name", "bodies", "sign", "takes", "many", "place"]) (sc := defScope nst_lifted_hole) (by decide +kernel)) (fun _ _ _ _ _ => pg_name (i := 5) nsc_lifted_hole.nd rfl (Or.inl rfl)) (fun _ _ _ _ _ => ts_nil) (fun _ _ _ _ _ => (q_tup (a_cons q_str (a_cons (q_op op_subD (q_op op_subD (q_var 4) q_int) (q_var 5)) a_nil))))) a_nil)) a_nil))))))), fun ds S P hf h => ?_⟩)
  obtain ⟨z, b, rfl, nz, hb, h⟩ := h
  have l8 : 8 ≤ sizeLine := small1 (by decide)
  walk_at "rh_k22c"
  have nl := nice_len nz
  have l100 : 100 ≤ sizeLine := small1 (by decide)
  refine ⟨by rw [show (Str.ofString "").length = 0 from rfl]; omega, ⟨by omega, by omega⟩, ?_⟩
  rw [show ((m : Int) + (b : Int)).toNat = m + b by omega, iota_nat]
  refine lc_mapO (List.range (m + b)) (fun j => .int (j : Nat)) (fun j => [some (.str z), some (.int (b : Nat)), some (.str (Str.ofString "")), some (.int (m : Nat)), some (.int ((m : Int) + (b : Int))), some (.int (j : Nat))]) (fun j => enc (.at (m + b - 1 - j))) (by rw [List.length_range]; exact small1 (by omega)) (fun j hj S2 Q q => q) (fun j hj S2 Q s2 q => ?_) fun S1 s1 => ?_
  · rw [List.mem_range] at hj
    walk_at "rh_k22c"
    have q := q S2 (.refl S2)
    simp only [enc] at q
    rw [show (((m + b - 1 - j : Nat)) : Int) = (m : Int) + (b : Int) - 1 - (j : Int) by omega] at q
    exact ⟨by omega, q⟩
  · walk_at "rh_k22c"
    have h := h S1 s1
    unfold callT at h
    simp only [enc] at h
    rw [encs_map, List.map_map] at h
    rw [empty_str]
    exact ⟨by omega, h⟩
theorem nmq_lifted_body : nmG 75 4 = (Str.ofString "lifted_with") ++ ".<locals>." ++ "lifted_body" := by decide +kernel
theorem nsc_lifted_body : GScope ["patterns", "body", "sign", "takes", "lifted_hole"] ["patterns", "body"] ["sign"] (C8.fnScope nst_lifted_body) := gscope_by (by decide +kernel)
theorem len_lifted_body {G : GT} {ds : List D} {S : Sto} {P' : DK} (h : spB G ds S P') : ds.length = 2 := len_spB h
theorem ok_lifted_body {k : Nat}  {S0 : Sto} {f c : Addr} {cl : List (Str × Addr)} {c0 P0 : Addr} (TB : LamX.TabB base mg c0 P0) (hS : S0 f = some (.fn (FF.ofDef nst_lifted_body "lifted_body" ((Str.ofString "lifted_with") ++ ".<locals>." ++ "lifted_body") cl c) 1)) (cap : Cap cl ["sign"] [.str ""] S0) (G_with_holes : Has P w K mg base (44) "with_holes" ["term", "changed"] (sp_wa P w K mg base 1)) (G_takes_in : Has P w K mg base (2) "takes_in" ["patterns"] (sp_takes_in)) (m_tuple : mg "tuple" = none) (m_range : mg "range" = none) : CallsD P w K mg base (45 + 1) f 2 S0 (spBack (cellsOf cl ["sign"]) (spB liftG)) := by
  refine DL.okG (F := FF.ofDef nst_lifted_body "lifted_body" ((Str.ofString "lifted_with") ++ ".<locals>." ++ "lifted_body") cl c) (N := ["patterns", "body", "sign", "takes", "lifted_hole"]) (ps := ["patterns", "body"]) (fr := ["sign"]) rfl nsc_lifted_body (fun _ _ _ us hl => match us, hl with | [_, _], _ => rfl) (fun ds S P h => len_lifted_body h) hS cap (fun A outer s H hr hgd FC => ⟨_, (ss_cons (s_set 3 nsc_lifted_body.nd (q_def G_takes_in (hr.mono (by omega)) hgd (a_cons (q_var 0) a_nil)))
      (ss_cons (s_ndefG (st := nst_lifted_hole) (q := fun S => S f = some (.fn (FF.ofDef nst_lifted_body "lifted_body" ((Str.ofString "lifted_with") ++ ".<locals>." ++ "lifted_body") cl c) 1)) (k := 0) (i := 4) (fr := ["sign", "takes"]) rfl (fun S e => ⟨c, rfl, .inr ⟨⟨c0, P0, TB⟩, f, _, e, rfl⟩⟩) nmq_lifted_hole (ndef_free (by decide +kernel : ndefB (C8.fnScope nst_lifted_body) (C8.fnScope nst_lifted_hole) ["sign", "takes"] = true)) (fun y hy e => nsc_lifted_hole.free y hy e) rfl rfl rfl nsc_lifted_body.nd rfl (by first | exact Or.inl rfl | exact Or.inr rfl) (.inr rfl))
      (ss_one (s_ret (q_callFz (fr := ["sign", "takes"]) (js := [2, 3]) (fun ok => Caps.made ok (ndef_free (by decide +kernel : ndefB (C8.fnScope nst_lifted_body) (C8.fnScope nst_lifted_hole) ["sign", "takes"] = true)) (ndef_fr (by decide +kernel : ndefB (C8.fnScope nst_lifted_body) (C8.fnScope nst_lifted_hole) ["sign", "takes"] = true)) rfl) (capOk_G nsc_lifted_body FC (by decide +kernel : ((["sign", "takes"] : List Str).all fun y => ownN (C8.fnScope nst_lifted_body) y || decide (y ∈ (["sign"] : List Str))) = true)) (by decide) G_with_holes (hr.mono (by omega)) hgd (a_cons (q_var 1) (a_cons (q_var 4) a_nil))))))), fun ds S P hf h => ?_⟩)
  obtain ⟨ps, b, rfl, g, h⟩ := h
  walk_at "rh_k22c"
  refine ⟨ps, rfl, g.np, fun S1 s1 => ⟨s1.at hf List.not_mem_nil, fun f2 c2 hf2 ci => ⟨[.str (Str.ofString ""), .int (tks ps : Nat)], rfl, fun as cin hfr => ?_⟩⟩⟩
  have nf : f2 ∉ as := fun z => by have := hfr f2 z; rw [sup_same] at this; cases this
  refine ⟨b, f2, _, fun z c => callT z (tks ps + c), rfl, Nat.le_trans g.dp (by decide), g.ok, spC_of (ok_lifted_hole (k := 0) (m := tks ps) g.tk (by rw [scells_out (look_zip_none nf)]; exact sup_same) (cap_of ci cin rfl) m_tuple m_range), fun _ _ e => e, fun S' s2 => ?_⟩
  have e := mapH_off callT (tks ps) 0 b
  rw [Nat.add_zero] at e
  rw [e]
  exact h _ (s1.trans ((Step.new hf2).trans (back_step hfr s2)))
/-- a change that leaves nothing of its cells -/
theorem spB_of {k : Nat} {f : Addr} {S0 : Sto} {as : List Addr} {G : GT} (h : CallsD P w K mg base k f 2 S0 (spBack as (spB G))) : CallsD P w K mg base k f 2 S0 (spB G) := by
  refine h.imp (fun ds S P' _ q => ?_) fun ds S P' q => len_spB q
  obtain ⟨ps, b, rfl, g, q⟩ := q
  exact ⟨ps, b, rfl, g, fun S' s => q _ (clo_step s)⟩

abbrev nst_filled_body : Stmt := (defBody (top 14)).getD 0 (.Pass ⟨0, 0, 0, 0⟩)
abbrev nlx_fill_lam : Expr := lamArg ((C8.fnBody nst_filled_body).getD 0 (.Pass ⟨0, 0, 0, 0⟩)) 1
theorem nmq_fill_lam : nmG 86 32 = ((Str.ofString "with_hole_filled") ++ ".<locals>." ++ "filled_body") ++ ".<locals>." ++ "<lambda>" := by decide +kernel
theorem nsc_fill_lam : GScope ["name", "bodies", "hole", "term"] ["name", "bodies"] ["hole", "term"] (lamS nlx_fill_lam) := gscope_by (by decide +kernel)
theorem len_fill_lam {g : Str → Nat → Tm} {ds : List D} {S : Sto} {P' : DK} (h : spC g ds S P') : ds.length = 2 := len_spC h
theorem ok_fill_lam {k : Nat} {gap:Str} {one:Tm} {S0 : Sto} {f c : Addr} {cl : List (Str × Addr)} (hS : S0 f = some (.fn (FF.ofLam (lamP nlx_fill_lam) (lamB nlx_fill_lam) (lamS nlx_fill_lam) (((Str.ofString "with_hole_filled") ++ ".<locals>." ++ "filled_body") ++ ".<locals>." ++ "<lambda>") cl c) 0)) (cap : Cap cl ["hole", "term"] [.str gap,enc one] S0) : CallsD P w K mg base (k + 1) f 2 S0 (spBack (cellsOf cl ["hole", "term"]) (spC (fillT gap one))) := by
  refine DL.okGL (F := FF.ofLam (lamP nlx_fill_lam) (lamB nlx_fill_lam) (lamS nlx_fill_lam) (((Str.ofString "with_hole_filled") ++ ".<locals>." ++ "filled_body") ++ ".<locals>." ++ "<lambda>") cl c) (N := ["name", "bodies", "hole", "term"]) (ps := ["name", "bodies"]) (fr := ["hole", "term"]) rfl nsc_fill_lam (fun _ _ _ us hl => match us, hl with | [_, _], _ => rfl) (fun ds S P h => len_fill_lam h) hS cap (fun A outer s H hr hgd FC => ⟨_, (q_ifExp (t_cmp (op_eqD (DL.Room.un1 hr)) (q_var 0) (q_var 2)) (q_var 3) (q_tup (a_cons q_str (a_cons (q_var 0) a_nil)))), fun ds S P hf h => ?_⟩)
  obtain ⟨z, b, rfl, nz, hb, h⟩ := h
  have l8 : 8 ≤ sizeLine := small1 (by decide)
  walk_at "rh_k22c"
  rw [DL.eq_str' rfl, show DL.eqT (.str z) gap = (z == gap) from rfl]
  have h := h S (.refl S)
  unfold fillT at h
  by_cases e : z = gap
  · subst e
    rw [if_pos rfl] at h
    rw [beq_self_eq_true]
    exact h
  · rw [if_neg e] at h
    rw [beq_eq_false_iff_ne.mpr e]
    simp only [enc] at h
    exact ⟨by omega, h⟩
theorem nmq_filled_body : nmG 85 4 = (Str.ofString "with_hole_filled") ++ ".<locals>." ++ "filled_body" := by decide +kernel
theorem nsc_filled_body : GScope ["patterns", "body", "hole", "term"] ["patterns", "body"] ["hole", "term"] (C8.fnScope nst_filled_body) := gscope_by (by decide +kernel)
theorem len_filled_body {G : GT} {ds : List D} {S : Sto} {P' : DK} (h : spB G ds S P') : ds.length = 2 := len_spB h
theorem ok_filled_body {k : Nat} {gap:Str} {one:Tm} {S0 : Sto} {f c : Addr} {cl : List (Str × Addr)} {c0 P0 : Addr} (TB : LamX.TabB base mg c0 P0) (hS : S0 f = some (.fn (FF.ofDef nst_filled_body "filled_body" ((Str.ofString "with_hole_filled") ++ ".<locals>." ++ "filled_body") cl c) 1)) (cap : Cap cl ["hole", "term"] [.str gap,enc one] S0) (G_with_holes : Has P w K mg base (44) "with_holes" ["term", "changed"] (sp_wa P w K mg base 1)) : CallsD P w K mg base (45 + 1) f 2 S0 (spBack (cellsOf cl ["hole", "term"]) (spB (fillG gap one))) := by
  refine DL.okG (F := FF.ofDef nst_filled_body "filled_body" ((Str.ofString "with_hole_filled") ++ ".<locals>." ++ "filled_body") cl c) (N := ["patterns", "body", "hole", "term"]) (ps := ["patterns", "body"]) (fr := ["hole", "term"]) rfl nsc_filled_body (fun _ _ _ us hl => match us, hl with | [_, _], _ => rfl) (fun ds S P h => len_filled_body h) hS cap (fun A outer s H hr hgd FC => ⟨_, (ss_one (s_ret (q_callFz (fr := ["hole", "term"]) (js := [2, 3]) (fun ok => Caps.made ok (ndef_free (by decide +kernel : ndefB (C8.fnScope nst_filled_body) (lamS nlx_fill_lam) ["hole", "term"] = true)) (ndef_fr (by decide +kernel : ndefB (C8.fnScope nst_filled_body) (lamS nlx_fill_lam) ["hole", "term"] = true)) rfl) (capOk_G nsc_filled_body FC (by decide +kernel : ((["hole", "term"] : List Str).all fun y => ownN (C8.fnScope nst_filled_body) y || decide (y ∈ (["hole", "term"] : List Str))) = true)) (by decide) G_with_holes (hr.mono (by omega)) hgd (a_cons (q_var 1) (a_cons (q_lam (q := fun S => S f = some (.fn (FF.ofDef nst_filled_body "filled_body" ((Str.ofString "with_hole_filled") ++ ".<locals>." ++ "filled_body") cl c) 1)) (k := 0) (params := lamP nlx_fill_lam) (body := lamB nlx_fill_lam) (scope := lamS nlx_fill_lam) (fr := ["hole", "term"]) (fun S e => ⟨c, rfl, .inr ⟨⟨c0, P0, TB⟩, f, _, e, rfl⟩⟩) nmq_fill_lam rfl (ndef_free (by decide +kernel : ndefB (C8.fnScope nst_filled_body) (lamS nlx_fill_lam) ["hole", "term"] = true)) (fun y hy e => nsc_fill_lam.free y hy e)) a_nil))))), fun ds S P hf h => ?_⟩)
  obtain ⟨ps, b, rfl, g, h⟩ := h
  walk_at "rh_k22c"
  refine ⟨hf, fun f2 c2 hf2 ci => ⟨[.str gap, enc one], rfl, fun as cin hfr => ?_⟩⟩
  have nf : f2 ∉ as := fun z => by have := hfr f2 z; rw [sup_same] at this; cases this
  refine ⟨b, f2, _, fillT gap one, rfl, Nat.le_trans g.dp (by decide), g.ok, spC_of (ok_fill_lam (k := 0) (by rw [scells_out (look_zip_none nf)]; exact sup_same) (cap_of ci cin rfl)), fun _ _ e => e, fun S' s2 => ?_⟩
  exact h _ ((Step.new hf2).trans (back_step hfr s2))
abbrev st_lifted_with : Stmt := top 13
theorem sc_lifted_with : FnScope ["item", "sign", "lifted_body"] ["item", "sign"] (defScope st_lifted_with) := ⟨rfl, rfl, rfl, by decide +kernel, rfl, by decide +kernel, by decide +kernel⟩
def sp_lw (P0 : Addr) : DSp := fun ds S P' => S P0 = some (.tab 2) ∧ ((∃ r, ds = [famD r, .str ""] ∧ ∀ S', Step [] S S' → P' (famD r) S') ∨ ∃ l, ds = [encL l, .str ""] ∧ GLot l ∧ ∀ S', Step [] S S' → P' (encL (mapL liftG l)) S')
theorem len_lifted_with {P0 : Addr} {ds : List D} {S : Sto} {P' : DK} (h : sp_lw P0 ds S P') : ds.length = 2 := by
  obtain ⟨_, ⟨_, rfl, _⟩ | ⟨_, rfl, _⟩⟩ := h <;> rfl
theorem ok_lifted_with {k : Nat}  {c0 P0 : Addr} (DD : DefC K mg "lifted_with" st_lifted_with ["item", "sign"] c0) (TB : LamX.TabB base mg c0 P0) (G_with_bodies : Has P w K mg base (48) "with_bodies" ["item", "changed"] (sp_wb P w K mg base 46)) (G_takes_in : Has P w K mg base (2) "takes_in" ["patterns"] (sp_takes_in)) (G_with_holes : Has P w K mg base (44) "with_holes" ["term", "changed"] (sp_wa P w K mg base 1)) (m_tuple : mg "tuple" = none) (m_range : mg "range" = none) : Has P w K mg base (50 + 1) "lifted_with" ["item", "sign"] (sp_lw P0) := by
  refine DD.has sc_lifted_with (fun ds S P h => len_lifted_with h) (fun f A outer s H hr hgd => ⟨_, (ss_cons (s_ndefG (st := nst_lifted_body) (q := fun S => S P0 = some (.tab 2)) (k := 1) (i := 2) (fr := ["sign"]) rfl (fun S e => ⟨c0, rfl, .inl ⟨P0, TB, e⟩⟩) nmq_lifted_body (ndef_free (by decide +kernel : ndefB (defScope st_lifted_with) (C8.fnScope nst_lifted_body) ["sign"] = true)) (fun y hy e => nsc_lifted_body.free y hy e) rfl rfl rfl sc_lifted_with.nd rfl (by first | exact Or.inl rfl | exact Or.inr rfl) (.inr rfl))
      (ss_one (s_ret (q_callFz (fr := ["sign"]) (js := [1]) (fun ok => Caps.made ok (ndef_free (by decide +kernel : ndefB (defScope st_lifted_with) (C8.fnScope nst_lifted_body) ["sign"] = true)) (ndef_fr (by decide +kernel : ndefB (defScope st_lifted_with) (C8.fnScope nst_lifted_body) ["sign"] = true)) rfl) (capOk_fn (fun _ _ => rfl)) (by decide) G_with_bodies (hr.mono (by omega)) hgd (a_cons (q_var 0) (a_cons (q_var 2) a_nil)))))), fun ds S P h => ?_⟩)
  obtain ⟨tb, ⟨r, rfl, h⟩ | ⟨l, rfl, gl, h⟩⟩ := h
  · walk_at "rh_k22c"
    refine ⟨tb, fun f1 c1 hf1 ci => ⟨[.str (Str.ofString "")], rfl, fun as cin hfr => .inl ⟨r, .ref f1, rfl, ?_⟩⟩⟩
    exact h _ ((Step.new hf1).trans (back_step hfr (.refl _)))
  · walk_at "rh_k22c"
    refine ⟨tb, fun f1 c1 hf1 ci => ⟨[.str (Str.ofString "")], rfl, fun as cin hfr => ?_⟩⟩
    have nf : f1 ∉ as := fun z => by have := hfr f1 z; rw [sup_same] at this; cases this
    refine .inr ⟨l, f1, _, liftG, rfl, gl, spB_of (ok_lifted_body (k := 0) TB (by rw [scells_out (look_zip_none nf)]; exact sup_same) (cap_of ci cin rfl) G_with_holes G_takes_in m_tuple m_range), fun _ _ e => e, fun S' s1 => ?_⟩
    exact h _ ((Step.new hf1).trans (back_step hfr s1))
abbrev st_with_hole_filled : Stmt := top 14
theorem sc_with_hole_filled : FnScope ["item", "hole", "term", "filled_body"] ["item", "hole", "term"] (defScope st_with_hole_filled) := ⟨rfl, rfl, rfl, by decide +kernel, rfl, by decide +kernel, by decide +kernel⟩
def sp_whf (P0 : Addr) : DSp := fun ds S P' => S P0 = some (.tab 2) ∧ ∃ l gap one, ds = [encL l, .str gap, enc one] ∧ GLot l ∧ ∀ S', Step [] S S' → P' (encL (mapL (fillG gap one) l)) S'
theorem len_with_hole_filled {P0 : Addr} {ds : List D} {S : Sto} {P' : DK} (h : sp_whf P0 ds S P') : ds.length = 3 := by
  obtain ⟨_, _, _, _, rfl, _⟩ := h; rfl
theorem ok_with_hole_filled {k : Nat}  {c0 P0 : Addr} (DD : DefC K mg "with_hole_filled" st_with_hole_filled ["item", "hole", "term"] c0) (TB : LamX.TabB base mg c0 P0) (G_with_bodies : Has P w K mg base (48) "with_bodies" ["item", "changed"] (sp_wb P w K mg base 46)) (G_with_holes : Has P w K mg base (44) "with_holes" ["term", "changed"] (sp_wa P w K mg base 1)) : Has P w K mg base (50 + 1) "with_hole_filled" ["item", "hole", "term"] (sp_whf P0) := by
  refine DD.has sc_with_hole_filled (fun ds S P h => len_with_hole_filled h) (fun f A outer s H hr hgd => ⟨_, (ss_cons (s_ndefG (st := nst_filled_body) (q := fun S => S P0 = some (.tab 2)) (k := 1) (i := 3) (fr := ["hole", "term"]) rfl (fun S e => ⟨c0, rfl, .inl ⟨P0, TB, e⟩⟩) nmq_filled_body (ndef_free (by decide +kernel : ndefB (defScope st_with_hole_filled) (C8.fnScope nst_filled_body) ["hole", "term"] = true)) (fun y hy e => nsc_filled_body.free y hy e) rfl rfl rfl sc_with_hole_filled.nd rfl (by first | exact Or.inl rfl | exact Or.inr rfl) (.inr rfl))
      (ss_one (s_ret (q_callFz (fr := ["hole", "term"]) (js := [1, 2]) (fun ok => Caps.made ok (ndef_free (by decide +kernel : ndefB (defScope st_with_hole_filled) (C8.fnScope nst_filled_body) ["hole", "term"] = true)) (ndef_fr (by decide +kernel : ndefB (defScope st_with_hole_filled) (C8.fnScope nst_filled_body) ["hole", "term"] = true)) rfl) (capOk_fn (fun _ _ => rfl)) (by decide) G_with_bodies (hr.mono (by omega)) hgd (a_cons (q_var 0) (a_cons (q_var 3) a_nil)))))), fun ds S P h => ?_⟩)
  obtain ⟨tb, l, gap, one, rfl, gl, h⟩ := h
  walk_at "rh_k22c"
  refine ⟨tb, fun f1 c1 hf1 ci => ⟨[.str gap, enc one], rfl, fun as cin hfr => ?_⟩⟩
  have nf : f1 ∉ as := fun z => by have := hfr f1 z; rw [sup_same] at this; cases this
  refine .inr ⟨l, f1, _, fillG gap one, rfl, gl, spB_of (ok_filled_body (k := 0) TB (by rw [scells_out (look_zip_none nf)]; exact sup_same) (cap_of ci cin rfl) G_with_holes), fun _ _ e => e, fun S' s1 => ?_⟩
  exact h _ ((Step.new hf1).trans (back_step hfr s1))
abbrev st_lifted : Stmt := top 16
theorem sc_lifted : FnScope ["item"] ["item"] (defScope st_lifted) := ⟨rfl, rfl, rfl, by decide +kernel, rfl, by decide +kernel, by decide +kernel⟩
def sp_lifted (P0 : Addr) : DSp := fun ds S P' => S P0 = some (.tab 2) ∧ ((∃ r, ds = [famD r] ∧ ∀ S', Step [] S S' → P' (famD r) S') ∨ ∃ l, ds = [encL l] ∧ GLot l ∧ ∀ S', Step [] S S' → P' (encL (mapL liftG l)) S')
theorem len_lifted {P0 : Addr} {ds : List D} {S : Sto} {P' : DK} (h : sp_lifted P0 ds S P') : ds.length = 1 := by
  obtain ⟨_, ⟨_, rfl, _⟩ | ⟨_, rfl, _⟩⟩ := h <;> rfl
theorem ok_lifted {k : Nat} {P0:Addr} (DD : Def K mg "lifted" st_lifted ["item"]) (G_lifted_with : Has P w K mg base (k) "lifted_with" ["item", "sign"] (sp_lw P0)) : Has P w K mg base (k + 1) "lifted" ["item"] (sp_lifted P0) := by
  refine DD.has sc_lifted (fun ds S P h => len_lifted h) (fun f cdv A outer s H hr hgd => ⟨_, (ss_one (s_ret (q_def G_lifted_with (hr.mono (by omega)) hgd (a_cons (q_var 0) (a_cons q_str a_nil))))), fun ds S P h => ?_⟩)
  obtain ⟨tb, ⟨r, rfl, h⟩ | ⟨l, rfl, gl, h⟩⟩ := h
  · walk_at "rh_k22c"
    exact ⟨tb, .inl ⟨r, rfl, h⟩⟩
  · walk_at "rh_k22c"
    exact ⟨tb, .inr ⟨l, rfl, gl, h⟩⟩
abbrev st_opened : Stmt := top 17
theorem sc_opened : FnScope ["rows", "name", "around", "manner", "wish"] ["rows"] (defScope st_opened) := ⟨rfl, rfl, rfl, by decide +kernel, rfl, by decide +kernel, by decide +kernel⟩
def row4 (r : D × D × D × D) : D := .tup [r.1, r.2.1, r.2.2.1, r.2.2.2]
def sp_opened : DSp := fun ds S P' => ∃ rs : List (D × D × D × D), ds = [.tup (rs.map row4)] ∧ rs.length ≤ 100 ∧ ∀ S', Step [] S S' → P' (.tup (rs.map fun r => .tup [.str "open", r.1, r.2.1, r.2.2.2])) S'
theorem len_opened {ds : List D} {S : Sto} {P' : DK} (h : sp_opened ds S P') : ds.length = 1 := by obtain ⟨_, rfl, _⟩ := h; rfl
theorem ok_opened {k : Nat}  (DD : Def K mg "opened" st_opened ["rows"]) (m_tuple : mg "tuple" = none) : Has P w K mg base (k + 1) "opened" ["rows"] (sp_opened) := by
  refine DD.has sc_opened (fun ds S P h => len_opened h) (fun f cdv A outer s H hr hgd => ⟨_, (ss_one (s_ret (q_callTy (c_tuple) rfl m_tuple DL.bt_tuple (a_cons (q_lc (own := [("name", 1), ("around", 2), ("manner", 3), ("wish", 4)]) (is := [1, 2, 3, 4]) rfl (lcg_tup rfl) rfl sc_opened.nd (i_seq (q_var 0)) (blkOk_by (own := [("name", 1), ("around", 2), ("manner", 3), ("wish", 4)]) (N := ["rows", "name", "around", "manner", "wish"]) (sc := defScope st_opened) (by decide +kernel)) (fun _ _ _ _ _ => pg_tup rfl (gs_cons 1 sc_opened.nd (gs_cons 2 sc_opened.nd (gs_cons 3 sc_opened.nd (gs_cons 4 sc_opened.nd gs_nil (hx := Or.inl rfl)) (hx := Or.inl rfl)) (hx := Or.inl rfl)) (hx := Or.inl rfl)) rfl rfl) (fun _ _ _ _ _ => ts_nil) (fun _ _ _ _ _ => (q_tup (a_cons q_str (a_cons (q_var 1) (a_cons (q_var 2) (a_cons (q_var 4) a_nil))))))) a_nil)))), fun ds S P h => ?_⟩)
  obtain ⟨rs, rfl, hl, h⟩ := h
  have l8 : 8 ≤ sizeLine := small1 (by decide)
  walk_at "rh_k22c"
  refine lc_mapO rs row4 (fun r => [some (.tup (rs.map row4)), some r.1, some r.2.1, some r.2.2.1, some r.2.2.2]) (fun r => .tup [.str (Str.ofString "open"), r.1, r.2.1, r.2.2.2]) (small1 (by omega)) (fun r hr S2 Q q => ⟨rfl, q⟩) (fun r hr S2 Q s2 q => ?_) fun S1 s1 => ?_
  · walk_at "rh_k22c"
    exact ⟨by omega, q S2 (.refl S2)⟩
  · walk_at "rh_k22c"
    exact h S1 s1
abbrev st_filled : Stmt := top 18
theorem sc_filled : FnScope ["item", "hole", "term"] ["item", "hole", "term"] (defScope st_filled) := ⟨rfl, rfl, rfl, by decide +kernel, rfl, by decide +kernel, by decide +kernel⟩
def sp_filled (P0 : Addr) : DSp := sp_whf P0
theorem len_filled {P0 : Addr} {ds : List D} {S : Sto} {P' : DK} (h : sp_filled P0 ds S P') : ds.length = 3 := len_with_hole_filled h
theorem ok_filled {k : Nat} {P0:Addr} (DD : DefW K mg "filled" st_filled ["item", "hole", "term"]) (G_with_hole_filled : Has P w K mg base (k) "with_hole_filled" ["item", "hole", "term"] (sp_whf P0)) : HasB P w K mg base (k + 1) "filled" ["item", "hole", "term"] (sp_filled P0) := by
  refine DD.has sc_filled (fun ds S P h => len_filled h) (fun f cdv A outer s H hr hgd => ⟨_, (ss_one (s_ret (q_def G_with_hole_filled (hr.mono (by omega)) hgd (a_cons (q_var 0) (a_cons (q_var 1) (a_cons (q_var 2) a_nil)))))), fun ds S P h => ?_⟩)
  obtain ⟨tb, l, gap, one, rfl, gl, h⟩ := h
  walk_at "rh_k22c"
  exact ⟨tb, l, gap, one, rfl, gl, h⟩
end
end K22
set_option Elab.async false
set_option linter.all false
set_option maxRecDepth 100000
set_option maxHeartbeats 1000000
namespace K22
open PySem PySem.Spec PyProof.Rows L2 DL NdefX
local macro_rules | `(tactic| walk_at "rh_k22d") => `(tactic| simp only [↓DL.e_next, ↓DL.e_seq, ↓DL.e_drop, ↓DL.e_ret, ↓DL.e_retN, ↓DL.e_if, ↓DL.e_cont, ↓DL.e_break, ↓DL.e_set, ↓DL.e_asg, ↓DL.e_par, ↓DL.e_setI, ↓DL.e_for, ↓DL.e_var, ↓DL.e_c, ↓DL.e_op, ↓DL.e_un, ↓DL.e_test, ↓DL.e_chain, ↓DL.e_and, ↓DL.e_or, ↓DL.e_not, ↓DL.e_andV, ↓DL.e_orV, ↓DL.e_notV, ↓DL.e_ife, ↓DL.e_nil, ↓DL.e_cons, ↓DL.e_tup, ↓DL.e_lst, ↓DL.e_lstM, ↓DL.e_noPart, ↓DL.e_part, ↓DL.e_sl, ↓DL.e_cb, ↓DL.e_mtL, ↓DL.e_mt0, ↓DL.e_mtS, ↓DL.e_mtS0, ↓DL.e_tru, ↓DL.e_lc, ↓DL.e_itS, ↓DL.e_itStr, ↓DL.e_rng1, ↓DL.e_rev, ↓DL.e_dic0, ↓DL.e_dic1, ↓DL.e_s0, ↓DL.e_s1, ↓DL.e_ct, ↓DL.e_cf, dstart, slot, gN, ↓asB_bl, ↓asI_int, ↓asS_str, cond_true, cond_false, List.map_cons, List.map_nil, List.length_cons, List.length_nil, List.set_cons_zero, List.set_cons_succ, Option.elim_some, Option.elim_none, List.cons_append, List.nil_append, List.replicate, Nat.sub_self, Nat.reduceSub, Nat.reduceAdd, Bool.not_true, Bool.not_false, setAll, Int.cast_ofNat_Int, Int.reduceLT, Int.reduceLE, Int.reduceBEq, Nat.reduceBEq, decide_true, decide_false, ↓DL.pred_s, ↓DL.len_str, ↓DL.len_tup, ↓DL.len_lst, ↓DL.le_ii, ↓DL.le_ss, ↓DL.cmp_ii, ↓DL.add_ii, ↓DL.add_ib, ↓DL.add_bi, ↓DL.add_ss, ↓DL.add_tt, ↓DL.add_ll, ↓DL.sub_ii, ↓DL.sub_ib, ↓DL.sub_bi, ↓DL.mul_ii, ↓DL.ii_ii, ↓DL.neg_i, ↓DL.is_bb, ↓DL.isn_bb, ↓DL.all_b, ↓DL.all_map, ↓DL.sum_i, ↓DL.eq_ii, ↓DL.eq_bi, ↓DL.eq_t0, ↓DL.eq_l0, ↓DL.ne_ss, ↓DL.ne_ii, ↓DL.ne_t0, ↓DL.ne_l0, ↓DL.ix_tup, ↓DL.ix_lst, ↓DL.ix_str, ↓DL.in_c, ↓DL.nin_c, ↓DL.sl_str, ↓DL.sl_tup, ↓DL.sl_lst, ↓DL.app_1, ↓DL.pop_0, ↓DL.ext_t, ↓DL.tuple_l, ↓DL.list_t, ↓DL.list_l, ↓DL.int_b, ↓DL.int_i, ↓DL.min_ii, ↓DL.str_i, ↓DL.str_b, ↓DL.repr_1, ↓DL.back_t, ↓DL.tru_l, ↓DL.at0, ↓DL.at1, ↓DL.at2, ↓DL.at3, ↓DL.e_callE, ↓DL.e_getOr, ↓DL.e_dicI3, ↓DL.e_lcM, ↓DL.e_lstRg, ↓DL.e_enT, ↓DL.e_enL, ↓DL.e_lenset, ↓DL.e_fs, ↓DL.e_callL, ↓DL.e_never, ↓DL.e_dicM, ↓DL.e_dicS, ↓DL.e_dget, ↓DL.e_dput, ↓DL.e_forK, ↓DL.e_isN, ↓DL.e_revI, ↓DL.e_varF, ↓DL.fs_s, ↓DL.fs_i, ↓DL.get_d, ↓DL.rev_t, ↓DL.int_e, DL.isNon, ↓DL.e_callC, ↓DL.e_callFz, ↓DL.e_ndef, ↓DL.e_lam, ↓DL.e_no, ↓DL.e_lrevM, ↓DL.e_lrev, ↓DL.e_frzE, DL.nstart, ↓DL.e_dgetR, ↓DL.e_dicG3])
def deckD (c : Addr) (m n : Int) : SO := .dic [(.inr "cells", .ref c), (.inr "seed", .int m), (.inr "at", .int n)]
/-- the deck at a, its cells at c, at most z draws ago -/
def Dk (S : Sto) (a c : Addr) (z : Int) : Prop := ∃ (cs : List Int) (m n : Int), a ≠ c ∧ S a = some (deckD c m n) ∧ S c = some (.lst (cs.map .int)) ∧ cs.length ≤ 63 ∧ 0 ≤ n ∧ n ≤ z
theorem Dk.of {S S' : Sto} {a c : Addr} {z : Int} (h : Dk S a c z) (e : ∀ b ∈ [a, c], S' b = S b) : Dk S' a c z := by
  obtain ⟨cs, m, n, h1, h2, h3, h4⟩ := h
  exact ⟨cs, m, n, h1, by rw [e a (by simp)]; exact h2, by rw [e c (by simp)]; exact h3, h4⟩
theorem Dk.step {S S' : Sto} {a c : Addr} {z : Int} {L : List Addr} (h : Dk S a c z) (s : Step L S S') (na : a ∉ L) (nc : c ∉ L) : Dk S' a c z := by
  obtain ⟨cs, m, n, h1, h2, h3, h4⟩ := h
  exact ⟨cs, m, n, h1, s.at h2 na, s.at h3 nc, h4⟩
theorem Dk.some {S : Sto} {a c : Addr} {z : Int} (h : Dk S a c z) : ∀ b ∈ [a, c], S b ≠ none := by
  obtain ⟨cs, m, n, h1, h2, h3, h4⟩ := h
  intro b hb
  simp only [List.mem_cons, List.not_mem_nil, or_false] at hb
  rcases hb with rfl | rfl
  · rw [h2]; exact nofun
  · rw [h3]; exact nofun
theorem Dk.mono {S : Sto} {a c : Addr} {z y : Int} (h : Dk S a c z) (l : z ≤ y) : Dk S a c y := by
  obtain ⟨cs, m, n, h1, h2, h3, h4, h5, h6⟩ := h
  exact ⟨cs, m, n, h1, h2, h3, h4, h5, by omega⟩
theorem val_cells {c : Addr} {m n : Int} : DL.valD [(.inr "cells", .ref c), (.inr "seed", .int m), (.inr "at", .int n)] (.inr (Str.ofString "cells")) = some (.ref c) := rfl
theorem val_seed {c : Addr} {m n : Int} : DL.valD [(.inr "cells", .ref c), (.inr "seed", .int m), (.inr "at", .int n)] (.inr (Str.ofString "seed")) = some (.int m) := rfl
theorem val_at {c : Addr} {m n : Int} : DL.valD [(.inr "cells", .ref c), (.inr "seed", .int m), (.inr "at", .int n)] (.inr (Str.ofString "at")) = some (.int n) := rfl
theorem put_at {c : Addr} {m n k : Int} : DL.putD [(.inr "cells", .ref c), (.inr "seed", .int m), (.inr "at", .int n)] (.inr (Str.ofString "at")) (.int k) = [(.inr "cells", .ref c), (.inr "seed", .int m), (.inr "at", .int k)] := rfl
section
variable {P : Program} {w : World} {K : PySem.W.Frag} {mg : Str → Option Value} {base : Heap}
theorem cut_map {α : Type} (f : α → D) (l : List α) (lo hi : Option Int) : ∃ m : List α, DL.cutD (l.map f) lo hi = m.map f ∧ m.length ≤ l.length := by
  refine ⟨(l.drop (HT.sIx l.length 0 lo)).take (HT.sIx l.length l.length hi - HT.sIx l.length 0 lo), ?_, ?_⟩
  · unfold DL.cutD
    rw [List.length_map, List.map_take, List.map_drop]
  · rw [List.length_take, List.length_drop]; omega

abbrev st_l_cells : Stmt := top 20
theorem sc_l_cells : FnScope ["_law_script", "_law_cells_here", "_law_seed", "_law_cell"] ["_law_script"] (defScope st_l_cells) := ⟨rfl, rfl, rfl, by decide +kernel, rfl, by decide +kernel, by decide +kernel⟩
def sp_l_cells : DSp := fun ds S P => ∃ ns : List Int, ds = [.lst (ns.map .int)] ∧ ns.length ≤ 63 ∧ ∀ a c S', Dk S' a c 0 → Step [] S S' → S a = none → S c = none → P (.ref a) S'
theorem len_l_cells {ds : List D} {S : Sto} {P : DK} (h : sp_l_cells ds S P) : ds.length = 1 := by obtain ⟨a, rfl, _⟩ := h; rfl
theorem ok_l_cells {k : Nat}  (DD : Def K mg "_law_cells" st_l_cells ["_law_script"]) (m_list : mg "list" = none) : Has P w K mg base (k + 1) "_law_cells" ["_law_script"] (sp_l_cells) := by
  refine DD.has sc_l_cells (fun ds S P h => len_l_cells h) (fun f cdv A outer s H hr hgd => ⟨_, (ss_cons (s_set 1 sc_l_cells.nd (q_callTy (c_listF) rfl m_list DL.bt_list (a_cons (q_slice sl_D (q_var 0) o_none (o_some q_int)) a_nil)))
      (ss_cons (s_set 2 sc_l_cells.nd q_int)
      (ss_cons (s_for PassesOwn.never rfl (i_seq (q_var 1)) (g_name 3 sc_l_cells.nd) (ss_one (s_set 2 sc_l_cells.nd (q_op op_modD (q_op op_addD (q_op op_addD (q_op op_mulD (q_var 2) q_int) (q_op op_modD (q_var 3) q_int)) q_int) q_int))))
      (ss_one (s_ret (q_dicG3 (q_revM (q_var 1)) (q_var 2) q_int)))))), fun ds S P h => ?_⟩)
  obtain ⟨ns, rfl, hn, h⟩ := h
  have hl : 63 ≤ sizeLine := small1 (by decide)
  walk_at "rh_k22d"
  obtain ⟨m, e, hm⟩ := cut_map D.int ns none (some 63)
  rw [e]
  refine ⟨fun j δ' S' => ∃ k : Int, ∃ x, δ' = [some (.lst (ns.map .int)), some (.lst (m.map .int)), some (.int k), x] ∧ Step [] S S', ⟨59, _, rfl, .refl S⟩, fun j d δ' S1 hd ⟨k, x, ed, s1⟩ => ?_, fun δ' S1 ⟨k, x, ed, s1⟩ => ?_⟩
  · subst ed
    rw [List.getElem?_map] at hd
    cases q : m[j]? with
    | none => rw [q] at hd; cases hd
    | some i =>
      rw [q] at hd; cases hd
      walk_at "rh_k22d"
      exact ⟨.inr ⟨by decide, by decide⟩, by decide, by decide, _, _, rfl, s1⟩
  · subst ed
    walk_at "rh_k22d"
    intro p np
    unfold dRevM
    walk_at "rh_k22d"
    show ∀ c, _ = none → _
    intro c nc
    have nSp : S p = none := by cases e : S p with
      | none => rfl
      | some o => rw [s1.at e List.not_mem_nil] at np; cases np
    have hpc : p ≠ c := fun e => by rw [← e, sup_same] at nc; cases nc
    have nSc : S c = none := by cases e : S c with
      | none => rfl
      | some o => rw [sup_ne hpc.symm, s1.at e List.not_mem_nil] at nc; cases nc
    refine ⟨by rw [sup_ne hpc]; exact sup_same, h p c _ ⟨m.reverse, k, 0, hpc, sup_same, ?_, by rw [List.length_reverse]; omega, Int.le_refl _, Int.le_refl _⟩ (fun b hb nb => ?_) nSp nSc⟩
    · rw [sup_ne hpc.symm, sup_same, List.map_reverse]
    · have h1 : b ≠ p := fun e => hb (by rw [e]; exact nSp)
      have h2 : b ≠ c := fun e => hb (by rw [e]; exact nSc)
      rw [sup_ne h1, sup_ne h2, sup_ne h1]
      exact s1 b hb nb
abbrev st_l_draw : Stmt := top 21
theorem sc_l_draw : FnScope ["_law_deck", "_law_many", "_law_cell", "_law_at", "_law_number"] ["_law_deck", "_law_many"] (defScope st_l_draw) := ⟨rfl, rfl, rfl, by decide +kernel, rfl, by decide +kernel, by decide +kernel⟩
def sp_l_draw : DSp := fun ds S P => ∃ (a c : Addr) (w z : Int), ds = [.ref a, .int w] ∧ 0 < w ∧ w < 1073741824 ∧ Dk S a c z ∧ z ≤ 2 ^ 50 ∧ ∀ (r : Int) S', 0 ≤ r → r < w → Dk S' a c (z + 1) → Step [a, c] S S' → P (.int r) S'
theorem len_l_draw {ds : List D} {S : Sto} {P : DK} (h : sp_l_draw ds S P) : ds.length = 2 := by obtain ⟨_, _, _, _, rfl, _⟩ := h; rfl
theorem ok_l_draw {k : Nat}  (DD : Def K mg "_law_draw" st_l_draw ["_law_deck", "_law_many"]) : Has P w K mg base (k + 1) "_law_draw" ["_law_deck", "_law_many"] (sp_l_draw) := by
  refine DD.has sc_l_draw (fun ds S P h => len_l_draw h) (fun f cdv A outer s H hr hgd => ⟨_, (ss_cons (s_dput (hu_of hr) (q_op op_addD (q_dgetR (hu_of hr) (q_var 0) q_str) q_int) (q_var 0) q_str)
      (ss_cons (s_set 2 sc_l_draw.nd (q_dgetR (hu_of hr) (q_var 0) q_str))
      (ss_cons (s_if (t_cmp (op_neD (DL.Room.un1 hr)) (q_dgetR (hu_of hr) (q_var 0) q_str) (q_lst a_nil)) (ss_cons (s_set 2 sc_l_draw.nd (q_mtL0 PySem.F.slot_list_pop PySem.F.type_list_pop m_pop (q_dgetR (hu_of hr) (q_var 0) q_str)))
      (ss_cons (s_if (t_cmp op_geD (q_var 2) (q_op op_powD q_int q_int)) (ss_cons (s_expr (q_mtL PySem.F.slot_list_append PySem.F.type_list_append m_append (q_dgetR (hu_of hr) (q_var 0) q_str) (a_cons (q_op op_fdivD (q_var 2) (q_var 1)) a_nil)))
      (ss_one (s_ret (q_op op_modD (q_var 2) (q_var 1))))) ss_nil)
      (ss_one (s_set 2 sc_l_draw.nd (q_op op_addD (q_var 2) (q_dgetR (hu_of hr) (q_var 0) q_str)))))) ss_nil)
      (ss_cons (s_set 3 sc_l_draw.nd (q_dgetR (hu_of hr) (q_var 0) q_str))
      (ss_cons (s_set 4 sc_l_draw.nd (q_op op_modD (q_op op_mulD (q_op op_addD (q_op op_addD (q_op op_modD (q_var 2) q_int) (q_op op_mulD (q_op op_mulD q_int (q_var 3)) (q_var 3))) q_int) q_int) q_int))
      (ss_cons (s_set 4 sc_l_draw.nd (q_op op_modD (q_op op_addD (q_op op_mulD (q_var 4) (q_var 4)) (q_op op_mulD q_int (q_var 3))) q_int))
      (ss_one (s_ret (q_op op_modD (q_op op_fdivD (q_op op_modD (q_op op_mulD (q_var 4) (q_op op_addD (q_op op_fdivD (q_var 4) q_int) q_int)) q_int) q_int) (q_var 1)))))))))), fun ds S P h => ?_⟩)
  obtain ⟨a, c, w, z, rfl, w0, w1, ⟨cs, m, n, hne, ea, ec, hl, n0, n1⟩, hz, h⟩ := h
  have hline : 63 ≤ sizeLine := small1 (by decide)
  refine seq_gen fun M hM => ?_
  walk_at "rh_k22d"
  refine ⟨a, _, _, _, rfl, rfl, ea, val_at, a, _, _, rfl, rfl, ea, by show 3 < sizeLine; omega, ?_⟩
  rw [put_at]
  have eA : (sup S a (deckD c m (n + 1))) a = some (deckD c m (n + 1)) := sup_same
  have eC : (sup S a (deckD c m (n + 1))) c = some (.lst (cs.map .int)) := by rw [sup_ne hne.symm]; exact ec
  have sA : Step [a, c] S (sup S a (deckD c m (n + 1))) := .mut (by simp)
  show M _ (sup S a (deckD c m (n + 1)))
  generalize sup S a (deckD c m (n + 1)) = S1 at eA eC sA
  subst hM
  refine seq_gen fun M hM => ?_
  walk_at "rh_k22d"
  refine ⟨a, _, _, _, rfl, rfl, eA, val_seed, ?_⟩
  subst hM
  refine seq_gen fun M hM => ?_
  -- the rest, for any number
  have key : ∀ (x : Int) (cs' : List Int) (S2 : Sto), S2 a = some (deckD c m (n + 1)) → S2 c = some (.lst (cs'.map .int)) → cs'.length ≤ 63 → Step [a, c] S S2 → M [some (.ref a), some (.int w), some (.int x), none, none] S2 := by
    intro x cs' S2 eA eC hl sA
    subst hM
    refine seq_gen fun M hM => ?_
    walk_at "rh_k22d"
    refine ⟨a, _, _, _, rfl, rfl, eA, val_at, ?_⟩
    subst hM
    refine seq_gen fun M hM => ?_
    walk_at "rh_k22d"
    refine ⟨by decide, .inl ⟨by decide, by decide⟩, .inr ⟨by omega, by omega⟩, .inr ⟨by decide, by decide⟩, by decide, ?_⟩
    obtain ⟨u, eu⟩ : ∃ u : Int, u = (x % 2147483629 + 60013 * (n + 1) * (n + 1) + 7) * 48271 % 2147483647 := ⟨_, rfl⟩
    rw [← eu]
    have u0 : 0 ≤ u := by rw [eu]; exact Int.emod_nonneg _ (by decide)
    have u1 : u < 2147483647 := by rw [eu]; exact Int.emod_lt_of_pos _ (by decide)
    subst hM
    refine seq_gen fun M hM => ?_
    walk_at "rh_k22d"
    refine ⟨.inl ⟨by omega, by omega⟩, .inl ⟨by decide, by decide⟩, by decide, ?_⟩
    obtain ⟨v, ev⟩ : ∃ v : Int, v = (u * u + 40009 * (n + 1)) % 2147483563 := ⟨_, rfl⟩
    rw [← ev]
    have v0 : 0 ≤ v := by rw [ev]; exact Int.emod_nonneg _ (by decide)
    have v1 : v < 2147483563 := by rw [ev]; exact Int.emod_lt_of_pos _ (by decide)
    subst hM
    walk_at "rh_k22d"
    exact ⟨⟨by decide, by decide⟩, .inl ⟨by omega, by omega⟩, by decide, ⟨by decide, by decide⟩, w0, h _ _ (Int.emod_nonneg _ (by omega)) (Int.emod_lt_of_pos _ w0) ⟨cs', m, n + 1, hne, eA, eC, hl, by omega, by omega⟩ sA⟩
  walk_at "rh_k22d"
  refine ⟨a, _, _, _, rfl, rfl, eA, val_cells, ?_⟩
  rw [DL.ne_r0 eC]
  walk_at "rh_k22d"
  by_cases hcs : cs = []
  · subst hcs
    simp only [List.map_nil, List.isEmpty_nil, Bool.not_true, cond_false]
    exact ⟨by omega, key m [] S1 eA eC (by simp) sA⟩
  · obtain ⟨N, x, rfl⟩ : ∃ N x, cs = N ++ [x] := ⟨cs.dropLast, cs.getLast hcs, (List.dropLast_concat_getLast hcs).symm⟩
    have e0 : (!((N ++ [x]).map DL.D.int).isEmpty) = true := by simp
    rw [e0]
    simp only [cond_true]
    refine ⟨by omega, a, _, _, _, rfl, rfl, eA, val_cells, ⟨c, _, rfl, eC⟩, ?_⟩
    rw [onL_eq eC]
    have e1 : (((N ++ [x]).map DL.D.int)[((N ++ [x]).map DL.D.int).length - 1]?) = some (.int x) := by simp
    have e2 : ((N ++ [x]).map DL.D.int).dropLast = N.map .int := by simp
    rw [e1, e2]
    have lN : N.length ≤ 62 := by rw [List.length_append] at hl; simp at hl; omega
    have eA2 : (sup S1 c (.lst (N.map .int))) a = some (deckD c m (n + 1)) := by rw [sup_ne hne]; exact eA
    have eC2 : (sup S1 c (.lst (N.map .int))) c = some (.lst (N.map .int)) := sup_same
    have sA2 : Step [a, c] S (sup S1 c (.lst (N.map .int))) := sA.trans (.mut (by simp))
    simp only [Option.elim_some]
    generalize sup S1 c (.lst (N.map .int)) = S2 at eA2 eC2 sA2 ⊢
    walk_at "rh_k22d"
    refine ⟨⟨by decide, by decide, by decide⟩, ?_⟩
    cases hb : decide ((10 : Int) ^ Int.toNat 18 ≤ x) with
    | true =>
      walk_at "rh_k22d"
      refine ⟨a, _, _, _, rfl, rfl, eA2, val_cells, ⟨c, _, rfl, eC2⟩, ⟨w0, w1⟩, ?_⟩
      rw [onL_eq eC2]
      refine ⟨by rw [List.length_map]; omega, w0, ?_⟩
      refine h _ _ (Int.emod_nonneg _ (by omega)) (Int.emod_lt_of_pos _ w0) ⟨N ++ [x / w], m, n + 1, hne, ?_, ?_, by simp; omega, by omega, by omega⟩ (sA2.trans (.mut (by simp)))
      · rw [sup_ne hne]; exact eA2
      · rw [sup_same, List.map_append]; rfl
    | false =>
      walk_at "rh_k22d"
      refine ⟨a, _, _, _, rfl, rfl, eA2, val_seed, ?_⟩
      exact key (x + m) N S2 eA2 eC2 (by omega) sA2
end
end K22
set_option Elab.async false
set_option linter.all false
set_option maxRecDepth 100000
set_option maxHeartbeats 1000000
namespace K22
open PySem PySem.Spec PyProof.Rows L2 DL NdefX
local macro_rules | `(tactic| walk_at "rh_k22e") => `(tactic| simp only [↓DL.e_next, ↓DL.e_seq, ↓DL.e_drop, ↓DL.e_ret, ↓DL.e_retN, ↓DL.e_if, ↓DL.e_cont, ↓DL.e_break, ↓DL.e_set, ↓DL.e_asg, ↓DL.e_par, ↓DL.e_setI, ↓DL.e_for, ↓DL.e_var, ↓DL.e_c, ↓DL.e_op, ↓DL.e_un, ↓DL.e_test, ↓DL.e_chain, ↓DL.e_and, ↓DL.e_or, ↓DL.e_not, ↓DL.e_andV, ↓DL.e_orV, ↓DL.e_notV, ↓DL.e_ife, ↓DL.e_nil, ↓DL.e_cons, ↓DL.e_tup, ↓DL.e_lst, ↓DL.e_lstM, ↓DL.e_noPart, ↓DL.e_part, ↓DL.e_sl, ↓DL.e_cb, ↓DL.e_mtL, ↓DL.e_mt0, ↓DL.e_mtS, ↓DL.e_mtS0, ↓DL.e_tru, ↓DL.e_lc, ↓DL.e_itS, ↓DL.e_itStr, ↓DL.e_rng1, ↓DL.e_rev, ↓DL.e_dic0, ↓DL.e_dic1, ↓DL.e_s0, ↓DL.e_s1, ↓DL.e_ct, ↓DL.e_cf, dstart, slot, gN, ↓asB_bl, ↓asI_int, ↓asS_str, cond_true, cond_false, List.map_cons, List.map_nil, List.length_cons, List.length_nil, List.set_cons_zero, List.set_cons_succ, Option.elim_some, Option.elim_none, List.cons_append, List.nil_append, List.replicate, Nat.sub_self, Nat.reduceSub, Nat.reduceAdd, Bool.not_true, Bool.not_false, setAll, Int.cast_ofNat_Int, Int.reduceLT, Int.reduceLE, Int.reduceBEq, Nat.reduceBEq, decide_true, decide_false, ↓DL.pred_s, ↓DL.len_str, ↓DL.len_tup, ↓DL.len_lst, ↓DL.le_ii, ↓DL.le_ss, ↓DL.cmp_ii, ↓DL.add_ii, ↓DL.add_ib, ↓DL.add_bi, ↓DL.add_ss, ↓DL.add_tt, ↓DL.add_ll, ↓DL.sub_ii, ↓DL.sub_ib, ↓DL.sub_bi, ↓DL.mul_ii, ↓DL.ii_ii, ↓DL.neg_i, ↓DL.is_bb, ↓DL.isn_bb, ↓DL.all_b, ↓DL.all_map, ↓DL.sum_i, ↓DL.eq_ii, ↓DL.eq_bi, ↓DL.eq_t0, ↓DL.eq_l0, ↓DL.ne_ss, ↓DL.ne_ii, ↓DL.ne_t0, ↓DL.ne_l0, ↓DL.ix_tup, ↓DL.ix_lst, ↓DL.ix_str, ↓DL.in_c, ↓DL.nin_c, ↓DL.sl_str, ↓DL.sl_tup, ↓DL.sl_lst, ↓DL.app_1, ↓DL.pop_0, ↓DL.ext_t, ↓DL.tuple_l, ↓DL.list_t, ↓DL.list_l, ↓DL.int_b, ↓DL.int_i, ↓DL.min_ii, ↓DL.str_i, ↓DL.str_b, ↓DL.repr_1, ↓DL.back_t, ↓DL.tru_l, ↓DL.at0, ↓DL.at1, ↓DL.at2, ↓DL.at3, ↓DL.e_callE, ↓DL.e_getOr, ↓DL.e_dicI3, ↓DL.e_lcM, ↓DL.e_lstRg, ↓DL.e_enT, ↓DL.e_enL, ↓DL.e_lenset, ↓DL.e_fs, ↓DL.e_callL, ↓DL.e_never, ↓DL.e_dicM, ↓DL.e_dicS, ↓DL.e_dget, ↓DL.e_dput, ↓DL.e_forK, ↓DL.e_isN, ↓DL.e_revI, ↓DL.e_varF, ↓DL.fs_s, ↓DL.fs_i, ↓DL.get_d, ↓DL.rev_t, ↓DL.int_e, DL.isNon, ↓DL.e_callC, ↓DL.e_callFz, ↓DL.e_ndef, ↓DL.e_lam, ↓DL.e_no, ↓DL.e_lrevM, ↓DL.e_lrev, ↓DL.e_frzE, DL.nstart, ↓DL.e_dgetR, ↓DL.e_dicG3])
def B : Nat → Nat
  | 0 => 3
  | k + 1 => 5 + 3 * B k
theorem B_pos : ∀ k, 3 ≤ B k
  | 0 => by simp only [B]; omega
  | k + 1 => by simp only [B]; omega
section
variable {P : Program} {w : World} {K : PySem.W.Frag} {mg : Str → Option Value} {base : Heap}

abbrev st_l_pick : Stmt := top 22
theorem sc_l_pick : FnScope ["_law_deck", "_law_some"] ["_law_deck", "_law_some"] (defScope st_l_pick) := ⟨rfl, rfl, rfl, by decide +kernel, rfl, by decide +kernel, by decide +kernel⟩
def sp_l_pick : DSp := fun ds S P => ∃ (a c : Addr) (z : Int) (xs : List D), ds = [.ref a, .lst xs] ∧ xs ≠ [] ∧ xs.length ≤ 100 ∧ Dk S a c z ∧ z ≤ 2 ^ 50 ∧ ∀ (d : D) S', d ∈ xs → Dk S' a c (z + 1) → Step [a, c] S S' → P d S'
theorem len_l_pick {ds : List D} {S : Sto} {P : DK} (h : sp_l_pick ds S P) : ds.length = 2 := by obtain ⟨_, _, _, _, rfl, _⟩ := h; rfl
theorem ok_l_pick {k : Nat}  (DD : Def K mg "_law_pick" st_l_pick ["_law_deck", "_law_some"]) (G__law_draw : Has P w K mg base (k) "_law_draw" ["_law_deck", "_law_many"] (sp_l_draw)) (m_len : mg "len" = none) : Has P w K mg base (k + 1) "_law_pick" ["_law_deck", "_law_some"] (sp_l_pick) := by
  refine DD.has sc_l_pick (fun ds S P h => len_l_pick h) (fun f cdv A outer s H hr hgd => ⟨_, (ss_one (s_ret (q_ix ix_D (q_var 1) (q_def G__law_draw (hr.mono (by omega)) hgd (a_cons (q_var 0) (a_cons (q_callB (c_len) rfl m_len PySem.boot_len (a_cons (q_var 1) a_nil)) a_nil)))))), fun ds S P h => ?_⟩)
  obtain ⟨a, c, z, xs, rfl, hx, hl, hD, hz, h⟩ := h
  have l1 : 0 < xs.length := by cases xs with
    | nil => exact absurd rfl hx
    | cons _ _ => simp
  walk_at "rh_k22e"
  refine ⟨a, c, (xs.length : Int), z, rfl, by omega, by omega, hD, hz, fun r S1 r0 r1 hD1 s1 => ?_⟩
  obtain ⟨d, ed, hd⟩ := at_mem (xs := xs) (i := r) r0 r1
  show (atI xs r).elim False fun d => P d S1
  rw [ed]
  exact h d S1 hd hD1 s1
abbrev st_l_any : Stmt := top 23
theorem sc_l_any : FnScope ["_law_deck", "_law_holes", "_law_deep", "_law_way", "_law_word", "_law_inner", "_law_terms", "_law_name", "_law_k"] ["_law_deck", "_law_holes", "_law_deep"] (defScope st_l_any) := ⟨rfl, rfl, rfl, by decide +kernel, rfl, by decide +kernel, by decide +kernel⟩
def sp_l_any (n : Nat) : DSp := fun ds S P => ∃ (a c r : Addr) (z : Int) (hs : List Str) (k : Nat), ds = [.ref a, .ref r, .int (k : Nat)] ∧ k < n ∧ k ≤ 3 ∧ Dk S a c z ∧ r ≠ a ∧ r ≠ c ∧ S r = some (.lst (hs.map .str)) ∧ hs.length ≤ 10 ∧ (hs.all nice) = true ∧ z + 4 ^ (k + 1) ≤ 2 ^ 50 ∧
  ∀ (t : Tm) (hs' : List Str) S', okT t = true → dpT t ≤ k → sz (enc t) ≤ B k → nh t ≤ 3 ^ k → hin (fun x => decide (x ∈ hs)) t = true → (∀ x ∈ hs', x ∈ hs) → hs'.length ≤ hs.length → S' r = some (.lst (hs'.map .str)) → Dk S' a c (z + 4 ^ (k + 1)) → Step [a, c, r] S S' → P (enc t) S'
theorem len_l_any {n : Nat} {ds : List D} {S : Sto} {P : DK} (h : sp_l_any n ds S P) : ds.length = 3 := by obtain ⟨_, _, _, _, _, _, rfl, _⟩ := h; rfl
theorem nhs_app : ∀ xs ys : List Tm, nhs (xs ++ ys) = nhs xs + nhs ys
  | [], ys => by simp only [List.nil_append, nhs, Nat.zero_add]
  | x :: r, ys => by simp only [List.cons_append, nhs, nhs_app r ys]; omega
theorem hins_app {A : Str → Bool} : ∀ xs ys : List Tm, hins A (xs ++ ys) = (hins A xs && hins A ys)
  | [], ys => by simp only [List.nil_append, hins, Bool.true_and]
  | x :: r, ys => by simp only [List.cons_append, hins, hins_app r ys, Bool.and_assoc]
theorem okTs_app (xs ys : List Tm) : okTs (xs ++ ys) = (okTs xs && okTs ys) := by rw [okTs_all, okTs_all, okTs_all, List.all_append]
theorem dpTs_app : ∀ xs ys : List Tm, dpTs (xs ++ ys) = max (dpTs xs) (dpTs ys)
  | [], ys => by simp only [List.nil_append, dpTs]; omega
  | x :: r, ys => by simp only [List.cons_append, dpTs, dpTs_app r ys]; omega
mutual
theorem hin_mono {A C : Str → Bool} (h : ∀ z, A z = true → C z = true) : ∀ {t : Tm}, hin A t = true → hin C t = true
  | .at _, _ => by simp only [hin]
  | .world _, _ => by simp only [hin]
  | .hole z, q => by simp only [hin] at q ⊢; exact h z q
  | .bin _ _ x y, q => by simp only [hin, Bool.and_eq_true] at q ⊢; exact ⟨hin_mono h q.1, hin_mono h q.2⟩
  | .app _ _ ts, q => by simp only [hin] at q ⊢; exact hins_mono h q
  | .shp _ _ ts, q => by simp only [hin] at q ⊢; exact hins_mono h q
theorem hins_mono {A C : Str → Bool} (h : ∀ z, A z = true → C z = true) : ∀ {ts : List Tm}, hins A ts = true → hins C ts = true
  | [], _ => by simp only [hins]
  | t :: r, q => by simp only [hins, Bool.and_eq_true] at q ⊢; exact ⟨hin_mono h q.1, hins_mono h q.2⟩
end
theorem lc_any {n i k m : Nat} {te : DE} {δ : DSt} {a c r : Addr} {z : Int} {hs : List Str} {S : Sto} {Q : DK}
    (hte : ∀ d S2 Q, sp_l_any n [.ref a, .ref r, .int (k : Nat)] S2 Q → te ((δ.set i none).set i (some d)) S2 Q) (hk : k < n) (hk3 : k ≤ 3) (hm : m ≤ 10) (hD : Dk S a c z) (ra : r ≠ a) (rc : r ≠ c) (er : S r = some (.lst (hs.map .str))) (hl : hs.length ≤ 10) (hn : (hs.all nice) = true) (hz : z + m * 4 ^ (k + 1) ≤ 2 ^ 50)
    (h : ∀ (ts : List Tm) (hs' : List Str) S', ts.length = m → okTs ts = true → dpTs ts ≤ k → szA (encs ts) ≤ m * B k → nhs ts ≤ m * 3 ^ k → hins (fun x => decide (x ∈ hs)) ts = true → (∀ x ∈ hs', x ∈ hs) → hs'.length ≤ hs.length → S' r = some (.lst (hs'.map .str)) → Dk S' a c (z + m * 4 ^ (k + 1)) → Step [a, c, r] S S' → Q (.lst (encs ts)) S') :
    lcB (gN i) dYes te [i] δ (iota 0 m) S Q := by
  have p1 : (0 : Int) ≤ 4 ^ (k + 1) := Int.le_of_lt (Int.pow_pos (by decide))
  have some4 : ∀ b ∈ [a, c, r], S b ≠ none := fun b hb => by
    simp only [List.mem_cons, List.not_mem_nil, or_false] at hb
    rcases hb with rfl | rfl | rfl
    · exact hD.some _ (by simp)
    · exact hD.some _ (by simp)
    · rw [er]; exact nofun
  refine lc_acc [a, c, r] (fun j acc S' => ∃ (ts : List Tm) (hs' : List Str), acc = encs ts ∧ ts.length = j ∧ okTs ts = true ∧ dpTs ts ≤ k ∧ szA (encs ts) ≤ j * B k ∧ nhs ts ≤ j * 3 ^ k ∧ hins (fun x => decide (x ∈ hs)) ts = true ∧ (∀ x ∈ hs', x ∈ hs) ∧ hs'.length ≤ hs.length ∧ S' r = some (.lst (hs'.map .str)) ∧ Dk S' a c (z + j * 4 ^ (k + 1)))
    (by rw [iota_len]; exact small1 (by omega)) (fun j acc S1 S2 e ⟨ts, hs', x1, x2, x3, x4, x5, x6, x7, x8, x9, x10, x11⟩ => ⟨ts, hs', x1, x2, x3, x4, x5, x6, x7, x8, x9, by rw [e r (by simp)]; exact x10, x11.of fun b hb => e b (by simp only [List.mem_cons, List.not_mem_nil, or_false] at hb ⊢; rcases hb with rfl | rfl <;> simp)⟩) some4
    ⟨[], hs, by simp only [encs], rfl, by simp only [okTs], by simp only [dpTs]; omega, by simp only [encs, szA]; omega, by simp only [nhs]; omega, by simp only [hins], fun x hx => hx, Nat.le_refl _, er, hD.mono (by simp)⟩ (fun j d acc hd hj S2 Q2 ⟨ts, hs', x1, x2, x3, x4, x5, x6, x7, x8, x9, x10, x11⟩ q => ?_) fun ys S2 hlen ⟨ts, hs', x1, x2, x3, x4, x5, x6, x7, x8, x9, x10, x11⟩ s2 => ?_
  · have hjm : j < m := by have := (List.getElem?_eq_some_iff.mp hd).1; rw [iota_len] at this; exact this
    have hj2 : (((j + 1 : Nat)) : Int) * 4 ^ (k + 1) ≤ (m : Int) * 4 ^ (k + 1) := Int.mul_le_mul_of_nonneg_right (by omega) p1
    have hj3 : (((j + 1 : Nat)) : Int) * 4 ^ (k + 1) = (j : Int) * 4 ^ (k + 1) + 4 ^ (k + 1) := by rw [Int.natCast_add, Int.add_mul]; simp
    refine hte d S2 Q2 ⟨a, c, r, _, hs', k, rfl, hk, hk3, x11, ra, rc, x10, by omega, List.all_eq_true.mpr fun x hx => List.all_eq_true.mp hn x (x8 x hx), by omega, fun t hs2 S3 y1 y2 y3 y4 y5 y6 y7 y8 y9 y10 => q _ S3 ⟨ts ++ [t], hs2, ?_, ?_, ?_, ?_, ?_, ?_, ?_, fun x hx => x8 x (y6 x hx), by omega, y8, ?_⟩ y10⟩
    · rw [encs_app, x1]; simp only [encs]
    · rw [List.length_append, x2]; rfl
    · rw [okTs_app, x3]; simp only [okTs, y1]; rfl
    · rw [dpTs_app]; simp only [dpTs]; omega
    · rw [encs_app, szA_append]; simp only [encs, szA, Nat.add_mul]; omega
    · rw [nhs_app]; simp only [nhs, Nat.add_mul]; omega
    · rw [hins_app, x7]; simp only [hins, Bool.true_and, Bool.and_true]
      exact hin_mono (fun x hx => by rw [decide_eq_true_eq] at hx ⊢; exact x8 x hx) y5
    · rw [hj3, ← Int.add_assoc]; exact y9
  · rw [iota_len] at hlen x2 x5 x6 x11
    rw [x1]
    exact h ts hs' S2 x2 x3 x4 x5 x6 x7 x8 x9 x10 x11 s2
theorem ok_l_any {k : Nat} {n:Nat} (DD : Def K mg "_law_any" st_l_any ["_law_deck", "_law_holes", "_law_deep"]) (G__law_pick : Has P w K mg base (k) "_law_pick" ["_law_deck", "_law_some"] (sp_l_pick)) (G__law_draw : Has P w K mg base (k) "_law_draw" ["_law_deck", "_law_many"] (sp_l_draw)) (G__law_any : Has P w K mg base (k) "_law_any" ["_law_deck", "_law_holes", "_law_deep"] (sp_l_any n)) (m_tuple : mg "tuple" = none) (m_range : mg "range" = none) : Has P w K mg base (k + 1) "_law_any" ["_law_deck", "_law_holes", "_law_deep"] (sp_l_any (n+1)) := by
  refine DD.has sc_l_any (fun ds S P h => len_l_any h) (fun f cdv A outer s H hr hgd => ⟨_, (ss_cons (s_set 3 sc_l_any.nd (q_def G__law_draw (hr.mono (by omega)) hgd (a_cons (q_var 0) (a_cons q_int a_nil))))
      (ss_cons (s_if (t_w (w_and (t_cmp (op_eqD (DL.Room.un1 hr)) (q_var 3) q_int) (w_and1 (t_cmp (op_neD (DL.Room.un1 hr)) (q_var 1) (q_lst a_nil))))) (ss_one (s_ret (q_tup (a_cons q_str (a_cons (q_mtL0 PySem.F.slot_list_pop PySem.F.type_list_pop m_pop (q_var 1)) a_nil))))) ss_nil)
      (ss_cons (s_if (t_w (w_or (t_cmp op_ltD (q_var 2) q_int) (w_or1 (t_cmp op_ltD (q_var 3) q_int)))) (ss_one (s_ret (q_ix ix_D (q_lst (a_cons (q_tup (a_cons q_str (a_cons (q_def G__law_draw (hr.mono (by omega)) hgd (a_cons (q_var 0) (a_cons q_int a_nil))) a_nil))) (a_cons (q_tup (a_cons q_str (a_cons (q_def G__law_draw (hr.mono (by omega)) hgd (a_cons (q_var 0) (a_cons q_int a_nil))) a_nil))) a_nil))) (q_def G__law_draw (hr.mono (by omega)) hgd (a_cons (q_var 0) (a_cons q_int a_nil)))))) ss_nil)
      (ss_cons (s_set 4 sc_l_any.nd (q_ix ix_D (q_lst (a_cons q_str (a_cons q_str (a_cons q_str (a_cons q_str (a_cons q_str (a_cons q_str (a_cons q_str a_nil)))))))) (q_op op_subD (q_var 3) q_int)))
      (ss_cons (s_if (t_cmp (op_inD (DL.Room.un0 hr)) (q_var 4) (q_tup (a_cons q_str (a_cons q_str (a_cons q_str a_nil))))) (ss_cons (s_setLc 5 (own := [("_law_k", 8)]) (is := [8]) rfl lcg_name rfl sc_l_any.nd (i_rng1 rfl m_range (a_cons q_int a_nil)) (blkOk_by (own := [("_law_k", 8)]) (N := ["_law_deck", "_law_holes", "_law_deep", "_law_way", "_law_word", "_law_inner", "_law_terms", "_law_name", "_law_k"]) (sc := defScope st_l_any) (by decide +kernel)) (fun _ _ _ _ _ => pg_name (i := 8) sc_l_any.nd rfl (Or.inl rfl)) (fun _ _ _ _ _ => ts_nil) (fun _ _ _ _ _ => (q_def G__law_any (hr.mono (by omega)) hgd (a_cons (q_var 0) (a_cons (q_var 1) (a_cons (q_op op_subD (q_var 2) q_int) a_nil))))) (sw_true rfl rfl rfl (by decide +kernel)))
      (ss_one (s_ret (q_op op_addD (q_tup (a_cons (q_var 4) (a_cons (q_def G__law_pick (hr.mono (by omega)) hgd (a_cons (q_var 0) (a_cons (q_lst (a_cons q_str (a_cons q_str a_nil))) a_nil))) a_nil))) (q_callTy (c_tuple) rfl m_tuple DL.bt_tuple (a_cons (q_var 5) a_nil)))))) ss_nil)
      (ss_cons (s_set 6 sc_l_any.nd (q_callTy (c_tuple) rfl m_tuple DL.bt_tuple (a_cons (q_lc (own := [("_law_k", 8)]) (is := [8]) rfl lcg_name rfl sc_l_any.nd (i_rng1 rfl m_range (a_cons (q_def G__law_draw (hr.mono (by omega)) hgd (a_cons (q_var 0) (a_cons q_int a_nil))) a_nil)) (blkOk_by (own := [("_law_k", 8)]) (N := ["_law_deck", "_law_holes", "_law_deep", "_law_way", "_law_word", "_law_inner", "_law_terms", "_law_name", "_law_k"]) (sc := defScope st_l_any) (by decide +kernel)) (fun _ _ _ _ _ => pg_name (i := 8) sc_l_any.nd rfl (Or.inl rfl)) (fun _ _ _ _ _ => ts_nil) (fun _ _ _ _ _ => (q_def G__law_any (hr.mono (by omega)) hgd (a_cons (q_var 0) (a_cons (q_var 1) (a_cons (q_op op_subD (q_var 2) q_int) a_nil)))))) a_nil)))
      (ss_cons (s_set 7 sc_l_any.nd (q_def G__law_pick (hr.mono (by omega)) hgd (a_cons (q_var 0) (a_cons (q_lst (a_cons q_str (a_cons q_str (a_cons q_str (a_cons q_str a_nil))))) a_nil))))
      (ss_one (s_ret (q_ifExp (t_cmp (op_eqD (DL.Room.un1 hr)) (q_var 4) q_str) (q_tup (a_cons (q_var 4) (a_cons (q_var 7) (a_cons q_str (a_cons (q_var 6) a_nil))))) (q_tup (a_cons (q_var 4) (a_cons (q_var 7) (a_cons (q_var 6) a_nil)))))))))))))), fun ds S P h => ?_⟩)
  obtain ⟨a, c, r, z, hs, k, rfl, hk, hk3, hD, ra, rc, er, hl, hn, hz, h⟩ := h
  have hline : 100 ≤ sizeLine := small1 (by decide)
  have p4 : (4 : Int) ^ (k + 1) = 4 * 4 ^ k := by rw [Int.pow_succ]; omega
  have p1 : (1 : Int) ≤ 4 ^ k := Int.pow_pos (by decide)
  refine seq_gen fun M hM => ?_
  walk_at "rh_k22e"
  refine ⟨a, c, 10, z, rfl, by decide, by decide, hD, by omega, fun way S1 w0 w1 hD1 s1 => ?_⟩
  have er1 := s1.at er (by simp [ra, rc])
  subst hM
  refine seq_gen fun M hM => ?_
  have leaf : (sp_l_draw [.ref a, .int 6] S1 fun d S1 => 2 ≤ sizeLine ∧ sp_l_draw [.ref a, .int 10] S1 fun d_1 S1 => 2 ≤ sizeLine ∧ 2 ≤ sizeLine ∧ sp_l_draw [.ref a, .int 2] S1 fun e S2 => ixD (.lst [.tup [.str (Str.ofString "at"), d], .tup [.str (Str.ofString "world"), d_1]]) e S2 P) := by
    refine ⟨a, c, 6, z + 1, rfl, by decide, by decide, hD1, by omega, fun d1 S2 u0 u1 hD2 s2 => ⟨by omega, ?_⟩⟩
    refine ⟨a, c, 10, z + 1 + 1, rfl, by decide, by decide, hD2, by omega, fun d2 S3 v0 v1 hD3 s3 => ⟨by omega, by omega, ?_⟩⟩
    refine ⟨a, c, 2, z + 1 + 1 + 1, rfl, by decide, by decide, hD3, by omega, fun d3 S4 x0 x1 hD4 s4 => ?_⟩
    have s14 := s1.trans (s2.trans (s3.trans s4))
    have er4 := s14.at er (by simp [ra, rc])
    have hD5 := hD4.mono (show z + 1 + 1 + 1 + 1 ≤ z + 4 ^ (k + 1) by omega)
    have sL : Step [a, c, r] S S4 := s14.mono (by simp)
    have pB := B_pos k
    obtain rfl | rfl : d3 = 0 ∨ d3 = 1 := by omega
    · show P (.tup [.str (Str.ofString "at"), .int d1]) S4
      have q := h (.at d1.toNat) hs S4 (by simp only [okT, decide_eq_true_eq]; omega) (by simp only [dpT]; omega) (by simp only [enc, sz, szA]; omega) (by simp only [nh]; exact Nat.zero_le _) (by simp only [hin]) (fun x hx => hx) (Nat.le_refl _) er4 hD5 sL
      simp only [enc] at q
      rw [show ((d1.toNat : Nat) : Int) = d1 by omega] at q
      exact q
    · show P (.tup [.str (Str.ofString "world"), .int d2]) S4
      have q := h (.world d2.toNat) hs S4 (by simp only [okT, decide_eq_true_eq]; omega) (by simp only [dpT]; omega) (by simp only [enc, sz, szA]; omega) (by simp only [nh]; exact Nat.zero_le _) (by simp only [hin]) (fun x hx => hx) (Nat.le_refl _) er4 hD5 sL
      simp only [enc] at q
      rw [show ((d2.toNat : Nat) : Int) = d2 by omega] at q
      exact q
  -- what is left when no hole is told
  have key : M [some (.ref a), some (.ref r), some (.int (k : Nat)), some (.int way), none, none, none, none, none] S1 := by
    subst hM
    refine seq_gen fun M hM => ?_
    walk_at "rh_k22e"
    cases hk1 : decide ((k : Int) < 1) with
    | true => exact leaf
    | false =>
      have hk1 := of_decide_eq_false hk1
      simp only [cond_false]
      cases hw3 : decide (way < 3) with
      | true => exact leaf
      | false =>
        have hw3 := of_decide_eq_false hw3
        simp only [cond_false]
        clear leaf
        subst hM
        refine seq_gen fun M hM => ?_
        walk_at "rh_k22e"
        obtain ⟨k0, rfl⟩ : ∃ k0, k = k0 + 1 := ⟨k - 1, by omega⟩
        obtain ⟨d1, ed, hd1⟩ := at_mem (xs := ([.str "to", .str "fun", .str "give", .str "family", .str "call", .str "shape", .str "fun"] : List DL.D)) (i := way - 3) (by omega) (by simp; omega)
        obtain ⟨wd, rfl, hwd⟩ : ∃ z : Str, d1 = .str z ∧ (z ∈ tfg ∨ z ∈ fc ∨ z = "shape") := by
          simp only [List.mem_cons, List.not_mem_nil, or_false] at hd1
          rcases hd1 with rfl | rfl | rfl | rfl | rfl | rfl | rfl
          · exact ⟨_, rfl, .inl (by simp [tfg])⟩
          · exact ⟨_, rfl, .inl (by simp [tfg])⟩
          · exact ⟨_, rfl, .inl (by simp [tfg])⟩
          · exact ⟨_, rfl, .inr (.inl (by simp [fc]))⟩
          · exact ⟨_, rfl, .inr (.inl (by simp [fc]))⟩
          · exact ⟨_, rfl, .inr (.inr rfl)⟩
          · exact ⟨_, rfl, .inl (by simp [tfg])⟩
        refine ⟨by omega, ?_⟩
        rw [ed]
        simp only [Option.elim_some]
        have er1' := er1
        have p40 : (4 : Int) ^ (k0 + 1) = 4 * 4 ^ k0 := by rw [Int.pow_succ]; omega
        have p10 : (1 : Int) ≤ 4 ^ k0 := Int.pow_pos (by decide)
        have kk : (((k0 + 1 : Nat)) : Int) - 1 = (k0 : Nat) := by omega
        subst hM
        refine seq_gen fun M hM => ?_
        walk_at "rh_k22e"
        rw [DL.in_tt (zs := ["to", "fun", "give"]) rfl rfl]
        cases hm : memS (.str wd) (["to", "fun", "give"] : List Str) with
        | true =>
          walk_at "rh_k22e"
          refine ⟨by omega, ⟨by omega, by omega⟩, ?_⟩
          rw [show Int.toNat 2 = 2 from rfl]
          have hwd2 : wd ∈ tfg := by
            have := hm
            unfold memS at this
            obtain ⟨y, hy, e⟩ := List.any_eq_true.mp this
            rw [beq_iff_eq] at e
            exact e ▸ hy
          refine lc_any (n := n) (m := 2) (k := k0) (a := a) (c := c) (r := r) (z := z + 1) (hs := hs) (fun d S2 Q q => ?_) (by omega) (by omega) (by omega) hD1 ra rc er1 hl hn (by rw [p40]; omega) fun ts hs' S2 x2 x3 x4 x5 x6 x7 x8 x9 x10 x11 s2 => ?_
          · walk_at "rh_k22e"
            rw [kk]
            exact q
          refine ⟨by omega, a, c, _, [.str "run", .str "gone"], rfl, by simp, by simp, x11, by rw [p40]; omega, fun d S3 hd hD3 s3 => ⟨by omega, ?_⟩⟩
          obtain ⟨t1, t2, rfl⟩ : ∃ t1 t2, ts = [t1, t2] := by
            match ts, x2 with
            | [t1, t2], _ => exact ⟨t1, t2, rfl⟩
          obtain ⟨mk, rfl, hmk⟩ : ∃ z : Str, d = .str z ∧ z ∈ marks := by
            simp only [List.mem_cons, List.not_mem_nil, or_false] at hd
            rcases hd with rfl | rfl
            · exact ⟨_, rfl, by simp [marks]⟩
            · exact ⟨_, rfl, by simp [marks]⟩
          simp only [encs, okTs, dpTs, szA, nhs, hins, Bool.and_eq_true] at x3 x4 x5 x6 x7
          have q := h (.bin wd mk t1 t2) hs' S3 (by simp only [okT, Bool.and_eq_true, decide_eq_true_eq]; exact ⟨⟨⟨hwd2, hmk⟩, x3.1⟩, x3.2.1⟩) (by simp only [dpT]; omega) (by simp only [enc, sz, szA, B]; omega) (by simp only [nh]; rw [Nat.pow_succ]; omega) (by simp only [hin, Bool.and_eq_true]; exact ⟨x7.1, x7.2.1⟩) x8 x9 (s3.at x10 (by simp [ra, rc])) (hD3.mono (by rw [p4, p40]; omega)) (((s1.mono (by simp)).trans s2).trans (s3.mono (by simp)))
          simp only [enc] at q
          simp only [encs]
          show ([DL.D.str wd, .str mk].length + [enc t1, enc t2].length ≤ sizeLine ∧ _)
          exact ⟨by show 2 + 2 ≤ sizeLine; omega, q⟩
        | false =>
          walk_at "rh_k22e"
          refine ⟨by omega, ?_⟩
          subst hM
          refine seq_gen fun M hM => ?_
          walk_at "rh_k22e"
          have hwd2 : wd ∈ fc ∨ wd = "shape" := by
            rcases hwd with q | q
            · exfalso
              have : memS (.str wd) (["to", "fun", "give"] : List Str) = true := List.any_eq_true.mpr ⟨wd, q, beq_self_eq_true wd⟩
              rw [hm] at this; cases this
            · exact q
          refine ⟨a, c, 4, z + 1, rfl, by decide, by decide, hD1, by omega, fun m S2 m0 m1 hD2 s2 => ⟨⟨by omega, by omega⟩, ?_⟩⟩
          obtain ⟨m', em⟩ : ∃ m' : Nat, m.toNat = m' := ⟨_, rfl⟩
          rw [em]
          have hm' : m' ≤ 3 := by omega
          have pm : (m' : Int) * 4 ^ (k0 + 1) ≤ 3 * 4 ^ (k0 + 1) := Int.mul_le_mul_of_nonneg_right (by omega) (by omega)
          refine lc_any (n := n) (m := m') (k := k0) (a := a) (c := c) (r := r) (z := z + 1 + 1) (hs := hs) (fun d S2 Q q => ?_) (by omega) (by omega) (by omega) hD2 ra rc ((s1.trans s2).at er (by simp [ra, rc])) hl hn (by rw [p40] at pm ⊢; omega) fun ts hs' S3 x2 x3 x4 x5 x6 x7 x8 x9 x10 x11 s3 => ?_
          · walk_at "rh_k22e"
            rw [kk]
            exact q
          show M _ S3
          subst hM
          refine seq_gen fun M hM => ?_
          walk_at "rh_k22e"
          refine ⟨by omega, a, c, _, [.str "nat", .str "list", .str "base.2.nat", .str "call"], rfl, by simp, by simp, x11, by rw [p40] at pm ⊢; omega, fun d S4 hd hD4 s4 => ?_⟩
          obtain ⟨nm, rfl, hnm⟩ : ∃ z : Str, d = .str z ∧ nice z = true := by
            simp only [List.mem_cons, List.not_mem_nil, or_false] at hd
            rcases hd with rfl | rfl | rfl | rfl
            · exact ⟨_, rfl, by decide⟩
            · exact ⟨_, rfl, by decide⟩
            · exact ⟨_, rfl, by decide⟩
            · exact ⟨_, rfl, by decide⟩
          have er4 := s4.at x10 (by simp [ra, rc])
          have hD5 := hD4.mono (show z + 1 + 1 + (m' : Int) * 4 ^ (k0 + 1) + 1 ≤ z + 4 ^ (k0 + 1 + 1) by rw [p4]; rw [p40] at pm ⊢; omega)
          have sL : Step [a, c, r] S S4 := (((s1.trans s2).mono (by simp)).trans s3).trans (s4.mono (by simp))
          have hB : m' * B k0 ≤ 3 * B k0 := Nat.mul_le_mul_right _ hm'
          have hN : m' * 3 ^ k0 ≤ 3 * 3 ^ k0 := Nat.mul_le_mul_right _ hm'
          subst hM
          walk_at "rh_k22e"
          rw [DL.eq_str' rfl]
          rcases hwd2 with hwd2 | rfl
          · rw [show DL.eqT (.str wd) (Str.ofString "shape") = false by rcases mem_fc hwd2 with rfl | rfl <;> decide]
            have q := h (.app wd nm ts) hs' S4 (by simp only [okT, Bool.and_eq_true, decide_eq_true_eq]; exact ⟨⟨⟨hwd2, hnm⟩, by omega⟩, x3⟩) (by simp only [dpT]; omega) (by simp only [enc, sz, szA, B]; omega) (by simp only [nh]; rw [Nat.pow_succ]; omega) (by simp only [hin]; exact x7) x8 x9 er4 hD5 sL
            simp only [enc] at q
            exact ⟨by omega, q⟩
          · rw [show DL.eqT (.str (Str.ofString "shape")) (Str.ofString "shape") = true by decide]
            have q := h (.shp nm "next" ts) hs' S4 (by simp only [okT, Bool.and_eq_true, decide_eq_true_eq]; exact ⟨⟨⟨hnm, by decide⟩, by omega⟩, x3⟩) (by simp only [dpT]; omega) (by simp only [enc, sz, szA, B]; omega) (by simp only [nh]; rw [Nat.pow_succ]; omega) (by simp only [hin]; exact x7) x8 x9 er4 hD5 sL
            simp only [enc] at q
            exact ⟨by omega, q⟩
  walk_at "rh_k22e"
  cases hw0 : way == 0 with
  | false => exact key
  | true =>
    simp only [cond_true]
    refine ⟨by omega, ?_⟩
    rw [DL.ne_r0 er1]
    walk_at "rh_k22e"
    by_cases hhs : hs = []
    · subst hhs
      exact key
    · obtain ⟨N, x, rfl⟩ : ∃ N x, hs = N ++ [x] := ⟨hs.dropLast, hs.getLast hhs, (List.dropLast_concat_getLast hhs).symm⟩
      have e0 : (!((N ++ [x]).map DL.D.str).isEmpty) = true := by simp
      rw [e0]
      simp only [cond_true]
      refine ⟨⟨r, _, rfl, er1⟩, ?_⟩
      rw [onL_eq er1]
      have e1 : (((N ++ [x]).map DL.D.str)[((N ++ [x]).map DL.D.str).length - 1]?) = some (.str x) := by simp
      have e2 : ((N ++ [x]).map DL.D.str).dropLast = N.map .str := by simp
      rw [e1, e2]
      simp only [Option.elim_some]
      have q := h (.hole x) N (sup S1 r (.lst (N.map .str))) (by simp only [okT]; exact List.all_eq_true.mp hn x (by simp)) (by simp only [dpT]; omega) (by have := B_pos k; simp only [enc, sz, szA]; omega) (by simp only [nh]; exact Nat.one_le_pow _ _ (by decide)) (by simp only [hin]; simp) (fun y hy => by simp [hy]) (by simp) sup_same ((hD1.of fun b hb => by
        simp only [List.mem_cons, List.not_mem_nil, or_false] at hb
        rcases hb with rfl | rfl
        · exact sup_ne ra.symm
        · exact sup_ne rc.symm).mono (by omega)) ((s1.mono (by simp)).trans (.mut (by simp)))
      simp only [enc] at q
      exact ⟨by omega, q⟩
end
end K22
set_option Elab.async false
set_option linter.all false
set_option maxRecDepth 100000
set_option maxHeartbeats 1000000
namespace K22
open PySem PySem.Spec PyProof.Rows L2 DL NdefX
local macro_rules | `(tactic| walk_at "rh_k22f") => `(tactic| simp only [↓DL.e_next, ↓DL.e_seq, ↓DL.e_drop, ↓DL.e_ret, ↓DL.e_retN, ↓DL.e_if, ↓DL.e_cont, ↓DL.e_break, ↓DL.e_set, ↓DL.e_asg, ↓DL.e_par, ↓DL.e_setI, ↓DL.e_for, ↓DL.e_var, ↓DL.e_c, ↓DL.e_op, ↓DL.e_un, ↓DL.e_test, ↓DL.e_chain, ↓DL.e_and, ↓DL.e_or, ↓DL.e_not, ↓DL.e_andV, ↓DL.e_orV, ↓DL.e_notV, ↓DL.e_ife, ↓DL.e_nil, ↓DL.e_cons, ↓DL.e_tup, ↓DL.e_lst, ↓DL.e_lstM, ↓DL.e_noPart, ↓DL.e_part, ↓DL.e_sl, ↓DL.e_cb, ↓DL.e_mtL, ↓DL.e_mt0, ↓DL.e_mtS, ↓DL.e_mtS0, ↓DL.e_tru, ↓DL.e_lc, ↓DL.e_itS, ↓DL.e_itStr, ↓DL.e_rng1, ↓DL.e_rev, ↓DL.e_dic0, ↓DL.e_dic1, ↓DL.e_s0, ↓DL.e_s1, ↓DL.e_ct, ↓DL.e_cf, dstart, slot, gN, ↓asB_bl, ↓asI_int, ↓asS_str, cond_true, cond_false, List.map_cons, List.map_nil, List.length_cons, List.length_nil, List.set_cons_zero, List.set_cons_succ, Option.elim_some, Option.elim_none, List.cons_append, List.nil_append, List.replicate, Nat.sub_self, Nat.reduceSub, Nat.reduceAdd, Bool.not_true, Bool.not_false, setAll, Int.cast_ofNat_Int, Int.reduceLT, Int.reduceLE, Int.reduceBEq, Nat.reduceBEq, decide_true, decide_false, ↓DL.pred_s, ↓DL.len_str, ↓DL.len_tup, ↓DL.len_lst, ↓DL.le_ii, ↓DL.le_ss, ↓DL.cmp_ii, ↓DL.add_ii, ↓DL.add_ib, ↓DL.add_bi, ↓DL.add_ss, ↓DL.add_tt, ↓DL.add_ll, ↓DL.sub_ii, ↓DL.sub_ib, ↓DL.sub_bi, ↓DL.mul_ii, ↓DL.ii_ii, ↓DL.neg_i, ↓DL.is_bb, ↓DL.isn_bb, ↓DL.all_b, ↓DL.all_map, ↓DL.sum_i, ↓DL.eq_ii, ↓DL.eq_bi, ↓DL.eq_t0, ↓DL.eq_l0, ↓DL.ne_ss, ↓DL.ne_ii, ↓DL.ne_t0, ↓DL.ne_l0, ↓DL.ix_tup, ↓DL.ix_lst, ↓DL.ix_str, ↓DL.in_c, ↓DL.nin_c, ↓DL.sl_str, ↓DL.sl_tup, ↓DL.sl_lst, ↓DL.app_1, ↓DL.pop_0, ↓DL.ext_t, ↓DL.tuple_l, ↓DL.list_t, ↓DL.list_l, ↓DL.int_b, ↓DL.int_i, ↓DL.min_ii, ↓DL.str_i, ↓DL.str_b, ↓DL.repr_1, ↓DL.back_t, ↓DL.tru_l, ↓DL.at0, ↓DL.at1, ↓DL.at2, ↓DL.at3, ↓DL.e_callE, ↓DL.e_getOr, ↓DL.e_dicI3, ↓DL.e_lcM, ↓DL.e_lstRg, ↓DL.e_enT, ↓DL.e_enL, ↓DL.e_lenset, ↓DL.e_fs, ↓DL.e_callL, ↓DL.e_never, ↓DL.e_dicM, ↓DL.e_dicS, ↓DL.e_dget, ↓DL.e_dput, ↓DL.e_forK, ↓DL.e_isN, ↓DL.e_revI, ↓DL.e_varF, ↓DL.fs_s, ↓DL.fs_i, ↓DL.get_d, ↓DL.rev_t, ↓DL.int_e, DL.isNon, ↓DL.e_callC, ↓DL.e_callFz, ↓DL.e_ndef, ↓DL.e_lam, ↓DL.e_no, ↓DL.e_lrevM, ↓DL.e_lrev, ↓DL.e_frzE, DL.nstart, ↓DL.e_dgetR, ↓DL.e_dicG3])
section
variable {P : Program} {w : World} {K : PySem.W.Frag} {mg : Str → Option Value} {base : Heap}

abbrev st_l_pattern : Stmt := top 24
theorem sc_l_pattern : FnScope ["_law_deck", "_law_deep", "_law_left", "_law_way", "_law_word", "_law_k"] ["_law_deck", "_law_deep", "_law_left"] (defScope st_l_pattern) := ⟨rfl, rfl, rfl, by decide +kernel, rfl, by decide +kernel, by decide +kernel⟩
def sp_l_pattern (n : Nat) : DSp := fun ds S P => ∃ (a c r : Addr) (z v : Int) (k : Nat), ds = [.ref a, .int (k : Nat), .ref r] ∧ k < n ∧ k ≤ 2 ∧ Dk S a c z ∧ r ≠ a ∧ r ≠ c ∧ S r = some (.lst [.int v]) ∧ z + 4 ^ (k + 1) ≤ 2 ^ 50 ∧
  ∀ (p : Pt) (v' : Int) S', np p ≤ 4 ^ k → DL.dp (encP p) ≤ 2 * k + 2 → S' r = some (.lst [.int v']) → Dk S' a c (z + 4 ^ (k + 1)) → Step [a, c, r] S S' → P (encP p) S'
theorem len_l_pattern {n : Nat} {ds : List D} {S : Sto} {P : DK} (h : sp_l_pattern n ds S P) : ds.length = 3 := by obtain ⟨_, _, _, _, _, _, rfl, _⟩ := h; rfl
theorem lc_pattern {n i k m : Nat} {te : DE} {δ : DSt} {a c r : Addr} {z v : Int} {S : Sto} {Q : DK}
    (hte : ∀ d S2 Q, sp_l_pattern n [.ref a, .int (k : Nat), .ref r] S2 Q → te ((δ.set i none).set i (some d)) S2 Q) (hk : k < n) (hk3 : k ≤ 2) (hm : m ≤ 10) (hD : Dk S a c z) (ra : r ≠ a) (rc : r ≠ c) (er : S r = some (.lst [.int v])) (hz : z + m * 4 ^ (k + 1) ≤ 2 ^ 50)
    (h : ∀ (ps : List Pt) (v' : Int) S', ps.length = m → nps ps ≤ m * 4 ^ k → DL.dpA (encPs ps) ≤ 2 * k + 2 → S' r = some (.lst [.int v']) → Dk S' a c (z + m * 4 ^ (k + 1)) → Step [a, c, r] S S' → Q (.lst (encPs ps)) S') :
    lcB (gN i) dYes te [i] δ (iota 0 m) S Q := by
  have p1 : (0 : Int) ≤ 4 ^ (k + 1) := Int.le_of_lt (Int.pow_pos (by decide))
  have some4 : ∀ b ∈ [a, c, r], S b ≠ none := fun b hb => by
    simp only [List.mem_cons, List.not_mem_nil, or_false] at hb
    rcases hb with rfl | rfl | rfl
    · exact hD.some _ (by simp)
    · exact hD.some _ (by simp)
    · rw [er]; exact nofun
  refine lc_acc [a, c, r] (fun j acc S' => ∃ (ps : List Pt) (v' : Int), acc = encPs ps ∧ ps.length = j ∧ nps ps ≤ j * 4 ^ k ∧ DL.dpA (encPs ps) ≤ 2 * k + 2 ∧ S' r = some (.lst [.int v']) ∧ Dk S' a c (z + j * 4 ^ (k + 1)))
    (by rw [iota_len]; exact small1 (by omega)) (fun j acc S1 S2 e ⟨ps, v', x1, x2, x3, x4, x5, x6⟩ => ⟨ps, v', x1, x2, x3, x4, by rw [e r (by simp)]; exact x5, x6.of fun b hb => e b (by simp only [List.mem_cons, List.not_mem_nil, or_false] at hb ⊢; rcases hb with rfl | rfl <;> simp)⟩) some4
    ⟨[], v, by simp only [encPs], rfl, by simp only [nps]; omega, by simp only [encPs, DL.dpA]; omega, er, hD.mono (by simp)⟩ (fun j d acc hd hj S2 Q2 ⟨ps, v', x1, x2, x3, x4, x5, x6⟩ q => ?_) fun ys S2 hlen ⟨ps, v', x1, x2, x3, x4, x5, x6⟩ s2 => ?_
  · have hjm : j < m := by have := (List.getElem?_eq_some_iff.mp hd).1; rw [iota_len] at this; exact this
    have hj2 : (((j + 1 : Nat)) : Int) * 4 ^ (k + 1) ≤ (m : Int) * 4 ^ (k + 1) := Int.mul_le_mul_of_nonneg_right (by omega) p1
    have hj3 : (((j + 1 : Nat)) : Int) * 4 ^ (k + 1) = (j : Int) * 4 ^ (k + 1) + 4 ^ (k + 1) := by rw [Int.natCast_add, Int.add_mul]; simp
    refine hte d S2 Q2 ⟨a, c, r, _, v', k, rfl, hk, hk3, x6, ra, rc, x5, by omega, fun p v2 S3 y1 y2 y3 y4 y5 => q _ S3 ⟨ps ++ [p], v2, ?_, ?_, ?_, ?_, y3, ?_⟩ y5⟩
    · rw [encPs_map, List.map_append, ← encPs_map, x1]; rfl
    · rw [List.length_append, x2]; rfl
    · rw [nps_app]; simp only [nps, Nat.add_mul]; omega
    · rw [encPs_map, List.map_append, ← encPs_map, dpA_append]; simp only [List.map_cons, List.map_nil, DL.dpA]; omega
    · rw [hj3, ← Int.add_assoc]; exact y4
  · rw [iota_len] at hlen x2 x3 x6
    rw [x1]
    exact h ps v' S2 x2 x3 x4 x5 x6 s2
theorem ok_l_pattern {k : Nat} {n:Nat} (DD : Def K mg "_law_pattern" st_l_pattern ["_law_deck", "_law_deep", "_law_left"]) (G__law_draw : Has P w K mg base (k) "_law_draw" ["_law_deck", "_law_many"] (sp_l_draw)) (G__law_pattern : Has P w K mg base (k) "_law_pattern" ["_law_deck", "_law_deep", "_law_left"] (sp_l_pattern n)) (m_tuple : mg "tuple" = none) (m_range : mg "range" = none) (m_int : mg "int" = none) : Has P w K mg base (k + 1) "_law_pattern" ["_law_deck", "_law_deep", "_law_left"] (sp_l_pattern (n+1)) := by
  refine DD.has sc_l_pattern (fun ds S P h => len_l_pattern h) (fun f cdv A outer s H hr hgd => ⟨_, (ss_cons (s_set 3 sc_l_pattern.nd (q_def G__law_draw (hr.mono (by omega)) hgd (a_cons (q_var 0) (a_cons q_int a_nil))))
      (ss_cons (s_if (t_w (w_or (t_cmp op_ltD (q_var 1) q_int) (w_or1 (t_cmp op_ltD (q_var 3) q_int)))) (ss_cons (s_set 4 sc_l_pattern.nd (q_ifExp (t_cmp op_gtD (q_ix ix_D (q_var 2) q_int) q_int) (q_ix ix_D (q_lst (a_cons q_str (a_cons q_str (a_cons q_str a_nil)))) (q_op op_modD (q_var 3) q_int)) q_str))
      (ss_cons (s_setI (q_op op_subD (q_ix ix_D (q_var 2) q_int) (q_callTy (c_int) rfl m_int DL.bt_int (a_cons (q_cmp (op_eqD (DL.Room.un1 hr)) (q_var 4) q_str) a_nil))) (q_var 2) q_int)
      (ss_one (s_ret (q_tup (a_cons (q_var 4) a_nil)))))) ss_nil)
      (ss_one (s_ret (q_tup (a_cons q_str (a_cons q_str (a_cons (q_callTy (c_tuple) rfl m_tuple DL.bt_tuple (a_cons (q_lc (own := [("_law_k", 5)]) (is := [5]) rfl lcg_name rfl sc_l_pattern.nd (i_rng1 rfl m_range (a_cons (q_def G__law_draw (hr.mono (by omega)) hgd (a_cons (q_var 0) (a_cons q_int a_nil))) a_nil)) (blkOk_by (own := [("_law_k", 5)]) (N := ["_law_deck", "_law_deep", "_law_left", "_law_way", "_law_word", "_law_k"]) (sc := defScope st_l_pattern) (by decide +kernel)) (fun _ _ _ _ _ => pg_name (i := 5) sc_l_pattern.nd rfl (Or.inl rfl)) (fun _ _ _ _ _ => ts_nil) (fun _ _ _ _ _ => (q_def G__law_pattern (hr.mono (by omega)) hgd (a_cons (q_var 0) (a_cons (q_op op_subD (q_var 1) q_int) (a_cons (q_var 2) a_nil)))))) a_nil)) a_nil)))))))), fun ds S P h => ?_⟩)
  obtain ⟨a, c, r, z, v, k, rfl, hk, hk3, hD, ra, rc, er, hz, h⟩ := h
  have hline : 100 ≤ sizeLine := small1 (by decide)
  have p4 : (4 : Int) ^ (k + 1) = 4 * 4 ^ k := by rw [Int.pow_succ]; omega
  have p1 : (1 : Int) ≤ 4 ^ k := Int.pow_pos (by decide)
  refine seq_gen fun M hM => ?_
  walk_at "rh_k22f"
  refine ⟨a, c, 5, z, rfl, by decide, by decide, hD, by omega, fun way S1 w0 w1 hD1 s1 => ?_⟩
  have er1 := s1.at er (by simp [ra, rc])
  subst hM
  refine seq_gen fun M hM => ?_
  -- one of a word
  have leaf : ∀ (wd : Str) (p : Pt), encP p = .tup [.str wd] → np p = 1 → ∀ v' : Int, P (encP p) (sup S1 r (.lst [.int v'])) := fun wd p e e1 v' => by
    refine h p v' _ (by rw [e1]; exact Nat.one_le_pow _ _ (by decide)) (by rw [e]; simp only [DL.dp, DL.dpA]; omega) sup_same ((hD1.of fun b hb => by
        simp only [List.mem_cons, List.not_mem_nil, or_false] at hb
        rcases hb with rfl | rfl
        · exact sup_ne ra.symm
        · exact sup_ne rc.symm).mono (by omega)) ((s1.mono (by simp)).trans (.mut (by simp)))
  have word : ∀ (wd : Str) (p : Pt), encP p = .tup [.str wd] → np p = 1 → (ixD (.ref r) (.int 0) S1 fun d_1 S1 => eqD (.str wd) (.str (Str.ofString "take")) S1 fun d_2 S1 => DL.intD [d_2] S1 fun e S2 => subD d_1 e S2 fun v S1 => setD (.ref r) (.int 0) v S1 fun S4 => 1 ≤ sizeLine ∧ P (.tup [.str wd]) S4) := fun wd p e e1 => by
    simp only [DL.ix_ref er1]
    rw [show (atI ([.int v] : List DL.D) 0) = some (.int v) from rfl]
    simp only [Option.elim_some]
    rw [DL.eq_str' rfl]
    walk_at "rh_k22f"
    have q := leaf wd p e e1
    rw [e] at q
    rw [DL.setD_ref (n := 0) er1 rfl]
    exact ⟨by omega, q _⟩
  have low : (ixD (.ref r) (.int 0) S1 fun d S1 => cmpI (fun i j => decide (j < i)) d (.int 0) S1 fun d S1 => asB d fun b => bif b then
        3 ≤ sizeLine ∧ True ∧ (atI [.str (Str.ofString "take"), .str (Str.ofString "due"), .str (Str.ofString "take")] (way % 3)).elim False fun d =>
          ixD (.ref r) (.int 0) S1 fun d_1 S1 => eqD d (.str (Str.ofString "take")) S1 fun d_2 S1 => DL.intD [d_2] S1 fun e S2 => subD d_1 e S2 fun v S1 => setD (.ref r) (.int 0) v S1 fun S4 => 1 ≤ sizeLine ∧ P (.tup [d]) S4
      else ixD (.ref r) (.int 0) S1 fun d S1 => eqD (.str (Str.ofString "due")) (.str (Str.ofString "take")) S1 fun d_1 S1 => DL.intD [d_1] S1 fun e S2 => subD d e S2 fun v S1 => setD (.ref r) (.int 0) v S1 fun S4 => 1 ≤ sizeLine ∧ P (.tup [.str (Str.ofString "due")]) S4) := by
    rw [DL.ix_ref er1, show (atI ([.int v] : List DL.D) 0) = some (.int v) from rfl]
    simp only [Option.elim_some]
    show (bif decide (0 < v) then _ else _)
    cases hv : decide (0 < v) with
    | true =>
      refine ⟨by omega, trivial, ?_⟩
      obtain ⟨d, ed, hd⟩ := at_mem (xs := ([.str (Str.ofString "take"), .str (Str.ofString "due"), .str (Str.ofString "take")] : List DL.D)) (i := way % 3) (Int.emod_nonneg _ (by decide)) (by have := Int.emod_lt_of_pos way (show (0 : Int) < 3 by decide); simpa using this)
      rw [ed]
      simp only [List.mem_cons, List.not_mem_nil, or_false] at hd
      rcases hd with rfl | rfl | rfl
      · exact word _ .take (by simp only [encP]) (by simp only [np])
      · exact word _ .due (by simp only [encP]) (by simp only [np])
      · exact word _ .take (by simp only [encP]) (by simp only [np])
    | false => exact word _ .due (by simp only [encP]) (by simp only [np])
  walk_at "rh_k22f"
  cases hk1 : decide ((k : Int) < 1) with
  | true => exact low
  | false =>
    have hk1 := of_decide_eq_false hk1
    simp only [cond_false]
    cases hw3 : decide (way < 3) with
    | true => exact low
    | false =>
      simp only [cond_false]
      clear low word leaf
      obtain ⟨k0, rfl⟩ : ∃ k0, k = k0 + 1 := ⟨k - 1, by omega⟩
      have p40 : (4 : Int) ^ (k0 + 1) = 4 * 4 ^ k0 := by rw [Int.pow_succ]; omega
      have p10 : (1 : Int) ≤ 4 ^ k0 := Int.pow_pos (by decide)
      have kk : (((k0 + 1 : Nat)) : Int) - 1 = (k0 : Nat) := by omega
      subst hM
      walk_at "rh_k22f"
      refine ⟨a, c, 4, z + 1, rfl, by decide, by decide, hD1, by omega, fun m S2 m0 m1 hD2 s2 => ⟨⟨by omega, by omega⟩, ?_⟩⟩
      obtain ⟨m', em⟩ : ∃ m' : Nat, m.toNat = m' := ⟨_, rfl⟩
      rw [em]
      have hm' : m' ≤ 3 := by omega
      have pm : (m' : Int) * 4 ^ (k0 + 1) ≤ 3 * 4 ^ (k0 + 1) := Int.mul_le_mul_of_nonneg_right (by omega) (by omega)
      refine lc_pattern (n := n) (m := m') (k := k0) (a := a) (c := c) (r := r) (z := z + 1 + 1) (v := v) (fun d S2 Q q => ?_) (by omega) (by omega) (by omega) hD2 ra rc ((s1.trans s2).at er (by simp [ra, rc])) (by rw [p40] at pm ⊢; omega) fun ps v' S3 x2 x3 x4 x5 x6 s3 => ?_
      · walk_at "rh_k22f"
        rw [kk]
        exact q
      walk_at "rh_k22f"
      have hN : m' * 4 ^ k0 ≤ 3 * 4 ^ k0 := Nat.mul_le_mul_right _ hm'
      have p41 : 1 ≤ 4 ^ k0 := Nat.one_le_pow _ _ (by decide)
      have q := h (.shp ps) v' S3 (by simp only [np]; rw [Nat.pow_succ]; omega) (by simp only [encP, DL.dp, DL.dpA]; omega) x5 (x6.mono (by rw [p4]; rw [p40] at pm ⊢; omega)) (((s1.trans s2).mono (by simp)).trans s3)
      simp only [encP] at q
      exact ⟨by omega, q⟩
abbrev st_l_lot : Stmt := top 26
theorem sc_l_lot : FnScope ["_law_deck", "_law_holes", "_law_found", "_law_name", "_law_wide", "_law_rows", "_law_telescope", "_law_k", "_law_room", "_law_patterns", "_law_less", "_law_at"] ["_law_deck", "_law_holes"] (defScope st_l_lot) := ⟨rfl, rfl, rfl, by decide +kernel, rfl, by decide +kernel, by decide +kernel⟩
def Drawn (hs : List Str) (l : List Df) : Prop := GLot l ∧ sz (encL l) ≤ 3400 ∧ nhL l ≤ 243 ∧ ∀ d ∈ l, ∀ r ∈ d.rows, dpT r.2 ≤ 3 ∧ tks r.1 ≤ 48 ∧ hin (fun x => decide (x ∈ hs)) r.2 = true
def sp_l_lot : DSp := fun ds S P => ∃ (a c r : Addr) (z : Int) (hs : List Str), ds = [.ref a, .ref r] ∧ Dk S a c z ∧ r ≠ a ∧ r ≠ c ∧ S r = some (.lst (hs.map .str)) ∧ hs.length ≤ 10 ∧ (hs.all nice) = true ∧ z + 5000 ≤ 2 ^ 50 ∧
  ∀ (l : List Df) S', Drawn hs l → Dk S' a c (z + 5000) → Step [a, c, r] S S' → P (encL l) S'
theorem len_l_lot {ds : List D} {S : Sto} {P : DK} (h : sp_l_lot ds S P) : ds.length = 2 := by obtain ⟨_, _, _, _, _, rfl, _⟩ := h; rfl
theorem cut_mem {α : Type} (f : α → D) (l : List α) (lo hi : Option Int) : ∃ m : List α, DL.cutD (l.map f) lo hi = m.map f ∧ m.length ≤ l.length ∧ ∀ x ∈ m, x ∈ l := by
  refine ⟨(l.drop (HT.sIx l.length 0 lo)).take (HT.sIx l.length l.length hi - HT.sIx l.length 0 lo), ?_, ?_, fun x hx => List.mem_of_mem_drop (List.mem_of_mem_take hx)⟩
  · unfold DL.cutD
    rw [List.length_map, List.map_take, List.map_drop]
  · rw [List.length_take, List.length_drop]; omega
/-- a telescope -/
theorem lc_tele {i m : Nat} {te : DE} {δ : DSt} {a c : Addr} {z : Int} {S : Sto} {Q : DK}
    (hte : ∀ d S2 (Q : DK), (sp_l_pick [.ref a, .lst [.str (Str.ofString "run"), .str (Str.ofString "gone")]] S2 fun d S1 => ∀ q, S1 q = none → sp_l_any 4 [.ref a, .ref q, .int 1] (sup S1 q (.lst [])) fun t S3 => Q (.tup [d, t]) S3) → te ((δ.set i none).set i (some d)) S2 Q) (hm : m ≤ 3) (hD : Dk S a c z) (hz : z + 51 ≤ 2 ^ 50)
    (h : ∀ (xs : List D) S', xs.length = m → litA xs = true → DL.dpA xs ≤ 8 → szA xs ≤ m * 16 → Dk S' a c (z + 51) → Step [a, c] S S' → Q (.lst xs) S') :
    lcB (gN i) dYes te [i] δ (iota 0 m) S Q := by
  refine lc_acc [a, c] (fun j acc S' => litA acc = true ∧ DL.dpA acc ≤ 8 ∧ szA acc ≤ j * 16 ∧ Dk S' a c (z + j * 17))
    (by rw [iota_len]; exact small1 (by omega)) (fun j acc S1 S2 e ⟨x1, x2, x3, x4⟩ => ⟨x1, x2, x3, x4.of fun b hb => e b hb⟩) hD.some
    ⟨by simp only [litA], by simp only [DL.dpA]; omega, by simp only [szA]; omega, hD.mono (by simp)⟩ (fun j d acc hd hj S2 Q2 ⟨x1, x2, x3, x4⟩ q => ?_) fun ys S2 hlen ⟨x1, x2, x3, x4⟩ s2 => ?_
  · have hjm : j < m := by have := (List.getElem?_eq_some_iff.mp hd).1; rw [iota_len] at this; exact this
    refine hte d S2 Q2 ⟨a, c, _, _, rfl, by simp, by simp, x4, by omega, fun mk S3 hmk hD3 s3 q0 nq0 => ?_⟩
    have s34 : Step [] S3 (sup S3 q0 (.lst [])) := fun b hb _ => sup_ne (fun e => hb (by rw [e]; exact nq0))
    have qa : q0 ≠ a := fun e => hD3.some a (by simp) (by rw [← e]; exact nq0)
    have qc : q0 ≠ c := fun e => hD3.some c (by simp) (by rw [← e]; exact nq0)
    refine ⟨a, c, q0, _, [], 1, rfl, by decide, by decide, hD3.step s34 List.not_mem_nil List.not_mem_nil, qa, qc, sup_same, by simp, rfl, by show z + _ + 1 + 16 ≤ 2 ^ 50; omega, fun t hs2 S5 y1 y2 y3 y4 y5 y6 y7 y8 y9 y10 => q _ S5 ⟨?_, ?_, ?_, y9.mono (by show z + (j : Int) * 17 + 1 + 16 ≤ z + (((j + 1 : Nat)) : Int) * 17; omega)⟩ ?_⟩
    · rw [litA_app, x1]
      simp only [litA, lit, Bool.and_eq_true]
      refine ⟨trivial, ⟨?_, lit_enc y1, trivial⟩, trivial⟩
      simp only [List.mem_cons, List.not_mem_nil, or_false] at hmk
      rcases hmk with rfl | rfl
      · simp only [lit]; decide
      · simp only [lit]; decide
    · rw [dpA_append]
      have := dp_enc t
      have e : DL.dp mk ≤ 1 := by
        simp only [List.mem_cons, List.not_mem_nil, or_false] at hmk
        rcases hmk with rfl | rfl <;> (simp only [DL.dp]; omega)
      simp only [DL.dpA, DL.dp]; omega
    · rw [szA_append]
      have e : sz mk = 1 := by
        simp only [List.mem_cons, List.not_mem_nil, or_false] at hmk
        rcases hmk with rfl | rfl <;> simp only [sz]
      have : B 1 = 14 := rfl
      simp only [szA, sz]; omega
    · intro b hb nb
      have h3 : S3 b ≠ none := by rw [s3 b hb nb]; exact hb
      have hbq : b ≠ q0 := fun e => h3 (by rw [e]; exact nq0)
      rw [y10 b (by rw [sup_ne hbq]; exact h3) (by simp only [List.mem_cons, List.not_mem_nil, or_false, not_or] at nb ⊢; exact ⟨nb.1, nb.2, hbq⟩), sup_ne hbq, s3 b hb nb]
  · rw [iota_len] at hlen x3 x4
    exact h ys S2 hlen x1 x2 x3 (x4.mono (by omega)) s2
theorem ok_l_lot {k : Nat}  (DD : Def K mg "_law_lot" st_l_lot ["_law_deck", "_law_holes"]) (G__law_draw : Has P w K mg base (k) "_law_draw" ["_law_deck", "_law_many"] (sp_l_draw)) (G__law_any : Has P w K mg base (k) "_law_any" ["_law_deck", "_law_holes", "_law_deep"] (sp_l_any 4)) (G__law_pattern : Has P w K mg base (k) "_law_pattern" ["_law_deck", "_law_deep", "_law_left"] (sp_l_pattern 3)) (G__law_pick : Has P w K mg base (k) "_law_pick" ["_law_deck", "_law_some"] (sp_l_pick)) (m_tuple : mg "tuple" = none) (m_int : mg "int" = none) (m_range : mg "range" = none) : Has P w K mg base (k + 1) "_law_lot" ["_law_deck", "_law_holes"] (sp_l_lot) := by
  refine DD.has sc_l_lot (fun ds S P h => len_l_lot h) (fun f cdv A outer s H hr hgd => ⟨_, (ss_cons (s_set 2 sc_l_lot.nd (q_lstM a_nil))
      (ss_cons (s_for PassesOwn.never rfl (i_seq (q_slice sl_D (q_lst (a_cons q_str (a_cons q_str (a_cons q_str a_nil)))) o_none (o_some (q_op op_addD q_int (q_def G__law_draw (hr.mono (by omega)) hgd (a_cons (q_var 0) (a_cons q_int a_nil))))))) (g_name 3 sc_l_lot.nd) (ss_cons (s_par 4 5 rfl sc_l_lot.nd (a_cons (q_def G__law_draw (hr.mono (by omega)) hgd (a_cons (q_var 0) (a_cons q_int a_nil))) (a_cons (q_tup a_nil) a_nil)))
      (ss_cons (s_set 6 sc_l_lot.nd (q_callTy (c_tuple) rfl m_tuple DL.bt_tuple (a_cons (q_lc (own := [("_law_k", 7)]) (is := [7]) rfl lcg_name rfl sc_l_lot.nd (i_rng1 rfl m_range (a_cons (q_var 4) a_nil)) (blkOk_by (own := [("_law_k", 7)]) (N := ["_law_deck", "_law_holes", "_law_found", "_law_name", "_law_wide", "_law_rows", "_law_telescope", "_law_k", "_law_room", "_law_patterns", "_law_less", "_law_at"]) (sc := defScope st_l_lot) (by decide +kernel)) (fun _ _ _ _ _ => pg_name (i := 7) sc_l_lot.nd rfl (Or.inl rfl)) (fun _ _ _ _ _ => ts_nil) (fun _ _ _ _ _ => (q_tup (a_cons (q_def G__law_pick (hr.mono (by omega)) hgd (a_cons (q_var 0) (a_cons (q_lst (a_cons q_str (a_cons q_str a_nil))) a_nil))) (a_cons (q_def G__law_any (hr.mono (by omega)) hgd (a_cons (q_var 0) (a_cons (q_lstM a_nil) (a_cons q_int a_nil)))) a_nil))))) a_nil)))
      (ss_cons (s_for PassesOwn.never rfl (i_rng1 rfl m_range (a_cons (q_def G__law_draw (hr.mono (by omega)) hgd (a_cons (q_var 0) (a_cons q_int a_nil))) a_nil)) (g_name 7 sc_l_lot.nd) (ss_cons (s_set 8 sc_l_lot.nd (q_lstM (a_cons q_int a_nil)))
      (ss_cons (s_set 9 sc_l_lot.nd (q_callTy (c_tuple) rfl m_tuple DL.bt_tuple (a_cons (q_lc (own := [("_law_at", 11)]) (is := [11]) rfl lcg_name rfl sc_l_lot.nd (i_rng1 rfl m_range (a_cons (q_var 4) a_nil)) (blkOk_by (own := [("_law_at", 11)]) (N := ["_law_deck", "_law_holes", "_law_found", "_law_name", "_law_wide", "_law_rows", "_law_telescope", "_law_k", "_law_room", "_law_patterns", "_law_less", "_law_at"]) (sc := defScope st_l_lot) (by decide +kernel)) (fun _ _ _ _ _ => pg_name (i := 11) sc_l_lot.nd rfl (Or.inl rfl)) (fun _ _ _ _ _ => ts_nil) (fun _ _ _ _ _ => (q_def G__law_pattern (hr.mono (by omega)) hgd (a_cons (q_var 0) (a_cons q_int (a_cons (q_var 8) a_nil)))))) a_nil)))
      (ss_one (s_set 5 sc_l_lot.nd (q_op op_addD (q_var 5) (q_tup (a_cons (q_tup (a_cons (q_var 9) (a_cons (q_def G__law_any (hr.mono (by omega)) hgd (a_cons (q_var 0) (a_cons (q_var 1) (a_cons q_int a_nil)))) a_nil))) a_nil))))))))
      (ss_cons (s_set 10 sc_l_lot.nd (q_ix ix_D (q_lst (a_cons q_non (a_cons q_int a_nil))) (q_callTy (c_int) rfl m_int DL.bt_int (a_cons (q_cmp op_gtD (q_var 4) q_int) a_nil))))
      (ss_one (s_expr (q_mtL PySem.F.slot_list_append PySem.F.type_list_append m_append (q_var 2) (a_cons (q_tup (a_cons (q_var 3) (a_cons (q_var 6) (a_cons (q_def G__law_any (hr.mono (by omega)) hgd (a_cons (q_var 0) (a_cons (q_lstM a_nil) (a_cons q_int a_nil)))) (a_cons (q_var 10) (a_cons (q_var 5) a_nil)))))) a_nil)))))))))
      (ss_one (s_ret (q_tup (a_cons q_str (a_cons (q_callTy (c_tuple) rfl m_tuple DL.bt_tuple (a_cons (q_var 2) a_nil)) a_nil))))))), fun ds S P h => ?_⟩)
  obtain ⟨a, c, r, z, hs, rfl, hD, ra, rc, er, hl, hn, hz, h⟩ := h
  have hline : 100 ≤ sizeLine := small1 (by decide)
  walk_at "rh_k22f"
  refine ⟨Nat.zero_le _, fun p np => ⟨by omega, ?_⟩⟩
  have s0 : Step [] S (sup S p (.lst [])) := fun b hb _ => sup_ne (fun e => hb (by rw [e]; exact np))
  have pa : p ≠ a := fun e => hD.some a (by simp) (by rw [← e]; exact np)
  have pc : p ≠ c := fun e => hD.some c (by simp) (by rw [← e]; exact np)
  have pr : p ≠ r := fun e => by rw [e, er] at np; cases np
  refine ⟨a, c, 3, z, rfl, by decide, by decide, hD.step s0 List.not_mem_nil List.not_mem_nil, by omega, fun dr S1 u0 u1 hD1 s1 => ?_⟩
  show forB _ _ _ _ _ _
  obtain ⟨ms, em, lm, mm⟩ := cut_mem DL.D.str ["one", "two", "three"] none (some (1 + dr))
  rw [show ([.str (Str.ofString "one"), .str (Str.ofString "two"), .str (Str.ofString "three")] : List DL.D) = (["one", "two", "three"] : List Str).map .str from rfl, em]
  have ep1 : S1 p = some (.lst []) := s1.at sup_same (by simp [pa, pc])
  have er1 : S1 r = some (.lst (hs.map .str)) := s1.at (by rw [sup_ne pr.symm]; exact er) (by simp [ra, rc])
  have s01 : Step [a, c, r] S S1 := (s0.mono (by simp)).trans (s1.mono (by simp))
  refine ⟨fun j δ' S' => ∃ (l : List Df) (hs' : List Str), (∃ x3 x4 x5 x6 x7 x8 x9 x10 x11, δ' = [some (.ref a), some (.ref r), some (.ref p), x3, x4, x5, x6, x7, x8, x9, x10, x11]) ∧ l.length = j ∧ S' p = some (.lst (l.map encF)) ∧ S' r = some (.lst (hs'.map .str)) ∧ (∀ x ∈ hs', x ∈ hs) ∧ hs'.length ≤ hs.length ∧ Dk S' a c (z + 1 + j * 1500) ∧ Step [a, c, r] S S' ∧
      (∀ d ∈ l, GDf d ∧ ∀ r ∈ d.rows, dpT r.2 ≤ 3 ∧ tks r.1 ≤ 48 ∧ hin (fun x => decide (x ∈ hs)) r.2 = true) ∧ szA (l.map encF) ≤ j * 1120 ∧ nhL l ≤ j * 81,
    ⟨[], hs, ⟨_, _, _, _, _, _, _, _, _, rfl⟩, rfl, ep1, er1, fun x hx => hx, Nat.le_refl _, hD1.mono (by simp), s01, by simp, by simp [szA], by simp [nhL]⟩, fun j d δ' S2 hd ⟨l, hs', ⟨x3, x4, x5, x6, x7, x8, x9, x10, x11, ed⟩, lj, ep, er2, sub, lh, hD2, s2, good, szl, nhl⟩ => ?_, fun δ' S2 ⟨l, hs', ⟨x3, x4, x5, x6, x7, x8, x9, x10, x11, ed⟩, lj, ep, er2, sub, lh, hD2, s2, good, szl, nhl⟩ => ?_⟩
  · subst ed
    have hj3 : j < 3 := by have := (List.getElem?_eq_some_iff.mp hd).1; rw [List.length_map] at this; exact Nat.lt_of_lt_of_le this lm
    rw [List.getElem?_map] at hd
    cases qn : ms[j]? with
    | none => rw [qn] at hd; cases hd
    | some nm =>
      rw [qn] at hd; cases hd
      have hnm : nice nm = true := by
        have := mm nm (List.mem_of_getElem? qn)
        simp only [List.mem_cons, List.not_mem_nil, or_false] at this
        rcases this with rfl | rfl | rfl <;> decide
      walk_at "rh_k22f"
      refine ⟨a, c, 4, _, rfl, by decide, by decide, hD2, by omega, fun wd S3 v0 v1 hD3 s3 => ⟨Nat.zero_le _, ⟨by omega, by omega⟩, ?_⟩⟩
      obtain ⟨m, em⟩ : ∃ m : Nat, wd.toNat = m := ⟨_, rfl⟩
      rw [em]
      have hm : m ≤ 3 := by omega
      refine lc_tele (m := m) (a := a) (c := c) (z := z + 1 + (j : Int) * 1500 + 1) (fun d S Q q => ?_) hm hD3 (by omega) fun tl S4 t1 t2 t3 t4 hD4 s4 => ?_
      · walk_at "rh_k22f"
        obtain ⟨a', c', z', xs, e1, e2, e3, e4, e5, q⟩ := q
        refine ⟨by omega, a', c', z', xs, e1, e2, e3, e4, e5, fun d S' hd hD' s' => ⟨Nat.zero_le _, fun q0 nq => ?_⟩⟩
        obtain ⟨a2, c2, r2, z2, hs2, k2, f1, f2, f3, f4, f5, f6, f7, f8, f9, f10, f11⟩ := q d S' hd hD' s' q0 nq
        exact ⟨a2, c2, r2, z2, hs2, k2, f1, f2, f3, f4, f5, f6, f7, f8, f9, f10, fun t hs' S' g1 g2 g3 g4 g5 g6 g7 g8 g9 g10 => ⟨by omega, f11 t hs' S' g1 g2 g3 g4 g5 g6 g7 g8 g9 g10⟩⟩
      refine ⟨a, c, 4, _, rfl, by decide, by decide, hD4, by omega, fun nr S5 y0 y1 hD5 s5 => ⟨⟨by omega, by omega⟩, ?_⟩⟩
      have s25 : Step [a, c] S2 S5 := (s3.trans s4).trans s5
      have ep5 : S5 p = some (.lst (l.map encF)) := s25.at ep (by simp [pa, pc])
      have er5 : S5 r = some (.lst (hs'.map .str)) := s25.at er2 (by simp [ra, rc])
      have s05 : Step [a, c, r] S S5 := s2.trans (s25.mono (by simp))
      show forB _ _ _ _ _ _
      refine ⟨fun i δ' S' => ∃ (rows : List Row) (hs2 : List Str), (∃ x7 x8 x9 x11, δ' = [some (.ref a), some (.ref r), some (.ref p), some (.str nm), some (.int wd), some (.tup (rows.map encR)), some (.tup tl), x7, x8, x9, x10, x11]) ∧ rows.length = i ∧ S' p = some (.lst (l.map encF)) ∧ S' r = some (.lst (hs2.map .str)) ∧ (∀ x ∈ hs2, x ∈ hs) ∧ hs2.length ≤ hs.length ∧ Dk S' a c (z + 1 + (j : Int) * 1500 + 53 + i * 448) ∧ Step [a, c, r] S S' ∧
          (∀ r ∈ rows, GRow r ∧ dpT r.2 ≤ 3 ∧ tks r.1 ≤ 48 ∧ hin (fun x => decide (x ∈ hs)) r.2 = true) ∧ szA (rows.map encR) ≤ i * 340 ∧ (rows.map fun r => nh r.2).sum ≤ i * 27,
        ⟨[], hs', ⟨_, _, _, _, rfl⟩, rfl, ep5, er5, sub, lh, hD5.mono (by omega), s05, by simp, by simp [szA], by simp⟩, fun i d δ' S6 hd ⟨rows, hs2, ⟨x7, x8, x9, x11, ed⟩, li, ep6, er6, sub6, lh6, hD6, s6, good6, szr, nhr⟩ => ?_, fun δ' S6 ⟨rows, hs2, ⟨x7, x8, x9, x11, ed⟩, li, ep6, er6, sub6, lh6, hD6, s6, good6, szr, nhr⟩ => ?_⟩
      · subst ed
        have hi : i < 3 := by
          have := (List.getElem?_eq_some_iff.mp hd).1
          rw [iota_len] at this; omega
        clear hd
        walk_at "rh_k22f"
        refine ⟨by omega, fun q nq => ⟨⟨by omega, by omega⟩, ?_⟩⟩
        rw [em]
        have qa : q ≠ a := fun e => hD6.some a (by simp) (by rw [← e]; exact nq)
        have qc : q ≠ c := fun e => hD6.some c (by simp) (by rw [← e]; exact nq)
        have qp : q ≠ p := fun e => by rw [e, ep6] at nq; cases nq
        have qr : q ≠ r := fun e => by rw [e, er6] at nq; cases nq
        have s6q : Step [] S6 (sup S6 q (.lst [.int 9])) := fun b hb _ => sup_ne (fun e => hb (by rw [e]; exact nq))
        have pm : (m : Int) * 4 ^ (2 + 1) ≤ 3 * 4 ^ (2 + 1) := Int.mul_le_mul_of_nonneg_right (by omega) (by decide)
        have e64 : (4 : Int) ^ (2 + 1) = 64 := by decide
        have e256 : (4 : Int) ^ (3 + 1) = 256 := by decide
        refine lc_pattern (n := 3) (m := m) (k := 2) (a := a) (c := c) (r := q) (v := 9) (z := z + 1 + (j : Int) * 1500 + 53 + (i : Int) * 448) (fun d S Q qq => ?_) (by decide) (by decide) (by omega) (hD6.step s6q List.not_mem_nil List.not_mem_nil) qa qc sup_same (by rw [e64] at pm ⊢; omega) fun ps v' S7 p2 p3 p4 p5 hD7 s7 => ?_
        · walk_at "rh_k22f"
          exact qq
        have ep7 : S7 p = some (.lst (l.map encF)) := s7.at (s6q.at ep6 List.not_mem_nil) (by simp [pa, pc, qp.symm])
        have er7 : S7 r = some (.lst (hs2.map .str)) := s7.at (s6q.at er6 List.not_mem_nil) (by simp [ra, rc, qr.symm])
        have hps : nps ps ≤ 48 := by have : m * 4 ^ 2 ≤ 3 * 4 ^ 2 := Nat.mul_le_mul_right _ hm; omega
        refine ⟨a, c, r, _, hs2, 3, rfl, by decide, by decide, hD7, ra, rc, er7, by omega, List.all_eq_true.mpr fun x hx => List.all_eq_true.mp hn x (sub6 x hx), by rw [e64] at pm ⊢; rw [e256]; omega, fun t hs3 S8 w1 w2 w3 w4 w5 w6 w7 w8 w9 w10 => ⟨by omega, by omega, by rw [List.length_map]; omega, rows ++ [(ps, t)], hs3, ⟨_, _, _, _, by rw [List.map_append]; rfl⟩, by rw [List.length_append, li]; rfl, ?_, w8, fun x hx => sub6 x (w6 x hx), by omega, ?_, ?_, ?_, ?_, ?_⟩⟩
        · exact w10.at ep7 (by simp [pa, pc, pr])
        · refine w9.mono ?_
          rw [e64] at pm ⊢
          rw [e256]
          omega
        · intro b hb nb
          have h6 := s6 b hb nb
          have h6n : S6 b ≠ none := by rw [h6]; exact hb
          have hbq : b ≠ q := fun e => h6n (by rw [e]; exact nq)
          have h7 : S7 b = S6 b := by
            rw [s7 b (by rw [sup_ne hbq]; exact h6n) (by simp only [List.mem_cons, List.not_mem_nil, or_false, not_or] at nb ⊢; exact ⟨nb.1, nb.2.1, hbq⟩), sup_ne hbq]
          rw [w10 b (by rw [h7]; exact h6n) nb, h7, h6]
        · intro x hx
          rcases List.mem_append.mp hx with hx | hx
          · exact good6 x hx
          · rw [List.mem_singleton] at hx
            subst hx
            have tn := tks_nps ps
            exact ⟨⟨w1, by show dpT t ≤ 12; omega, by show tks ps ≤ 60; omega, by show nps ps ≤ 900; omega, by show DL.dpA (encPs ps) ≤ 20; omega⟩, w2, by show tks ps ≤ 48; omega, hin_mono (fun y hy => by rw [decide_eq_true_eq] at hy ⊢; exact sub6 y hy) w5⟩
        · rw [List.map_append, szA_append]
          have := szPs ps
          have b3 : B 3 = 146 := rfl
          have e : sz (encR (ps, t)) = 2 + szA (encPs ps) + sz (enc t) := by show sz (.tup [.tup (encPs ps), enc t]) = _; simp only [sz, szA]; omega
          simp only [List.map_cons, List.map_nil, szA]
          omega
        · rw [List.map_append, List.sum_append]
          simp only [List.map_cons, List.map_nil, List.sum_cons, List.sum_nil]
          have : (3 : Nat) ^ 3 = 27 := by decide
          omega
      · subst ed
        rw [iota_len] at li szr nhr hD6
        walk_at "rh_k22f"
        obtain ⟨less, eless, gless⟩ : ∃ less : D, atI ([.non, .int 0] : List DL.D) (if decide (0 < wd) = true then 1 else 0) = some less ∧ lit less = true ∧ DL.dp less ≤ 1 ∧ sz less = 1 := by
          cases decide (0 < wd) with
          | true => exact ⟨.int 0, rfl, by simp only [lit]; decide, by simp only [DL.dp]; omega, by simp only [sz]⟩
          | false => exact ⟨.non, rfl, by simp only [lit], by simp only [DL.dp]; omega, by simp only [sz]⟩
        rw [eless]
        obtain ⟨gl1, gl2, gl3⟩ := gless
        refine ⟨by omega, ⟨p, _, rfl, ep6⟩, Nat.zero_le _, fun q nq => ?_⟩
        have qa : q ≠ a := fun e => hD6.some a (by simp) (by rw [← e]; exact nq)
        have qc : q ≠ c := fun e => hD6.some c (by simp) (by rw [← e]; exact nq)
        have qp : q ≠ p := fun e => by rw [e, ep6] at nq; cases nq
        have qr : q ≠ r := fun e => by rw [e, er6] at nq; cases nq
        have s6q : Step [] S6 (sup S6 q (.lst [])) := fun b hb _ => sup_ne (fun e => hb (by rw [e]; exact nq))
        have hnr : nr.toNat ≤ 3 := by omega
        have e64 : (4 : Int) ^ (2 + 1) = 64 := by decide
        refine ⟨a, c, q, _, [], 2, rfl, by decide, by decide, hD6.step s6q List.not_mem_nil List.not_mem_nil, qa, qc, sup_same, by simp, rfl, by rw [e64]; omega, fun t hs3 S7 w1 w2 w3 w4 w5 w6 w7 w8 w9 w10 => ⟨by omega, ?_⟩⟩
        have ep7 : S7 p = some (.lst (l.map encF)) := w10.at (s6q.at ep6 List.not_mem_nil) (by simp [pa, pc, qp.symm])
        have er7 : S7 r = some (.lst (hs2.map .str)) := w10.at (s6q.at er6 List.not_mem_nil) (by simp [ra, rc, qr.symm])
        rw [onL_eq ep7]
        refine ⟨by rw [List.length_map]; omega, l ++ [⟨nm, .tup tl, enc t, less, rows⟩], hs2, ⟨_, _, _, _, _, _, _, _, _, rfl⟩, by rw [List.length_append, lj]; rfl, by rw [sup_same, List.map_append]; rfl, by rw [sup_ne pr.symm]; exact er7, sub6, lh6, ?_, ?_, ?_, ?_, ?_⟩
        · refine (w9.of fun b hb => ?_).mono (by rw [e64]; omega)
          simp only [List.mem_cons, List.not_mem_nil, or_false] at hb
          rcases hb with rfl | rfl
          · exact sup_ne pa.symm
          · exact sup_ne pc.symm
        · intro b hb nb
          have h6 := s6 b hb nb
          have h6n : S6 b ≠ none := by rw [h6]; exact hb
          have hbq : b ≠ q := fun e => h6n (by rw [e]; exact nq)
          have hbp : b ≠ p := fun e => hb (by rw [e]; exact np)
          rw [sup_ne hbp, w10 b (by rw [sup_ne hbq]; exact h6n) (by simp only [List.mem_cons, List.not_mem_nil, or_false, not_or] at nb ⊢; exact ⟨nb.1, nb.2.1, hbq⟩), sup_ne hbq, h6]
        · intro x hx
          rcases List.mem_append.mp hx with hx | hx
          · exact good x hx
          · rw [List.mem_singleton] at hx
            subst hx
            have := dp_enc t
            exact ⟨⟨hnm, by simp only [lit]; exact t2, lit_enc w1, gl1, by simp only [DL.dp]; omega, by show DL.dp (enc t) ≤ 20; omega, by show DL.dp less ≤ 20; omega, by show rows.length ≤ 100; omega, fun r hr => (good6 r hr).1⟩, fun r hr => (good6 r hr).2⟩
        · rw [List.map_append, szA_append]
          have b2 : B 2 = 47 := rfl
          have h1 : m * 16 ≤ 3 * 16 := Nat.mul_le_mul_right _ hm
          have h2 : nr.toNat * 340 ≤ 3 * 340 := Nat.mul_le_mul_right _ hnr
          have e : sz (encF ⟨nm, .tup tl, enc t, less, rows⟩) = 4 + szA tl + sz (enc t) + sz less + szA (rows.map encR) := by show sz (.tup [.str nm, .tup tl, enc t, less, .tup (rows.map encR)]) = _; simp only [sz, szA]; omega
          simp only [List.map_cons, List.map_nil, szA]
          omega
        · have h2 : nr.toNat * 27 ≤ 3 * 27 := Nat.mul_le_mul_right _ hnr
          have e : nhL (l ++ [⟨nm, .tup tl, enc t, less, rows⟩]) = nhL l + (rows.map fun r => nh r.2).sum := by unfold nhL; simp
          rw [e]; omega
  · subst ed
    rw [List.length_map] at lj hD2 szl nhl
    have l3 : ms.length ≤ 3 := lm
    walk_at "rh_k22f"
    show (match S2 p with | some (.lst xs) => _ | _ => False)
    rw [ep]
    have key := h l S2 ⟨⟨by omega, fun d hd => (good d hd).1⟩, ?_, ?_, fun d hd => (good d hd).2⟩ (hD2.mono ?_) s2
    · unfold encL at key
      exact ⟨by omega, key⟩
    · have : ms.length * 1120 ≤ 3 * 1120 := Nat.mul_le_mul_right _ l3
      unfold encL
      simp only [sz, szA]; omega
    · have : ms.length * 81 ≤ 3 * 81 := Nat.mul_le_mul_right _ l3
      omega
    · omega
end
end K22
set_option Elab.async false
set_option linter.all false
set_option maxRecDepth 100000
set_option maxHeartbeats 1000000
namespace K22
open PySem PySem.Spec PyProof.Rows L2 DL NdefX
local macro_rules | `(tactic| walk_at "rh_k22g") => `(tactic| simp only [↓DL.e_next, ↓DL.e_seq, ↓DL.e_drop, ↓DL.e_ret, ↓DL.e_retN, ↓DL.e_if, ↓DL.e_cont, ↓DL.e_break, ↓DL.e_set, ↓DL.e_asg, ↓DL.e_par, ↓DL.e_setI, ↓DL.e_for, ↓DL.e_var, ↓DL.e_c, ↓DL.e_op, ↓DL.e_un, ↓DL.e_test, ↓DL.e_chain, ↓DL.e_and, ↓DL.e_or, ↓DL.e_not, ↓DL.e_andV, ↓DL.e_orV, ↓DL.e_notV, ↓DL.e_ife, ↓DL.e_nil, ↓DL.e_cons, ↓DL.e_tup, ↓DL.e_lst, ↓DL.e_lstM, ↓DL.e_noPart, ↓DL.e_part, ↓DL.e_sl, ↓DL.e_cb, ↓DL.e_mtL, ↓DL.e_mt0, ↓DL.e_mtS, ↓DL.e_mtS0, ↓DL.e_tru, ↓DL.e_lc, ↓DL.e_itS, ↓DL.e_itStr, ↓DL.e_rng1, ↓DL.e_rev, ↓DL.e_dic0, ↓DL.e_dic1, ↓DL.e_s0, ↓DL.e_s1, ↓DL.e_ct, ↓DL.e_cf, dstart, slot, gN, ↓asB_bl, ↓asI_int, ↓asS_str, cond_true, cond_false, List.map_cons, List.map_nil, List.length_cons, List.length_nil, List.set_cons_zero, List.set_cons_succ, Option.elim_some, Option.elim_none, List.cons_append, List.nil_append, List.replicate, Nat.sub_self, Nat.reduceSub, Nat.reduceAdd, Bool.not_true, Bool.not_false, setAll, Int.cast_ofNat_Int, Int.reduceLT, Int.reduceLE, Int.reduceBEq, Nat.reduceBEq, decide_true, decide_false, ↓DL.pred_s, ↓DL.len_str, ↓DL.len_tup, ↓DL.len_lst, ↓DL.le_ii, ↓DL.le_ss, ↓DL.cmp_ii, ↓DL.add_ii, ↓DL.add_ib, ↓DL.add_bi, ↓DL.add_ss, ↓DL.add_tt, ↓DL.add_ll, ↓DL.sub_ii, ↓DL.sub_ib, ↓DL.sub_bi, ↓DL.mul_ii, ↓DL.ii_ii, ↓DL.neg_i, ↓DL.is_bb, ↓DL.isn_bb, ↓DL.all_b, ↓DL.all_map, ↓DL.sum_i, ↓DL.eq_ii, ↓DL.eq_bi, ↓DL.eq_t0, ↓DL.eq_l0, ↓DL.ne_ss, ↓DL.ne_ii, ↓DL.ne_t0, ↓DL.ne_l0, ↓DL.ix_tup, ↓DL.ix_lst, ↓DL.ix_str, ↓DL.in_c, ↓DL.nin_c, ↓DL.sl_str, ↓DL.sl_tup, ↓DL.sl_lst, ↓DL.app_1, ↓DL.pop_0, ↓DL.ext_t, ↓DL.tuple_l, ↓DL.list_t, ↓DL.list_l, ↓DL.int_b, ↓DL.int_i, ↓DL.min_ii, ↓DL.str_i, ↓DL.str_b, ↓DL.repr_1, ↓DL.back_t, ↓DL.tru_l, ↓DL.at0, ↓DL.at1, ↓DL.at2, ↓DL.at3, ↓DL.e_callE, ↓DL.e_getOr, ↓DL.e_dicI3, ↓DL.e_lcM, ↓DL.e_lstRg, ↓DL.e_enT, ↓DL.e_enL, ↓DL.e_lenset, ↓DL.e_fs, ↓DL.e_callL, ↓DL.e_never, ↓DL.e_dicM, ↓DL.e_dicS, ↓DL.e_dget, ↓DL.e_dput, ↓DL.e_forK, ↓DL.e_isN, ↓DL.e_revI, ↓DL.e_varF, ↓DL.fs_s, ↓DL.fs_i, ↓DL.get_d, ↓DL.rev_t, ↓DL.int_e, DL.isNon, ↓DL.e_callC, ↓DL.e_callFz, ↓DL.e_ndef, ↓DL.e_lam, ↓DL.e_no, ↓DL.e_lrevM, ↓DL.e_lrev, ↓DL.e_frzE, DL.nstart, ↓DL.e_dgetR, ↓DL.e_dicG3])
section
variable {P : Program} {w : World} {K : PySem.W.Frag} {mg : Str → Option Value} {base : Heap}
/-- what a change of holes tells -/
def spW (g : Str → Nat → Tm) : DSp := fun ds S P => ∃ (z : Str) (b : Nat), ds = [enc (.hole z), .int (b : Nat)] ∧ nice z = true ∧ b ≤ 80 ∧ ∀ S', Step [] S S' → P (enc (g z b)) S'
theorem len_spW {g : Str → Nat → Tm} {ds : List D} {S : Sto} {P' : DK} (h : spW g ds S P') : ds.length = 2 := by obtain ⟨_, _, rfl, _⟩ := h; rfl
theorem spW_of {k : Nat} {f : Addr} {S0 : Sto} {as : List Addr} {g : Str → Nat → Tm} (h : CallsD P w K mg base k f 2 S0 (spBack as (spW g))) : CallsD P w K mg base k f 2 S0 (spW g) := by
  refine h.imp (fun ds S P' _ q => ?_) fun ds S P' q => len_spW q
  obtain ⟨z, b, rfl, nz, hb, q⟩ := q
  exact ⟨z, b, rfl, nz, hb, fun S' s => q _ (clo_step s)⟩

abbrev st_l_takes : Stmt := top 25
theorem sc_l_takes : FnScope ["_law_pattern_here", "_law_one"] ["_law_pattern_here"] (defScope st_l_takes) := ⟨rfl, rfl, rfl, by decide +kernel, rfl, by decide +kernel, by decide +kernel⟩
def sp_l_takes (n : Nat) : DSp := fun ds S P => ∃ p : Pt, ds = [encP p] ∧ DL.dp (encP p) < n ∧ np p ≤ 900 ∧ ∀ S', Step [] S S' → P (.int (tk p : Nat)) S'
theorem len_l_takes {n : Nat} {ds : List D} {S : Sto} {P : DK} (h : sp_l_takes n ds S P) : ds.length = 1 := by obtain ⟨_, rfl, _⟩ := h; rfl
theorem lc_takes {n i : Nat} {te : DE} {δ : DSt} {S : Sto} {Q : DK} (ps : List Pt) (hte : ∀ d S2 Q, sp_l_takes n [d] S2 Q → te ((δ.set i none).set i (some d)) S2 Q) (hd : DL.dpA (encPs ps) < n) (hn : nps ps ≤ 900)
    (h : ∀ S', Step [] S S' → Q (.lst ((ps.map fun p => ((tk p : Nat) : Int)).map .int)) S') : lcB (gN i) dYes te [i] δ (encPs ps) S Q := by
  rw [encPs_map]
  have hl := len_nps ps
  refine lc_mapO ps encP (fun p => (δ.set i none).set i (some (encP p))) (fun p => .int (tk p : Nat)) (small1 (by omega)) (fun p hp S2 Q q => q) (fun p hp S2 Q s2 q => ?_) fun S1 s1 => ?_
  · refine hte _ S2 Q ⟨p, rfl, ?_, ?_, fun S3 s3 => q S3 s3⟩
    · have : DL.dp (encP p) ≤ DL.dpA (encPs ps) := dpA_mem (by rw [encPs_map]; exact List.mem_map.mpr ⟨p, hp, rfl⟩)
      omega
    · have : ∀ xs : List Pt, p ∈ xs → np p ≤ nps xs := fun xs hx => by
        induction xs with
        | nil => cases hx
        | cons a r ih =>
          simp only [nps]
          rcases List.mem_cons.mp hx with rfl | hx
          · omega
          · have := ih hx; omega
      have := this ps hp
      omega
  · have q := h S1 s1
    rw [List.map_map] at q
    exact q
theorem tks_sum : ∀ ps : List Pt, (ps.map fun p => ((tk p : Nat) : Int)).sum = (tks ps : Nat)
  | [] => rfl
  | p :: r => by rw [List.map_cons, List.sum_cons, tks_sum r]; simp only [tks]; omega
theorem ok_l_takes {k : Nat} {n:Nat} (DD : Def K mg "_law_takes" st_l_takes ["_law_pattern_here"]) (G__law_takes : Has P w K mg base (k) "_law_takes" ["_law_pattern_here"] (sp_l_takes n)) (m_int : mg "int" = none) (m_sum : mg "sum" = none) : Has P w K mg base (k + 1) "_law_takes" ["_law_pattern_here"] (sp_l_takes (n+1)) := by
  refine DD.has sc_l_takes (fun ds S P h => len_l_takes h) (fun f cdv A outer s H hr hgd => ⟨_, (ss_cons (s_if (t_cmp (op_eqD (DL.Room.un1 hr)) (q_ix ix_D (q_var 0) q_int) q_str) (ss_one (s_ret (q_callB (c_sum rfl) rfl m_sum DL.bb_sum (a_cons (q_lc (own := [("_law_one", 1)]) (is := [1]) rfl lcg_name rfl sc_l_takes.nd (i_seq (q_ix ix_D (q_var 0) q_int)) (blkOk_by (own := [("_law_one", 1)]) (N := ["_law_pattern_here", "_law_one"]) (sc := defScope st_l_takes) (by decide +kernel)) (fun _ _ _ _ _ => pg_name (i := 1) sc_l_takes.nd rfl (Or.inl rfl)) (fun _ _ _ _ _ => ts_nil) (fun _ _ _ _ _ => (q_def G__law_takes (hr.mono (by omega)) hgd (a_cons (q_var 1) a_nil)))) a_nil)))) ss_nil)
      (ss_one (s_ret (q_callTy (c_int) rfl m_int DL.bt_int (a_cons (q_cmp (op_eqD (DL.Room.un1 hr)) (q_ix ix_D (q_var 0) q_int) q_str) a_nil))))), fun ds S P h => ?_⟩)
  obtain ⟨p, rfl, hd, hn, h⟩ := h
  cases p with
  | take =>
    have h := h S (.refl S)
    simp only [tk] at h
    simp only [encP]
    walk_at "rh_k22g"
    rw [DL.eq_str' rfl, show DL.eqT (.str (Str.ofString "take")) (Str.ofString "shape") = false by decide]
    walk_at "rh_k22g"
    rw [DL.eq_str' rfl, show DL.eqT (.str (Str.ofString "take")) (Str.ofString "take") = true by decide]
    exact h
  | due =>
    have h := h S (.refl S)
    simp only [tk] at h
    simp only [encP]
    walk_at "rh_k22g"
    rw [DL.eq_str' rfl, show DL.eqT (.str (Str.ofString "due")) (Str.ofString "shape") = false by decide]
    walk_at "rh_k22g"
    rw [DL.eq_str' rfl, show DL.eqT (.str (Str.ofString "due")) (Str.ofString "take") = false by decide]
    exact h
  | shp ps =>
    simp only [encP, DL.dp, DL.dpA] at hd
    simp only [np] at hn
    simp only [encP]
    walk_at "rh_k22g"
    rw [DL.eq_str' rfl, show DL.eqT (.str (Str.ofString "shape")) (Str.ofString "shape") = true by decide]
    walk_at "rh_k22g"
    refine lc_takes (n := n) ps (fun d S2 Q q => ?_) (by omega) (by omega) fun S1 s1 => ?_
    · walk_at "rh_k22g"
      exact q
    · rw [DL.sum_i, tks_sum]
      have h := h S1 s1
      simp only [tk] at h
      exact h
abbrev st_l_turned : Stmt := top 27
theorem sc_l_turned : FnScope ["_law_whole", "_law_many", "_law_change", "_law_word", "_law_further", "_law_one"] ["_law_whole", "_law_many", "_law_change"] (defScope st_l_turned) := ⟨rfl, rfl, rfl, by decide +kernel, rfl, by decide +kernel, by decide +kernel⟩
def sp_l_turned (P : Program) (w : World) (K : PySem.W.Frag) (mg : Str → Option Value) (base : Heap) (kc n : Nat) : DSp := fun ds S P' => ∃ (t : Tm) (f : Addr) (S0 : Sto) (g : Str → Nat → Tm) (m : Nat), ds = [enc t, .int (m : Nat), .ref f] ∧ dpT t < n ∧ okT t = true ∧ m + dpT t ≤ 80 ∧ CallsD P w K mg base kc f 2 S0 (spW g) ∧ SubS S0 S ∧ ∀ S', Step [] S S' → P' (enc (mapH g m t)) S'
theorem len_l_turned {kc n : Nat} {ds : List D} {S : Sto} {P' : DK} (h : sp_l_turned P w K mg base kc n ds S P') : ds.length = 3 := by obtain ⟨_, _, _, _, _, rfl, _⟩ := h; rfl
theorem lc_turned {n kc i : Nat} {te : DE} {δ : DSt} {ts : List Tm} {f0 : Addr} {S0 S : Sto} {g : Str → Nat → Tm} {m : Nat} {Q : DK} (hte : ∀ t ∈ ts, ∀ S2 Q, sp_l_turned P w K mg base kc n [enc t, .int (m : Nat), .ref f0] S2 Q → te ((δ.set i none).set i (some (enc t))) S2 Q)
    (hl : ts.length ≤ 100) (hn : dpTs ts < n) (ok : okTs ts = true) (hm : m + dpTs ts ≤ 80) (C : CallsD P w K mg base kc f0 2 S0 (spW g)) (sub : SubS S0 S) (h : ∀ S', Step [] S S' → Q (.lst (encs (mapHs g m ts))) S') : lcB (gN i) dYes te [i] δ (encs ts) S Q := by
  rw [encs_map]
  refine lc_mapO ts enc (fun t => (δ.set i none).set i (some (enc t))) (fun t => enc (mapH g m t)) (small1 (by omega)) (fun p hp S2 Q q => q) (fun t ht S2 Q s2 q => ?_) fun S1 s1 => ?_
  · have h1 := dpTs_mem t ht
    exact hte t ht S2 Q ⟨t, f0, S0, g, m, rfl, by omega, okTs_mem ok t ht, by omega, C, sub.step s2, fun S3 s3 => q S3 s3⟩
  · have q := h S1 s1
    rw [mapHs_map, encs_map, List.map_map] at q
    exact q
theorem at2m {a b c : D} : atI [a, b, c] (-1) = some c := rfl
theorem at3m {a b c d : D} : atI [a, b, c, d] (-1) = some d := rfl
theorem at4_3 {a b c d : D} : atI [a, b, c, d] 3 = some d := rfl
theorem at4_2 {a b c d : D} : atI [a, b, c, d] 2 = some c := rfl
theorem cut4_2 {a b c d : D} : DL.cutD [a, b, c, d] none (some 2) = [a, b] := rfl
theorem cut3_m {a b c : D} : DL.cutD [a, b, c] none (some (-1)) = [a, b] := rfl
theorem cut4_m {a b c d : D} : DL.cutD [a, b, c, d] none (some (-1)) = [a, b, c] := rfl
theorem ok_l_turned {k : Nat} {n kc:Nat} (DD : Def K mg "_law_turned" st_l_turned ["_law_whole", "_law_many", "_law_change"]) (G__law_turned : Has P w K mg base (kc+n+1) "_law_turned" ["_law_whole", "_law_many", "_law_change"] (sp_l_turned P w K mg base kc n)) (m_tuple : mg "tuple" = none) (m_int : mg "int" = none) : Has P w K mg base (kc+n+1 + 1) "_law_turned" ["_law_whole", "_law_many", "_law_change"] (sp_l_turned P w K mg base kc (n+1)) := by
  refine DD.has sc_l_turned (fun ds S P h => len_l_turned h) (fun f cdv A outer s H hr hgd => ⟨_, (ss_cons (s_set 3 sc_l_turned.nd (q_ix ix_D (q_var 0) q_int))
      (ss_cons (s_if (t_cmp (op_eqD (DL.Room.un1 hr)) (q_var 3) q_str) (ss_one (s_ret (q_callCB (P := P) (w := w) (K := K) (mg := mg) (base := base) (k := kc) 2 rfl rfl rfl rfl rfl (hr.mono (by omega)) hgd (a_cons (q_var 0) (a_cons (q_var 1) a_nil))))) ss_nil)
      (ss_cons (s_if (t_cmp (op_inD (DL.Room.un0 hr)) (q_var 3) (q_tup (a_cons q_str (a_cons q_str (a_cons q_str a_nil))))) (ss_cons (s_set 4 sc_l_turned.nd (q_op op_addD (q_var 1) (q_callTy (c_int) rfl m_int DL.bt_int (a_cons (q_cmp (op_neD (DL.Room.un1 hr)) (q_var 3) q_str) a_nil))))
      (ss_cons (s_set 5 sc_l_turned.nd (q_def G__law_turned (hr.mono (by omega)) hgd (a_cons (q_ix ix_D (q_var 0) q_int) (a_cons (q_var 1) (a_cons (q_var 2) a_nil)))))
      (ss_one (s_ret (q_op op_addD (q_slice sl_D (q_var 0) o_none (o_some q_int)) (q_tup (a_cons (q_var 5) (a_cons (q_def G__law_turned (hr.mono (by omega)) hgd (a_cons (q_ix ix_D (q_var 0) q_int) (a_cons (q_var 4) (a_cons (q_var 2) a_nil)))) a_nil)))))))) ss_nil)
      (ss_cons (s_if (t_cmp (op_inD (DL.Room.un0 hr)) (q_var 3) (q_tup (a_cons q_str (a_cons q_str (a_cons q_str a_nil))))) (ss_one (s_ret (q_op op_addD (q_slice sl_D (q_var 0) o_none (o_some (q_un un_negD q_int))) (q_tup (a_cons (q_callTy (c_tuple) rfl m_tuple DL.bt_tuple (a_cons (q_lc (own := [("_law_one", 5)]) (is := [5]) rfl lcg_name rfl sc_l_turned.nd (i_seq (q_ix ix_D (q_var 0) (q_un un_negD q_int))) (blkOk_by (own := [("_law_one", 5)]) (N := ["_law_whole", "_law_many", "_law_change", "_law_word", "_law_further", "_law_one"]) (sc := defScope st_l_turned) (by decide +kernel)) (fun _ _ _ _ _ => pg_name (i := 5) sc_l_turned.nd rfl (Or.inl rfl)) (fun _ _ _ _ _ => ts_nil) (fun _ _ _ _ _ => (q_def G__law_turned (hr.mono (by omega)) hgd (a_cons (q_var 5) (a_cons (q_var 1) (a_cons (q_var 2) a_nil)))))) a_nil)) a_nil))))) ss_nil)
      (ss_one (s_ret (q_var 0))))))), fun ds S P h => ?_⟩)
  obtain ⟨t, f0, S0, g, m, rfl, hn, ok, hm, C, sub, h⟩ := h
  have l8 : 8 ≤ sizeLine := small1 (by decide)
  cases t with
  | «at» k =>
    have h := h S (.refl S)
    simp only [mapH, enc] at h
    simp only [enc]
    walk_at "rh_k22g"
    rw [DL.eq_str' rfl, show DL.eqT (.str (Str.ofString "at")) (Str.ofString "hole") = false by decide]
    walk_at "rh_k22g"
    rw [DL.in_tt (zs := ["to", "fun", "give"]) rfl rfl, show memS (.str (Str.ofString "at")) (["to", "fun", "give"] : List Str) = false by decide]
    walk_at "rh_k22g"
    rw [DL.in_tt (zs := ["family", "call", "shape"]) rfl rfl, show memS (.str (Str.ofString "at")) (["family", "call", "shape"] : List Str) = false by decide]
    walk_at "rh_k22g"
    exact ⟨by omega, by omega, h⟩
  | world k =>
    have h := h S (.refl S)
    simp only [mapH, enc] at h
    simp only [enc]
    walk_at "rh_k22g"
    rw [DL.eq_str' rfl, show DL.eqT (.str (Str.ofString "world")) (Str.ofString "hole") = false by decide]
    walk_at "rh_k22g"
    rw [DL.in_tt (zs := ["to", "fun", "give"]) rfl rfl, show memS (.str (Str.ofString "world")) (["to", "fun", "give"] : List Str) = false by decide]
    walk_at "rh_k22g"
    rw [DL.in_tt (zs := ["family", "call", "shape"]) rfl rfl, show memS (.str (Str.ofString "world")) (["family", "call", "shape"] : List Str) = false by decide]
    walk_at "rh_k22g"
    exact ⟨by omega, by omega, h⟩
  | hole z =>
    simp only [okT] at ok
    simp only [dpT] at hm
    simp only [enc]
    walk_at "rh_k22g"
    rw [DL.eq_str' rfl, show DL.eqT (.str (Str.ofString "hole")) (Str.ofString "hole") = true by decide]
    walk_at "rh_k22g"
    refine ⟨f0, 2, S0, spW g, rfl, C, sub, sub, z, m, by simp only [enc], ok, by omega, fun S' s => ?_⟩
    simpa only [mapH] using h S' s
  | bin wd mk x y =>
    simp only [okT, Bool.and_eq_true, decide_eq_true_eq] at ok
    obtain ⟨⟨⟨hw, hmk⟩, okx⟩, oky⟩ := ok
    simp only [dpT] at hn hm
    simp only [enc]
    walk_at "rh_k22g"
    rw [DL.eq_str' rfl, show DL.eqT (.str wd) (Str.ofString "hole") = false by rcases mem_tfg hw with rfl | rfl | rfl <;> decide]
    walk_at "rh_k22g"
    rw [DL.in_tt (zs := ["to", "fun", "give"]) rfl rfl, show memS (.str wd) (["to", "fun", "give"] : List Str) = true by rcases mem_tfg hw with rfl | rfl | rfl <;> decide]
    walk_at "rh_k22g"
    have hbd : bd wd ≤ 1 := by unfold bd; split <;> omega
    refine ⟨by omega, x, f0, S0, g, m, rfl, by omega, okx, by omega, C, sub, fun S1 s1 => ⟨y, f0, S0, g, m + bd wd, ?_, by omega, oky, by omega, C, sub.step s1, fun S2 s2 => ?_⟩⟩
    · rcases mem_tfg hw with rfl | rfl | rfl <;> rfl
    · rw [cut4_2]
      have h := h S2 (s1.trans s2)
      simp only [mapH, enc] at h
      exact ⟨by omega, by show 4 ≤ sizeLine; omega, h⟩
  | app wd nm ts =>
    simp only [okT, Bool.and_eq_true, decide_eq_true_eq] at ok
    obtain ⟨⟨⟨hw, hnm⟩, hl⟩, okx⟩ := ok
    simp only [dpT] at hn hm
    simp only [enc]
    walk_at "rh_k22g"
    rw [DL.eq_str' rfl, show DL.eqT (.str wd) (Str.ofString "hole") = false by rcases mem_fc hw with rfl | rfl <;> decide]
    walk_at "rh_k22g"
    rw [DL.in_tt (zs := ["to", "fun", "give"]) rfl rfl, show memS (.str wd) (["to", "fun", "give"] : List Str) = false by rcases mem_fc hw with rfl | rfl <;> decide]
    walk_at "rh_k22g"
    rw [DL.in_tt (zs := ["family", "call", "shape"]) rfl rfl, show memS (.str wd) (["family", "call", "shape"] : List Str) = true by rcases mem_fc hw with rfl | rfl <;> decide]
    walk_at "rh_k22g"
    refine ⟨by omega, by omega, ?_⟩
    simp only [at2m, Option.elim_some, cut3_m]
    refine lc_turned (n := n) (kc := kc) (m := m) (fun t ht S2 Q q => ?_) hl (by omega) okx (by omega) C sub fun S1 s1 => ?_
    · walk_at "rh_k22g"
      exact q
    · walk_at "rh_k22g"
      have h := h S1 s1
      simp only [mapH, enc] at h
      exact ⟨by omega, by show 3 ≤ sizeLine; omega, h⟩
  | shp nm z ts =>
    simp only [okT, Bool.and_eq_true, decide_eq_true_eq] at ok
    obtain ⟨⟨⟨hnm, hz⟩, hl⟩, okx⟩ := ok
    simp only [dpT] at hn hm
    simp only [enc]
    walk_at "rh_k22g"
    rw [DL.eq_str' rfl, show DL.eqT (.str (Str.ofString "shape")) (Str.ofString "hole") = false by decide]
    walk_at "rh_k22g"
    rw [DL.in_tt (zs := ["to", "fun", "give"]) rfl rfl, show memS (.str (Str.ofString "shape")) (["to", "fun", "give"] : List Str) = false by decide]
    walk_at "rh_k22g"
    rw [DL.in_tt (zs := ["family", "call", "shape"]) rfl rfl, show memS (.str (Str.ofString "shape")) (["family", "call", "shape"] : List Str) = true by decide]
    walk_at "rh_k22g"
    refine ⟨by omega, by omega, ?_⟩
    simp only [at3m, Option.elim_some, cut4_m]
    refine lc_turned (n := n) (kc := kc) (m := m) (fun t ht S2 Q q => ?_) hl (by omega) okx (by omega) C sub fun S1 s1 => ?_
    · walk_at "rh_k22g"
      exact q
    · walk_at "rh_k22g"
      have h := h S1 s1
      simp only [mapH, enc] at h
      exact ⟨by omega, by show 4 ≤ sizeLine; omega, h⟩
abbrev st_l_lot_turned : Stmt := top 28
theorem sc_l_lot_turned : FnScope ["_law_lot_here", "_law_change", "_law_found", "_law_name", "_law_telescope", "_law_result", "_law_less", "_law_rows", "_law_new_rows", "_law_patterns", "_law_body", "_law_many", "_law_one"] ["_law_lot_here", "_law_change"] (defScope st_l_lot_turned) := ⟨rfl, rfl, rfl, by decide +kernel, rfl, by decide +kernel, by decide +kernel⟩
def sp_l_lot_turned (P : Program) (w : World) (K : PySem.W.Frag) (mg : Str → Option Value) (base : Heap) (kc : Nat) : DSp := fun ds S P' => ∃ (l : List Df) (f : Addr) (S0 : Sto) (g : Str → Nat → Tm), ds = [encL l, .ref f] ∧ GLot l ∧ CallsD P w K mg base kc f 2 S0 (spW g) ∧ SubS S0 S ∧ ∀ S', Step [] S S' → P' (encL (mapL (fun ps b => mapH g (tks ps) b) l)) S'
theorem len_l_lot_turned {kc : Nat} {ds : List D} {S : Sto} {P' : DK} (h : sp_l_lot_turned P w K mg base kc ds S P') : ds.length = 2 := by obtain ⟨_, _, _, _, rfl, _⟩ := h; rfl
theorem ok_l_lot_turned {k : Nat} {kc:Nat} (DD : Def K mg "_law_lot_turned" st_l_lot_turned ["_law_lot_here", "_law_change"]) (G__law_turned : Has P w K mg base (kc+14) "_law_turned" ["_law_whole", "_law_many", "_law_change"] (sp_l_turned P w K mg base kc 13)) (G__law_takes : Has P w K mg base (21) "_law_takes" ["_law_pattern_here"] (sp_l_takes 21)) (m_tuple : mg "tuple" = none) (m_sum : mg "sum" = none) : Has P w K mg base (kc+22 + 1) "_law_lot_turned" ["_law_lot_here", "_law_change"] (sp_l_lot_turned P w K mg base kc) := by
  refine DD.has sc_l_lot_turned (fun ds S P h => len_l_lot_turned h) (fun f cdv A outer s H hr hgd => ⟨_, (ss_cons (s_set 2 sc_l_lot_turned.nd (q_lstM a_nil))
      (ss_cons (s_for PassesOwn.never rfl (i_seq (q_ix ix_D (q_var 0) q_int)) (g_tup rfl (gs_cons 3 sc_l_lot_turned.nd (gs_cons 4 sc_l_lot_turned.nd (gs_cons 5 sc_l_lot_turned.nd (gs_cons 6 sc_l_lot_turned.nd (gs_cons 7 sc_l_lot_turned.nd gs_nil)))))) (ss_cons (s_set 8 sc_l_lot_turned.nd (q_tup a_nil))
      (ss_cons (s_for PassesOwn.never rfl (i_seq (q_var 7)) (g_tup rfl (gs_cons 9 sc_l_lot_turned.nd (gs_cons 10 sc_l_lot_turned.nd gs_nil))) (ss_cons (s_set 11 sc_l_lot_turned.nd (q_callB (c_sum rfl) rfl m_sum DL.bb_sum (a_cons (q_lc (own := [("_law_one", 12)]) (is := [12]) rfl lcg_name rfl sc_l_lot_turned.nd (i_seq (q_var 9)) (blkOk_by (own := [("_law_one", 12)]) (N := ["_law_lot_here", "_law_change", "_law_found", "_law_name", "_law_telescope", "_law_result", "_law_less", "_law_rows", "_law_new_rows", "_law_patterns", "_law_body", "_law_many", "_law_one"]) (sc := defScope st_l_lot_turned) (by decide +kernel)) (fun _ _ _ _ _ => pg_name (i := 12) sc_l_lot_turned.nd rfl (Or.inl rfl)) (fun _ _ _ _ _ => ts_nil) (fun _ _ _ _ _ => (q_def G__law_takes (hr.mono (by omega)) hgd (a_cons (q_var 12) a_nil)))) a_nil)))
      (ss_one (s_set 8 sc_l_lot_turned.nd (q_op op_addD (q_var 8) (q_tup (a_cons (q_tup (a_cons (q_var 9) (a_cons (q_def G__law_turned (hr.mono (by omega)) hgd (a_cons (q_var 10) (a_cons (q_var 11) (a_cons (q_var 1) a_nil)))) a_nil))) a_nil)))))))
      (ss_one (s_expr (q_mtL PySem.F.slot_list_append PySem.F.type_list_append m_append (q_var 2) (a_cons (q_tup (a_cons (q_var 3) (a_cons (q_var 4) (a_cons (q_var 5) (a_cons (q_var 6) (a_cons (q_var 8) a_nil)))))) a_nil)))))))
      (ss_one (s_ret (q_tup (a_cons q_str (a_cons (q_callTy (c_tuple) rfl m_tuple DL.bt_tuple (a_cons (q_var 2) a_nil)) a_nil))))))), fun ds S P h => ?_⟩)
  obtain ⟨l, f0, S0, g, rfl, gl, C, sub, h⟩ := h
  unfold encL
  walk_at "rh_k22g"
  have h100 : 100 ≤ sizeLine := small1 (by decide)
  obtain ⟨G, eG⟩ : ∃ G : GT, G = fun ps b => mapH g (tks ps) b := ⟨_, rfl⟩
  rw [← eG] at h
  refine ⟨Nat.zero_le _, fun p np => ?_⟩
  have s0 : Step [] S (sup S p (.lst [])) := fun b hb _ => sup_ne (fun e => hb (by rw [e]; exact np))
  show forB _ _ _ _ _ _
  refine ⟨fun j δ' S' => (∃ x3 x4 x5 x6 x7 x8 x9 x10 x11 x12, δ' = [some (.tup [.str (Str.ofString "lot"), .tup (l.map encF)]), some (.ref f0), some (.ref p), x3, x4, x5, x6, x7, x8, x9, x10, x11, x12]) ∧ S' p = some (.lst ((mapL G (l.take j)).map encF)) ∧ Step [] S S',
    ⟨⟨_, _, _, _, _, _, _, _, _, _, rfl⟩, sup_same, s0⟩, fun j d δ' S2 hd ⟨⟨x3, x4, x5, x6, x7, x8, x9, x10, x11, x12, ed⟩, ep, s2⟩ => ?_, fun δ' S2 ⟨⟨x3, x4, x5, x6, x7, x8, x9, x10, x11, x12, ed⟩, ep, s2⟩ => ?_⟩
  · subst ed
    rw [List.getElem?_map] at hd
    cases qn : l[j]? with
    | none => rw [qn] at hd; cases hd
    | some df =>
      rw [qn] at hd; cases hd
      have gdf := gl.dfs df (List.mem_of_getElem? qn)
      have hj : j < l.length := (List.getElem?_eq_some_iff.mp qn).1
      have hl := gl.len
      generalize (D.tup [.str (Str.ofString "lot"), .tup (l.map encF)]) = it
      refine ⟨rfl, ?_⟩
      walk_at "rh_k22g"
      refine ⟨Nat.zero_le _, ?_⟩
      show forB _ _ _ _ _ _
      refine ⟨fun i δ' S' => (∃ x9 x10 x11 x12, δ' = [some it, some (.ref f0), some (.ref p), some (.str df.name), some df.tele, some df.res, some df.less, some (.tup (df.rows.map encR)), some (.tup ((df.rows.take i).map fun r => encR (mapR G r))), x9, x10, x11, x12]) ∧ Step [] S2 S',
        ⟨⟨_, _, _, _, rfl⟩, .refl S2⟩, fun i d δ' S3 hd ⟨⟨y9, y10, y11, y12, ed⟩, s3⟩ => ?_, fun δ' S3 ⟨⟨y9, y10, y11, y12, ed⟩, s3⟩ => ?_⟩
      · subst ed
        rw [List.getElem?_map] at hd
        cases qr : df.rows[i]? with
        | none => rw [qr] at hd; cases hd
        | some r =>
          rw [qr] at hd; cases hd
          have gr := gdf.rows r (List.mem_of_getElem? qr)
          have hi : i < df.rows.length := (List.getElem?_eq_some_iff.mp qr).1
          have hr := gdf.len
          obtain ⟨b1, b2, b3, b4, b5⟩ := gr
          refine ⟨rfl, ?_⟩
          walk_at "rh_k22g"
          refine lc_takes (n := 21) r.1 (fun d S Q q => ?_) (by omega) b4 fun S4 s4 => ?_
          · walk_at "rh_k22g"
            exact q
          · rw [DL.sum_i, tks_sum]
            refine ⟨r.2, f0, S0, g, tks r.1, rfl, by omega, b1, by omega, C, (sub.step s2).step (s3.trans s4), fun S5 s5 => ⟨by omega, by omega, by rw [List.length_map]; have := List.length_take_le i df.rows; show _ + 1 ≤ _; omega, ?_⟩⟩
            have et : ((df.rows.take (i + 1)).map fun r => encR (mapR G r)) = ((df.rows.take i).map fun r => encR (mapR G r)) ++ [.tup [.tup (encPs r.1), enc (mapH g (tks r.1) r.2)]] := by
              rw [List.take_add_one, qr, List.map_append]
              subst eG
              rfl
            rw [et]
            exact ⟨⟨_, _, _, _, rfl⟩, s3.trans (s4.trans s5)⟩
      · subst ed
        walk_at "rh_k22g"
        have ep3 : S3 p = some (.lst ((mapL G (l.take j)).map encF)) := s3.at ep List.not_mem_nil
        refine ⟨⟨p, _, rfl, ep3⟩, by omega, ?_⟩
        rw [onL_eq ep3]
        refine ⟨by unfold mapL; rw [List.length_map, List.length_map]; have := List.length_take_le j l; omega, ⟨_, _, _, _, _, _, _, _, _, _, rfl⟩, ?_, ?_⟩
        · rw [sup_same, List.length_map, List.take_length, List.take_add_one, qn]
          unfold mapL
          rw [List.map_append, List.map_append]
          unfold mapF encF
          simp only [List.map_map, List.map_cons, List.map_nil, Option.toList]
          rfl
        · intro b hb nb
          rw [sup_ne (fun e => hb (by rw [e]; exact np)), s3 b (by rw [s2 b hb nb]; exact hb) nb, s2 b hb nb]
  · subst ed
    walk_at "rh_k22g"
    show (match S2 p with | some (.lst xs) => _ | _ => False)
    rw [ep]
    rw [List.length_map, List.take_length]
    have key := h S2 s2
    unfold encL at key
    exact ⟨by omega, key⟩
end
end K22
set_option Elab.async false
set_option linter.all false
set_option maxRecDepth 100000
set_option maxHeartbeats 1000000
namespace K22
open PySem PySem.Spec PyProof.Rows L2 DL NdefX
local macro_rules | `(tactic| walk_at "rh_k22h") => `(tactic| simp only [↓DL.e_next, ↓DL.e_seq, ↓DL.e_drop, ↓DL.e_ret, ↓DL.e_retN, ↓DL.e_if, ↓DL.e_cont, ↓DL.e_break, ↓DL.e_set, ↓DL.e_asg, ↓DL.e_par, ↓DL.e_setI, ↓DL.e_for, ↓DL.e_var, ↓DL.e_c, ↓DL.e_op, ↓DL.e_un, ↓DL.e_test, ↓DL.e_chain, ↓DL.e_and, ↓DL.e_or, ↓DL.e_not, ↓DL.e_andV, ↓DL.e_orV, ↓DL.e_notV, ↓DL.e_ife, ↓DL.e_nil, ↓DL.e_cons, ↓DL.e_tup, ↓DL.e_lst, ↓DL.e_lstM, ↓DL.e_noPart, ↓DL.e_part, ↓DL.e_sl, ↓DL.e_cb, ↓DL.e_mtL, ↓DL.e_mt0, ↓DL.e_mtS, ↓DL.e_mtS0, ↓DL.e_tru, ↓DL.e_lc, ↓DL.e_itS, ↓DL.e_itStr, ↓DL.e_rng1, ↓DL.e_rev, ↓DL.e_dic0, ↓DL.e_dic1, ↓DL.e_s0, ↓DL.e_s1, ↓DL.e_ct, ↓DL.e_cf, dstart, slot, gN, ↓asB_bl, ↓asI_int, ↓asS_str, cond_true, cond_false, List.map_cons, List.map_nil, List.length_cons, List.length_nil, List.set_cons_zero, List.set_cons_succ, Option.elim_some, Option.elim_none, List.cons_append, List.nil_append, List.replicate, Nat.sub_self, Nat.reduceSub, Nat.reduceAdd, Bool.not_true, Bool.not_false, setAll, Int.cast_ofNat_Int, Int.reduceLT, Int.reduceLE, Int.reduceBEq, Nat.reduceBEq, decide_true, decide_false, ↓DL.pred_s, ↓DL.len_str, ↓DL.len_tup, ↓DL.len_lst, ↓DL.le_ii, ↓DL.le_ss, ↓DL.cmp_ii, ↓DL.add_ii, ↓DL.add_ib, ↓DL.add_bi, ↓DL.add_ss, ↓DL.add_tt, ↓DL.add_ll, ↓DL.sub_ii, ↓DL.sub_ib, ↓DL.sub_bi, ↓DL.mul_ii, ↓DL.ii_ii, ↓DL.neg_i, ↓DL.is_bb, ↓DL.isn_bb, ↓DL.all_b, ↓DL.all_map, ↓DL.sum_i, ↓DL.eq_ii, ↓DL.eq_bi, ↓DL.eq_t0, ↓DL.eq_l0, ↓DL.ne_ss, ↓DL.ne_ii, ↓DL.ne_t0, ↓DL.ne_l0, ↓DL.ix_tup, ↓DL.ix_lst, ↓DL.ix_str, ↓DL.in_c, ↓DL.nin_c, ↓DL.sl_str, ↓DL.sl_tup, ↓DL.sl_lst, ↓DL.app_1, ↓DL.pop_0, ↓DL.ext_t, ↓DL.tuple_l, ↓DL.list_t, ↓DL.list_l, ↓DL.int_b, ↓DL.int_i, ↓DL.min_ii, ↓DL.str_i, ↓DL.str_b, ↓DL.repr_1, ↓DL.back_t, ↓DL.tru_l, ↓DL.at0, ↓DL.at1, ↓DL.at2, ↓DL.at3, ↓DL.e_callE, ↓DL.e_getOr, ↓DL.e_dicI3, ↓DL.e_lcM, ↓DL.e_lstRg, ↓DL.e_enT, ↓DL.e_enL, ↓DL.e_lenset, ↓DL.e_fs, ↓DL.e_callL, ↓DL.e_never, ↓DL.e_dicM, ↓DL.e_dicS, ↓DL.e_dget, ↓DL.e_dput, ↓DL.e_forK, ↓DL.e_isN, ↓DL.e_revI, ↓DL.e_varF, ↓DL.fs_s, ↓DL.fs_i, ↓DL.get_d, ↓DL.rev_t, ↓DL.int_e, DL.isNon, ↓DL.e_callC, ↓DL.e_callFz, ↓DL.e_ndef, ↓DL.e_lam, ↓DL.e_no, ↓DL.e_lrevM, ↓DL.e_lrev, ↓DL.e_frzE, DL.nstart, ↓DL.e_dgetR, ↓DL.e_dicG3])
section
variable {P : Program} {w : World} {K : PySem.W.Frag} {mg : Str → Option Value} {base : Heap}
/-- a def of the program, handed about -/
theorem has_callsD {x : Str} {st : Stmt} {ps : List Str} {k : Nat} {sp : DSp} (D : Def K mg x st ps) (G : Has P w K mg base k x ps sp) : ∃ a, Con K mg x (.ref a) ∧ ∀ S0, CallsD P w K mg base k a ps.length S0 sp := by
  obtain ⟨f, fd', U, _, m'⟩ := D
  obtain ⟨f2, fd, F, hb, kk, m⟩ := G
  have e : f2 = f := by rw [m'] at m; cases m; rfl
  subst e
  refine ⟨f2, ⟨.ref f2, .ref f2, m, rfl, fun _ => rfl⟩, fun S0 => ?_⟩
  obtain ⟨oc, od, kV, doc, pm, an, cdv, ct, osl, _, lk, hcd⟩ := U.ex
  refine ⟨.inr ⟨oc, od, fd', osl, lk⟩, F.len, fun A outer s H us vs Q hr hgd e0 r ⟨ds, S, P', rp, sr, _, hsp, fin⟩ => ?_⟩
  have KX : K.In s.heap := e0.mod.kin.keeps fun b o e => (e0.bs b o e).1
  have hl : us.length = ps.length := by rw [← r.length, rp.length]; exact F.len _ _ _ hsp
  have hb' : BindsTo s fd ⟨us, []⟩ (ps.zip us) := by have z := hb s us KX (by simpa using hl); rw [List.append_nil] at z; exact z
  exact F.run A outer s H ⟨us, []⟩ us vs Q hr hgd e0 hb' r ⟨ds, S, P', rp, sr, hsp, fin⟩

abbrev st_l_as_call : Stmt := top 29
theorem sc_l_as_call : FnScope ["_law_whole", "_law_many", "_law_k"] ["_law_whole", "_law_many"] (defScope st_l_as_call) := ⟨rfl, rfl, rfl, by decide +kernel, rfl, by decide +kernel, by decide +kernel⟩
theorem len_l_as_call {g : Str → Nat → Tm} {ds : List D} {S : Sto} {P' : DK} (h : spW g ds S P') : ds.length = 2 := len_spW h
theorem ok_l_as_call {k : Nat}  (DD : Def K mg "_law_as_call" st_l_as_call ["_law_whole", "_law_many"]) (m_tuple : mg "tuple" = none) (m_range : mg "range" = none) : Has P w K mg base (k + 1) "_law_as_call" ["_law_whole", "_law_many"] (spW callT) := by
  refine DD.has sc_l_as_call (fun ds S P h => len_l_as_call h) (fun f cdv A outer s H hr hgd => ⟨_, (ss_one (s_ret (q_tup (a_cons q_str (a_cons (q_ix ix_D (q_var 0) q_int) (a_cons (q_callTy (c_tuple) rfl m_tuple DL.bt_tuple (a_cons (q_lc (own := [("_law_k", 2)]) (is := [2]) rfl lcg_name rfl sc_l_as_call.nd (i_rng1 rfl m_range (a_cons (q_var 1) a_nil)) (blkOk_by (own := [("_law_k", 2)]) (N := ["_law_whole", "_law_many", "_law_k"]) (sc := defScope st_l_as_call) (by decide +kernel)) (fun _ _ _ _ _ => pg_name (i := 2) sc_l_as_call.nd rfl (Or.inl rfl)) (fun _ _ _ _ _ => ts_nil) (fun _ _ _ _ _ => (q_tup (a_cons q_str (a_cons (q_op op_subD (q_op op_subD (q_var 1) q_int) (q_var 2)) a_nil))))) a_nil)) a_nil)))))), fun ds S P h => ?_⟩)
  obtain ⟨z, b, rfl, nz, hb, h⟩ := h
  have l100 : 100 ≤ sizeLine := small1 (by decide)
  simp only [enc]
  walk_at "rh_k22h"
  refine ⟨⟨by omega, by omega⟩, ?_⟩
  rw [show ((b : Nat) : Int).toNat = b by omega, iota_nat]
  refine lc_mapO (List.range b) (fun j => .int (j : Nat)) (fun j => [some (.tup [.str (Str.ofString "hole"), .str z]), some (.int (b : Nat)), some (.int (j : Nat))]) (fun j => enc (.at (b - 1 - j))) (by rw [List.length_range]; exact small1 (by omega)) (fun j hj S2 Q q => q) (fun j hj S2 Q s2 q => ?_) fun S1 s1 => ?_
  · rw [List.mem_range] at hj
    walk_at "rh_k22h"
    have q := q S2 (.refl S2)
    simp only [enc] at q
    rw [show (((b - 1 - j : Nat)) : Int) = (b : Int) - 1 - (j : Int) by omega] at q
    exact ⟨by omega, q⟩
  · walk_at "rh_k22h"
    have h := h S1 s1
    unfold callT at h
    simp only [enc] at h
    rw [encs_map, List.map_map] at h
    exact ⟨by omega, h⟩
abbrev nlx_put_lam : Expr := lamArg ((defBody (top 30)).getD 0 (.Pass ⟨0, 0, 0, 0⟩)) 1
theorem nmq_put_lam : nmG 176 42 = (Str.ofString "_law_put") ++ ".<locals>." ++ "<lambda>" := by decide +kernel
theorem nsc_put_lam : GScope ["_law_whole", "_law_many", "_law_gap", "_law_other"] ["_law_whole", "_law_many"] ["_law_gap", "_law_other"] (lamS nlx_put_lam) := gscope_by (by decide +kernel)
theorem len_put_lam {g : Str → Nat → Tm} {ds : List D} {S : Sto} {P' : DK} (h : spW g ds S P') : ds.length = 2 := len_spW h
theorem ok_put_lam {k : Nat} {gap:Str} {one:Tm} {S0 : Sto} {f c : Addr} {cl : List (Str × Addr)} (hS : S0 f = some (.fn (FF.ofLam (lamP nlx_put_lam) (lamB nlx_put_lam) (lamS nlx_put_lam) ((Str.ofString "_law_put") ++ ".<locals>." ++ "<lambda>") cl c) 1)) (cap : Cap cl ["_law_gap", "_law_other"] [.str gap,enc one] S0) : CallsD P w K mg base (k + 1) f 2 S0 (spBack (cellsOf cl ["_law_gap", "_law_other"]) (spW (fillT gap one))) := by
  refine DL.okGL (F := FF.ofLam (lamP nlx_put_lam) (lamB nlx_put_lam) (lamS nlx_put_lam) ((Str.ofString "_law_put") ++ ".<locals>." ++ "<lambda>") cl c) (N := ["_law_whole", "_law_many", "_law_gap", "_law_other"]) (ps := ["_law_whole", "_law_many"]) (fr := ["_law_gap", "_law_other"]) rfl nsc_put_lam (fun _ _ _ us hl => match us, hl with | [_, _], _ => rfl) (fun ds S P h => len_put_lam h) hS cap (fun A outer s H hr hgd FC => ⟨_, (q_ifExp (t_cmp (op_eqD (DL.Room.un1 hr)) (q_ix ix_D (q_var 0) q_int) (q_var 2)) (q_var 3) (q_var 0)), fun ds S P hf h => ?_⟩)
  obtain ⟨z, b, rfl, nz, hb, h⟩ := h
  have l8 : 8 ≤ sizeLine := small1 (by decide)
  have h := h S (.refl S)
  simp only [enc]
  walk_at "rh_k22h"
  rw [DL.eq_str' rfl, show DL.eqT (.str z) gap = (z == gap) from rfl]
  unfold fillT at h
  by_cases e : z = gap
  · subst e
    rw [if_pos rfl] at h
    rw [beq_self_eq_true]
    exact h
  · rw [if_neg e] at h
    rw [beq_eq_false_iff_ne.mpr e]
    simp only [enc] at h
    exact h
abbrev st_l_put : Stmt := top 30
theorem sc_l_put : FnScope ["_law_lot_here", "_law_gap", "_law_other"] ["_law_lot_here", "_law_gap", "_law_other"] (defScope st_l_put) := ⟨rfl, rfl, rfl, by decide +kernel, rfl, by decide +kernel, by decide +kernel⟩
def sp_l_put (P0 : Addr) : DSp := fun ds S P' => S P0 = some (.tab 2) ∧ ∃ l gap one, ds = [encL l, .str gap, enc one] ∧ GLot l ∧ ∀ S', Step [] S S' → P' (encL (mapL (fillG gap one) l)) S'
theorem len_l_put {P0 : Addr} {ds : List D} {S : Sto} {P' : DK} (h : sp_l_put P0 ds S P') : ds.length = 3 := by
  obtain ⟨_, _, _, _, rfl, _⟩ := h; rfl
theorem ok_l_put {k : Nat}  {c0 P0 : Addr} (DD : DefC K mg "_law_put" st_l_put ["_law_lot_here", "_law_gap", "_law_other"] c0) (TB : LamX.TabB base mg c0 P0) (G__law_lot_turned : Has P w K mg base (24) "_law_lot_turned" ["_law_lot_here", "_law_change"] (sp_l_lot_turned P w K mg base 1)) : Has P w K mg base (26 + 1) "_law_put" ["_law_lot_here", "_law_gap", "_law_other"] (sp_l_put P0) := by
  refine DD.has sc_l_put (fun ds S P h => len_l_put h) (fun f A outer s H hr hgd => ⟨_, (ss_one (s_ret (q_callFz (fr := ["_law_gap", "_law_other"]) (js := [1, 2]) (fun ok => Caps.made ok (ndef_free (by decide +kernel : ndefB (defScope st_l_put) (lamS nlx_put_lam) ["_law_gap", "_law_other"] = true)) (ndef_fr (by decide +kernel : ndefB (defScope st_l_put) (lamS nlx_put_lam) ["_law_gap", "_law_other"] = true)) rfl) (capOk_fn (fun _ _ => rfl)) (by decide) G__law_lot_turned (hr.mono (by omega)) hgd (a_cons (q_var 0) (a_cons (q_lam (q := fun S => S P0 = some (.tab 2)) (k := 1) (params := lamP nlx_put_lam) (body := lamB nlx_put_lam) (scope := lamS nlx_put_lam) (fr := ["_law_gap", "_law_other"]) (fun S e => ⟨c0, rfl, .inl ⟨P0, TB, e⟩⟩) nmq_put_lam rfl (ndef_free (by decide +kernel : ndefB (defScope st_l_put) (lamS nlx_put_lam) ["_law_gap", "_law_other"] = true)) (fun y hy e => nsc_put_lam.free y hy e)) a_nil))))), fun ds S P h => ?_⟩)
  obtain ⟨tb, l, gap, one, rfl, gl, h⟩ := h
  walk_at "rh_k22h"
  refine ⟨tb, fun f1 c1 hf1 ci => ⟨[.str gap, enc one], rfl, fun as cin hfr => ?_⟩⟩
  have nf : f1 ∉ as := fun z => by have := hfr f1 z; rw [sup_same] at this; cases this
  refine ⟨l, f1, _, fillT gap one, rfl, gl, spW_of (ok_put_lam (k := 0) (by rw [scells_out (look_zip_none nf)]; exact sup_same) (cap_of ci cin rfl)), fun _ _ e => e, fun S' s1 => ?_⟩
  have e : (fun (ps : List Pt) (b : Tm) => mapH (fillT gap one) (tks ps) b) = fillG gap one := by
    funext ps b
    exact fill_any gap one (tks ps) b
  rw [e]
  exact h _ ((Step.new hf1).trans (back_step hfr s1))
end
end K22
set_option Elab.async false
set_option linter.all false
set_option maxRecDepth 100000
set_option maxHeartbeats 1000000
namespace K22
open PySem PySem.Spec PyProof.Rows L2 DL NdefX
local macro_rules | `(tactic| walk_at "rh_k22i") => `(tactic| simp only [↓DL.e_next, ↓DL.e_seq, ↓DL.e_drop, ↓DL.e_ret, ↓DL.e_retN, ↓DL.e_if, ↓DL.e_cont, ↓DL.e_break, ↓DL.e_set, ↓DL.e_asg, ↓DL.e_par, ↓DL.e_setI, ↓DL.e_for, ↓DL.e_var, ↓DL.e_c, ↓DL.e_op, ↓DL.e_un, ↓DL.e_test, ↓DL.e_chain, ↓DL.e_and, ↓DL.e_or, ↓DL.e_not, ↓DL.e_andV, ↓DL.e_orV, ↓DL.e_notV, ↓DL.e_ife, ↓DL.e_nil, ↓DL.e_cons, ↓DL.e_tup, ↓DL.e_lst, ↓DL.e_lstM, ↓DL.e_noPart, ↓DL.e_part, ↓DL.e_sl, ↓DL.e_cb, ↓DL.e_mtL, ↓DL.e_mt0, ↓DL.e_mtS, ↓DL.e_mtS0, ↓DL.e_tru, ↓DL.e_lc, ↓DL.e_itS, ↓DL.e_itStr, ↓DL.e_rng1, ↓DL.e_rev, ↓DL.e_dic0, ↓DL.e_dic1, ↓DL.e_s0, ↓DL.e_s1, ↓DL.e_ct, ↓DL.e_cf, dstart, slot, gN, ↓asB_bl, ↓asI_int, ↓asS_str, cond_true, cond_false, List.map_cons, List.map_nil, List.length_cons, List.length_nil, List.set_cons_zero, List.set_cons_succ, Option.elim_some, Option.elim_none, List.cons_append, List.nil_append, List.replicate, Nat.sub_self, Nat.reduceSub, Nat.reduceAdd, Bool.not_true, Bool.not_false, setAll, Int.cast_ofNat_Int, Int.reduceLT, Int.reduceLE, Int.reduceBEq, Nat.reduceBEq, decide_true, decide_false, ↓DL.pred_s, ↓DL.len_str, ↓DL.len_tup, ↓DL.len_lst, ↓DL.le_ii, ↓DL.le_ss, ↓DL.cmp_ii, ↓DL.add_ii, ↓DL.add_ib, ↓DL.add_bi, ↓DL.add_ss, ↓DL.add_tt, ↓DL.add_ll, ↓DL.sub_ii, ↓DL.sub_ib, ↓DL.sub_bi, ↓DL.mul_ii, ↓DL.ii_ii, ↓DL.neg_i, ↓DL.is_bb, ↓DL.isn_bb, ↓DL.all_b, ↓DL.all_map, ↓DL.sum_i, ↓DL.eq_ii, ↓DL.eq_bi, ↓DL.eq_t0, ↓DL.eq_l0, ↓DL.ne_ss, ↓DL.ne_ii, ↓DL.ne_t0, ↓DL.ne_l0, ↓DL.ix_tup, ↓DL.ix_lst, ↓DL.ix_str, ↓DL.in_c, ↓DL.nin_c, ↓DL.sl_str, ↓DL.sl_tup, ↓DL.sl_lst, ↓DL.app_1, ↓DL.pop_0, ↓DL.ext_t, ↓DL.tuple_l, ↓DL.list_t, ↓DL.list_l, ↓DL.int_b, ↓DL.int_i, ↓DL.min_ii, ↓DL.str_i, ↓DL.str_b, ↓DL.repr_1, ↓DL.back_t, ↓DL.tru_l, ↓DL.at0, ↓DL.at1, ↓DL.at2, ↓DL.at3, ↓DL.e_callE, ↓DL.e_getOr, ↓DL.e_dicI3, ↓DL.e_lcM, ↓DL.e_lstRg, ↓DL.e_enT, ↓DL.e_enL, ↓DL.e_lenset, ↓DL.e_fs, ↓DL.e_callL, ↓DL.e_never, ↓DL.e_dicM, ↓DL.e_dicS, ↓DL.e_dget, ↓DL.e_dput, ↓DL.e_forK, ↓DL.e_isN, ↓DL.e_revI, ↓DL.e_varF, ↓DL.fs_s, ↓DL.fs_i, ↓DL.get_d, ↓DL.rev_t, ↓DL.int_e, DL.isNon, ↓DL.e_callC, ↓DL.e_callFz, ↓DL.e_ndef, ↓DL.e_lam, ↓DL.e_no, ↓DL.e_lrevM, ↓DL.e_lrev, ↓DL.e_frzE, DL.nstart, ↓DL.e_dgetR, ↓DL.e_dicG3])
section
variable {P : Program} {w : World} {K : PySem.W.Frag} {mg : Str → Option Value} {base : Heap}
def encO (o : Str × Tm) : D := .tup [.str o.1, enc o.2]
def Apart (a b : Str × Tm) : Prop := a.1 ≠ b.1 ∧ hin (fun z => !decide (z = b.1)) a.2 = true ∧ hin (fun z => !decide (z = a.1)) b.2 = true
structure Ones (os : List (Str × Tm)) : Prop where
  len : os.length ≤ 10
  apart : os.Pairwise Apart
  each : ∀ o ∈ os, nice o.1 = true ∧ okT o.2 = true ∧ dpT o.2 ≤ 2 ∧ sz (enc o.2) ≤ 47
def RR (d : D) : Prop := fits d = true ∧ (py d).shown.length ≤ sizeLine ∧ (py d).depth ≤ 150
theorem rr_of {d : D} (h : lit d = true) (hs : sz d ≤ 46000) (hd : DL.dp d ≤ 150) : RR d := by
  obtain ⟨a, b⟩ := lit_short h
  have e := PyData.shown_le_bulk 13 (by decide) (py d) a
  have q := py_depth d
  refine ⟨lit_fits h, ?_, by omega⟩
  rw [sizeLine_eq]
  omega
theorem bif_same {x : Str} {a b : Prop} (h : b) : (bif !x == x then a else b) := by rw [beq_self_eq_true]; exact h
theorem drawn_lift {hs : List Str} {l : List Df} (h : Drawn hs l) : GLot (mapL liftG l) ∧ RR (encL (mapL liftG l)) := by
  obtain ⟨gl, szl, nhl, hrow⟩ := h
  have g2 : GLot (mapL liftG l) := gl.map fun d hd r hr gr => lift_row gr (by have := (hrow d hd r hr).1; omega)
  refine ⟨g2, rr_of g2.lit ?_ (by have := g2.dp; omega)⟩
  have e := mapL_sz (G := liftG) (m := 157) (l := l) fun d hd r hr => by
    obtain ⟨h1, h2, _⟩ := hrow d hd r hr
    refine mapH_sz (tks r.1) r.2 fun z c hc => ?_
    rw [callT_sz]; omega
  have : nhL l * 157 ≤ 243 * 157 := Nat.mul_le_mul_right _ nhl
  omega
theorem sz_hole (z : Str) : sz (enc (.hole z)) = 3 := by simp only [enc, sz, szA]
theorem drawn_fill {hs : List Str} {l : List Df} (h : Drawn hs l) {gap : Str} {one : Tm} (h1 : okT one = true) (h2 : dpT one ≤ 2) (h3 : sz (enc one) ≤ 47) : GLot (mapL (fillG gap one) l) ∧ RR (encL (mapL (fillG gap one) l)) := by
  obtain ⟨gl, szl, nhl, hrow⟩ := h
  have g2 : GLot (mapL (fillG gap one) l) := gl.map fun d hd r hr gr => fill_row h1 h2 gr (by have := (hrow d hd r hr).1; omega)
  refine ⟨g2, rr_of g2.lit ?_ (by have := g2.dp; omega)⟩
  have e := mapL_sz (G := fillG gap one) (m := 47) (l := l) fun d hd r hr => by
    refine mapH_sz 0 r.2 fun z c hc => ?_
    unfold fillT
    split
    · exact h3
    · rw [sz_hole]; omega
  have : nhL l * 47 ≤ 243 * 47 := Nat.mul_le_mul_right _ nhl
  omega
def twoT (gap far : Str) (one other : Tm) (z : Str) (_ : Nat) : Tm := if z = gap then one else if z = far then other else .hole z
theorem fill_two {gap far : Str} {one other : Tm} (h1 : hin (fun z => !decide (z = far)) one = true) (l : List Df) : mapL (fillG far other) (mapL (fillG gap one) l) = mapL (fun _ b => mapH (twoT gap far one other) 0 b) l := by
  rw [mapL_comp]
  refine mapL_congr fun d _ r _ => ?_
  show mapH (fillT far other) 0 (mapH (fillT gap one) 0 r.2) = mapH (twoT gap far one other) 0 r.2
  rw [mapH_comp]
  refine congrArg (fun g => mapH g 0 r.2) ?_
  funext z c
  unfold twoT
  by_cases q1 : z = gap
  · rw [if_pos q1, show fillT gap one z c = one by unfold fillT; rw [if_pos q1]]
    exact mapH_id (A := fun z => !decide (z = far)) (fun z c q => by unfold fillT; rw [if_neg (by simpa using q)]) h1
  · rw [if_neg q1, show fillT gap one z c = .hole z by unfold fillT; rw [if_neg q1]]
    simp only [mapH]
    rfl
theorem drawn_two {hs : List Str} {l : List Df} (h : Drawn hs l) {gap far : Str} {one other : Tm} (h0 : hin (fun z => !decide (z = far)) one = true) (h1 : okT one = true) (h2 : dpT one ≤ 2) (h3 : sz (enc one) ≤ 47) (k1 : okT other = true) (k2 : dpT other ≤ 2) (k3 : sz (enc other) ≤ 47) :
    RR (encL (mapL (fillG far other) (mapL (fillG gap one) l))) := by
  rw [fill_two h0]
  obtain ⟨gl, szl, nhl, hrow⟩ := h
  have g2 : GLot (mapL (fun _ b => mapH (twoT gap far one other) 0 b) l) := gl.map fun d hd r hr gr => by
    have := (hrow d hd r hr).1
    refine ⟨mapH_ok gr.ok fun z c nz _ _ => ?_, ?_⟩
    · unfold twoT; split
      · exact h1
      · split
        · exact k1
        · simp only [okT]; exact nz
    · have := mapH_dp (g := twoT gap far one other) (m := 2) (fun z c => by
        unfold twoT; split
        · exact h2
        · split
          · exact k2
          · simp only [dpT]; omega) 0 r.2
      omega
  refine rr_of g2.lit ?_ (by have := g2.dp; omega)
  have e := mapL_sz (G := fun _ b => mapH (twoT gap far one other) 0 b) (m := 47) (l := l) fun d hd r hr => by
    refine mapH_sz 0 r.2 fun z c hc => ?_
    unfold twoT
    split
    · exact h3
    · split
      · exact k3
      · rw [sz_hole]; omega
  have : nhL l * 47 ≤ 243 * 47 := Nat.mul_le_mul_right _ nhl
  omega
theorem drawn_rr {hs : List Str} {l : List Df} (h : Drawn hs l) : RR (encL l) := rr_of h.1.lit (by have := h.2.1; omega) (by have := h.1.dp; omega)
theorem szO_le {os : List (Str × Tm)} (h : ∀ o ∈ os, sz (enc o.2) ≤ 47) : szA (os.map encO) ≤ os.length * 60 := by
  induction os with
  | nil => simp [szA]
  | cons o r ih =>
    have h1 := h o (by simp)
    have h2 := ih fun x hx => h x (by simp [hx])
    have e : sz (encO o) = 2 + sz (enc o.2) := by unfold encO; simp only [sz, szA]; omega
    simp only [List.map_cons, szA, List.length_cons]
    omega
theorem both_rr {hs : List Str} {l : List Df} {os : List (Str × Tm)} (h : Drawn hs l) (o : Ones os) : RR (.tup [encL l, .lst (os.map encO)]) := by
  have h1 := h.2.1
  have h2 := h.1.dp
  have h3 := szO_le fun x hx => (o.each x hx).2.2.2
  have h4 := o.len
  have hd : dpA (os.map encO) ≤ 20 := dpA_le fun x hx => by
    obtain ⟨y, hy, rfl⟩ := List.mem_map.mp hx
    have := dp_enc y.2
    have := (o.each y hy).2.2.1
    unfold encO
    simp only [DL.dp, dpA]
    omega
  refine rr_of ?_ ?_ ?_
  · simp only [lit, litA, Bool.and_eq_true]
    refine ⟨h.1.lit, litA_of fun x hx => ?_, trivial⟩
    obtain ⟨y, hy, rfl⟩ := List.mem_map.mp hx
    obtain ⟨q1, q2, _⟩ := o.each y hy
    unfold encO
    simp only [lit, litA, Bool.and_eq_true]
    exact ⟨q1, lit_enc q2, trivial⟩
  · simp only [sz, szA]; omega
  · simp only [DL.dp, dpA]; omega
theorem hole_rr {z : Str} (h : nice z = true) : RR (.tup [.str (Str.ofString "hole"), .str z]) := by
  refine rr_of ?_ (by simp only [sz, szA]; omega) (by simp only [DL.dp, dpA]; omega)
  simp only [lit, litA, Bool.and_eq_true]
  exact ⟨by decide, h, trivial⟩
theorem in_text {a c : Str} {S : Sto} {P : DK} : inD false (.str a) (.str c) S P = P (.bl (found a c)) S := by
  show P (.bl (false != found a c)) S = _
  cases found a c <;> rfl
theorem cut01 (xs : List D) : DL.cutD xs none (some 1) = xs.take 1 := by
  show DL.cutD xs none (some ((1 : Nat) : Int)) = _
  unfold DL.cutD
  rw [HT.sIx_none, HT.sIx_nat, List.drop_zero, Nat.sub_zero]
  cases xs with
  | nil => rfl
  | cons a r => rw [Nat.min_eq_left (by simp)]
theorem cut12 (xs : List D) : DL.cutD xs (some 1) (some 2) = (xs.drop 1).take 1 := by
  show DL.cutD xs (some ((1 : Nat) : Int)) (some ((2 : Nat) : Int)) = _
  unfold DL.cutD
  rw [HT.sIx_nat, HT.sIx_nat]
  match xs with
  | [] => rfl
  | [a] => rfl
  | a :: b :: r => rw [Nat.min_eq_left (by simp), Nat.min_eq_left (by simp)]
theorem apart12 {ts : List (Str × Tm)} (h : ts.Pairwise Apart) {a b : Str × Tm} (ha : a ∈ ts.take 1) (hb : b ∈ (ts.drop 1).take 1) : Apart a b := by
  rw [← List.take_append_drop 1 ts] at h
  exact (List.pairwise_append.mp h).2.2 a ha b (List.mem_of_mem_take hb)
/-- the three tables of made functions -/
def Tb3 (Pl Pf Pp : Addr) (S : Sto) : Prop := S Pl = some (.tab 2) ∧ S Pf = some (.tab 2) ∧ S Pp = some (.tab 2)
theorem Tb3.step {Pl Pf Pp : Addr} {S S' : Sto} {L : List Addr} (h : Tb3 Pl Pf Pp S) (s : Step L S S') (n : ∀ b ∈ L, S b ≠ some (.tab 2)) : Tb3 Pl Pf Pp S' :=
  ⟨s.at h.1 fun z => n _ z h.1, s.at h.2.1 fun z => n _ z h.2.1, s.at h.2.2 fun z => n _ z h.2.2⟩
theorem Tb3.of {Pl Pf Pp : Addr} {S S' : Sto} (h : Tb3 Pl Pf Pp S) (s : Step [] S S') : Tb3 Pl Pf Pp S' := h.step s fun _ z => (List.not_mem_nil z).elim

abbrev st_l_right : Stmt := top 31
theorem sc_l_right : FnScope ["_law_lot_here", "_law_ones", "_law_kept", "_law_due", "_law_there", "_law_gap", "_law_one", "_law_far", "_law_other", "_law_both"] ["_law_lot_here", "_law_ones"] (defScope st_l_right) := ⟨rfl, rfl, rfl, by decide +kernel, rfl, by decide +kernel, by decide +kernel⟩
def sp_l_right (Pl Pf Pp : Addr) : DSp := fun ds S P' => Tb3 Pl Pf Pp S ∧ ∃ hs l os, ds = [encL l, .lst (os.map encO)] ∧ Drawn hs l ∧ Ones os ∧ ∀ S', Step [] S S' → P' (.bl true) S'
theorem len_l_right {Pl Pf Pp : Addr} {ds : List D} {S : Sto} {P' : DK} (h : sp_l_right Pl Pf Pp ds S P') : ds.length = 2 := by
  obtain ⟨_, _, _, _, rfl, _⟩ := h; rfl
theorem ok_l_right {k : Nat} {Pl Pf Pp:Addr} {a__law_as_call : Addr} (DD : Def K mg "_law_right" st_l_right ["_law_lot_here", "_law_ones"]) (G_filled : Has P w K mg base (52) "filled" ["item", "hole", "term"] (sp_filled Pf)) (G__law_put : Has P w K mg base (27) "_law_put" ["_law_lot_here", "_law_gap", "_law_other"] (sp_l_put Pp)) (G_lifted : Has P w K mg base (52) "lifted" ["item"] (sp_lifted Pl)) (G__law_lot_turned : Has P w K mg base (24) "_law_lot_turned" ["_law_lot_here", "_law_change"] (sp_l_lot_turned P w K mg base 1)) (GW_filled : HasW P w K mg base (52) "filled" ["item", "hole", "term"] (sp_filled Pf)) (m_repr : mg "repr" = none) (C__law_as_call : Con K mg "_law_as_call" (.ref a__law_as_call)) (CA : ∀ S0, CallsD P w K mg base 1 a__law_as_call 2 S0 (spW callT)) : Has P w K mg base (56 + 1) "_law_right" ["_law_lot_here", "_law_ones"] (sp_l_right Pl Pf Pp) := by
  refine DD.has sc_l_right (fun ds S P h => len_l_right h) (fun f cdv A outer s H hr hgd => ⟨_, (ss_cons (s_par 2 3 rfl sc_l_right.nd (a_cons (q_callB (c_repr hgd (DL.Room.un0 hr)) rfl m_repr DL.bb_repr (a_cons (q_tup (a_cons (q_var 0) (a_cons (q_var 1) a_nil))) a_nil)) (a_cons (q_def G__law_lot_turned (hr.mono (by omega)) hgd (a_cons (q_var 0) (a_cons (q_con C__law_as_call) a_nil))) a_nil)))
      (ss_cons (s_if (t_w (w_or (t_cmp (op_neD (DL.Room.un1 hr)) (q_callB (c_repr hgd (DL.Room.un0 hr)) rfl m_repr DL.bb_repr (a_cons (q_def G_lifted (hr.mono (by omega)) hgd (a_cons (q_var 0) a_nil)) a_nil)) (q_callB (c_repr hgd (DL.Room.un0 hr)) rfl m_repr DL.bb_repr (a_cons (q_var 3) a_nil))) (w_or (t_cmp (op_neD (DL.Room.un1 hr)) (q_callB (c_repr hgd (DL.Room.un0 hr)) rfl m_repr DL.bb_repr (a_cons (q_def G_lifted (hr.mono (by omega)) hgd (a_cons (q_var 3) a_nil)) a_nil)) (q_callB (c_repr hgd (DL.Room.un0 hr)) rfl m_repr DL.bb_repr (a_cons (q_var 3) a_nil))) (w_or1 (t_cmp (op_neD (DL.Room.un1 hr)) (q_callB (c_repr hgd (DL.Room.un0 hr)) rfl m_repr DL.bb_repr (a_cons (q_def G_lifted (hr.mono (by omega)) hgd (a_cons (q_var 0) a_nil)) a_nil)) (q_callB (c_repr hgd (DL.Room.un0 hr)) rfl m_repr DL.bb_repr (a_cons (q_var 3) a_nil))))))) (ss_one (s_ret q_bl)) ss_nil)
      (ss_cons (s_setLc 4 (own := [("_law_gap", 5), ("_law_one", 6)]) (is := [5, 6]) rfl (lcg_tup rfl) rfl sc_l_right.nd (i_seq (q_var 1)) (blkOk_by (own := [("_law_gap", 5), ("_law_one", 6)]) (N := ["_law_lot_here", "_law_ones", "_law_kept", "_law_due", "_law_there", "_law_gap", "_law_one", "_law_far", "_law_other", "_law_both"]) (sc := defScope st_l_right) (by decide +kernel)) (fun _ _ _ _ _ => pg_tup rfl (gs_cons 5 sc_l_right.nd (gs_cons 6 sc_l_right.nd gs_nil (hx := Or.inl rfl)) (hx := Or.inl rfl)) rfl rfl) (fun _ _ _ _ _ => (ts_one (t_cmp (op_inD (DL.Room.un0 hr)) (q_callB (c_repr hgd (DL.Room.un0 hr)) rfl m_repr DL.bb_repr (a_cons (q_tup (a_cons q_str (a_cons (q_var 5) a_nil))) a_nil)) (q_callB (c_repr hgd (DL.Room.un0 hr)) rfl m_repr DL.bb_repr (a_cons (q_var 0) a_nil))))) (fun _ _ _ _ _ => (q_tup (a_cons (q_var 5) (a_cons (q_var 6) a_nil)))) (sw_true rfl rfl rfl (by decide +kernel)))
      (ss_cons (s_for PassesOwn.never rfl (i_seq (q_var 4)) (g_tup rfl (gs_cons 5 sc_l_right.nd (gs_cons 6 sc_l_right.nd gs_nil))) (ss_one (s_if (t_cmp (op_neD (DL.Room.un1 hr)) (q_callB (c_repr hgd (DL.Room.un0 hr)) rfl m_repr DL.bb_repr (a_cons (q_def G_filled (hr.mono (by omega)) hgd (a_cons (q_var 0) (a_cons (q_var 5) (a_cons (q_var 6) a_nil)))) a_nil)) (q_callB (c_repr hgd (DL.Room.un0 hr)) rfl m_repr DL.bb_repr (a_cons (q_def G__law_put (hr.mono (by omega)) hgd (a_cons (q_var 0) (a_cons (q_var 5) (a_cons (q_var 6) a_nil)))) a_nil))) (ss_one (s_ret q_bl)) ss_nil)))
      (ss_cons (s_for PassesOwn.never rfl (i_seq (q_slice sl_D (q_var 4) o_none (o_some q_int))) (g_tup rfl (gs_cons 5 sc_l_right.nd (gs_cons 6 sc_l_right.nd gs_nil))) (ss_one (s_for PassesOwn.never rfl (i_seq (q_slice sl_D (q_var 4) (o_some q_int) (o_some q_int))) (g_tup rfl (gs_cons 7 sc_l_right.nd (gs_cons 8 sc_l_right.nd gs_nil))) (ss_cons (s_set 9 sc_l_right.nd (q_def G_filled (hr.mono (by omega)) hgd (a_cons (q_def G_filled (hr.mono (by omega)) hgd (a_cons (q_var 0) (a_cons (q_var 5) (a_cons (q_var 6) a_nil)))) (a_cons (q_var 7) (a_cons (q_var 8) a_nil)))))
      (ss_one (s_if (t_cmp (op_neD (DL.Room.un1 hr)) (q_callB (c_repr hgd (DL.Room.un0 hr)) rfl m_repr DL.bb_repr (a_cons (q_var 9) a_nil)) (q_callB (c_repr hgd (DL.Room.un0 hr)) rfl m_repr DL.bb_repr (a_cons (q_kws3 GW_filled (hr.mono (by omega)) hgd (q_def G_filled (hr.mono (by omega)) hgd (a_cons (q_var 0) (a_cons (q_var 7) (a_cons (q_var 8) a_nil)))) (q_var 5) (q_var 6)) a_nil))) (ss_one (s_ret q_bl)) ss_nil))))))
      (ss_one (s_ret (q_cmp (op_eqD (DL.Room.un1 hr)) (q_callB (c_repr hgd (DL.Room.un0 hr)) rfl m_repr DL.bb_repr (a_cons (q_tup (a_cons (q_var 0) (a_cons (q_var 1) a_nil))) a_nil)) (q_var 2))))))))), fun ds S P h => ?_⟩)
  obtain ⟨tb, hs, l, os, rfl, dl, oo, h⟩ := h
  obtain ⟨gl, szl, nhl, hrow⟩ := dl
  walk_at "rh_k22i"
  have h100 : 100 ≤ sizeLine := small1 (by decide)
  have dl : Drawn hs l := ⟨gl, szl, nhl, hrow⟩
  obtain ⟨g2, rl⟩ := drawn_lift dl
  refine ⟨by omega, both_rr dl oo, l, a__law_as_call, S, callT, rfl, gl, CA S, fun _ _ e => e, fun S1 s1 => ?_⟩
  rw [show (fun (ps : List Pt) (b : Tm) => mapH callT (tks ps) b) = liftG from rfl]
  refine ⟨(tb.of s1).1, .inr ⟨l, rfl, gl, fun S2 s2 => ⟨rl, rl, bif_same ?_⟩⟩⟩
  refine ⟨(tb.of (s1.trans s2)).1, .inr ⟨mapL liftG l, rfl, g2, fun S3 s3 => ?_⟩⟩
  rw [lift_lift]
  refine ⟨rl, rl, bif_same ?_⟩
  refine ⟨(tb.of ((s1.trans s2).trans s3)).1, .inr ⟨l, rfl, gl, fun S4 s4 => ⟨rl, rl, bif_same ?_⟩⟩⟩
  have s04 : Step [] S S4 := ((s1.trans s2).trans s3).trans s4
  clear s1 s2 s3 s4 S1 S2 S3
  obtain ⟨kept, ek⟩ : ∃ k, k = (py (D.tup [encL l, .lst (os.map encO)])).shown := ⟨_, rfl⟩
  obtain ⟨due, ed⟩ : ∃ k, k = encL (mapL liftG l) := ⟨_, rfl⟩
  rw [← ek, ← ed]
  let q : D → Bool := fun d => match d with
    | .tup [.str z, _] => found (py (.tup [.str (Str.ofString "hole"), .str z])).shown (py (encL l)).shown
    | _ => false
  let at1 : D → DSt := fun d => match d with
    | .tup [a, b] => [some (encL l), some (.lst (os.map encO)), some (.str kept), some due, none, some a, some b, none, none, none]
    | _ => []
  refine lc_growG at1 q id (by rw [List.length_map]; have := oo.len; omega) (fun d hd S2 Q qq => ?_) (fun d hd S2 Q qq => ?_) (fun d hd _ S2 Q qq => ?_) fun S5 s5 => ?_
  · obtain ⟨o, ho, rfl⟩ := List.mem_map.mp hd
    exact ⟨rfl, qq⟩
  · obtain ⟨o, ho, rfl⟩ := List.mem_map.mp hd
    show dTest _ [some (encL l), some (.lst (os.map encO)), some (.str kept), some due, none, some (.str o.1), some (enc o.2), none, none, none] S2 Q
    walk_at "rh_k22i"
    refine ⟨by omega, hole_rr (oo.each o ho).1, drawn_rr dl, ?_⟩
    rw [in_text]
    exact qq S2 (.refl S2)
  · obtain ⟨o, ho, rfl⟩ := List.mem_map.mp hd
    show (dTup (dCons (dVar 5) (dCons (dVar 6) dNil))) [some (encL l), some (.lst (os.map encO)), some (.str kept), some due, none, some (.str o.1), some (enc o.2), none, none, none] S2 Q
    walk_at "rh_k22i"
    exact ⟨by omega, qq S2 (.refl S2)⟩
  · obtain ⟨ts, et⟩ : ∃ ts : List (Str × Tm), ts = os.filter fun o => q (encO o) := ⟨_, rfl⟩
    have em : ((os.map encO).filter q).map id = ts.map encO := by rw [List.map_id, List.filter_map, et]; rfl
    rw [em]
    have sub : ts.Sublist os := by rw [et]; exact List.filter_sublist
    have to : Ones ts := ⟨Nat.le_trans sub.length_le oo.len, oo.apart.sublist sub, fun o ho => oo.each o (sub.subset ho)⟩
    clear_value q at1
    clear em et
    walk_at "rh_k22i"
    show forB _ _ _ _ _ _
    refine ⟨fun j δ' S' => (∃ x5 x6, δ' = [some (encL l), some (.lst (os.map encO)), some (.str kept), some due, some (.lst (ts.map encO)), x5, x6, none, none, none]) ∧ Step [] S S', ⟨⟨_, _, rfl⟩, s04.trans s5⟩, fun j d δ' S6 hd ⟨⟨x5, x6, e6⟩, s6⟩ => ?_, fun δ' S6 ⟨⟨x5, x6, e6⟩, s6⟩ => ?_⟩
    · subst e6
      obtain ⟨o, ho, rfl⟩ := List.mem_map.mp (List.mem_of_getElem? hd)
      obtain ⟨n1, n2, n3, n4⟩ := to.each o ho
      obtain ⟨gf, rf⟩ := drawn_fill dl (gap := o.1) n2 n3 n4
      refine ⟨rfl, ?_⟩
      walk_at "rh_k22i"
      refine ⟨(tb.of s6).2.1, l, o.1, o.2, rfl, gl, fun S7 s7 => ⟨rf, (tb.of (s6.trans s7)).2.2, l, o.1, o.2, rfl, gl, fun S8 s8 => ⟨rf, bif_same ?_⟩⟩⟩
      exact ⟨⟨_, _, rfl⟩, (s6.trans s7).trans s8⟩
    · subst e6
      walk_at "rh_k22i"
      rw [cut01]
      show forB _ _ _ _ _ _
      refine ⟨fun j δ' S' => (∃ x5 x6 x7 x8 x9, δ' = [some (encL l), some (.lst (os.map encO)), some (.str kept), some due, some (.lst (ts.map encO)), x5, x6, x7, x8, x9]) ∧ Step [] S S', ⟨⟨_, _, _, _, _, rfl⟩, s6⟩, fun j d δ' S7 hd ⟨⟨y5, y6, y7, y8, y9, e7⟩, s7⟩ => ?_, fun δ' S7 ⟨⟨y5, y6, y7, y8, y9, e7⟩, s7⟩ => ?_⟩
      · subst e7
        have hd := List.mem_of_getElem? hd
        rw [← List.map_take] at hd
        obtain ⟨a, ha, rfl⟩ := List.mem_map.mp hd
        obtain ⟨n1, n2, n3, n4⟩ := to.each a (List.mem_of_mem_take ha)
        refine ⟨rfl, ?_⟩
        walk_at "rh_k22i"
        rw [cut12]
        show forB _ _ _ _ _ _
        refine ⟨fun j δ' S' => (∃ x7 x8 x9, δ' = [some (encL l), some (.lst (os.map encO)), some (.str kept), some due, some (.lst (ts.map encO)), some (.str a.1), some (enc a.2), x7, x8, x9]) ∧ Step [] S S', ⟨⟨_, _, _, rfl⟩, s7⟩, fun j d δ' S8 hd ⟨⟨z7, z8, z9, e8⟩, s8⟩ => ?_, fun δ' S8 ⟨⟨z7, z8, z9, e8⟩, s8⟩ => ?_⟩
        · subst e8
          have hd := List.mem_of_getElem? hd
          rw [← List.map_drop, ← List.map_take] at hd
          obtain ⟨b, hb, rfl⟩ := List.mem_map.mp hd
          obtain ⟨m1, m2, m3, m4⟩ := to.each b (List.mem_of_mem_drop (List.mem_of_mem_take hb))
          obtain ⟨ap1, ap2, ap3⟩ := apart12 to.apart ha hb
          refine ⟨rfl, ?_⟩
          walk_at "rh_k22i"
          obtain ⟨ga, _⟩ := drawn_fill dl (gap := a.1) n2 n3 n4
          obtain ⟨gb, _⟩ := drawn_fill dl (gap := b.1) m2 m3 m4
          have two := drawn_two dl (gap := a.1) (far := b.1) ap2 n2 n3 n4 m2 m3 m4
          refine ⟨(tb.of s8).2.1, l, a.1, a.2, rfl, gl, fun S9 s9 => ⟨(tb.of (s8.trans s9)).2.1, _, b.1, b.2, rfl, ga, fun S10 s10 => ⟨two, (tb.of ((s8.trans s9).trans s10)).2.1, l, b.1, b.2, rfl, gl, fun S11 s11 =>
            ⟨(tb.of (((s8.trans s9).trans s10).trans s11)).2.1, _, a.1, a.2, rfl, gb, fun S12 s12 => ?_⟩⟩⟩⟩
          rw [← fill_fill ap1 ap2 ap3]
          refine ⟨two, ?_⟩
          rw [beq_self_eq_true]
          show _ ∧ _
          generalize encL (mapL (fillG b.fst b.snd) (mapL (fillG a.fst a.snd) l)) = x9
          refine ⟨⟨_, _, _, rfl⟩, (((s8.trans s9).trans s10).trans s11).trans s12⟩
        · subst e8
          exact ⟨⟨_, _, _, _, _, rfl⟩, s8⟩
      · subst e7
        walk_at "rh_k22i"
        subst ek
        refine ⟨by omega, both_rr dl oo, ?_⟩
        rw [DL.eq_str' rfl, show DL.eqT (.str (py (D.tup [encL l, .lst (os.map encO)])).shown) (py (D.tup [encL l, .lst (os.map encO)])).shown = true from beq_self_eq_true _]
        exact h S7 s7
end
end K22
set_option Elab.async false
set_option linter.all false
set_option maxRecDepth 100000
set_option maxHeartbeats 1000000
/-! DE15: == of two tuples that are the same all the way down. -/
namespace DL
open PySem PySem.Spec PyProof.Rows L2
section
variable {X : Cx} {pins : List (Addr × Obj)} {σ : L2.St} {H : Hp} {s : Shared}
theorem same_items {A : Around} {ds : List D} {vs ws : List V} {its its2 : List Value} (r3 : RpA X.K H ds vs) (r4 : RpA X.K H ds ws) (w1 : Vals vs its) (w3 : Vals ws its2)
    (f : ∀ d ∈ ds, ∀ v1 v2 u1 u2, Rp X.K H d v1 → Rp X.K H d v2 → RelV v1 u1 → RelV v2 u2 → SeqAt.EqAt A s u1 u2 true) :
    ∀ j (h1 : j < its.toArray.size) (h2 : j < its2.toArray.size), SeqAt.EqAt A s its.toArray[j] its2.toArray[j] ((fun _ => true) j) := fun j h1 h2 => by
  have h1' : j < its.length := by simpa using h1
  have h2' : j < its2.length := by simpa using h2
  have l1 : j < ds.length := by rw [← r3.length, w1.length]; exact h1'
  obtain ⟨v1, g1, g2⟩ := r3.get (List.getElem?_eq_getElem l1)
  obtain ⟨v2, g3, g4⟩ := r4.get (List.getElem?_eq_getElem l1)
  obtain ⟨u1, k1, k2⟩ := w1.get g1
  obtain ⟨u2, k3, k4⟩ := w3.get g3
  have e1 : its.toArray[j] = u1 := by
    rw [List.getElem?_eq_getElem h1'] at k1
    simpa using k1
  have e2 : its2.toArray[j] = u2 := by
    rw [List.getElem?_eq_getElem h2'] at k3
    simpa using k3
  rw [e1, e2]
  exact f _ (List.getElem_mem l1) v1 v2 u1 u2 g2 g4 k2 k4
theorem same_len {ds : List D} {vs ws : List V} {its its2 : List Value} (r3 : RpA X.K H ds vs) (r4 : RpA X.K H ds ws) (w1 : Vals vs its) (w3 : Vals ws its2) :
    ((List.range (min its.toArray.size its2.toArray.size)).all (fun _ => true) && its.toArray.size == its2.toArray.size) = true := by
  have e : its.toArray.size = its2.toArray.size := by rw [List.size_toArray, List.size_toArray, ← w1.length, ← w3.length, r3.length, r4.length]
  rw [e]
  simp
theorem same_eq (I : L2.Inv X pins σ H s) : ∀ (n : Nat) (A : Around) (d : D) (v1 v2 : V) (u1 u2 : Value), A.units + n < cLine → dp d < n → pl d = true → Rp X.K H d v1 → Rp X.K H d v2 → RelV v1 u1 → RelV v2 u2 → SeqAt.EqAt A s u1 u2 true
  | 0, _, _, _, _, _, _, _, h, _, _, _, _, _ => absurd h (Nat.not_lt_zero _)
  | n + 1, A, d, v1, v2, u1, u2, hu, hd, p1, r1, r2, q1, q2 => by
    cases d with
    | str z =>
      cases r1
      cases r2
      obtain ⟨t, rfl⟩ := q1
      obtain ⟨t2, rfl⟩ := q2
      have := SeqAt.EqAt.str_str (A := A) (s := s) z t z t2
      rwa [beq_self_eq_true] at this
    | int i =>
      cases r1
      cases r2
      obtain ⟨t, rfl⟩ := q1
      obtain ⟨t2, rfl⟩ := q2
      have := SeqAt.EqAt.int_int (A := A) (s := s) i t i t2
      rwa [beq_self_eq_true] at this
    | tup ds =>
      simp only [pl] at p1
      simp only [dp] at hd
      obtain ⟨a, vs, rfl, ha, r3⟩ := r1
      obtain ⟨c, ws, rfl, hc, r4⟩ := r2
      cases q1
      cases q2
      obtain ⟨its, w1, w2, _⟩ := I.tuple ha
      obtain ⟨its2, w3, w4, _⟩ := I.tuple hc
      by_cases hac : a = c
      · subst hac; exact SeqAt.EqAt.same _
      · have hf := same_items (s := s) (A := A.in1) r3 r4 w1 w3 fun d hm v1 v2 u1 u2 => same_eq I n A.in1 d v1 v2 u1 u2 (by show A.units + 1 + n < cLine; omega) (by have := dpA_mem hm; omega) (pls_mem p1 hm)
        have := SeqAt.EqAt.of_refs hac (SeqAt.RcAt.tuples (e := fun _ => true) w2 w4 (by omega) hf)
        rwa [same_len r3 r4 w1 w3] at this
    | _ => cases p1
end
/-- the same, all the way down -/
def eqS : DR := fun x y S P => x = y ∧ (∃ xs, x = .tup xs) ∧ pl x = true ∧ dp x ≤ 150 ∧ P (.bl true) S
theorem op_eqS {X : Cx} (hu : X.A.units + 200 < cLine) : OpD X (compareOp .Eq) eqS := by
  intro pins s σ H x y v u Q I rx ry ⟨d, e, S, P, r1, r2, sr, ⟨exy, ⟨xs, ex⟩, p1, hd, h⟩, fin⟩
  subst exy
  subst ex
  simp only [pl] at p1
  simp only [dp] at hd
  obtain ⟨a, vs, rfl, ha, r3⟩ := r1
  obtain ⟨c, ws, rfl, hc, r4⟩ := r2
  cases rx
  cases ry
  obtain ⟨its, w1, w2, _⟩ := I.tuple ha
  obtain ⟨its2, w3, w4, _⟩ := I.tuple hc
  have hf := same_items (s := s) (A := X.A.in1) r3 r4 w1 w3 fun d hm v1 v2 u1 u2 => same_eq I 160 X.A.in1 d v1 v2 u1 u2 (by rw [in1_units]; omega) (by have := dpA_mem hm; omega) (pls_mem p1 hm)
  have := SeqAt.RcAt.tuples (e := fun _ => true) w2 w4 (by omega) hf
  rw [same_len r3 r4 w1 w3] at this
  exact this X.prog X.w _ _ ⟨.bl true, H, I, rfl, fin (.bl true) S _ H h rfl sr (.refl H)⟩
end DL
set_option Elab.async false
set_option linter.all false
set_option maxRecDepth 100000
set_option maxHeartbeats 1000000
namespace K22
open PySem PySem.Spec PyProof.Rows L2 DL NdefX
local macro_rules | `(tactic| walk_at "rh_k22j") => `(tactic| simp only [↓DL.e_next, ↓DL.e_seq, ↓DL.e_drop, ↓DL.e_ret, ↓DL.e_retN, ↓DL.e_if, ↓DL.e_cont, ↓DL.e_break, ↓DL.e_set, ↓DL.e_asg, ↓DL.e_par, ↓DL.e_setI, ↓DL.e_for, ↓DL.e_var, ↓DL.e_c, ↓DL.e_op, ↓DL.e_un, ↓DL.e_test, ↓DL.e_chain, ↓DL.e_and, ↓DL.e_or, ↓DL.e_not, ↓DL.e_andV, ↓DL.e_orV, ↓DL.e_notV, ↓DL.e_ife, ↓DL.e_nil, ↓DL.e_cons, ↓DL.e_tup, ↓DL.e_lst, ↓DL.e_lstM, ↓DL.e_noPart, ↓DL.e_part, ↓DL.e_sl, ↓DL.e_cb, ↓DL.e_mtL, ↓DL.e_mt0, ↓DL.e_mtS, ↓DL.e_mtS0, ↓DL.e_tru, ↓DL.e_lc, ↓DL.e_itS, ↓DL.e_itStr, ↓DL.e_rng1, ↓DL.e_rev, ↓DL.e_dic0, ↓DL.e_dic1, ↓DL.e_s0, ↓DL.e_s1, ↓DL.e_ct, ↓DL.e_cf, dstart, slot, gN, ↓asB_bl, ↓asI_int, ↓asS_str, cond_true, cond_false, List.map_cons, List.map_nil, List.length_cons, List.length_nil, List.set_cons_zero, List.set_cons_succ, Option.elim_some, Option.elim_none, List.cons_append, List.nil_append, List.replicate, Nat.sub_self, Nat.reduceSub, Nat.reduceAdd, Bool.not_true, Bool.not_false, setAll, Int.cast_ofNat_Int, Int.reduceLT, Int.reduceLE, Int.reduceBEq, Nat.reduceBEq, decide_true, decide_false, ↓DL.pred_s, ↓DL.len_str, ↓DL.len_tup, ↓DL.len_lst, ↓DL.le_ii, ↓DL.le_ss, ↓DL.cmp_ii, ↓DL.add_ii, ↓DL.add_ib, ↓DL.add_bi, ↓DL.add_ss, ↓DL.add_tt, ↓DL.add_ll, ↓DL.sub_ii, ↓DL.sub_ib, ↓DL.sub_bi, ↓DL.mul_ii, ↓DL.ii_ii, ↓DL.neg_i, ↓DL.is_bb, ↓DL.isn_bb, ↓DL.all_b, ↓DL.all_map, ↓DL.sum_i, ↓DL.eq_ii, ↓DL.eq_bi, ↓DL.eq_t0, ↓DL.eq_l0, ↓DL.ne_ss, ↓DL.ne_ii, ↓DL.ne_t0, ↓DL.ne_l0, ↓DL.ix_tup, ↓DL.ix_lst, ↓DL.ix_str, ↓DL.in_c, ↓DL.nin_c, ↓DL.sl_str, ↓DL.sl_tup, ↓DL.sl_lst, ↓DL.app_1, ↓DL.pop_0, ↓DL.ext_t, ↓DL.tuple_l, ↓DL.list_t, ↓DL.list_l, ↓DL.int_b, ↓DL.int_i, ↓DL.min_ii, ↓DL.str_i, ↓DL.str_b, ↓DL.repr_1, ↓DL.back_t, ↓DL.tru_l, ↓DL.at0, ↓DL.at1, ↓DL.at2, ↓DL.at3, ↓DL.e_callE, ↓DL.e_getOr, ↓DL.e_dicI3, ↓DL.e_lcM, ↓DL.e_lstRg, ↓DL.e_enT, ↓DL.e_enL, ↓DL.e_lenset, ↓DL.e_fs, ↓DL.e_callL, ↓DL.e_never, ↓DL.e_dicM, ↓DL.e_dicS, ↓DL.e_dget, ↓DL.e_dput, ↓DL.e_forK, ↓DL.e_isN, ↓DL.e_revI, ↓DL.e_varF, ↓DL.fs_s, ↓DL.fs_i, ↓DL.get_d, ↓DL.rev_t, ↓DL.int_e, DL.isNon, ↓DL.e_callC, ↓DL.e_callFz, ↓DL.e_ndef, ↓DL.e_lam, ↓DL.e_no, ↓DL.e_lrevM, ↓DL.e_lrev, ↓DL.e_frzE, DL.nstart, ↓DL.e_dgetR, ↓DL.e_dicG3])
section
variable {P : Program} {w : World} {K : PySem.W.Frag} {mg : Str → Option Value} {base : Heap}
def nms : List Str := ["holed", "gap", "void", "x"]
theorem apart_of {os : List (Str × Tm)} (h : (os.map Prod.fst).Nodup) (g : ∀ o ∈ os, o.1 ∈ nms ∧ hin (fun z => !decide (z ∈ nms)) o.2 = true) : os.Pairwise Apart := by
  refine List.Pairwise.imp_of_mem (fun {a b} ha hb ne => ⟨ne, ?_, ?_⟩) (List.pairwise_map.mp h)
  · exact hin_mono (fun z q => by
      simp only [Bool.not_eq_true', decide_eq_false_iff_not] at q ⊢
      exact fun e => q (by rw [e]; exact (g b hb).1)) (g a ha).2
  · exact hin_mono (fun z q => by
      simp only [Bool.not_eq_true', decide_eq_false_iff_not] at q ⊢
      exact fun e => q (by rw [e]; exact (g a ha).1)) (g b hb).2
def kn : List (Nat × Str) := [(0, "holed"), (1, "gap"), (2, "void"), (3, "x")]
def GO (o : Str × Tm) : Prop := nice o.1 = true ∧ okT o.2 = true ∧ dpT o.2 ≤ 2 ∧ sz (enc o.2) ≤ 47 ∧ o.1 ∈ nms ∧ hin (fun z => !decide (z ∈ nms)) o.2 = true

abbrev st_law : Stmt := top 32
theorem sc_law : FnScope ["_law_script", "_law_deck", "_law_turn", "_law_names", "_law_lot_here", "_law_ones", "_law_family", "_law_rows", "_law_due", "_law_k", "_law_name"] ["_law_script"] (defScope st_law) := ⟨rfl, rfl, rfl, by decide +kernel, rfl, by decide +kernel, by decide +kernel⟩
def sp_law (Pl Pf Pp : Addr) : DSp := fun ds S P => Tb3 Pl Pf Pp S ∧ ∃ ns : List Int, ds = [.lst (ns.map .int)] ∧ ns.length ≤ 63 ∧ ∀ S', P (.bl true) S'
theorem len_law {Pl Pf Pp : Addr} {ds : List D} {S : Sto} {P : DK} (h : sp_law Pl Pf Pp ds S P) : ds.length = 1 := by obtain ⟨_, _, rfl, _⟩ := h; rfl
theorem ok_law {k : Nat} {Pl Pf Pp:Addr} {f0 : Addr} {fd0 : FuncData} (DD : Fun K "law" "law" st_law f0 fd0) (G_opened : Has P w K mg base (60) "opened" ["rows"] (sp_opened)) (G_lifted : Has P w K mg base (52) "lifted" ["item"] (sp_lifted Pl)) (G__law_right : Has P w K mg base (57) "_law_right" ["_law_lot_here", "_law_ones"] (sp_l_right Pl Pf Pp)) (G__law_any : Has P w K mg base (60) "_law_any" ["_law_deck", "_law_holes", "_law_deep"] (sp_l_any 4)) (G__law_lot : Has P w K mg base (60) "_law_lot" ["_law_deck", "_law_holes"] (sp_l_lot)) (G__law_cells : Has P w K mg base (60) "_law_cells" ["_law_script"] (sp_l_cells)) (m_range : mg "range" = none) (m_enumerate : mg "enumerate" = none) (m_list : mg "list" = none) : FnD P w K mg base (60 + 1) f0 fd0 ["_law_script"] (sp_law Pl Pf Pp) := by
  refine okD DD sc_law (fun ds S P h => len_law h) (fun cdv A outer s H hr hgd => ⟨_, (ss_cons (s_set 1 sc_law.nd (q_def G__law_cells (hr.mono (by omega)) hgd (a_cons (q_var 0) a_nil)))
      (ss_cons (s_for PassesOwn.never rfl (i_rng1 rfl m_range (a_cons q_int a_nil)) (g_name 2 sc_law.nd) (ss_cons (s_set 3 sc_law.nd (q_lst (a_cons q_str (a_cons q_str (a_cons q_str (a_cons q_str a_nil))))))
      (ss_cons (s_set 4 sc_law.nd (q_def G__law_lot (hr.mono (by omega)) hgd (a_cons (q_var 1) (a_cons (q_callTy (c_listM) rfl m_list DL.bt_list (a_cons (q_var 3) a_nil)) a_nil))))
      (ss_cons (s_setLc 5 (own := [("_law_k", 9), ("_law_name", 10)]) (is := [9, 10]) rfl (lcg_tup rfl) rfl sc_law.nd (i_enL rfl m_enumerate (a_cons (q_var 3) a_nil)) (blkOk_by (own := [("_law_k", 9), ("_law_name", 10)]) (N := ["_law_script", "_law_deck", "_law_turn", "_law_names", "_law_lot_here", "_law_ones", "_law_family", "_law_rows", "_law_due", "_law_k", "_law_name"]) (sc := defScope st_law) (by decide +kernel)) (fun _ _ _ _ _ => pg_tup rfl (gs_cons 9 sc_law.nd (gs_cons 10 sc_law.nd gs_nil (hx := Or.inl rfl)) (hx := Or.inl rfl)) rfl rfl) (fun _ _ _ _ _ => ts_nil) (fun _ _ _ _ _ => (q_tup (a_cons (q_var 10) (a_cons (q_def G__law_any (hr.mono (by omega)) hgd (a_cons (q_var 1) (a_cons (q_lstM (a_cons (q_op op_addD q_str (q_ix ix_D q_str (q_var 9))) a_nil)) (a_cons q_int a_nil)))) a_nil)))) (sw_true rfl rfl rfl (by decide +kernel)))
      (ss_one (s_if (t_not (t_val (q_def G__law_right (hr.mono (by omega)) hgd (a_cons (q_var 4) (a_cons (q_op op_addL (q_slice sl_D (q_var 5) (o_some (q_op op_modD (q_var 2) q_int)) o_none) (q_slice sl_D (q_var 5) o_none (o_some (q_op op_modD (q_var 2) q_int)))) a_nil))))) (ss_one (s_ret q_bl)) ss_nil))))))
      (ss_cons (s_set 6 sc_law.nd (q_tup (a_cons q_str (a_cons q_str (a_cons (q_tup a_nil) (a_cons (q_tup a_nil) (a_cons q_int (a_cons (q_tup (a_cons (q_tup (a_cons q_str (a_cons (q_tup a_nil) (a_cons (q_tup a_nil) a_nil)))) a_nil)) a_nil))))))))
      (ss_cons (s_set 7 sc_law.nd (q_tup (a_cons (q_tup (a_cons q_str (a_cons (q_tup (a_cons (q_tup (a_cons q_str (a_cons (q_tup (a_cons q_str (a_cons q_int a_nil))) a_nil))) a_nil)) (a_cons q_str (a_cons (q_tup (a_cons q_str (a_cons q_int a_nil))) a_nil))))) (a_cons (q_tup (a_cons q_str (a_cons (q_tup a_nil) (a_cons q_str (a_cons (q_tup (a_cons q_str (a_cons q_int a_nil))) a_nil))))) a_nil))))
      (ss_cons (s_set 8 sc_law.nd (q_tup (a_cons (q_tup (a_cons q_str (a_cons q_str (a_cons (q_tup (a_cons (q_tup (a_cons q_str (a_cons (q_tup (a_cons q_str (a_cons q_int a_nil))) a_nil))) a_nil)) (a_cons (q_tup (a_cons q_str (a_cons q_int a_nil))) a_nil))))) (a_cons (q_tup (a_cons q_str (a_cons q_str (a_cons (q_tup a_nil) (a_cons (q_tup (a_cons q_str (a_cons q_int a_nil))) a_nil))))) a_nil))))
      (ss_one (s_ret (q_and (q_cmp (op_eqS (DL.Room.un0 hr)) (q_def G_lifted (hr.mono (by omega)) hgd (a_cons (q_var 6) a_nil)) (q_var 6)) (q_and (q_cmp (op_eqS (DL.Room.un0 hr)) (q_def G_opened (hr.mono (by omega)) hgd (a_cons (q_var 7) a_nil)) (q_var 8)) (q_one (q_cmp (op_eqD (DL.Room.un1 hr)) (q_def G_opened (hr.mono (by omega)) hgd (a_cons (q_tup a_nil) a_nil)) (q_tup a_nil)))))))))))), fun ds S P h => ?_⟩)
  obtain ⟨tb, ns, rfl, hn, h⟩ := h
  have hline : 100 ≤ sizeLine := small1 (by decide)
  walk_at "rh_k22j"
  refine ⟨ns, rfl, hn, fun a c S1 hD s1 na nc => ⟨⟨by decide, by decide⟩, ?_⟩⟩
  show forB _ _ _ _ _ _
  refine ⟨fun j δ' S' => (∃ x2 x3 x4 x5 x9 x10, δ' = [some (.lst (ns.map .int)), some (.ref a), x2, x3, x4, x5, none, none, none, x9, x10]) ∧ Dk S' a c (j * 10000) ∧ Tb3 Pl Pf Pp S', ⟨⟨_, _, _, _, _, _, rfl⟩, hD.mono (by simp), tb.of s1⟩, fun j d δ' S2 hd ⟨⟨x2, x3, x4, x5, x9, x10, ed⟩, hD2, tb2⟩ => ?_, fun δ' S2 ⟨⟨x2, x3, x4, x5, x9, x10, ed⟩, hD2, tb2⟩ => ?_⟩
  · subst ed
    have hj : j < 6 := by have := (List.getElem?_eq_some_iff.mp hd).1; rw [iota_len] at this; exact this
    obtain ⟨t, et, ht⟩ : ∃ t : Nat, d = .int (t : Nat) ∧ t < 6 := by
      rw [iota_nat, List.getElem?_map] at hd
      rw [List.getElem?_range (by exact hj)] at hd
      cases hd
      exact ⟨j, rfl, hj⟩
    subst et
    clear hd
    walk_at "rh_k22j"
    refine ⟨by omega, ?_⟩
    show ∀ _, _
    intro r nr
    have s3 : Step [] S2 (sup S2 r (.lst (nms.map .str))) := Step.new nr
    have ra : r ≠ a := fun e => hD2.some a (by simp) (by rw [← e]; exact nr)
    have rc : r ≠ c := fun e => hD2.some c (by simp) (by rw [← e]; exact nr)
    refine ⟨a, c, r, _, nms, rfl, hD2.step s3 List.not_mem_nil List.not_mem_nil, ra, rc, sup_same, by decide, by decide, by omega, fun l S4 dl hD4 s4 => ?_⟩
    have noT : ∀ b ∈ [a, c], S2 b ≠ some (.tab 2) := fun b hb e => by
      obtain ⟨_, _, _, _, q1, q2, _⟩ := hD2
      simp only [List.mem_cons, List.not_mem_nil, or_false] at hb
      rcases hb with rfl | rfl
      · rw [q1] at e; cases e
      · rw [q2] at e; cases e
    have tb4 : Tb3 Pl Pf Pp S4 := (tb2.of s3).step s4 fun b hb e => by
      simp only [List.mem_cons, List.not_mem_nil, or_false] at hb
      rcases hb with rfl | rfl | rfl
      · rw [sup_ne ra.symm] at e; exact noT _ (by simp) e
      · rw [sup_ne rc.symm] at e; exact noT _ (by simp) e
      · rw [sup_same] at e; cases e
    clear s3 s4
    show lcB _ _ _ _ _ (kn.map fun p => D.tup [.int (p.1 : Nat), .str p.2]) S4 _
    refine lc_oldG kn (fun p => D.tup [.int (p.1 : Nat), .str p.2]) (fun p => [some (.lst (ns.map .int)), some (.ref a), some (.int (t : Nat)), some (.lst (nms.map .str)), some (encL l), x5, none, none, none, some (.int (p.1 : Nat)), some (.str p.2)]) [a, c]
      (fun n acc S' => ∃ os : List (Str × Tm), acc = os.map encO ∧ os.map Prod.fst = nms.take n ∧ (∀ o ∈ os, GO o) ∧ Dk S' a c ((j : Int) * 10000 + 5000 + n * 64)) (by show 4 ≤ _; omega) (fun n acc S5 S6 e ⟨os, y1, y2, y3, y4⟩ => ⟨os, y1, y2, y3, ?_⟩) hD4.some ⟨[], rfl, rfl, by simp, hD4.mono (by simp)⟩ (fun p hp S5 Q q => ⟨rfl, q⟩) (fun n p acc hp hl S5 Q s5 ⟨os, y1, y2, y3, y4⟩ q => ?_) fun ys S5 hl ⟨os, y1, y2, y3, y4⟩ s5 => ?_
    · exact y4.of fun b hb => e b (hD4.some b hb)
    · walk_at "rh_k22j"
      have hn4 : n < 4 := (List.getElem?_eq_some_iff.mp hp).1
      have hp2 : nms[n]? = some p.2 := by
        show (kn.map Prod.snd)[n]? = _
        rw [List.getElem?_map, hp]; rfl
      obtain ⟨ch, ech, nch, fch⟩ : ∃ ch, atI (Str.ofString "abcd").cps.toList (p.1 : Nat) = some ch ∧ nice (Str.ofString "fresh" ++ (⟨#[ch]⟩ : Str)) = true ∧ (Str.ofString "fresh" ++ (⟨#[ch]⟩ : Str)) ∉ nms := by
        have hm := List.mem_of_getElem? hp
        simp only [kn, List.mem_cons, List.not_mem_nil, or_false] at hm
        rcases hm with rfl | rfl | rfl | rfl
        · exact ⟨97, by decide, by decide, by decide⟩
        · exact ⟨98, by decide, by decide, by decide⟩
        · exact ⟨99, by decide, by decide, by decide⟩
        · exact ⟨100, by decide, by decide, by decide⟩
      rw [ech]
      refine ⟨by show 4 ≤ _; omega, by show 5 + 1 ≤ _; omega, by omega, fun q0 nq => ?_⟩
      have qa : q0 ≠ a := fun e => y4.some a (by simp) (by rw [← e]; exact nq)
      have qc : q0 ≠ c := fun e => y4.some c (by simp) (by rw [← e]; exact nq)
      have e64 : (4 : Int) ^ (2 + 1) = 64 := by decide
      refine ⟨a, c, q0, _, [Str.ofString "fresh" ++ (⟨#[ch]⟩ : Str)], 2, rfl, by decide, by decide, y4.step (L := []) (Step.new nq) List.not_mem_nil List.not_mem_nil, qa, qc, sup_same, by show 1 ≤ 10; omega, by simp only [List.all_cons, nch, List.all_nil]; rfl, by rw [e64]; omega, fun t2 hs3 S6 w1 w2 w3 w4 w5 w6 w7 w8 w9 w10 => ⟨by omega, q _ S6 ⟨os ++ [(p.2, t2)], ?_, ?_, ?_, ?_⟩ ?_⟩⟩
      · rw [List.map_append, y1]; rfl
      · rw [List.map_append, y2, List.take_add_one, hp2]; rfl
      · intro o ho
        rcases List.mem_append.mp ho with ho | ho
        · exact y3 o ho
        · rw [List.mem_singleton] at ho
          subst ho
          have hm2 : p.2 ∈ nms := List.mem_of_getElem? hp2
          refine ⟨?_, w1, w2, w3, hm2, hin_mono (fun z hz => ?_) w5⟩
          · have := hm2
            simp only [nms, List.mem_cons, List.not_mem_nil, or_false] at this
            show nice p.2 = true
            rcases this with e | e | e | e <;> (rw [e]; decide)
          · rw [decide_eq_true_eq, List.mem_singleton] at hz
            rw [hz]
            simpa using fch
      · exact w9.mono (by rw [e64]; omega)
      · intro b hb nb
        have hbq : b ≠ q0 := fun e => hb (by rw [e]; exact nq)
        rw [w10 b (by rw [sup_ne hbq]; exact hb) (by simp only [List.mem_cons, List.not_mem_nil, or_false, not_or] at nb ⊢; exact ⟨nb.1, nb.2, hbq⟩), sup_ne hbq]
    · walk_at "rh_k22j"
      have hos : os.length = 4 := by
        have := congrArg List.length y2
        rw [List.length_map] at this
        exact this
      have e3 : ((t : Nat) : Int) % 3 = ((t % 3 : Nat) : Int) := by omega
      obtain ⟨u, eu, hu⟩ : ∃ u : Nat, u = t % 3 ∧ u < 3 := ⟨_, rfl, Nat.mod_lt _ (by decide)⟩
      have hl4 : ys.length = 4 := hl
      rw [e3, ← eu, cut_from (by omega), cut_to (by omega)]
      rw [y1, ← List.map_drop, ← List.map_take]
      show True ∧ True ∧ (_ ≤ sizeLine ∧ _)
      rw [← List.map_append]
      have tb5 : Tb3 Pl Pf Pp S5 := tb4.step s5 fun b hb e => by
        obtain ⟨_, _, _, _, q1, q2, _⟩ := hD4
        simp only [List.mem_cons, List.not_mem_nil, or_false] at hb
        rcases hb with rfl | rfl
        · rw [q1] at e; cases e
        · rw [q2] at e; cases e
      have sub : ∀ o ∈ os.drop u ++ os.take u, o ∈ os := fun o ho => by
        rcases List.mem_append.mp ho with ho | ho
        · exact List.mem_of_mem_drop ho
        · exact List.mem_of_mem_take ho
      have nd : ((os.drop u ++ os.take u).map Prod.fst).Nodup := by
        rw [List.map_append, List.map_drop, List.map_take, y2, show nms.take kn.length = nms from rfl]
        clear eu e3
        match u, hu with
        | 0, _ => decide
        | 1, _ => decide
        | 2, _ => decide
      refine ⟨trivial, trivial, by rw [List.length_map, List.length_map, List.length_drop, List.length_take]; omega, tb5, nms, l, os.drop u ++ os.take u, rfl, dl, ⟨?_, apart_of nd fun o ho => (y3 o (sub o ho)).2.2.2.2, fun o ho => ?_⟩, fun S6 s6 => ?_⟩
      · rw [List.length_append, List.length_drop, List.length_take]; omega
      · obtain ⟨z1, z2, z3, z4, _⟩ := y3 o (sub o ho)
        exact ⟨z1, z2, z3, z4⟩
      · refine ⟨⟨_, _, _, _, _, _, rfl⟩, (y4.step s6 List.not_mem_nil List.not_mem_nil).mono ?_, tb5.of s6⟩
        show (j : Int) * 10000 + 5000 + 4 * 64 ≤ _
        omega
  · subst ed
    walk_at "rh_k22j"
    iterate 25 refine ⟨by omega, ?_⟩
    refine ⟨tb2.1, .inl ⟨_, rfl, fun S3 s3 => ⟨rfl, ⟨_, rfl⟩, by decide, by decide, ?_⟩⟩⟩
    refine ⟨[(.str (Str.ofString "gap"), .tup [.tup [.str (Str.ofString "run"), .tup [.str (Str.ofString "world"), .int 0]]], .str (Str.ofString "gone"), .tup [.str (Str.ofString "world"), .int 1]), (.str (Str.ofString "x"), .tup [], .str (Str.ofString "run"), .tup [.str (Str.ofString "at"), .int 0])], rfl, by decide, fun S4 s4 => ⟨rfl, ⟨_, rfl⟩, by decide, by decide, ?_⟩⟩
    refine ⟨by omega, [], rfl, by decide, fun S5 s5 => ⟨by omega, ?_⟩⟩
    exact h S5
end
end K22
set_option Elab.async false
set_option linter.all false
set_option maxRecDepth 100000
set_option maxHeartbeats 1000000
namespace K22
open PySem PySem.Spec PyProof.Rows TL L2 DL
theorem def_mk {K : PySem.W.Frag} {h : Heap} {mg : Str → Option Value} {x : Str} {st : Stmt} {ps : List Str} {f : Addr} {oc kV doc pm cdv ct : Value} {od an : Option Addr} {osl : Array (Option Value)} (X : K.In h) (G : h.Ns mainGlobals mg)
    (a : PySem.W.nsIn K mainGlobals x = some (some (.ref f))) (l : K.lookup f = some ⟨oc, od, .func (PySem.W.fnOf x x (defArgs st) (defBody st) (defScope st) .none kV doc pm an cdv ct), osl⟩) (c : PySem.W.codeIn K cdv x = true) (k : PySem.W.keepIn K (.ref f) = true)
    (hb : ∀ (kV doc pm : Value) (an : Option Addr) (cdv ct : Value) (us : List Value), us.length = ps.length → bindArgs (PySem.W.fnOf x x (defArgs st) (defBody st) (defScope st) .none kV doc pm an cdv ct) ⟨us, []⟩ = pure (ps.zip us)) : DL.Def K mg x st ps :=
  ⟨f, _, fun_mk l c k, (fun_mk l c k).binds hb, PySem.W.mg_of X G a⟩
theorem def_mkW {K : PySem.W.Frag} {h : Heap} {mg : Str → Option Value} {x : Str} {st : Stmt} {ps : List Str} {f : Addr} {oc kV doc pm cdv ct : Value} {od an : Option Addr} {osl : Array (Option Value)} (X : K.In h) (G : h.Ns mainGlobals mg)
    (a : PySem.W.nsIn K mainGlobals x = some (some (.ref f))) (l : K.lookup f = some ⟨oc, od, .func (PySem.W.fnOf x x (defArgs st) (defBody st) (defScope st) .none kV doc pm an cdv ct), osl⟩) (c : PySem.W.codeIn K cdv x = true) (k : PySem.W.keepIn K (.ref f) = true)
    (hb : ∀ (kV doc pm : Value) (an : Option Addr) (cdv ct : Value) (us : List Value), us.length = ps.length → bindArgs (PySem.W.fnOf x x (defArgs st) (defBody st) (defScope st) .none kV doc pm an cdv ct) ⟨us, []⟩ = pure (ps.zip us))
    (hk : ∀ (kV doc pm : Value) (an : Option Addr) (cdv ct : Value) (us : List Value), us.length = ps.length → bindArgs (PySem.W.fnOf x x (defArgs st) (defBody st) (defScope st) .none kV doc pm an cdv ct) ⟨[], ps.zip us⟩ = pure (ps.zip us)) : DL.DefW K mg x st ps :=
  ⟨f, _, fun_mk l c k, (fun_mk l c k).binds hb, PySem.W.mg_of X G a, fun us hl => hk _ _ _ _ _ _ us hl⟩
theorem def_mkC {K : PySem.W.Frag} {h : Heap} {mg : Str → Option Value} {x : Str} {st : Stmt} {ps : List Str} {f c0 : Addr} {oc kV doc pm ct : Value} {od an : Option Addr} {osl : Array (Option Value)} (X : K.In h) (G : h.Ns mainGlobals mg)
    (a : PySem.W.nsIn K mainGlobals x = some (some (.ref f))) (l : K.lookup f = some ⟨oc, od, .func (PySem.W.fnOf x x (defArgs st) (defBody st) (defScope st) .none kV doc pm an (.ref c0) ct), osl⟩) (c : PySem.W.codeIn K (.ref c0) x = true) (k : PySem.W.keepIn K (.ref f) = true)
    (hb : ∀ (kV doc pm : Value) (an : Option Addr) (cdv ct : Value) (us : List Value), us.length = ps.length → bindArgs (PySem.W.fnOf x x (defArgs st) (defBody st) (defScope st) .none kV doc pm an cdv ct) ⟨us, []⟩ = pure (ps.zip us)) : DL.DefC K mg x st ps c0 :=
  ⟨f, ⟨oc, od, kV, doc, pm, an, ct, osl, l, c, (fun_mk l c k).binds hb⟩, k, PySem.W.mg_of X G a⟩
section
variable {P : Program} {w : World} {K : PySem.W.Frag} {mg : Str → Option Value} {base : Heap}
theorem all_lc {kc : Nat} (D1 : Def K mg "leaves_changed" st_leaves_changed ["term", "leaf", "changed", "bodies", "left"]) (g1 : Has P w K mg base kc "with_parts" ["term", "parts"] sp_with_parts) (g2 : Has P w K mg base kc "parts_of" ["term"] sp_parts_of) (m1 : mg "tuple" = none) (m2 : mg "len" = none) : ∀ n : Nat, Has P w K mg base (kc + n + 1) "leaves_changed" ["term", "leaf", "changed", "bodies", "left"] (sp_lc P w K mg base kc n)
  | 0 => D1.none fun ds S P' h => by simp [sp_lc] at h
  | n + 1 => ok_leaves_changed (k := 0) (n := n) D1 g1 (all_lc D1 g1 g2 m1 m2 n) g2 m1 m2
theorem all_any {k : Nat} (D1 : Def K mg "_law_any" st_l_any ["_law_deck", "_law_holes", "_law_deep"]) (g1 : Has P w K mg base k "_law_pick" ["_law_deck", "_law_some"] sp_l_pick) (g2 : Has P w K mg base k "_law_draw" ["_law_deck", "_law_many"] sp_l_draw) (m1 : mg "tuple" = none) (m2 : mg "range" = none) : ∀ n : Nat, Has P w K mg base (k + n) "_law_any" ["_law_deck", "_law_holes", "_law_deep"] (sp_l_any n)
  | 0 => D1.none fun ds S P' h => by obtain ⟨_, _, _, _, _, _, _, q, _⟩ := h; exact absurd q (Nat.not_lt_zero _)
  | n + 1 => ok_l_any (k := k + n) D1 (g1.mono (by omega)) (g2.mono (by omega)) (all_any D1 g1 g2 m1 m2 n) m1 m2
theorem all_pattern {k : Nat} (D1 : Def K mg "_law_pattern" st_l_pattern ["_law_deck", "_law_deep", "_law_left"]) (g2 : Has P w K mg base k "_law_draw" ["_law_deck", "_law_many"] sp_l_draw) (m1 : mg "tuple" = none) (m2 : mg "range" = none) (m3 : mg "int" = none) : ∀ n : Nat, Has P w K mg base (k + n) "_law_pattern" ["_law_deck", "_law_deep", "_law_left"] (sp_l_pattern n)
  | 0 => D1.none fun ds S P' h => by obtain ⟨_, _, _, _, _, _, _, q, _⟩ := h; exact absurd q (Nat.not_lt_zero _)
  | n + 1 => ok_l_pattern (k := k + n) D1 (g2.mono (by omega)) (all_pattern D1 g2 m1 m2 m3 n) m1 m2 m3
theorem all_takes (D1 : Def K mg "_law_takes" st_l_takes ["_law_pattern_here"]) (m1 : mg "int" = none) (m2 : mg "sum" = none) : ∀ n : Nat, Has P w K mg base n "_law_takes" ["_law_pattern_here"] (sp_l_takes n)
  | 0 => D1.none fun ds S P' h => by obtain ⟨_, _, q, _⟩ := h; exact absurd q (Nat.not_lt_zero _)
  | n + 1 => ok_l_takes D1 (all_takes D1 m1 m2 n) m1 m2
theorem all_turned {kc : Nat} (D1 : Def K mg "_law_turned" st_l_turned ["_law_whole", "_law_many", "_law_change"]) (m1 : mg "tuple" = none) (m2 : mg "int" = none) : ∀ n : Nat, Has P w K mg base (kc + n + 1) "_law_turned" ["_law_whole", "_law_many", "_law_change"] (sp_l_turned P w K mg base kc n)
  | 0 => D1.none fun ds S P' h => by obtain ⟨_, _, _, _, _, _, q, _⟩ := h; exact absurd q (Nat.not_lt_zero _)
  | n + 1 => ok_l_turned (k := 0) (n := n) D1 (all_turned D1 m1 m2 n) m1 m2
end
theorem all_mk {l : PySem.W.OpenLaw} {w : World} {K : PySem.W.Frag} {h : Heap} {mg : Str → Option Value} {fa : Addr} (X : K.In h) (G : h.Ns mainGlobals mg) (hfa : mg "law" = some (.ref fa))
    {f_parts_of : Addr} {od_parts_of an_parts_of : Option Addr} {sl_parts_of : Array (Option Value)} {oc_parts_of kV_parts_of dc_parts_of pm_parts_of cd_parts_of ct_parts_of : Value}
    (a_parts_of : PySem.W.nsIn K mainGlobals "parts_of" = some (some (.ref f_parts_of))) (l_parts_of : K.lookup f_parts_of = some ⟨oc_parts_of, od_parts_of, .func (PySem.W.fnOf "parts_of" "parts_of" (defArgs st_parts_of) (defBody st_parts_of) (defScope st_parts_of) .none kV_parts_of dc_parts_of pm_parts_of an_parts_of cd_parts_of ct_parts_of), sl_parts_of⟩) (c_parts_of : PySem.W.codeIn K cd_parts_of "parts_of" = true) (k_parts_of : PySem.W.keepIn K (.ref f_parts_of) = true)
    {f_with_parts : Addr} {od_with_parts an_with_parts : Option Addr} {sl_with_parts : Array (Option Value)} {oc_with_parts kV_with_parts dc_with_parts pm_with_parts cd_with_parts ct_with_parts : Value}
    (a_with_parts : PySem.W.nsIn K mainGlobals "with_parts" = some (some (.ref f_with_parts))) (l_with_parts : K.lookup f_with_parts = some ⟨oc_with_parts, od_with_parts, .func (PySem.W.fnOf "with_parts" "with_parts" (defArgs st_with_parts) (defBody st_with_parts) (defScope st_with_parts) .none kV_with_parts dc_with_parts pm_with_parts an_with_parts cd_with_parts ct_with_parts), sl_with_parts⟩) (c_with_parts : PySem.W.codeIn K cd_with_parts "with_parts" = true) (k_with_parts : PySem.W.keepIn K (.ref f_with_parts) = true)
    {f_leaves_changed : Addr} {od_leaves_changed an_leaves_changed : Option Addr} {sl_leaves_changed : Array (Option Value)} {oc_leaves_changed kV_leaves_changed dc_leaves_changed pm_leaves_changed cd_leaves_changed ct_leaves_changed : Value}
    (a_leaves_changed : PySem.W.nsIn K mainGlobals "leaves_changed" = some (some (.ref f_leaves_changed))) (l_leaves_changed : K.lookup f_leaves_changed = some ⟨oc_leaves_changed, od_leaves_changed, .func (PySem.W.fnOf "leaves_changed" "leaves_changed" (defArgs st_leaves_changed) (defBody st_leaves_changed) (defScope st_leaves_changed) .none kV_leaves_changed dc_leaves_changed pm_leaves_changed an_leaves_changed cd_leaves_changed ct_leaves_changed), sl_leaves_changed⟩) (c_leaves_changed : PySem.W.codeIn K cd_leaves_changed "leaves_changed" = true) (k_leaves_changed : PySem.W.keepIn K (.ref f_leaves_changed) = true)
    {f_with_holes : Addr} {od_with_holes an_with_holes : Option Addr} {sl_with_holes : Array (Option Value)} {oc_with_holes kV_with_holes dc_with_holes pm_with_holes cd_with_holes ct_with_holes : Value}
    (a_with_holes : PySem.W.nsIn K mainGlobals "with_holes" = some (some (.ref f_with_holes))) (l_with_holes : K.lookup f_with_holes = some ⟨oc_with_holes, od_with_holes, .func (PySem.W.fnOf "with_holes" "with_holes" (defArgs st_with_holes) (defBody st_with_holes) (defScope st_with_holes) .none kV_with_holes dc_with_holes pm_with_holes an_with_holes cd_with_holes ct_with_holes), sl_with_holes⟩) (c_with_holes : PySem.W.codeIn K cd_with_holes "with_holes" = true) (k_with_holes : PySem.W.keepIn K (.ref f_with_holes) = true)
    {f_places_of : Addr} {od_places_of an_places_of : Option Addr} {sl_places_of : Array (Option Value)} {oc_places_of kV_places_of dc_places_of pm_places_of cd_places_of ct_places_of : Value}
    (a_places_of : PySem.W.nsIn K mainGlobals "places_of" = some (some (.ref f_places_of))) (l_places_of : K.lookup f_places_of = some ⟨oc_places_of, od_places_of, .func (PySem.W.fnOf "places_of" "places_of" (defArgs st_places_of) (defBody st_places_of) (defScope st_places_of) .none kV_places_of dc_places_of pm_places_of an_places_of cd_places_of ct_places_of), sl_places_of⟩) (c_places_of : PySem.W.codeIn K cd_places_of "places_of" = true) (k_places_of : PySem.W.keepIn K (.ref f_places_of) = true)
    {f_takes_in : Addr} {od_takes_in an_takes_in : Option Addr} {sl_takes_in : Array (Option Value)} {oc_takes_in kV_takes_in dc_takes_in pm_takes_in cd_takes_in ct_takes_in : Value}
    (a_takes_in : PySem.W.nsIn K mainGlobals "takes_in" = some (some (.ref f_takes_in))) (l_takes_in : K.lookup f_takes_in = some ⟨oc_takes_in, od_takes_in, .func (PySem.W.fnOf "takes_in" "takes_in" (defArgs st_takes_in) (defBody st_takes_in) (defScope st_takes_in) .none kV_takes_in dc_takes_in pm_takes_in an_takes_in cd_takes_in ct_takes_in), sl_takes_in⟩) (c_takes_in : PySem.W.codeIn K cd_takes_in "takes_in" = true) (k_takes_in : PySem.W.keepIn K (.ref f_takes_in) = true)
    {f_with_bodies : Addr} {od_with_bodies an_with_bodies : Option Addr} {sl_with_bodies : Array (Option Value)} {oc_with_bodies kV_with_bodies dc_with_bodies pm_with_bodies cd_with_bodies ct_with_bodies : Value}
    (a_with_bodies : PySem.W.nsIn K mainGlobals "with_bodies" = some (some (.ref f_with_bodies))) (l_with_bodies : K.lookup f_with_bodies = some ⟨oc_with_bodies, od_with_bodies, .func (PySem.W.fnOf "with_bodies" "with_bodies" (defArgs st_with_bodies) (defBody st_with_bodies) (defScope st_with_bodies) .none kV_with_bodies dc_with_bodies pm_with_bodies an_with_bodies cd_with_bodies ct_with_bodies), sl_with_bodies⟩) (c_with_bodies : PySem.W.codeIn K cd_with_bodies "with_bodies" = true) (k_with_bodies : PySem.W.keepIn K (.ref f_with_bodies) = true)
    {cc_lifted_with : Addr}
    {f_lifted_with : Addr} {od_lifted_with an_lifted_with : Option Addr} {sl_lifted_with : Array (Option Value)} {oc_lifted_with kV_lifted_with dc_lifted_with pm_lifted_with ct_lifted_with : Value}
    (a_lifted_with : PySem.W.nsIn K mainGlobals "lifted_with" = some (some (.ref f_lifted_with))) (l_lifted_with : K.lookup f_lifted_with = some ⟨oc_lifted_with, od_lifted_with, .func (PySem.W.fnOf "lifted_with" "lifted_with" (defArgs st_lifted_with) (defBody st_lifted_with) (defScope st_lifted_with) .none kV_lifted_with dc_lifted_with pm_lifted_with an_lifted_with (.ref cc_lifted_with) ct_lifted_with), sl_lifted_with⟩) (c_lifted_with : PySem.W.codeIn K (.ref cc_lifted_with) "lifted_with" = true) (k_lifted_with : PySem.W.keepIn K (.ref f_lifted_with) = true)
    {cc_with_hole_filled : Addr}
    {f_with_hole_filled : Addr} {od_with_hole_filled an_with_hole_filled : Option Addr} {sl_with_hole_filled : Array (Option Value)} {oc_with_hole_filled kV_with_hole_filled dc_with_hole_filled pm_with_hole_filled ct_with_hole_filled : Value}
    (a_with_hole_filled : PySem.W.nsIn K mainGlobals "with_hole_filled" = some (some (.ref f_with_hole_filled))) (l_with_hole_filled : K.lookup f_with_hole_filled = some ⟨oc_with_hole_filled, od_with_hole_filled, .func (PySem.W.fnOf "with_hole_filled" "with_hole_filled" (defArgs st_with_hole_filled) (defBody st_with_hole_filled) (defScope st_with_hole_filled) .none kV_with_hole_filled dc_with_hole_filled pm_with_hole_filled an_with_hole_filled (.ref cc_with_hole_filled) ct_with_hole_filled), sl_with_hole_filled⟩) (c_with_hole_filled : PySem.W.codeIn K (.ref cc_with_hole_filled) "with_hole_filled" = true) (k_with_hole_filled : PySem.W.keepIn K (.ref f_with_hole_filled) = true)
    {f_lifted : Addr} {od_lifted an_lifted : Option Addr} {sl_lifted : Array (Option Value)} {oc_lifted kV_lifted dc_lifted pm_lifted cd_lifted ct_lifted : Value}
    (a_lifted : PySem.W.nsIn K mainGlobals "lifted" = some (some (.ref f_lifted))) (l_lifted : K.lookup f_lifted = some ⟨oc_lifted, od_lifted, .func (PySem.W.fnOf "lifted" "lifted" (defArgs st_lifted) (defBody st_lifted) (defScope st_lifted) .none kV_lifted dc_lifted pm_lifted an_lifted cd_lifted ct_lifted), sl_lifted⟩) (c_lifted : PySem.W.codeIn K cd_lifted "lifted" = true) (k_lifted : PySem.W.keepIn K (.ref f_lifted) = true)
    {f_opened : Addr} {od_opened an_opened : Option Addr} {sl_opened : Array (Option Value)} {oc_opened kV_opened dc_opened pm_opened cd_opened ct_opened : Value}
    (a_opened : PySem.W.nsIn K mainGlobals "opened" = some (some (.ref f_opened))) (l_opened : K.lookup f_opened = some ⟨oc_opened, od_opened, .func (PySem.W.fnOf "opened" "opened" (defArgs st_opened) (defBody st_opened) (defScope st_opened) .none kV_opened dc_opened pm_opened an_opened cd_opened ct_opened), sl_opened⟩) (c_opened : PySem.W.codeIn K cd_opened "opened" = true) (k_opened : PySem.W.keepIn K (.ref f_opened) = true)
    {f_filled : Addr} {od_filled an_filled : Option Addr} {sl_filled : Array (Option Value)} {oc_filled kV_filled dc_filled pm_filled cd_filled ct_filled : Value}
    (a_filled : PySem.W.nsIn K mainGlobals "filled" = some (some (.ref f_filled))) (l_filled : K.lookup f_filled = some ⟨oc_filled, od_filled, .func (PySem.W.fnOf "filled" "filled" (defArgs st_filled) (defBody st_filled) (defScope st_filled) .none kV_filled dc_filled pm_filled an_filled cd_filled ct_filled), sl_filled⟩) (c_filled : PySem.W.codeIn K cd_filled "filled" = true) (k_filled : PySem.W.keepIn K (.ref f_filled) = true)
    {f_l_cells : Addr} {od_l_cells an_l_cells : Option Addr} {sl_l_cells : Array (Option Value)} {oc_l_cells kV_l_cells dc_l_cells pm_l_cells cd_l_cells ct_l_cells : Value}
    (a_l_cells : PySem.W.nsIn K mainGlobals "_law_cells" = some (some (.ref f_l_cells))) (l_l_cells : K.lookup f_l_cells = some ⟨oc_l_cells, od_l_cells, .func (PySem.W.fnOf "_law_cells" "_law_cells" (defArgs st_l_cells) (defBody st_l_cells) (defScope st_l_cells) .none kV_l_cells dc_l_cells pm_l_cells an_l_cells cd_l_cells ct_l_cells), sl_l_cells⟩) (c_l_cells : PySem.W.codeIn K cd_l_cells "_law_cells" = true) (k_l_cells : PySem.W.keepIn K (.ref f_l_cells) = true)
    {f_l_draw : Addr} {od_l_draw an_l_draw : Option Addr} {sl_l_draw : Array (Option Value)} {oc_l_draw kV_l_draw dc_l_draw pm_l_draw cd_l_draw ct_l_draw : Value}
    (a_l_draw : PySem.W.nsIn K mainGlobals "_law_draw" = some (some (.ref f_l_draw))) (l_l_draw : K.lookup f_l_draw = some ⟨oc_l_draw, od_l_draw, .func (PySem.W.fnOf "_law_draw" "_law_draw" (defArgs st_l_draw) (defBody st_l_draw) (defScope st_l_draw) .none kV_l_draw dc_l_draw pm_l_draw an_l_draw cd_l_draw ct_l_draw), sl_l_draw⟩) (c_l_draw : PySem.W.codeIn K cd_l_draw "_law_draw" = true) (k_l_draw : PySem.W.keepIn K (.ref f_l_draw) = true)
    {f_l_pick : Addr} {od_l_pick an_l_pick : Option Addr} {sl_l_pick : Array (Option Value)} {oc_l_pick kV_l_pick dc_l_pick pm_l_pick cd_l_pick ct_l_pick : Value}
    (a_l_pick : PySem.W.nsIn K mainGlobals "_law_pick" = some (some (.ref f_l_pick))) (l_l_pick : K.lookup f_l_pick = some ⟨oc_l_pick, od_l_pick, .func (PySem.W.fnOf "_law_pick" "_law_pick" (defArgs st_l_pick) (defBody st_l_pick) (defScope st_l_pick) .none kV_l_pick dc_l_pick pm_l_pick an_l_pick cd_l_pick ct_l_pick), sl_l_pick⟩) (c_l_pick : PySem.W.codeIn K cd_l_pick "_law_pick" = true) (k_l_pick : PySem.W.keepIn K (.ref f_l_pick) = true)
    {f_l_any : Addr} {od_l_any an_l_any : Option Addr} {sl_l_any : Array (Option Value)} {oc_l_any kV_l_any dc_l_any pm_l_any cd_l_any ct_l_any : Value}
    (a_l_any : PySem.W.nsIn K mainGlobals "_law_any" = some (some (.ref f_l_any))) (l_l_any : K.lookup f_l_any = some ⟨oc_l_any, od_l_any, .func (PySem.W.fnOf "_law_any" "_law_any" (defArgs st_l_any) (defBody st_l_any) (defScope st_l_any) .none kV_l_any dc_l_any pm_l_any an_l_any cd_l_any ct_l_any), sl_l_any⟩) (c_l_any : PySem.W.codeIn K cd_l_any "_law_any" = true) (k_l_any : PySem.W.keepIn K (.ref f_l_any) = true)
    {f_l_pattern : Addr} {od_l_pattern an_l_pattern : Option Addr} {sl_l_pattern : Array (Option Value)} {oc_l_pattern kV_l_pattern dc_l_pattern pm_l_pattern cd_l_pattern ct_l_pattern : Value}
    (a_l_pattern : PySem.W.nsIn K mainGlobals "_law_pattern" = some (some (.ref f_l_pattern))) (l_l_pattern : K.lookup f_l_pattern = some ⟨oc_l_pattern, od_l_pattern, .func (PySem.W.fnOf "_law_pattern" "_law_pattern" (defArgs st_l_pattern) (defBody st_l_pattern) (defScope st_l_pattern) .none kV_l_pattern dc_l_pattern pm_l_pattern an_l_pattern cd_l_pattern ct_l_pattern), sl_l_pattern⟩) (c_l_pattern : PySem.W.codeIn K cd_l_pattern "_law_pattern" = true) (k_l_pattern : PySem.W.keepIn K (.ref f_l_pattern) = true)
    {f_l_takes : Addr} {od_l_takes an_l_takes : Option Addr} {sl_l_takes : Array (Option Value)} {oc_l_takes kV_l_takes dc_l_takes pm_l_takes cd_l_takes ct_l_takes : Value}
    (a_l_takes : PySem.W.nsIn K mainGlobals "_law_takes" = some (some (.ref f_l_takes))) (l_l_takes : K.lookup f_l_takes = some ⟨oc_l_takes, od_l_takes, .func (PySem.W.fnOf "_law_takes" "_law_takes" (defArgs st_l_takes) (defBody st_l_takes) (defScope st_l_takes) .none kV_l_takes dc_l_takes pm_l_takes an_l_takes cd_l_takes ct_l_takes), sl_l_takes⟩) (c_l_takes : PySem.W.codeIn K cd_l_takes "_law_takes" = true) (k_l_takes : PySem.W.keepIn K (.ref f_l_takes) = true)
    {f_l_lot : Addr} {od_l_lot an_l_lot : Option Addr} {sl_l_lot : Array (Option Value)} {oc_l_lot kV_l_lot dc_l_lot pm_l_lot cd_l_lot ct_l_lot : Value}
    (a_l_lot : PySem.W.nsIn K mainGlobals "_law_lot" = some (some (.ref f_l_lot))) (l_l_lot : K.lookup f_l_lot = some ⟨oc_l_lot, od_l_lot, .func (PySem.W.fnOf "_law_lot" "_law_lot" (defArgs st_l_lot) (defBody st_l_lot) (defScope st_l_lot) .none kV_l_lot dc_l_lot pm_l_lot an_l_lot cd_l_lot ct_l_lot), sl_l_lot⟩) (c_l_lot : PySem.W.codeIn K cd_l_lot "_law_lot" = true) (k_l_lot : PySem.W.keepIn K (.ref f_l_lot) = true)
    {f_l_turned : Addr} {od_l_turned an_l_turned : Option Addr} {sl_l_turned : Array (Option Value)} {oc_l_turned kV_l_turned dc_l_turned pm_l_turned cd_l_turned ct_l_turned : Value}
    (a_l_turned : PySem.W.nsIn K mainGlobals "_law_turned" = some (some (.ref f_l_turned))) (l_l_turned : K.lookup f_l_turned = some ⟨oc_l_turned, od_l_turned, .func (PySem.W.fnOf "_law_turned" "_law_turned" (defArgs st_l_turned) (defBody st_l_turned) (defScope st_l_turned) .none kV_l_turned dc_l_turned pm_l_turned an_l_turned cd_l_turned ct_l_turned), sl_l_turned⟩) (c_l_turned : PySem.W.codeIn K cd_l_turned "_law_turned" = true) (k_l_turned : PySem.W.keepIn K (.ref f_l_turned) = true)
    {f_l_lot_turned : Addr} {od_l_lot_turned an_l_lot_turned : Option Addr} {sl_l_lot_turned : Array (Option Value)} {oc_l_lot_turned kV_l_lot_turned dc_l_lot_turned pm_l_lot_turned cd_l_lot_turned ct_l_lot_turned : Value}
    (a_l_lot_turned : PySem.W.nsIn K mainGlobals "_law_lot_turned" = some (some (.ref f_l_lot_turned))) (l_l_lot_turned : K.lookup f_l_lot_turned = some ⟨oc_l_lot_turned, od_l_lot_turned, .func (PySem.W.fnOf "_law_lot_turned" "_law_lot_turned" (defArgs st_l_lot_turned) (defBody st_l_lot_turned) (defScope st_l_lot_turned) .none kV_l_lot_turned dc_l_lot_turned pm_l_lot_turned an_l_lot_turned cd_l_lot_turned ct_l_lot_turned), sl_l_lot_turned⟩) (c_l_lot_turned : PySem.W.codeIn K cd_l_lot_turned "_law_lot_turned" = true) (k_l_lot_turned : PySem.W.keepIn K (.ref f_l_lot_turned) = true)
    {f_l_as_call : Addr} {od_l_as_call an_l_as_call : Option Addr} {sl_l_as_call : Array (Option Value)} {oc_l_as_call kV_l_as_call dc_l_as_call pm_l_as_call cd_l_as_call ct_l_as_call : Value}
    (a_l_as_call : PySem.W.nsIn K mainGlobals "_law_as_call" = some (some (.ref f_l_as_call))) (l_l_as_call : K.lookup f_l_as_call = some ⟨oc_l_as_call, od_l_as_call, .func (PySem.W.fnOf "_law_as_call" "_law_as_call" (defArgs st_l_as_call) (defBody st_l_as_call) (defScope st_l_as_call) .none kV_l_as_call dc_l_as_call pm_l_as_call an_l_as_call cd_l_as_call ct_l_as_call), sl_l_as_call⟩) (c_l_as_call : PySem.W.codeIn K cd_l_as_call "_law_as_call" = true) (k_l_as_call : PySem.W.keepIn K (.ref f_l_as_call) = true)
    {cc_l_put : Addr}
    {f_l_put : Addr} {od_l_put an_l_put : Option Addr} {sl_l_put : Array (Option Value)} {oc_l_put kV_l_put dc_l_put pm_l_put ct_l_put : Value}
    (a_l_put : PySem.W.nsIn K mainGlobals "_law_put" = some (some (.ref f_l_put))) (l_l_put : K.lookup f_l_put = some ⟨oc_l_put, od_l_put, .func (PySem.W.fnOf "_law_put" "_law_put" (defArgs st_l_put) (defBody st_l_put) (defScope st_l_put) .none kV_l_put dc_l_put pm_l_put an_l_put (.ref cc_l_put) ct_l_put), sl_l_put⟩) (c_l_put : PySem.W.codeIn K (.ref cc_l_put) "_law_put" = true) (k_l_put : PySem.W.keepIn K (.ref f_l_put) = true)
    {f_l_right : Addr} {od_l_right an_l_right : Option Addr} {sl_l_right : Array (Option Value)} {oc_l_right kV_l_right dc_l_right pm_l_right cd_l_right ct_l_right : Value}
    (a_l_right : PySem.W.nsIn K mainGlobals "_law_right" = some (some (.ref f_l_right))) (l_l_right : K.lookup f_l_right = some ⟨oc_l_right, od_l_right, .func (PySem.W.fnOf "_law_right" "_law_right" (defArgs st_l_right) (defBody st_l_right) (defScope st_l_right) .none kV_l_right dc_l_right pm_l_right an_l_right cd_l_right ct_l_right), sl_l_right⟩) (c_l_right : PySem.W.codeIn K cd_l_right "_law_right" = true) (k_l_right : PySem.W.keepIn K (.ref f_l_right) = true)
    {f_law : Addr} {od_law an_law : Option Addr} {sl_law : Array (Option Value)} {oc_law kV_law dc_law pm_law cd_law ct_law : Value}
    (a_law : PySem.W.nsIn K mainGlobals "law" = some (some (.ref f_law))) (l_law : K.lookup f_law = some ⟨oc_law, od_law, .func (PySem.W.fnOf "law" "law" (defArgs st_law) (defBody st_law) (defScope st_law) .none kV_law dc_law pm_law an_law cd_law ct_law), sl_law⟩) (c_law : PySem.W.codeIn K cd_law "law" = true) (k_law : PySem.W.keepIn K (.ref f_law) = true)
    (z_len : PySem.W.nsIn K mainGlobals "len" = some none)
    (z_tuple : PySem.W.nsIn K mainGlobals "tuple" = some none)
    (z_list : PySem.W.nsIn K mainGlobals "list" = some none)
    (z_reversed : PySem.W.nsIn K mainGlobals "reversed" = some none)
    (z_range : PySem.W.nsIn K mainGlobals "range" = some none)
    (z_int : PySem.W.nsIn K mainGlobals "int" = some none)
    (z_sum : PySem.W.nsIn K mainGlobals "sum" = some none)
    (z_repr : PySem.W.nsIn K mainGlobals "repr" = some none)
    (z_enumerate : PySem.W.nsIn K mainGlobals "enumerate" = some none)
    {u_SAFE_DEPTH : _} (v_SAFE_DEPTH : PySem.W.nsIn K mainGlobals "SAFE_DEPTH" = some (some (.int 40 u_SAFE_DEPTH)))
    {Pl Pf Pp : Addr} : ∃ fd : FuncData, (∀ (s : Shared) (v : Value), BindsTo s fd ⟨[v], []⟩ [("_law_script", v)]) ∧ ∀ base : Heap, K.In base → base.Ns mainGlobals mg → LamX.TabB base mg cc_lifted_with Pl → LamX.TabB base mg cc_with_hole_filled Pf → LamX.TabB base mg cc_l_put Pp → FnD l.prog w K mg base 200 fa fd ["_law_script"] (sp_law Pl Pf Pp) := by
  have e := hfa.symm.trans (PySem.W.mg_of X G a_law)
  cases e
  have D_parts_of := def_mk (st := st_parts_of) (ps := ["term"]) X G a_parts_of l_parts_of c_parts_of k_parts_of (fun _ _ _ _ _ _ us hl => match us, hl with | [_], _ => rfl)
  have D_with_parts := def_mk (st := st_with_parts) (ps := ["term", "parts"]) X G a_with_parts l_with_parts c_with_parts k_with_parts (fun _ _ _ _ _ _ us hl => match us, hl with | [_, _], _ => rfl)
  have D_leaves_changed := def_mk (st := st_leaves_changed) (ps := ["term", "leaf", "changed", "bodies", "left"]) X G a_leaves_changed l_leaves_changed c_leaves_changed k_leaves_changed (fun _ _ _ _ _ _ us hl => match us, hl with | [_, _, _, _, _], _ => rfl)
  have D_with_holes := def_mk (st := st_with_holes) (ps := ["term", "changed"]) X G a_with_holes l_with_holes c_with_holes k_with_holes (fun _ _ _ _ _ _ us hl => match us, hl with | [_, _], _ => rfl)
  have D_places_of := def_mk (st := st_places_of) (ps := ["patterns"]) X G a_places_of l_places_of c_places_of k_places_of (fun _ _ _ _ _ _ us hl => match us, hl with | [_], _ => rfl)
  have D_takes_in := def_mk (st := st_takes_in) (ps := ["patterns"]) X G a_takes_in l_takes_in c_takes_in k_takes_in (fun _ _ _ _ _ _ us hl => match us, hl with | [_], _ => rfl)
  have D_with_bodies := def_mk (st := st_with_bodies) (ps := ["item", "changed"]) X G a_with_bodies l_with_bodies c_with_bodies k_with_bodies (fun _ _ _ _ _ _ us hl => match us, hl with | [_, _], _ => rfl)
  have D_lifted_with := def_mkC (st := st_lifted_with) (ps := ["item", "sign"]) X G a_lifted_with l_lifted_with c_lifted_with k_lifted_with (fun _ _ _ _ _ _ us hl => match us, hl with | [_, _], _ => rfl)
  have D_with_hole_filled := def_mkC (st := st_with_hole_filled) (ps := ["item", "hole", "term"]) X G a_with_hole_filled l_with_hole_filled c_with_hole_filled k_with_hole_filled (fun _ _ _ _ _ _ us hl => match us, hl with | [_, _, _], _ => rfl)
  have D_lifted := def_mk (st := st_lifted) (ps := ["item"]) X G a_lifted l_lifted c_lifted k_lifted (fun _ _ _ _ _ _ us hl => match us, hl with | [_], _ => rfl)
  have D_opened := def_mk (st := st_opened) (ps := ["rows"]) X G a_opened l_opened c_opened k_opened (fun _ _ _ _ _ _ us hl => match us, hl with | [_], _ => rfl)
  have D_filled := def_mkW (st := st_filled) (ps := ["item", "hole", "term"]) X G a_filled l_filled c_filled k_filled (fun _ _ _ _ _ _ us hl => match us, hl with | [_, _, _], _ => rfl) (fun _ _ _ _ _ _ us hl => match us, hl with | [_, _, _], _ => rfl)
  have D_l_cells := def_mk (st := st_l_cells) (ps := ["_law_script"]) X G a_l_cells l_l_cells c_l_cells k_l_cells (fun _ _ _ _ _ _ us hl => match us, hl with | [_], _ => rfl)
  have D_l_draw := def_mk (st := st_l_draw) (ps := ["_law_deck", "_law_many"]) X G a_l_draw l_l_draw c_l_draw k_l_draw (fun _ _ _ _ _ _ us hl => match us, hl with | [_, _], _ => rfl)
  have D_l_pick := def_mk (st := st_l_pick) (ps := ["_law_deck", "_law_some"]) X G a_l_pick l_l_pick c_l_pick k_l_pick (fun _ _ _ _ _ _ us hl => match us, hl with | [_, _], _ => rfl)
  have D_l_any := def_mk (st := st_l_any) (ps := ["_law_deck", "_law_holes", "_law_deep"]) X G a_l_any l_l_any c_l_any k_l_any (fun _ _ _ _ _ _ us hl => match us, hl with | [_, _, _], _ => rfl)
  have D_l_pattern := def_mk (st := st_l_pattern) (ps := ["_law_deck", "_law_deep", "_law_left"]) X G a_l_pattern l_l_pattern c_l_pattern k_l_pattern (fun _ _ _ _ _ _ us hl => match us, hl with | [_, _, _], _ => rfl)
  have D_l_takes := def_mk (st := st_l_takes) (ps := ["_law_pattern_here"]) X G a_l_takes l_l_takes c_l_takes k_l_takes (fun _ _ _ _ _ _ us hl => match us, hl with | [_], _ => rfl)
  have D_l_lot := def_mk (st := st_l_lot) (ps := ["_law_deck", "_law_holes"]) X G a_l_lot l_l_lot c_l_lot k_l_lot (fun _ _ _ _ _ _ us hl => match us, hl with | [_, _], _ => rfl)
  have D_l_turned := def_mk (st := st_l_turned) (ps := ["_law_whole", "_law_many", "_law_change"]) X G a_l_turned l_l_turned c_l_turned k_l_turned (fun _ _ _ _ _ _ us hl => match us, hl with | [_, _, _], _ => rfl)
  have D_l_lot_turned := def_mk (st := st_l_lot_turned) (ps := ["_law_lot_here", "_law_change"]) X G a_l_lot_turned l_l_lot_turned c_l_lot_turned k_l_lot_turned (fun _ _ _ _ _ _ us hl => match us, hl with | [_, _], _ => rfl)
  have D_l_as_call := def_mk (st := st_l_as_call) (ps := ["_law_whole", "_law_many"]) X G a_l_as_call l_l_as_call c_l_as_call k_l_as_call (fun _ _ _ _ _ _ us hl => match us, hl with | [_, _], _ => rfl)
  have D_l_put := def_mkC (st := st_l_put) (ps := ["_law_lot_here", "_law_gap", "_law_other"]) X G a_l_put l_l_put c_l_put k_l_put (fun _ _ _ _ _ _ us hl => match us, hl with | [_, _, _], _ => rfl)
  have D_l_right := def_mk (st := st_l_right) (ps := ["_law_lot_here", "_law_ones"]) X G a_l_right l_l_right c_l_right k_l_right (fun _ _ _ _ _ _ us hl => match us, hl with | [_, _], _ => rfl)
  have F_law := fun_mk (st := st_law) l_law c_law k_law
  have m_len := PySem.W.mg_none_of X G z_len
  have m_tuple := PySem.W.mg_none_of X G z_tuple
  have m_list := PySem.W.mg_none_of X G z_list
  have m_reversed := PySem.W.mg_none_of X G z_reversed
  have m_range := PySem.W.mg_none_of X G z_range
  have m_int := PySem.W.mg_none_of X G z_int
  have m_sum := PySem.W.mg_none_of X G z_sum
  have m_repr := PySem.W.mg_none_of X G z_repr
  have m_enumerate := PySem.W.mg_none_of X G z_enumerate
  have C_SAFE_DEPTH : Con K mg "SAFE_DEPTH" co_SAFE_DEPTH := ⟨.int 40, _, PySem.W.mg_of X G v_SAFE_DEPTH, ⟨_, rfl⟩, fun _ => rfl⟩
  refine ⟨PySem.W.fnOf "law" "law" (defArgs st_law) (defBody st_law) (defScope st_law) .none kV_law dc_law pm_law an_law cd_law ct_law, fun s v => .of_eq rfl, fun base _ _ TBl TBf TBp => ?_⟩
  have g_parts := (ok_parts_of (P := l.prog) (w := w) (base := base) (k := 0) D_parts_of m_len)
  have g_with := (ok_with_parts (P := l.prog) (w := w) (base := base) (k := 0) D_with_parts m_len)
  have g_lc := all_lc (kc := 1) D_leaves_changed g_with g_parts m_tuple m_len 41
  have g_wh := ok_with_holes (k := 0) (kc := 1) D_with_holes g_lc C_SAFE_DEPTH
  have g_pl := (ok_places_of (P := l.prog) (w := w) (base := base) (k := 0) D_places_of m_list m_reversed)
  have g_ti := ok_takes_in (k := 1) D_takes_in g_pl m_len
  have g_wb := ok_with_bodies (P := l.prog) (w := w) (base := base) (k := 0) (kc := 46) D_with_bodies m_tuple
  have g_lw := ok_lifted_with (k := 0) (P0 := Pl) D_lifted_with TBl g_wb g_ti g_wh m_tuple m_range
  have g_wf := ok_with_hole_filled (k := 0) (P0 := Pf) D_with_hole_filled TBf g_wb g_wh
  have g_lifted := ok_lifted (k := 51) D_lifted g_lw
  have g_opened := (ok_opened (P := l.prog) (w := w) (base := base) (k := 0) D_opened m_tuple)
  have g_filled := ok_filled (k := 51) D_filled g_wf
  have d_cells := (ok_l_cells (P := l.prog) (w := w) (base := base) (k := 0) D_l_cells m_list)
  have d_draw := (ok_l_draw (P := l.prog) (w := w) (base := base) (k := 0) D_l_draw)
  have d_pick := ok_l_pick (k := 1) D_l_pick d_draw m_len
  have d_any := all_any (k := 2) D_l_any d_pick (d_draw.mono (by omega)) m_tuple m_range 4
  have d_pat := all_pattern (k := 1) D_l_pattern d_draw m_tuple m_range m_int 3
  have d_lot := ok_l_lot (k := 6) D_l_lot (d_draw.mono (by omega)) d_any (d_pat.mono (by omega)) (d_pick.mono (by omega)) m_tuple m_int m_range
  have d_takes := all_takes (P := l.prog) (w := w) (base := base) D_l_takes m_int m_sum 21
  have d_turned := all_turned (P := l.prog) (w := w) (base := base) (kc := 1) D_l_turned m_tuple m_int 13
  have d_lt := ok_l_lot_turned (k := 0) (kc := 1) D_l_lot_turned d_turned d_takes m_tuple m_sum
  have d_as := (ok_l_as_call (P := l.prog) (w := w) (base := base) (k := 0) D_l_as_call m_tuple m_range)
  obtain ⟨aC, cC, hC⟩ := has_callsD D_l_as_call d_as
  have d_put := ok_l_put (k := 0) (P0 := Pp) D_l_put TBp d_lt
  have d_right := ok_l_right (k := 0) (Pl := Pl) (Pf := Pf) (Pp := Pp) D_l_right g_filled.1 d_put g_lifted d_lt g_filled.2 m_repr cC hC
  exact (ok_law (k := 0) F_law (g_opened.mono (by omega)) g_lifted d_right (d_any.mono (by omega)) (d_lot.mono (by omega)) (d_cells.mono (by omega)) m_range m_enumerate m_list).mono (by omega)
theorem to_T {l : PySem.W.OpenLaw} {w : World} {K : PySem.W.Frag} {mg : Str → Option Value} {fa : Addr} (z : ∃ fd : FuncData, (∀ (s : Shared) (v : Value), BindsTo s fd ⟨[v], []⟩ [("_law_script", v)]) ∧ ∀ base : Heap, K.In base → base.Ns mainGlobals mg → LamX.TabB base mg 77 73 → LamX.TabB base mg 84 80 → LamX.TabB base mg 166 162 → FnD l.prog w K mg base 200 fa fd ["_law_script"] (sp_law 73 80 162)) :
    ∃ fd : FuncData, (∀ (s : Shared) (v : Value), BindsTo s fd ⟨[v], []⟩ [("_law_script", v)]) ∧ ∀ base : Heap, K.In base → base.Ns mainGlobals mg → (∀ p ∈ ([(77, 73, 2), (84, 80, 2), (166, 162, 2)] : TbL), LamX.TabB base mg p.1 p.2.1) → FnD l.prog w K mg base 200 fa fd ["_law_script"] (sp_law 73 80 162) := by
  obtain ⟨fd, h1, h2⟩ := z
  exact ⟨fd, h1, fun base b1 b2 b3 => h2 base b1 b2 (b3 (77, 73, 2) (by simp)) (b3 (84, 80, 2) (by simp)) (b3 (166, 162, 2) (by simp))⟩
end K22
open PySem PySem.W PyProof.Rows
set_option maxRecDepth 100000 in
set_option maxHeartbeats 0 in
theorem PySem.Challenge.cw_kindsbyworth_k22_lifted_and_filled_holds : PySem.Challenge.rw_kindsbyworth_k22_lifted_and_filled.Holds := by
  w_on; o_law; k_head; (case hw => w_witness2)
  k_fill
  refine DL.walkDT (l := PySem.Challenge.rw_kindsbyworth_k22_lifted_and_filled) (n := 63) (k := 200) (x := "_law_script") (sp := K22.sp_law 73 80 162) (T := [(77, 73, 2), (84, 80, 2), (166, 162, 2)]) rfl (by decide) rfl ⟨rfl, by decide, by decide⟩ (fun w h Y => ⟨PySem.W.km_in_of Y, fun p hp => ?hT⟩) (fun w p hp => ?nT) ?F (fun ns h => ⟨⟨rfl, rfl, rfl⟩, ns, rfl, h, fun _ => rfl⟩)
  case hT =>
    rcases List.mem_cons.mp hp with rfl | hp
    · exact PySem.W.km_tabs_of Y _ (by k_mem)
    · rcases List.mem_cons.mp hp with rfl | hp
      · exact PySem.W.km_tabs_of Y _ (by k_mem)
      · rw [List.mem_singleton] at hp
        subst hp
        exact PySem.W.km_tabs_of Y _ (by k_mem)
  case nT =>
    rcases List.mem_cons.mp hp with rfl | hp
    · exact ⟨by kernel_rfl, by kernel_rfl⟩
    · rcases List.mem_cons.mp hp with rfl | hp
      · exact ⟨by kernel_rfl, by kernel_rfl⟩
      · rw [List.mem_singleton] at hp
        subst hp
        exact ⟨by kernel_rfl, by kernel_rfl⟩
  case F =>
    intro w mg fa h KX G hmg
    refine' K22.to_T (K22.all_mk KX G hmg ?a_parts_of ?l_parts_of ?c_parts_of ?k_parts_of ?a_with_parts ?l_with_parts ?c_with_parts ?k_with_parts ?a_leaves_changed ?l_leaves_changed ?c_leaves_changed ?k_leaves_changed ?a_with_holes ?l_with_holes ?c_with_holes ?k_with_holes ?a_places_of ?l_places_of ?c_places_of ?k_places_of ?a_takes_in ?l_takes_in ?c_takes_in ?k_takes_in ?a_with_bodies ?l_with_bodies ?c_with_bodies ?k_with_bodies ?a_lifted_with ?l_lifted_with ?c_lifted_with ?k_lifted_with ?a_with_hole_filled ?l_with_hole_filled ?c_with_hole_filled ?k_with_hole_filled ?a_lifted ?l_lifted ?c_lifted ?k_lifted ?a_opened ?l_opened ?c_opened ?k_opened ?a_filled ?l_filled ?c_filled ?k_filled ?a_l_cells ?l_l_cells ?c_l_cells ?k_l_cells ?a_l_draw ?l_l_draw ?c_l_draw ?k_l_draw ?a_l_pick ?l_l_pick ?c_l_pick ?k_l_pick ?a_l_any ?l_l_any ?c_l_any ?k_l_any ?a_l_pattern ?l_l_pattern ?c_l_pattern ?k_l_pattern ?a_l_takes ?l_l_takes ?c_l_takes ?k_l_takes ?a_l_lot ?l_l_lot ?c_l_lot ?k_l_lot ?a_l_turned ?l_l_turned ?c_l_turned ?k_l_turned ?a_l_lot_turned ?l_l_lot_turned ?c_l_lot_turned ?k_l_lot_turned ?a_l_as_call ?l_l_as_call ?c_l_as_call ?k_l_as_call ?a_l_put ?l_l_put ?c_l_put ?k_l_put ?a_l_right ?l_l_right ?c_l_right ?k_l_right ?a_law ?l_law ?c_law ?k_law ?z_len ?z_tuple ?z_list ?z_reversed ?z_range ?z_int ?z_sum ?z_repr ?z_enumerate ?v_SAFE_DEPTH)
    (case a_parts_of => k_is); (case l_parts_of => k_is); (case c_parts_of => k_is); (case k_parts_of => k_is); (case a_with_parts => k_is); (case l_with_parts => k_is)
    (case c_with_parts => k_is); (case k_with_parts => k_is); (case a_leaves_changed => k_is); (case l_leaves_changed => k_is); (case c_leaves_changed => k_is); (case k_leaves_changed => k_is)
    (case a_with_holes => k_is); (case l_with_holes => k_is); (case c_with_holes => k_is); (case k_with_holes => k_is); (case a_places_of => k_is); (case l_places_of => k_is)
    (case c_places_of => k_is); (case k_places_of => k_is); (case a_takes_in => k_is); (case l_takes_in => k_is); (case c_takes_in => k_is); (case k_takes_in => k_is)
    (case a_with_bodies => k_is); (case l_with_bodies => k_is); (case c_with_bodies => k_is); (case k_with_bodies => k_is); (case a_lifted_with => k_is); (case l_lifted_with => k_is)
    (case c_lifted_with => k_is); (case k_lifted_with => k_is); (case a_with_hole_filled => k_is); (case l_with_hole_filled => k_is); (case c_with_hole_filled => k_is); (case k_with_hole_filled => k_is)
    (case a_lifted => k_is); (case l_lifted => k_is); (case c_lifted => k_is); (case k_lifted => k_is); (case a_opened => k_is); (case l_opened => k_is)
    (case c_opened => k_is); (case k_opened => k_is); (case a_filled => k_is); (case l_filled => k_is); (case c_filled => k_is); (case k_filled => k_is)
    (case a_l_cells => k_is); (case l_l_cells => k_is); (case c_l_cells => k_is); (case k_l_cells => k_is); (case a_l_draw => k_is); (case l_l_draw => k_is)
    (case c_l_draw => k_is); (case k_l_draw => k_is); (case a_l_pick => k_is); (case l_l_pick => k_is); (case c_l_pick => k_is); (case k_l_pick => k_is)
    (case a_l_any => k_is); (case l_l_any => k_is); (case c_l_any => k_is); (case k_l_any => k_is); (case a_l_pattern => k_is); (case l_l_pattern => k_is)
    (case c_l_pattern => k_is); (case k_l_pattern => k_is); (case a_l_takes => k_is); (case l_l_takes => k_is); (case c_l_takes => k_is); (case k_l_takes => k_is)
    (case a_l_lot => k_is); (case l_l_lot => k_is); (case c_l_lot => k_is); (case k_l_lot => k_is); (case a_l_turned => k_is); (case l_l_turned => k_is)
    (case c_l_turned => k_is); (case k_l_turned => k_is); (case a_l_lot_turned => k_is); (case l_l_lot_turned => k_is); (case c_l_lot_turned => k_is); (case k_l_lot_turned => k_is)
    (case a_l_as_call => k_is); (case l_l_as_call => k_is); (case c_l_as_call => k_is); (case k_l_as_call => k_is); (case a_l_put => k_is); (case l_l_put => k_is)
    (case c_l_put => k_is); (case k_l_put => k_is); (case a_l_right => k_is); (case l_l_right => k_is); (case c_l_right => k_is); (case k_l_right => k_is)
    (case a_law => k_is); (case l_law => k_is); (case c_law => k_is); (case k_law => k_is); (case z_len => k_is); (case z_tuple => k_is)
    (case z_list => k_is); (case z_reversed => k_is); (case z_range => k_is); (case z_int => k_is); (case z_sum => k_is); (case z_repr => k_is)
    (case z_enumerate => k_is); (case v_SAFE_DEPTH => k_is)
