import PyProof.Rows.All
import Wide.All
import OpenK.AllK
import Wide.FinOn
import HandS.ForMost
import HandS.IsInst
import HandS.TupAny
import HandS.TupMul
import HandS.Style
import HandS.NoneIn
import HandS.RevRange
import HandS.Rev
import HandS.TupLe
import PyProof.ReprReads
import PyProof.EqKinds
import PyProof.NeKinds
import HandS.RaiseMore
import PyProof.ReprBulk
import HandS.ReplaceLit
import HandS.CallLocal
import HandS.FStr
import HandS.StrMore
import PyProof.Rows.StrAscii
import PySem.Challenge.RW_kindsbyworth_k01_terms_of_anything
set_option Elab.async false
set_option linter.all false
set_option maxRecDepth 100000
set_option maxHeartbeats 4000000
namespace DM
open PySem PySem.Spec PyProof.Rows L2
open AutoSeq1 (wpAny_loadPart')
/-- list + list, whatever their slots -/
theorem add_any (l b : Addr) (xs ys : Array Value) (n m : Nat) (sl sl2 : Array (Option Value)) (hz : xs.size + ys.size ≤ sizeLine) :
    Meets (Builtin.«list.__add__» ⟨[.ref l, .ref b], []⟩) (fun _ R s => (s.heap.get? l = some ⟨.type "list", none, .seq xs n, sl⟩ ∧ s.heap.get? b = some ⟨.type "list", none, .seq ys m, sl2⟩) ∧
      R (.ok (.ret (Value.ref s.heap.objs.size))) { s with heap := s.heap.push { cls := Value.type "list", data := Data.seq (xs ++ ys) } }) :=
  .of_wp fun prog w A R s h => by
    obtain ⟨hp, g, d, tk, os⟩ := s
    obtain ⟨⟨h1, h2⟩, h⟩ := h
    have f1 := AutoSeq1.sub_list_list
    have f2 := AutoSeq1.sub_list_tuple
    wp_walk using wpAny_loadPart' h1, wpAny_loadPart' h2
    exact ⟨_, rfl, h⟩
theorem cat_any {prog : Program} {w : World} {A : Around} {E : Value → Shared → Prop} {s : Shared} {l b : Addr} {xs ys : Array Value} {n m : Nat} {sl sl2 : Array (Option Value)} {Q : Value → Shared → Prop}
    (h1 : s.heap.get? l = some ⟨.type "list", none, .seq xs n, sl⟩) (h2 : s.heap.get? b = some ⟨.type "list", none, .seq ys m, sl2⟩) (hz : xs.size + ys.size ≤ sizeLine)
    (h : Q (.ref s.heap.objs.size) { s with heap := s.heap.push { cls := .type "list", data := .seq (xs ++ ys) } }) : wpAny (model prog w) A (binaryOp .Add (.ref l) (.ref b)) Q E s :=
  concat_meets ⟨_, h1, rfl⟩ ⟨_, h2, rfl⟩ noFill_list_add seq_list_add F.slot_list_add F.entry_list_add (F.args_list_add_2 _ _) (add_any l b xs ys n m sl sl2 hz) ⟨⟨h1, h2⟩, h⟩
/-- list.extend(tuple), whatever the tuple's slots -/
theorem ext_tup (l b : Addr) (xs ys : Array Value) (n m : Nat) (dd : Option Addr) (sl : Array (Option Value)) (hl : ¬ (!xs.isEmpty && Builtin.List.listTooLong (xs.size + ys.size)) = true) (hx : xs.size ≤ sizeLine) (hz : xs.size + ys.size ≤ sizeLine + 1) :
    Meets (Builtin.«list.extend» ⟨[.ref l, .ref b], []⟩) (fun _ R s => (s.heap.get? l = some ⟨.type "list", none, .seq xs n, #[]⟩ ∧ s.heap.get? b = some ⟨.type "tuple", dd, .seq ys m, sl⟩) ∧
      R (.ok (.ret Value.none)) { s with heap := s.heap.update l (Obj.mapSeq fun x => x ++ ys) }) :=
  .of_wp fun prog w A R s h => by
    obtain ⟨hp, g, d, tk, os⟩ := s
    obtain ⟨⟨h1, h2⟩, h⟩ := h
    have f2 := AutoSeq1.sub_tuple_tuple
    have f3 := AutoSeq1.sub_list_list
    have f4 := AutoSeq1.sub_tuple_list
    have f5 := AutoSeq1.sub_list_tuple
    have hz' : (xs ++ ys).size ≤ sizeLine + 1 := by rw [Array.size_append]; exact hz
    wp_walk using (wpAny_updateSeq h1 rfl (hz := hx) (_hz' := hz')), wpAny_loadPart' h1, wpAny_loadPart' h2
    exact ⟨_, rfl, h⟩
/-! a dict beside a text -/
theorem dict_eq_str (l : Addr) (es : Array DictEntry) (n : Nat) (dd : Option Addr) (sl : Array (Option Value)) (b : Str) (u : Tok) :
    Meets (Builtin.«dict.__eq__» ⟨[.ref l, .str b u], []⟩) (fun _ R s => s.heap.get? l = some ⟨.type "dict", dd, .dict es n, sl⟩ ∧ R (.ok (.ret .notImplemented)) s) :=
  .of_wp fun prog w A R s h => by
    obtain ⟨hp, g, d, tk, os⟩ := s
    obtain ⟨hl, h⟩ := h
    have f1 := F.sub_str_dict
    wp_walk using wpAny_loadPart' hl
    exact ⟨_, rfl, h⟩
theorem str_eq_dict (b : Str) (u : Tok) (l : Addr) (es : Array DictEntry) (n : Nat) (dd : Option Addr) (sl : Array (Option Value)) :
    Meets (Builtin.«str.__eq__» ⟨[.str b u, .ref l], []⟩) (fun _ R s => s.heap.get? l = some ⟨.type "dict", dd, .dict es n, sl⟩ ∧ R (.ok (.ret .notImplemented)) s) :=
  .of_wp fun prog w A R s h => by
    obtain ⟨hp, g, d, tk, os⟩ := s
    obtain ⟨hl, h⟩ := h
    have f1 := F.sub_dict_str
    wp_walk using wpAny_loadPart' hl
    exact ⟨_, rfl, h⟩
section
open SeqAt
variable {A : Around} {s : Shared}
theorem rc_dict_str {l : Addr} {es : Array DictEntry} {n : Nat} {dd : Option Addr} {sl : Array (Option Value)} (b : Str) (u : Tok) (hl : s.heap.get? l = some ⟨.type "dict", dd, .dict es n, sl⟩) (hu : A.units < cLine) : RcAt A s (.ref l) (.str b u) false := fun prog w E Q h =>
  rc_eq_decline_or (k := false) ⟨_, hl, rfl⟩ (typeIs_str s b u) (by decide) F.sub_str_dict F.slot_dict_eq F.slot_str_eq_refl
    (fun _ hq => call_meets F.slot_dict_eq ⟨_, hl, rfl⟩ F.entry_dict_eq (F.args_dict_eq_2 _ _) (dict_eq_str l es n dd sl b u) ⟨hl, hq⟩)
    (fun _ hq => call_meets F.slot_str_eq_refl (typeIs_str s b u) F.entry_str_eq (F.args_str_eq_2 _ _) (str_eq_dict b u l es n dd sl) ⟨hl, hq⟩)
    (fun _ hq => wpAny_of_eq (rfl : isSame (.ref l) (.str b u) = pure false) hq) (.inr hu) h
theorem rc_str_dict {l : Addr} {es : Array DictEntry} {n : Nat} {dd : Option Addr} {sl : Array (Option Value)} (b : Str) (u : Tok) (hl : s.heap.get? l = some ⟨.type "dict", dd, .dict es n, sl⟩) (hu : A.units < cLine) : RcAt A s (.str b u) (.ref l) false := fun prog w E Q h =>
  rc_eq_decline_or (k := false) (typeIs_str s b u) ⟨_, hl, rfl⟩ (by decide) F.sub_dict_str F.slot_str_eq F.slot_dict_eq_refl
    (fun _ hq => call_meets F.slot_str_eq (typeIs_str s b u) F.entry_str_eq (F.args_str_eq_2 _ _) (str_eq_dict b u l es n dd sl) ⟨hl, hq⟩)
    (fun _ hq => call_meets F.slot_dict_eq_refl ⟨_, hl, rfl⟩ F.entry_dict_eq (F.args_dict_eq_2 _ _) (dict_eq_str l es n dd sl b u) ⟨hl, hq⟩)
    (fun _ hq => wpAny_of_eq (rfl : isSame (.str b u) (.ref l) = pure false) hq) (.inr hu) h
end
end DM
set_option Elab.async false
set_option linter.all false
set_option maxRecDepth 100000
/-! DL: the program's data as trees; readings without a heap but for lists that change. -/
namespace DL
open PySem PySem.Spec PyProof.Rows L2

/-- a value as a tree; ref: an object that may change, by its address -/
inductive D where
  | non | bl (b : Bool) | int (i : Int) | str (s : Str)
  | tup (xs : List D) | lst (xs : List D) | dic (kvs : List (Key × D)) | ref (a : Addr) | ty (n : String)

/-- a list that stays: left as it is, or the module's own -/
def SqF (K : PySem.W.Frag) (H : Hp) (a : Addr) (vs : List V) : Prop :=
  (∃ o, H a = some (.frz o (.lst vs))) ∨ ∃ (o : Obj) (its : Array Value) (n : Nat), K.lookup a = some o ∧ o.cls = .type "list" ∧ o.dict = none ∧ o.data = .seq its n ∧ its.size ≤ sizeLine ∧ Vals vs its.toList
theorem SqF.sq {K : PySem.W.Frag} {H : Hp} {a : Addr} {vs : List V} (h : SqF K H a vs) : SqL K H a vs := h.elim (fun ⟨o, e⟩ => .inl (.inr ⟨o, e⟩)) .inr
section
variable (K : PySem.W.Frag) (H : Hp)
mutual
def Rp : D → V → Prop
  | .non, v => v = .non
  | .bl b, v => v = .bl b
  | .int i, v => v = .int i
  | .str s, v => v = .str s
  | .ref a, v => v = .ref a
  | .ty n, v => v = .ty n
  | .tup ds, v => ∃ a vs, v = .ref a ∧ SqT K H a vs ∧ RpA ds vs
  | .lst ds, v => ∃ a vs, v = .ref a ∧ SqF K H a vs ∧ RpA ds vs
  | .dic kvs, v => ∃ a o ws, v = .ref a ∧ H a = some (.frz o (.dK ws)) ∧ RpK kvs ws
def RpA : List D → List V → Prop
  | [], vs => vs = []
  | d :: ds, vs => ∃ v ws, vs = v :: ws ∧ Rp d v ∧ RpA ds ws
def RpK : List (Key × D) → List (Key × V) → Prop
  | [], ws => ws = []
  | (k, d) :: r, ws => ∃ v ws', ws = (k, v) :: ws' ∧ Rp d v ∧ RpK r ws'
end
end

/-- what may not change stands -/
structure Ext (H H' : Hp) : Prop where
  t : ∀ a xs, H a = some (.tup xs) → H' a = some (.tup xs)
  f : ∀ a o u, H a = some (.frz o u) → H' a = some (.frz o u)
theorem Ext.refl (H : Hp) : Ext H H := ⟨fun _ _ h => h, fun _ _ _ h => h⟩
theorem Ext.trans {H H1 H2 : Hp} (a : Ext H H1) (b : Ext H1 H2) : Ext H H2 := ⟨fun c o h => b.t c o (a.t c o h), fun c o u h => b.f c o u (a.f c o u h)⟩
theorem Ext.new {H : Hp} {p : Addr} {o : HO} (h : H p = none) : Ext H (upd H p o) :=
  ⟨fun a xs e => by rw [upd_ne (ne_of_none e h)]; exact e, fun a u x e => by rw [upd_ne (ne_of_none e h)]; exact e⟩
theorem Ext.mut {H : Hp} {a : Addr} {o : HO} {u : HO} (h : H a = some u) (h1 : ∀ xs, u ≠ .tup xs) (h2 : ∀ o w, u ≠ .frz o w) : Ext H (upd H a o) :=
  ⟨fun b xs e => by rw [upd_ne (fun z => by subst z; rw [h] at e; exact h1 _ (Option.some.inj e))]; exact e,
   fun b w x e => by rw [upd_ne (fun z => by subst z; rw [h] at e; exact h2 _ _ (Option.some.inj e))]; exact e⟩
theorem Ext.mutL {H : Hp} {a : Addr} {o : HO} {vs : List V} (h : H a = some (.lst vs)) : Ext H (upd H a o) := .mut h (fun _ z => by cases z) (fun _ _ z => by cases z)
theorem Ext.sqT {K : PySem.W.Frag} {H H' : Hp} {a : Addr} {xs : List V} (e : Ext H H') (h : SqT K H a xs) : SqT K H' a xs := by
  rcases h with (h | ⟨o, h⟩) | h
  · exact .inl (.inl (e.t _ _ h))
  · exact .inl (.inr ⟨o, e.f _ _ _ h⟩)
  · exact .inr h
theorem Ext.sqF {K : PySem.W.Frag} {H H' : Hp} {a : Addr} {xs : List V} (e : Ext H H') (h : SqF K H a xs) : SqF K H' a xs := h.elim (fun ⟨o, q⟩ => .inl ⟨o, e.f _ _ _ q⟩) .inr
section
variable {K : PySem.W.Frag} {H H' : Hp}
mutual
theorem Rp.ext (e : Ext H H') : ∀ {d : D} {v : V}, Rp K H d v → Rp K H' d v
  | .non, _, h => h
  | .bl _, _, h => h
  | .int _, _, h => h
  | .str _, _, h => h
  | .ref _, _, h => h
  | .ty _, _, h => h
  | .tup _, _, ⟨a, vs, h1, h2, h3⟩ => ⟨a, vs, h1, e.sqT h2, RpA.ext e h3⟩
  | .lst _, _, ⟨a, vs, h1, h2, h3⟩ => ⟨a, vs, h1, e.sqF h2, RpA.ext e h3⟩
  | .dic _, _, ⟨a, o, vs, h1, h2, h3⟩ => ⟨a, o, vs, h1, e.f _ _ _ h2, RpK.ext e h3⟩
theorem RpA.ext (e : Ext H H') : ∀ {ds : List D} {vs : List V}, RpA K H ds vs → RpA K H' ds vs
  | [], _, h => h
  | _ :: _, _, ⟨v, ws, h1, h2, h3⟩ => ⟨v, ws, h1, Rp.ext e h2, RpA.ext e h3⟩
theorem RpK.ext (e : Ext H H') : ∀ {ds : List (Key × D)} {vs : List (Key × V)}, RpK K H ds vs → RpK K H' ds vs
  | [], _, h => h
  | _ :: _, _, ⟨v, ws, h1, h2, h3⟩ => ⟨v, ws, h1, Rp.ext e h2, RpK.ext e h3⟩
end
theorem RpA.length : ∀ {ds : List D} {vs : List V}, RpA K H ds vs → vs.length = ds.length
  | [], _, h => by cases h; rfl
  | _ :: _, _, ⟨v, ws, h1, _, h3⟩ => by subst h1; simp [RpA.length h3]
theorem RpA.get : ∀ {ds : List D} {vs : List V} {i : Nat} {d : D}, RpA K H ds vs → ds[i]? = some d → ∃ v, vs[i]? = some v ∧ Rp K H d v
  | [], _, _, _, _, e => by simp at e
  | _ :: _, _, 0, _, ⟨v, ws, h1, h2, h3⟩, e => by subst h1; simp at e; subst e; exact ⟨v, rfl, h2⟩
  | _ :: _, _, i + 1, _, ⟨v, ws, h1, h2, h3⟩, e => by
    subst h1
    obtain ⟨x, a, b⟩ := RpA.get (i := i) h3 (by simpa using e)
    exact ⟨x, by simpa using a, b⟩
theorem RpA.append : ∀ {ds es : List D} {vs ws : List V}, RpA K H ds vs → RpA K H es ws → RpA K H (ds ++ es) (vs ++ ws)
  | [], _, _, _, h, h' => by cases h; exact h'
  | _ :: _, _, _, _, ⟨v, us, h1, h2, h3⟩, h' => by subst h1; exact ⟨v, _, rfl, h2, RpA.append h3 h'⟩
theorem RpA.take : ∀ {ds : List D} {vs : List V} (n : Nat), RpA K H ds vs → RpA K H (ds.take n) (vs.take n)
  | _, _, 0, _ => by simp [RpA]
  | [], _, n + 1, h => by cases h; simp [RpA]
  | _ :: _, _, n + 1, ⟨v, us, h1, h2, h3⟩ => by subst h1; exact ⟨v, _, rfl, h2, RpA.take n h3⟩
theorem RpA.drop : ∀ {ds : List D} {vs : List V} (n : Nat), RpA K H ds vs → RpA K H (ds.drop n) (vs.drop n)
  | _, _, 0, h => by simpa using h
  | [], _, n + 1, h => by cases h; simp [RpA]
  | _ :: _, _, n + 1, ⟨v, us, h1, h2, h3⟩ => by subst h1; simpa using RpA.drop n h3
theorem RpA.set : ∀ {ds : List D} {vs : List V} (i : Nat) {d : D} {v : V}, RpA K H ds vs → Rp K H d v → RpA K H (ds.set i d) (vs.set i v)
  | [], _, _, _, _, h, _ => by cases h; simp [RpA]
  | _ :: _, _, 0, _, _, ⟨v, us, h1, h2, h3⟩, r => by subst h1; exact ⟨_, _, rfl, r, h3⟩
  | _ :: _, _, i + 1, _, _, ⟨v, us, h1, h2, h3⟩, r => by subst h1; exact ⟨_, _, rfl, h2, RpA.set i h3 r⟩
theorem RpA.rev : ∀ {ds : List D} {vs : List V}, RpA K H ds vs → RpA K H ds.reverse vs.reverse
  | [], _, h => by cases h; simp [RpA]
  | _ :: _, _, ⟨v, us, h1, h2, h3⟩ => by subst h1; simp only [List.reverse_cons]; exact RpA.append (RpA.rev h3) ⟨_, _, rfl, h2, rfl⟩
theorem RpA.dropLast {ds : List D} {vs : List V} (h : RpA K H ds vs) : RpA K H ds.dropLast vs.dropLast := by
  rw [List.dropLast_eq_take, List.dropLast_eq_take, h.length]; exact h.take _
theorem RpA.single {d : D} {v : V} (h : Rp K H d v) : RpA K H [d] [v] := ⟨v, [], rfl, h, rfl⟩
theorem RpA.strs : ∀ {ds : List Str} {vs : List V}, RpA K H (ds.map D.str) vs → vs = ds.map V.str
  | [], _, h => h
  | _ :: _, _, ⟨v, us, h1, h2, h3⟩ => by subst h1; cases h2; simp [RpA.strs h3]
theorem RpA.ints : ∀ {ds : List Int} {vs : List V}, RpA K H (ds.map D.int) vs → vs = ds.map V.int
  | [], _, h => h
  | _ :: _, _, ⟨v, us, h1, h2, h3⟩ => by subst h1; cases h2; simp [RpA.ints h3]
theorem RpA.bls : ∀ {ds : List Bool} {vs : List V}, RpA K H (ds.map D.bl) vs → vs = ds.map V.bl
  | [], _, h => h
  | _ :: _, _, ⟨v, us, h1, h2, h3⟩ => by subst h1; cases h2; simp [RpA.bls h3]
theorem RpA.of_strs : ∀ (ds : List Str), RpA K H (ds.map D.str) (ds.map V.str)
  | [] => rfl
  | _ :: r => ⟨_, _, rfl, rfl, RpA.of_strs r⟩
theorem RpA.of_ints : ∀ (ds : List Int), RpA K H (ds.map D.int) (ds.map V.int)
  | [] => rfl
  | _ :: r => ⟨_, _, rfl, rfl, RpA.of_ints r⟩
end

/-! ### the store of what changes -/
inductive SO where
  | lst (xs : List D)
  | dic (kvs : List (Key × D))
abbrev Sto := Addr → Option SO
def sup (S : Sto) (a : Addr) (o : SO) : Sto := fun b => if b = a then some o else S b
theorem sup_same {S : Sto} {a : Addr} {o : SO} : sup S a o a = some o := by unfold sup; rw [if_pos rfl]
theorem sup_ne {S : Sto} {a b : Addr} {o : SO} (h : b ≠ a) : sup S a o b = S b := by unfold sup; rw [if_neg h]
theorem sup_sup {S : Sto} {a : Addr} {o u : SO} : sup (sup S a o) a u = sup S a u := by
  funext b; unfold sup; split <;> rfl
def SRo (K : PySem.W.Frag) (H : Hp) (a : Addr) : SO → Prop
  | .lst ds => ∃ vs, H a = some (.lst vs) ∧ RpA K H ds vs
  | .dic kvs => ∃ ws, H a = some (.dK ws) ∧ RpK K H kvs ws
def SR (K : PySem.W.Frag) (H : Hp) (S : Sto) : Prop := ∀ a o, S a = some o → SRo K H a o
section
variable {K : PySem.W.Frag} {H H' : Hp} {S : Sto} {a p : Addr}
theorem SR.none (h : SR K H S) (e : H p = Option.none) : S p = Option.none := by
  cases q : S p with
  | none => rfl
  | some o =>
    cases o with
    | lst ds => obtain ⟨vs, h1, _⟩ := h p _ q; rw [e] at h1; cases h1
    | dic ds => obtain ⟨vs, h1, _⟩ := h p _ q; rw [e] at h1; cases h1
theorem SR.lst (h : SR K H S) {ds : List D} (e : S a = some (.lst ds)) : ∃ vs, H a = some (.lst vs) ∧ RpA K H ds vs := h a _ e
theorem SR.new {o : HO} (h : SR K H S) (e : H p = Option.none) : SR K (upd H p o) S := fun b u q => by
  cases u with
  | lst ds =>
    obtain ⟨vs, h1, h2⟩ := h b _ q
    exact ⟨vs, by rw [upd_ne (ne_of_none h1 e)]; exact h1, h2.ext (.new e)⟩
  | dic ds =>
    obtain ⟨vs, h1, h2⟩ := h b _ q
    exact ⟨vs, by rw [upd_ne (ne_of_none h1 e)]; exact h1, h2.ext (.new e)⟩
theorem SR.add {ds : List D} {vs : List V} (h : SR K H S) (e : H p = Option.none) (r : RpA K H ds vs) : SR K (upd H p (.lst vs)) (sup S p (.lst ds)) := fun b u q => by
  by_cases hb : b = p
  · subst hb; rw [sup_same] at q; cases q; exact ⟨vs, upd_same, r.ext (.new e)⟩
  · rw [sup_ne hb] at q; exact (h.new e) b u q
theorem SR.mut {ds ds' : List D} {vs : List V} (h : SR K H S) (e : S a = some (.lst ds')) (r : RpA K H ds vs) : SR K (upd H a (.lst vs)) (sup S a (.lst ds)) := fun b u q => by
  obtain ⟨ws, h1, _⟩ := h.lst e
  by_cases hb : b = a
  · subst hb; rw [sup_same] at q; cases q; exact ⟨vs, upd_same, r.ext (.mutL h1)⟩
  · rw [sup_ne hb] at q
    cases u with
    | lst es =>
      obtain ⟨xs, h3, h4⟩ := h b _ q
      exact ⟨xs, by rw [upd_ne hb]; exact h3, h4.ext (.mutL h1)⟩
    | dic es =>
      obtain ⟨xs, h3, h4⟩ := h b _ q
      exact ⟨xs, by rw [upd_ne hb]; exact h3, h4.ext (.mutL h1)⟩
end

/-! ### slots -/
abbrev DSt := List (Option D)
def RS (K : PySem.W.Frag) (H : Hp) (σ : L2.St) (δ : DSt) : Prop := σ.length = δ.length ∧ ∀ (i : Nat) (d : D), δ[i]? = some (some d) → ∃ v, σ[i]? = some (some v) ∧ Rp K H d v
section
variable {K : PySem.W.Frag} {H H' : Hp} {σ : L2.St} {δ : DSt}
theorem RS.ext (h : RS K H σ δ) (e : Ext H H') : RS K H' σ δ := ⟨h.1, fun i d q => let ⟨v, a, b⟩ := h.2 i d q; ⟨v, a, b.ext e⟩⟩
theorem RS.set {i : Nat} {d : D} {v : V} (h : RS K H σ δ) (r : Rp K H d v) : RS K H (σ.set i (some v)) (δ.set i (some d)) := by
  refine ⟨by simp [h.1], fun j e q => ?_⟩
  by_cases hj : i = j
  · subst hj
    by_cases hl : i < δ.length
    · rw [List.getElem?_set_self hl] at q
      rw [List.getElem?_set_self (by rw [h.1]; exact hl)]
      cases q
      exact ⟨v, rfl, r⟩
    · rw [List.getElem?_eq_none (by simp; omega)] at q; cases q
  · rw [List.getElem?_set_ne hj] at q ⊢
    exact h.2 j e q
theorem RS.start {N : List Str} : ∀ {ds : List D} {vs : List V}, RpA K H ds vs → RS K H (start N vs) (ds.map some ++ List.replicate (N.length - ds.length) none) := by
  intro ds vs r
  have hl := r.length
  refine ⟨by unfold L2.start; simp [hl], fun i d q => ?_⟩
  have hi : i < ds.length := by
    by_cases hi : i < ds.length
    · exact hi
    · rw [List.getElem?_append_right (by simpa using hi), List.getElem?_replicate] at q
      split at q <;> cases q
  rw [List.getElem?_append_left (by simpa using hi), List.getElem?_map] at q
  cases e : ds[i]? with
  | none => rw [e] at q; cases q
  | some x =>
    rw [e] at q; cases q
    obtain ⟨v, h1, h2⟩ := r.get e
    refine ⟨v, ?_, h2⟩
    unfold L2.start
    rw [List.getElem?_append_left (by simpa [hl] using hi), List.getElem?_map, h1]
    rfl
end

/-! ### readings -/
abbrev DK := D → Sto → Prop
abbrev DE := DSt → Sto → DK → Prop
abbrev DT := DSt → Sto → (Bool → Sto → Prop) → Prop
abbrev DA := DSt → Sto → (List D → Sto → Prop) → Prop
structure DEnds where
  nx : DSt → Sto → Prop
  rt : DK
  bk : DSt → Sto → Prop := fun _ _ => False
  ct : DSt → Sto → Prop := fun _ _ => False
abbrev DS := DEnds → DSt → Sto → Prop

/-- what comes behind, in trees -/
def Fin (K : PySem.W.Frag) (H : Hp) (P : DK) (Q : VK) : Prop := ∀ d S' v H', P d S' → Rp K H' d v → SR K H' S' → Ext H H' → Q v H'
def lE (K : PySem.W.Frag) (t : DE) : TE := fun σ H Q => ∃ δ S P, RS K H σ δ ∧ SR K H S ∧ t δ S P ∧ Fin K H P Q
def lT (K : PySem.W.Frag) (t : DT) : TT := fun σ H Q => ∃ δ S P, RS K H σ δ ∧ SR K H S ∧ t δ S P ∧ ∀ b S' H', P b S' → SR K H' S' → Ext H H' → Q b H'
def lA (K : PySem.W.Frag) (t : DA) : TA := fun σ H Q => ∃ δ S P, RS K H σ δ ∧ SR K H S ∧ t δ S P ∧ ∀ ds S' vs H', P ds S' → RpA K H' ds vs → SR K H' S' → Ext H H' → Q vs H'
def NxF (K : PySem.W.Frag) (H : Hp) (P : DSt → Sto → Prop) (Q : L2.St → Hp → Prop) : Prop := ∀ δ S' σ H', P δ S' → RS K H' σ δ → SR K H' S' → Ext H H' → Q σ H'
structure EndF (K : PySem.W.Frag) (H : Hp) (P : DEnds) (D : Ends) : Prop where
  nx : NxF K H P.nx D.nx
  rt : Fin K H P.rt D.rt
  bk : NxF K H P.bk D.bk
  ct : NxF K H P.ct D.ct
def lS (K : PySem.W.Frag) (t : DS) : TS := fun D σ H => ∃ δ S P, RS K H σ δ ∧ SR K H S ∧ t P δ S ∧ EndF K H P D
theorem Fin.ext {K : PySem.W.Frag} {H H' : Hp} {P : DK} {Q : VK} (h : Fin K H P Q) (e : Ext H H') : Fin K H' P Q := fun d S v H2 p r s x => h d S v H2 p r s (e.trans x)
theorem NxF.ext {K : PySem.W.Frag} {H H' : Hp} {P : DSt → Sto → Prop} {Q : L2.St → Hp → Prop} (h : NxF K H P Q) (e : Ext H H') : NxF K H' P Q := fun d S v H2 p r s x => h d S v H2 p r s (e.trans x)
theorem EndF.ext {K : PySem.W.Frag} {H H' : Hp} {P : DEnds} {D : Ends} (h : EndF K H P D) (e : Ext H H') : EndF K H' P D := ⟨h.nx.ext e, h.rt.ext e, h.bk.ext e, h.ct.ext e⟩

/-! ### weaker readings -/
section
variable {X : Cx}
theorem PE.imp {e : Expr} {t t' : TE} (h : L2.PE X e t) (f : ∀ σ H Q, t' σ H Q → t σ H Q) : L2.PE X e t' := ⟨fun pins s σ H Q I q => h.run pins s σ H Q I (f _ _ _ q)⟩
theorem PT.imp {e : Expr} {t t' : TT} (h : L2.PT X e t) (f : ∀ σ H Q, t' σ H Q → t σ H Q) : L2.PT X e t' := ⟨fun pins s σ H Q I q => h.run pins s σ H Q I (f _ _ _ q)⟩
theorem PW.imp {e : Expr} {t t' : TT} (h : L2.PW X e t) (f : ∀ σ H Q, t' σ H Q → t σ H Q) : L2.PW X e t' := ⟨fun wh pins s σ H Q I q => h.run wh pins s σ H Q I (f _ _ _ q)⟩
theorem PA.imp {e : List Expr} {t t' : TA} (h : L2.PA X e t) (f : ∀ σ H Q, t' σ H Q → t σ H Q) : L2.PA X e t' := ⟨fun pos pins s σ H Q I q => h.run pos pins s σ H Q I (f _ _ _ q)⟩
theorem PS.imp {e : Stmt} {t t' : TS} (h : L2.PS X e t) (f : ∀ D σ H, t' D σ H → t D σ H) : L2.PS X e t' := ⟨fun pins s σ H D I q => h.run pins s σ H D I (f _ _ _ q)⟩
theorem PSs.imp {e : List Stmt} {t t' : TS} (h : L2.PSs X e t) (f : ∀ D σ H, t' D σ H → t D σ H) : L2.PSs X e t' := ⟨fun pins s σ H D I q => h.run pins s σ H D I (f _ _ _ q)⟩
end

/-! ### judgements over trees -/
abbrev QE (X : Cx) (e : Expr) (t : DE) : Prop := L2.PE X e (lE X.K t)
abbrev QT (X : Cx) (e : Expr) (t : DT) : Prop := L2.PT X e (lT X.K t)
abbrev QW (X : Cx) (e : Expr) (t : DT) : Prop := L2.PW X e (lT X.K t)
abbrev QA (X : Cx) (e : List Expr) (t : DA) : Prop := L2.PA X e (lA X.K t)
abbrev QS (X : Cx) (e : Stmt) (t : DS) : Prop := L2.PS X e (lS X.K t)
abbrev QSs (X : Cx) (e : List Stmt) (t : DS) : Prop := L2.PSs X e (lS X.K t)
end DL
set_option Elab.async false
set_option linter.all false
set_option maxRecDepth 100000
set_option maxHeartbeats 1000000
namespace DL
open PySem PySem.Spec PyProof.Rows L2

/-! ### operations by trees -/
abbrev DR := D → D → Sto → DK → Prop
def l2 (K : PySem.W.Frag) (r : DR) : R2 := fun x y H Q => ∃ d e S P, Rp K H d x ∧ Rp K H e y ∧ SR K H S ∧ r d e S P ∧ Fin K H P Q
abbrev OpD (X : Cx) (f : Value → Value → Sem Value) (r : DR) : Prop := OpR X f (l2 X.K r)
theorem OpR.imp {X : Cx} {f : Value → Value → Sem Value} {r r' : R2} (h : OpR X f r) (g : ∀ x y H Q, r' x y H Q → r x y H Q) : OpR X f r' := fun pins s σ H x y v u Q I a b q => h pins s σ H x y v u Q I a b (g _ _ _ _ q)
def l1 (K : PySem.W.Frag) (r : D → Sto → DK → Prop) : V → Hp → VK → Prop := fun x H Q => ∃ d S P, Rp K H d x ∧ SR K H S ∧ r d S P ∧ Fin K H P Q
abbrev UnD (X : Cx) (f : Value → Sem Value) (r : D → Sto → DK → Prop) : Prop := UnR X f (l1 X.K r)
theorem UnR.imp {X : Cx} {f : Value → Sem Value} {r r' : V → Hp → VK → Prop} (h : UnR X f r) (g : ∀ x H Q, r' x H Q → r x H Q) : UnR X f r' := fun pins s σ H x v Q I a q => h pins s σ H x v Q I a (g _ _ _ q)
def lC (K : PySem.W.Frag) (r : List D → Sto → DK → Prop) : List V → Hp → VK → Prop := fun xs H Q => ∃ ds S P, RpA K H ds xs ∧ SR K H S ∧ r ds S P ∧ Fin K H P Q
abbrev CallD (X : Cx) (f : Value) (r : List D → Sto → DK → Prop) : Prop := CallR X f (lC X.K r)
theorem CallR.imp {X : Cx} {f : Value} {r r' : List V → Hp → VK → Prop} (h : CallR X f r) (g : ∀ x H Q, r' x H Q → r x H Q) : CallR X f r' := fun pins s σ H xs us Q I a q => h pins s σ H xs us Q I a (g _ _ _ q)
def lM (K : PySem.W.Frag) (r : D → List D → Sto → DK → Prop) : V → List V → Hp → VK → Prop := fun x xs H Q => ∃ d ds S P, Rp K H d x ∧ RpA K H ds xs ∧ SR K H S ∧ r d ds S P ∧ Fin K H P Q
abbrev MtD (X : Cx) (id : String) (r : D → List D → Sto → DK → Prop) : Prop := MtR X id (lM X.K r)
theorem MtR.imp {X : Cx} {id : String} {r r' : V → List V → Hp → VK → Prop} (h : MtR X id r) (g : ∀ x xs H Q, r' x xs H Q → r x xs H Q) : MtR X id r' := fun pins s σ H x xs v us Q I a b q => h pins s σ H x xs v us Q I a b (g _ _ _ _ q)
abbrev IxD (X : Cx) (r : DR) : Prop := IxR X (l2 X.K r)
theorem IxR.imp {X : Cx} {r r' : R2} (h : IxR X r) (g : ∀ x y H Q, r' x y H Q → r x y H Q) : IxR X r' := fun a b pins s σ H x y v u Q I c d q => h a b pins s σ H x y v u Q I c d (g _ _ _ _ q)
def lSl (K : PySem.W.Frag) (r : D → Option Int → Option Int → Sto → DK → Prop) : V → Option Int → Option Int → Hp → VK → Prop := fun x lo hi H Q => ∃ d S P, Rp K H d x ∧ SR K H S ∧ r d lo hi S P ∧ Fin K H P Q
abbrev SlD (X : Cx) (r : D → Option Int → Option Int → Sto → DK → Prop) : Prop := SlR X (lSl X.K r)
theorem SlR.imp {X : Cx} {r r' : V → Option Int → Option Int → Hp → VK → Prop} (h : SlR X r) (g : ∀ x lo hi H Q, r' x lo hi H Q → r x lo hi H Q) : SlR X r' := fun pins s σ H x v vl vu lo hi sl Q I a b c d q => h pins s σ H x v vl vu lo hi sl Q I a b c d (g _ _ _ _ _ q)

/-- the i-th slot -/
def slot : DSt → Nat → Option D
  | [], _ => none
  | x :: _, 0 => x
  | _ :: r, i + 1 => slot r i
theorem slot_get : ∀ {δ : DSt} {i : Nat} {d : D}, slot δ i = some d → δ[i]? = some (some d)
  | _ :: _, 0, _, h => by simp only [slot] at h; subst h; rfl
  | _ :: r, i + 1, _, h => by simp only [slot] at h; simpa using slot_get (δ := r) h
def dVar (i : Nat) : DE := fun δ S P => (slot δ i).elim False fun d => P d S
def dC (d : D) : DE := fun _ S P => P d S
def dOp (r : DR) (ta tb : DE) : DE := fun δ S P => ta δ S fun d S1 => tb δ S1 fun e S2 => r d e S2 P
def dUn (r : D → Sto → DK → Prop) (ta : DE) : DE := fun δ S P => ta δ S fun d S1 => r d S1 P
/-- a truth as it is -/
def asB : D → (Bool → Prop) → Prop
  | .bl b, f => f b
  | _, _ => False
theorem asB_of {d : D} {f : Bool → Prop} (h : asB d f) : ∃ b, d = .bl b ∧ f b := by
  cases d <;> first | exact ⟨_, rfl, h⟩ | exact h.elim
def dTest (t : DE) : DT := fun δ S P => t δ S fun d S1 => asB d fun b => P b S1
def dChain (r r' : DR) (ta tb tc : DE) : DE := fun δ S P => ta δ S fun d S1 => tb δ S1 fun e S2 => r d e S2 fun z S3 => asB z fun k => bif k then tc δ S3 fun f S4 => r' e f S4 P else P (.bl false) S3
def dAnd (t u : DT) : DT := fun δ S P => t δ S fun c S1 => bif c then u δ S1 P else P false S1
def dOr (t u : DT) : DT := fun δ S P => t δ S fun c S1 => bif c then P true S1 else u δ S1 P
def dNot (t : DT) : DT := fun δ S P => t δ S fun c S1 => P (!c) S1
def dAndV (ta tb : DE) : DE := fun δ S P => ta δ S fun x S1 => asB x fun c => bif c then tb δ S1 P else P (.bl false) S1
def dOrV (ta tb : DE) : DE := fun δ S P => ta δ S fun x S1 => asB x fun c => bif c then P (.bl true) S1 else tb δ S1 P
def dNotV (ta : DE) : DE := fun δ S P => ta δ S fun x S1 => asB x fun c => P (.bl (!c)) S1
def dIf (t : DT) (ta tb : DE) : DE := fun δ S P => t δ S fun c S1 => bif c then ta δ S1 P else tb δ S1 P
def dNil : DA := fun _ S P => P [] S
def dCons (ta : DE) (tr : DA) : DA := fun δ S P => ta δ S fun d S1 => tr δ S1 fun ds S2 => P (d :: ds) S2
def dTup (t : DA) : DE := fun δ S P => t δ S fun ds S1 => ds.length ≤ sizeLine ∧ P (.tup ds) S1
def dLst (t : DA) : DE := fun δ S P => t δ S fun ds S1 => ds.length ≤ sizeLine ∧ P (.lst ds) S1
def dLstM (t : DA) : DE := fun δ S P => t δ S fun ds S1 => ds.length ≤ sizeLine ∧ ∀ p, S1 p = none → P (.ref p) (sup S1 p (.lst ds))

theorem bif_if {c : Bool} {A B : Prop} : (bif c then A else B) = (if c = true then A else B) := by cases c <;> rfl

section
variable {X : Cx} {pins : List (Addr × Obj)} {σ : L2.St} {H : Hp} {s : Shared}
/-- a list is left as it is from here on -/
theorem Inv.freeze {a : Addr} {u : HO} (I : L2.Inv X pins σ H s) (h : H a = some u) (n1 : ∀ xs, u ≠ .tup xs) (n2 : ∀ o w, u ≠ .frz o w) (n3 : ∀ ps, u ≠ .tbl ps) (n4 : ∀ x, u ≠ .own x) :
    ∃ o, s.heap.get? a = some o ∧ L2.Inv X pins σ (upd H a (.frz o u)) s := by
  have ok := I.hok a u h
  obtain ⟨o, ho⟩ : ∃ o, s.heap.get? a = some o := by
    have := ok.lt
    cases e : s.heap.get? a with
    | some o => exact ⟨o, rfl⟩
    | none =>
      cases u with
      | lst xs => obtain ⟨_, _, _, _, q⟩ := ok; rw [e] at q; cases q
      | tup xs => exact absurd rfl (n1 _)
      | dK kvs => obtain ⟨_, _, _, _, _, _, _, q, _⟩ := ok; rw [e] at q; cases q
      | dT kvs => obtain ⟨_, _, _, _, _, _, _, q, _⟩ := ok; rw [e] at q; cases q
      | set S n => obtain ⟨_, _, _, _, q, _⟩ := ok; rw [e] at q; cases q
      | ins C dx fs => obtain ⟨_, _, _, q, _⟩ := ok; rw [e] at q; cases q
      | own y => exact absurd rfl (n4 _)
      | xd fs => obtain ⟨_, ⟨_, _, _, q, _⟩, _⟩ := ok; rw [e] at q; cases q
      | rng lo hi => obtain ⟨_, _, _, q⟩ := ok; rw [e] at q; cases q
      | frz ob w => exact absurd rfl (n2 _ _)
      | tbl ps => exact absurd rfl (n3 _)
      | met f y => have q : s.heap.get? a = some _ := ok; rw [e] at q; cases q
      | ext φ => obtain ⟨_, ⟨_, q⟩, _⟩ := ok; rw [e] at q; cases q
  refine ⟨o, ho, ⟨I.ok, I.os, I.bare, ⟨I.base.keep, I.base.slot, fun b ob q n hx => ?_, I.base.there, fun b xs q => ?_, fun b ob w q => ?_, fun b ps q => ?_⟩, I.loc, I.cell, ?_, fun x c q => ?_, fun p hp => ?_, fun b w q => ?_, I.len⟩⟩
  · have z := I.base.free b ob q n hx
    rw [upd_ne (fun e => by subst e; rw [h] at z; cases z)]; exact z
  · have z := I.base.tups b xs q
    rw [upd_ne (fun e => by subst e; rw [h] at z; exact n1 _ (Option.some.inj z))]; exact z
  · have z := I.base.frzs b ob w q
    rw [upd_ne (fun e => by subst e; rw [h] at z; exact n2 _ _ (Option.some.inj z))]; exact z
  · obtain ⟨more, z⟩ := I.base.tbls b ps q
    exact ⟨more, by rw [upd_ne (fun e => by subst e; rw [h] at z; exact n3 _ (Option.some.inj z))]; exact z⟩
  · rw [upd_ne (fun e => by have z := I.free; rw [e, h] at z; cases z)]; exact I.free
  · rw [upd_ne (fun e => by have z := I.freeC x c q; rw [e, h] at z; cases z)]; exact I.freeC x c q
  · obtain ⟨a1, a2, a3⟩ := I.pin p hp
    exact ⟨a1, by rw [upd_ne (fun e => by rw [e, h] at a2; cases a2)]; exact a2, a3⟩
  · have own : ∀ c x, H c = some (.own x) → upd H a (.frz o u) c = some (.own x) := fun c x z => by
      rw [upd_ne (fun e => by subst e; rw [h] at z; exact n4 _ (Option.some.inj z))]; exact z
    have tup : ∀ c x, H c = some (.tup x) → upd H a (.frz o u) c = some (.tup x) := fun c x z => by
      rw [upd_ne (fun e => by subst e; rw [h] at z; exact n1 _ (Option.some.inj z))]; exact z
    by_cases hb : b = a
    · subst hb
      rw [upd_same] at q; cases q
      exact ⟨ho, ok.stay (fun _ _ _ q => q) (fun c q => own c _ q) tup⟩
    · rw [upd_ne hb] at q
      exact (I.hok b w q).stay (fun _ _ _ q => q) (fun c q => own c _ q) tup
theorem freezeL {a : Addr} {xs : List V} (I : L2.Inv X pins σ H s) (h : H a = some (.lst xs)) : ∃ o, L2.Inv X pins σ (upd H a (.frz o (.lst xs))) s := by
  obtain ⟨o, _, J⟩ := Inv.freeze I h (fun _ z => by cases z) (fun _ _ z => by cases z) (fun _ z => by cases z) (fun _ z => by cases z)
  exact ⟨o, J⟩
theorem freezeD {a : Addr} {xs : List (Key × V)} (I : L2.Inv X pins σ H s) (h : H a = some (.dK xs)) : ∃ o, L2.Inv X pins σ (upd H a (.frz o (.dK xs))) s := by
  obtain ⟨o, _, J⟩ := Inv.freeze I h (fun _ z => by cases z) (fun _ _ z => by cases z) (fun _ z => by cases z) (fun _ z => by cases z)
  exact ⟨o, J⟩
end

section
variable {X : Cx} {a b c e : Expr} {es : List Expr} {ta tb tc te : DE} {pos : Pos}
theorem q_var (i : Nat) {x : Str} (hN : X.N[i]? = some x := by rfl) (hv : Vis X.env.scope x := by first | exact Or.inl rfl | exact Or.inr (Or.inl rfl) | exact Or.inr (Or.inr rfl)) (hd : (x == ("__debug__" : Str)) = false := by decide)
    (hcd : (x == ("__classdict__" : Str)) = false := by decide) : QE X (.Name x pos) (dVar i) :=
  PE.imp (pe_var hN hv hd hcd) fun σ H Q ⟨δ, S, P, rs, sr, h, fin⟩ => by
    unfold dVar at h
    cases q : slot δ i with
    | none => rw [q] at h; exact h.elim
    | some d =>
      rw [q] at h
      obtain ⟨v, e, r⟩ := rs.2 i d (slot_get q)
      exact ⟨v, e, fin d S v H h r sr (.refl H)⟩
theorem qC {d : D} {v : V} (h : L2.PE X e (tC v)) (r : ∀ H, Rp X.K H d v) : QE X e (dC d) := PE.imp h fun σ H Q ⟨δ, S, P, rs, sr, q, fin⟩ => fin d S v H q (r H) sr (.refl H)
theorem q_int {i : Int} {j pos} : QE X (.Constant (.int i) j pos) (dC (.int i)) := qC pe_int fun _ => rfl
theorem q_bl {b j pos} : QE X (.Constant (.bool b) j pos) (dC (.bl b)) := qC pe_bl fun _ => rfl
theorem q_non {j pos} : QE X (.Constant .none j pos) (dC .non) := qC pe_non fun _ => rfl
theorem q_str {x j pos} : QE X (.Constant (.str x) j pos) (dC (.str x)) := qC pe_str fun _ => rfl
/-- a module's constant -/
theorem q_glob {x : Str} {d : D} {v : V} {u : Value} (hg : Gl X x) (hm : X.mg x = some u) (r : RelV v u) (rp : ∀ H, Rp X.K H d v) (hd : (x == ("__debug__" : Str)) = false := by decide) : QE X (.Name x pos) (dC d) := qC (pe_glob hg hm r hd) rp
theorem q_ty {x : Str} {n : String} (hg : Gl X x) (hm : X.mg x = none) (hv : bootBuiltins x = some (.type n)) (hn : x ≠ "__name__" := by decide) (hd : (x == ("__debug__" : Str)) = false := by decide) : QE X (.Name x pos) (dC (.ty n)) := qC (pe_bltn (v := .ty n) hg hm hv rfl hn hd) fun _ => rfl
theorem l2_of {ta tb : DE} {r : DR} {σ : L2.St} {H : Hp} {Q : VK} (h : lE X.K (dOp r ta tb) σ H Q) : lE X.K ta σ H fun x H1 => lE X.K tb σ H1 fun y H2 => l2 X.K r x y H2 Q := by
  obtain ⟨δ, S, P, rs, sr, h, fin⟩ := h
  exact ⟨δ, S, _, rs, sr, h, fun d S1 x H1 h1 r1 s1 e1 => ⟨δ, S1, _, rs.ext e1, s1, h1, fun d2 S2 y H2 h2 r2 s2 e2 => ⟨d, d2, S2, P, r1.ext e2, r2, s2, h2, fin.ext (e1.trans e2)⟩⟩⟩
theorem q_op {op : Operator} {r : DR} (ho : OpD X (binaryOp op) r) (ha : QE X a ta) (hb : QE X b tb) : QE X (.BinOp a op b pos) (dOp r ta tb) := PE.imp (pe_op ho ha hb) fun σ H Q h => l2_of h
theorem q_cmp {op : CmpOp} {r : DR} (ho : OpD X (compareOp op) r) (ha : QE X a ta) (hb : QE X b tb) (hm : behindInMarks op b = false := by first | exact nobehind _ (by decide) (by decide) | rfl) : QE X (.Compare a [op] [b] pos) (dOp r ta tb) := PE.imp (pe_cmpR ho ha hb hm) fun σ H Q h => l2_of h
theorem lT_of_test {t : DE} {σ : L2.St} {H : Hp} {Q : Bool → Hp → Prop} (h : lT X.K (dTest t) σ H Q) : lE X.K t σ H fun x H' => ∃ k, x = .bl k ∧ Q k H' := by
  obtain ⟨δ, S, P, rs, sr, h, fin⟩ := h
  refine ⟨δ, S, _, rs, sr, h, fun d S1 x H1 h1 r1 s1 e1 => ?_⟩
  obtain ⟨k, rfl, q⟩ := asB_of h1
  exact ⟨k, r1, fin k S1 H1 q s1 e1⟩
theorem t_cmp {op : CmpOp} {r : DR} (ho : OpD X (compareOp op) r) (ha : QE X a ta) (hb : QE X b tb) (hm : behindInMarks op b = false := by first | exact nobehind _ (by decide) (by decide) | rfl) : QT X (.Compare a [op] [b] pos) (dTest (dOp r ta tb)) :=
  PT.imp (pt_cmpR ho ha hb hm) fun σ H Q h => by
    obtain ⟨δ, S, P, rs, sr, h, fin⟩ := lT_of_test h
    exact l2_of ⟨δ, S, P, rs, sr, h, fin⟩
theorem l2_chain {r r' : DR} {σ : L2.St} {H : Hp} {Q : VK} (h : lE X.K (dChain r r' ta tb tc) σ H Q) : tChain (l2 X.K r) (l2 X.K r') (lE X.K ta) (lE X.K tb) (lE X.K tc) σ H Q := by
  obtain ⟨δ, S, P, rs, sr, h, fin⟩ := h
  refine ⟨δ, S, _, rs, sr, h, fun d S1 x H1 h1 r1 s1 e1 => ⟨δ, S1, _, rs.ext e1, s1, h1, fun d2 S2 y H2 h2 r2 s2 e2 => ⟨d, d2, S2, _, r1.ext e2, r2, s2, h2, fun z S3 v H3 h3 r3 s3 e3 => ?_⟩⟩⟩
  obtain ⟨k, rfl, q⟩ := asB_of h3
  refine ⟨k, r3, ?_⟩
  rw [bif_if] at q
  have e := e1.trans (e2.trans e3)
  split
  · rename_i hk
    rw [if_pos hk] at q
    exact ⟨δ, S3, _, rs.ext e, s3, q, fun f S4 w H4 h4 r4 s4 e4 => ⟨d2, f, S4, P, r2.ext (e3.trans e4), r4, s4, h4, fin.ext (e.trans e4)⟩⟩
  · rename_i hk
    rw [if_neg hk] at q
    exact fin _ S3 _ H3 q rfl s3 e
theorem q_chain {op op' : CmpOp} {r r' : DR} (ho : OpD X (compareOp op) r) (ho' : OpD X (compareOp op') r') (ha : QE X a ta) (hb : QE X b tb) (hc : QE X c tc)
    (hm : lastMarks [op, op'] [b, c] = false := by with_unfolding_all rfl) : QE X (.Compare a [op, op'] [b, c] pos) (dChain r r' ta tb tc) := PE.imp (pe_chain ho ho' ha hb hc hm) fun σ H Q h => l2_chain h
theorem t_chain {op op' : CmpOp} {r r' : DR} (ho : OpD X (compareOp op) r) (ho' : OpD X (compareOp op') r') (ha : QE X a ta) (hb : QE X b tb) (hc : QE X c tc)
    (hm : lastMarks [op, op'] [b, c] = false := by with_unfolding_all rfl) : QT X (.Compare a [op, op'] [b, c] pos) (dTest (dChain r r' ta tb tc)) := PT.imp (pt_chain ho ho' ha hb hc hm) fun σ H Q h => l2_chain (lT_of_test h)
/-- a truth as a test -/
theorem t_val (h : QE X e te) (he : ∀ whole, isTrue e X.env whole = (do let v ← whole; standAt e.pos; holding [v] (truthy v)) := by intro _; rfl) : QT X e (dTest te) := PT.imp (pt_val h he) fun σ H Q h => lT_of_test h
variable {tA tB' : DT} {rest : List Expr}
theorem w_and1 (ha : QT X a tA) : QW X (.BoolOp .And [a] pos) tA := pw_and1 ha
theorem w_or1 (ha : QT X a tA) : QW X (.BoolOp .Or [a] pos) tA := pw_or1 ha
theorem w_and (ha : QT X a tA) (hb : QW X (.BoolOp .And (b :: rest) pos) tB') : QW X (.BoolOp .And (a :: b :: rest) pos) (dAnd tA tB') :=
  PW.imp (pw_and ha hb) fun σ H Q ⟨δ, S, P, rs, sr, h, fin⟩ => ⟨δ, S, _, rs, sr, h, fun c S1 H1 h1 s1 e1 => by
    rw [bif_if] at h1
    split
    · rename_i hc; rw [if_pos hc] at h1; exact ⟨δ, S1, P, rs.ext e1, s1, h1, fun b S2 H2 h2 s2 e2 => fin b S2 H2 h2 s2 (e1.trans e2)⟩
    · rename_i hc; rw [if_neg hc] at h1; exact fin _ S1 H1 h1 s1 e1⟩
theorem w_or (ha : QT X a tA) (hb : QW X (.BoolOp .Or (b :: rest) pos) tB') : QW X (.BoolOp .Or (a :: b :: rest) pos) (dOr tA tB') :=
  PW.imp (pw_or ha hb) fun σ H Q ⟨δ, S, P, rs, sr, h, fin⟩ => ⟨δ, S, _, rs, sr, h, fun c S1 H1 h1 s1 e1 => by
    rw [bif_if] at h1
    split
    · rename_i hc; rw [if_pos hc] at h1; exact fin _ S1 H1 h1 s1 e1
    · rename_i hc; rw [if_neg hc] at h1; exact ⟨δ, S1, P, rs.ext e1, s1, h1, fun b S2 H2 h2 s2 e2 => fin b S2 H2 h2 s2 (e1.trans e2)⟩⟩
theorem t_w (h : QW X e tA) : QT X e tA := h.pt
theorem t_not (ha : QT X a tA) : QT X (.UnaryOp .Not a pos) (dNot tA) := PT.imp (pt_not ha) fun σ H Q ⟨δ, S, P, rs, sr, h, fin⟩ => ⟨δ, S, _, rs, sr, h, fun c S1 H1 h1 s1 e1 => fin _ S1 H1 h1 s1 e1⟩
theorem q_one {op} (h : QE X a ta) : QE X (.BoolOp op [a] pos) ta := pe_one h
theorem q_and (ha : QE X a ta) (hb : QE X (.BoolOp .And (b :: rest) pos) tb) : QE X (.BoolOp .And (a :: b :: rest) pos) (dAndV ta tb) :=
  PE.imp (pe_and ha hb) fun σ H Q ⟨δ, S, P, rs, sr, h, fin⟩ => ⟨δ, S, _, rs, sr, h, fun x S1 v H1 h1 r1 s1 e1 => by
    obtain ⟨k, rfl, q⟩ := asB_of h1
    rw [bif_if] at q
    refine ⟨k, r1, ?_⟩
    split
    · rename_i hc; rw [if_pos hc] at q; exact ⟨δ, S1, P, rs.ext e1, s1, q, fin.ext e1⟩
    · rename_i hc; rw [if_neg hc] at q; exact fin _ S1 _ H1 q rfl s1 e1⟩
theorem q_or (ha : QE X a ta) (hb : QE X (.BoolOp .Or (b :: rest) pos) tb) : QE X (.BoolOp .Or (a :: b :: rest) pos) (dOrV ta tb) :=
  PE.imp (pe_or ha hb) fun σ H Q ⟨δ, S, P, rs, sr, h, fin⟩ => ⟨δ, S, _, rs, sr, h, fun x S1 v H1 h1 r1 s1 e1 => by
    obtain ⟨k, rfl, q⟩ := asB_of h1
    rw [bif_if] at q
    refine ⟨k, r1, ?_⟩
    split
    · rename_i hc; rw [if_pos hc] at q; exact fin _ S1 _ H1 q rfl s1 e1
    · rename_i hc; rw [if_neg hc] at q; exact ⟨δ, S1, P, rs.ext e1, s1, q, fin.ext e1⟩⟩
theorem q_not (ha : QE X a ta) : QE X (.UnaryOp .Not a pos) (dNotV ta) :=
  PE.imp (pe_not ha) fun σ H Q ⟨δ, S, P, rs, sr, h, fin⟩ => ⟨δ, S, _, rs, sr, h, fun x S1 v H1 h1 r1 s1 e1 => by
    obtain ⟨k, rfl, q⟩ := asB_of h1
    exact ⟨k, r1, fin _ S1 _ H1 q rfl s1 e1⟩⟩
theorem q_ifExp (hc : QT X c tA) (ha : QE X a ta) (hb : QE X b tb) : QE X (.IfExp c a b pos) (dIf tA ta tb) :=
  PE.imp (pe_ifExp hc ha hb) fun σ H Q ⟨δ, S, P, rs, sr, h, fin⟩ => ⟨δ, S, _, rs, sr, h, fun k S1 H1 q s1 e1 => by
    rw [bif_if] at q
    split
    · rename_i hc; rw [if_pos hc] at q; exact ⟨δ, S1, P, rs.ext e1, s1, q, fin.ext e1⟩
    · rename_i hc; rw [if_neg hc] at q; exact ⟨δ, S1, P, rs.ext e1, s1, q, fin.ext e1⟩⟩
theorem q_un {op : UnaryOp} {r : D → Sto → DK → Prop} (ho : UnD X (unaryOp op) r) (ha : QE X a ta) : QE X (.UnaryOp op a pos) (dUn r ta) :=
  PE.imp (pe_un ho ha) fun σ H Q ⟨δ, S, P, rs, sr, h, fin⟩ => ⟨δ, S, _, rs, sr, h, fun d S1 x H1 h1 r1 s1 e1 => ⟨d, S1, P, r1, s1, h1, fin.ext e1⟩⟩
/-! arguments, displays -/
variable {t : DA}
theorem a_nil : QA X [] dNil := PA.imp pa_nil fun σ H Q ⟨δ, S, P, rs, sr, h, fin⟩ => fin [] S [] H h rfl sr (.refl H)
theorem a_cons (ha : QE X e te) (hr : QA X es t) (hs : starEach (e :: es) X.env = (false, eval e X.env) :: starEach es X.env := by rfl) : QA X (e :: es) (dCons te t) :=
  PA.imp (pa_cons ha hr hs) fun σ H Q ⟨δ, S, P, rs, sr, h, fin⟩ => ⟨δ, S, _, rs, sr, h, fun d S1 v H1 h1 r1 s1 e1 => ⟨δ, S1, _, rs.ext e1, s1, h1, fun ds S2 vs H2 h2 r2 s2 e2 => fin _ S2 _ H2 h2 ⟨v, vs, rfl, r1.ext e2, r2⟩ s2 (e1.trans e2)⟩⟩
theorem q_tup {x1} (h : QA X es t) : QE X (.Tuple es x1 pos) (dTup t) :=
  PE.imp (pe_tup h) fun σ H Q ⟨δ, S, P, rs, sr, h, fin⟩ => ⟨δ, S, _, rs, sr, h, fun ds S1 vs H1 ⟨h0, h1⟩ r1 s1 e1 => ⟨by rw [r1.length]; exact h0, fun p np => fin _ S1 _ _ h1 ⟨p, vs, rfl, .of upd_same, r1.ext (.new np)⟩ (s1.new np) (e1.trans (.new np))⟩⟩
theorem q_lstM (h : QA X es t) : QE X (.List es pos) (dLstM t) :=
  PE.imp (pe_lst h) fun σ H Q ⟨δ, S, P, rs, sr, h, fin⟩ => ⟨δ, S, _, rs, sr, h, fun ds S1 vs H1 ⟨h0, h1⟩ r1 s1 e1 => ⟨by rw [r1.length]; exact h0, fun p np => fin _ _ _ _ (h1 p (s1.none np)) rfl (s1.add np r1) (e1.trans (.new np))⟩⟩
/-- a value that is a new list, kept as it is -/
def tFrz (t : TE) : TE := fun σ H Q => t σ H fun v H1 => ∃ a xs, v = .ref a ∧ H1 a = some (.lst xs) ∧ ∀ o, Q v (upd H1 a (.frz o (.lst xs)))
theorem pe_frz {t : TE} (h : L2.PE X e t) : L2.PE X e (tFrz t) := ⟨fun pins s σ H Q I q => thn (h.run pins s σ H _ I q) fun v s1 ⟨x, H1, I1, r1, a, xs, e1, h1, q1⟩ => by
  obtain ⟨o, J⟩ := freezeL I1 h1
  exact ⟨x, _, J, r1, q1 o⟩⟩
theorem Ext.frz {H : Hp} {p : Addr} {o : Obj} {u w : HO} (h : H p = none) : Ext H (upd (upd H p u) p (.frz o w)) := by rw [upd_upd]; exact .new h
theorem q_lst (h : QA X es t) : QE X (.List es pos) (dLst t) :=
  PE.imp (pe_frz (pe_lst h)) fun σ H Q ⟨δ, S, P, rs, sr, h, fin⟩ => ⟨δ, S, _, rs, sr, h, fun ds S1 vs H1 ⟨h0, h1⟩ r1 s1 e1 => ⟨by rw [r1.length]; exact h0, fun p np => ⟨p, vs, rfl, upd_same, fun o => by
    rw [upd_upd]
    exact fin _ S1 _ _ h1 ⟨p, vs, rfl, .inl ⟨o, upd_same⟩, r1.ext (.new np)⟩ (s1.new np) (e1.trans (.new np))⟩⟩⟩
end

/-! ### subscripts, slices, calls, methods -/
section
variable {X : Cx} {a b c e o : Expr} {es : List Expr} {ta tb tc te to : DE} {t : DA} {pos apos cpos : Pos}
theorem q_ix {r : DR} (hr : IxD X r) (ha : QE X a ta) (hb : QE X b tb) (hs : PlainIx b := by exact fun _ _ => rfl) : QE X (.Subscript a b pos) (dOp r ta tb) := PE.imp (pe_ix hr ha hb hs) fun σ H Q h => l2_of h
abbrev DO := DSt → Sto → (Option Int → Sto → Prop) → Prop
def lO (K : PySem.W.Frag) (t : DO) : TO := fun σ H Q => ∃ δ S P, RS K H σ δ ∧ SR K H S ∧ t δ S P ∧ ∀ i S' H', P i S' → SR K H' S' → Ext H H' → Q i H'
theorem PO.imp {e : Option Expr} {t t' : TO} (h : L2.PO X e t) (f : ∀ σ H Q, t' σ H Q → t σ H Q) : L2.PO X e t' := ⟨fun pins s σ H Q I q => h.run pins s σ H Q I (f _ _ _ q)⟩
abbrev QO (X : Cx) (e : Option Expr) (t : DO) : Prop := L2.PO X e (lO X.K t)
def asI : D → (Int → Prop) → Prop
  | .int i, f => f i
  | _, _ => False
theorem asI_of {d : D} {f : Int → Prop} (h : asI d f) : ∃ b, d = .int b ∧ f b := by
  cases d <;> first | exact ⟨_, rfl, h⟩ | exact h.elim
def dNoPart : DO := fun _ S P => P none S
def dPart (t : DE) : DO := fun δ S P => t δ S fun d S1 => asI d fun i => P (some i) S1
theorem o_none : QO X none dNoPart := PO.imp po_none fun σ H Q ⟨δ, S, P, rs, sr, h, fin⟩ => fin _ S H h sr (.refl H)
theorem o_some (h : QE X e te) : QO X (some e) (dPart te) := PO.imp (po_some h) fun σ H Q ⟨δ, S, P, rs, sr, h, fin⟩ => ⟨δ, S, _, rs, sr, h, fun d S1 v H1 h1 r1 s1 e1 => by
  obtain ⟨i, rfl, q⟩ := asI_of h1
  exact ⟨i, r1, fin _ S1 H1 q s1 e1⟩⟩
def dSl (r : D → Option Int → Option Int → Sto → DK → Prop) (te : DE) (tl th : DO) : DE := fun δ S P => te δ S fun d S1 => tl δ S1 fun lo S2 => th δ S2 fun hi S3 => r d lo hi S3 P
theorem q_slice {lo hi : Option Expr} {p2 : Pos} {tl th : DO} {r : D → Option Int → Option Int → Sto → DK → Prop} (hr : SlD X r) (he : QE X e te) (hl : QO X lo tl) (hu : QO X hi th) : QE X (.Subscript e (.Slice lo hi none p2) pos) (dSl r te tl th) :=
  PE.imp (pe_slice hr he hl hu) fun σ H Q ⟨δ, S, P, rs, sr, h, fin⟩ => ⟨δ, S, _, rs, sr, h, fun d S1 v H1 h1 r1 s1 e1 => ⟨δ, S1, _, rs.ext e1, s1, h1, fun i S2 H2 h2 s2 e2 => ⟨δ, S2, _, rs.ext (e1.trans e2), s2, h2, fun j S3 H3 h3 s3 e3 =>
    ⟨d, S3, P, r1.ext (e2.trans e3), s3, h3, fin.ext (e1.trans (e2.trans e3))⟩⟩⟩⟩
def dCB (r : List D → Sto → DK → Prop) (t : DA) : DE := fun δ S P => t δ S fun ds S1 => r ds S1 P
theorem lC_of {r : List D → Sto → DK → Prop} {σ : L2.St} {H : Hp} {Q : VK} (h : lE X.K (dCB r t) σ H Q) : lA X.K t σ H fun vs H1 => lC X.K r vs H1 Q := by
  obtain ⟨δ, S, P, rs, sr, h, fin⟩ := h
  exact ⟨δ, S, _, rs, sr, h, fun ds S1 vs H1 h1 r1 s1 e1 => ⟨ds, S1, P, r1, s1, h1, fin.ext e1⟩⟩
theorem q_callB {x : Str} {id : String} {p : Pos} {r : List D → Sto → DK → Prop} (hc : CallD X (.builtin id) r) (hg : Gl X x) (hm : X.mg x = none) (hv : bootBuiltins x = some (.builtin id)) (ha : QA X (e :: es) t) (hn : x ≠ "__name__" := by decide) (hdb : (x == ("__debug__" : Str)) = false := by decide)
    (he : starEach (e :: es) X.env = (false, eval e X.env) :: starEach es X.env := by rfl) (hpl : (backTo pos (starEach es X.env)).any (·.1) = false := by rfl) : QE X (.Call (.Name x p) (e :: es) [] pos) (dCB r t) :=
  PE.imp (pe_callB hc hg hm hv ha hn hdb he hpl) fun σ H Q h => lC_of h
theorem q_callTy {x : Str} {T : String} {p : Pos} {r : List D → Sto → DK → Prop} (hc : CallD X (.type T) r) (hg : Gl X x) (hm : X.mg x = none) (hv : bootBuiltins x = some (.type T)) (ha : QA X (e :: es) t) (hn : x ≠ "__name__" := by decide) (hdb : (x == ("__debug__" : Str)) = false := by decide)
    (he : starEach (e :: es) X.env = (false, eval e X.env) :: starEach es X.env := by rfl) (hpl : (backTo pos (starEach es X.env)).any (·.1) = false := by rfl) : QE X (.Call (.Name x p) (e :: es) [] pos) (dCB r t) :=
  PE.imp (pe_callTy hc hg hm hv ha hn hdb he hpl) fun σ H Q h => lC_of h
/-- a method of a list that may change -/
def dMtL (r : D → List D → Sto → DK → Prop) (to : DE) (t : DA) : DE := fun δ S P => to δ S fun d S1 => (∃ a xs, d = .ref a ∧ S1 a = some (.lst xs)) ∧ t δ S1 fun ds S2 => r d ds S2 P
def dMt0 (r : D → List D → Sto → DK → Prop) (to : DE) : DE := fun δ S P => to δ S fun d S1 => (∃ a xs, d = .ref a ∧ S1 a = some (.lst xs)) ∧ r d [] S1 P
theorem q_mtL {id : String} {name : Str} {r : D → List D → Sto → DK → Prop} (slot : Slot "list" name id) (hty : typeOf (.builtin id) = pure (.type "method_descriptor")) (hm : MtD X id r) (ho : QE X o to) (ha : QA X (e :: es) t)
    (hbase : attributeBase o name X.env (eval o X.env) = eval o X.env := by rfl)
    (hfew : ((backTo cpos (starEach (e :: es) X.env)).all (fun x => !x.1) && (backToKw cpos (keywordEach [] X.env)).all (fun x => x.1.isSome)
      && decide ((e :: es).length + ([] : List Keyword).length + (if ([] : List Keyword).isEmpty then 0 else 1) < 30)) = true := by rfl)
    (hline : (apos.endLine == cpos.line) = true := by rfl) (hs : starEach (e :: es) X.env = (false, eval e X.env) :: starEach es X.env := by rfl) (hplain : (backTo cpos (starEach es X.env)).any (·.1) = false := by rfl) :
    QE X (.Call (.Attribute o name apos) (e :: es) [] cpos) (dMtL r to t) :=
  PE.imp (pe_bm PySem.F.plainAttrs_list slot hty hm ho ha hbase hfew hline hs hplain) fun σ H Q ⟨δ, S, P, rs, sr, h, fin⟩ => ⟨δ, S, _, rs, sr, h, fun d S1 v H1 ⟨⟨p, xs, e0, h0⟩, h1⟩ r1 s1 e1 => by
    subst e0
    cases r1
    obtain ⟨vs, hv, _⟩ := s1.lst h0
    exact ⟨.inl ⟨rfl, vs, .of hv⟩, δ, S1, _, rs.ext e1, s1, h1, fun ds S2 ws H2 h2 r2 s2 e2 => ⟨.ref p, ds, S2, P, rfl, r2, s2, h2, fin.ext (e1.trans e2)⟩⟩⟩
theorem q_mtL0 {id : String} {name : Str} {r : D → List D → Sto → DK → Prop} (slot : Slot "list" name id) (hty : typeOf (.builtin id) = pure (.type "method_descriptor")) (hm : MtD X id r) (ho : QE X o to)
    (hbase : attributeBase o name X.env (eval o X.env) = eval o X.env := by rfl) (hline : (apos.endLine == cpos.line) = true := by rfl) : QE X (.Call (.Attribute o name apos) [] [] cpos) (dMt0 r to) :=
  PE.imp (pe_bm0 PySem.F.plainAttrs_list slot hty hm ho hbase hline) fun σ H Q ⟨δ, S, P, rs, sr, h, fin⟩ => ⟨δ, S, _, rs, sr, h, fun d S1 v H1 ⟨⟨p, xs, e0, h0⟩, h1⟩ r1 s1 e1 => by
    subst e0
    cases r1
    obtain ⟨vs, hv, _⟩ := s1.lst h0
    exact ⟨.inl ⟨rfl, vs, .of hv⟩, .ref p, [], S1, P, rfl, rfl, s1, h1, fin.ext e1⟩⟩
/-- a method of a text -/
def asS : D → (Str → Prop) → Prop
  | .str z, f => f z
  | _, _ => False
theorem asS_of {d : D} {f : Str → Prop} (h : asS d f) : ∃ b, d = .str b ∧ f b := by
  cases d <;> first | exact ⟨_, rfl, h⟩ | exact h.elim
def dMtS (r : D → List D → Sto → DK → Prop) (to : DE) (t : DA) : DE := fun δ S P => to δ S fun d S1 => asS d fun _ => t δ S1 fun ds S2 => r d ds S2 P
def dMtS0 (r : D → List D → Sto → DK → Prop) (to : DE) : DE := fun δ S P => to δ S fun d S1 => asS d fun _ => r d [] S1 P
theorem q_mtS {id : String} {name : Str} {r : D → List D → Sto → DK → Prop} (slot : Slot "str" name id) (hty : typeOf (.builtin id) = pure (.type "method_descriptor")) (hm : MtD X id r) (ho : QE X o to) (ha : QA X (e :: es) t)
    (hbase : attributeBase o name X.env (eval o X.env) = eval o X.env := by rfl)
    (hfew : ((backTo cpos (starEach (e :: es) X.env)).all (fun x => !x.1) && (backToKw cpos (keywordEach [] X.env)).all (fun x => x.1.isSome)
      && decide ((e :: es).length + ([] : List Keyword).length + (if ([] : List Keyword).isEmpty then 0 else 1) < 30)) = true := by rfl)
    (hline : (apos.endLine == cpos.line) = true := by rfl) (hs : starEach (e :: es) X.env = (false, eval e X.env) :: starEach es X.env := by rfl) (hplain : (backTo cpos (starEach es X.env)).any (·.1) = false := by rfl) :
    QE X (.Call (.Attribute o name apos) (e :: es) [] cpos) (dMtS r to t) :=
  PE.imp (pe_bm PySem.F.plainAttrs_str slot hty hm ho ha hbase hfew hline hs hplain) fun σ H Q ⟨δ, S, P, rs, sr, h, fin⟩ => ⟨δ, S, _, rs, sr, h, fun d S1 v H1 h1 r1 s1 e1 => by
    obtain ⟨z, rfl, h1⟩ := asS_of h1
    cases r1
    exact ⟨rfl, δ, S1, _, rs.ext e1, s1, h1, fun ds S2 ws H2 h2 r2 s2 e2 => ⟨.str z, ds, S2, P, rfl, r2, s2, h2, fin.ext (e1.trans e2)⟩⟩⟩
theorem q_mtS0 {id : String} {name : Str} {r : D → List D → Sto → DK → Prop} (slot : Slot "str" name id) (hty : typeOf (.builtin id) = pure (.type "method_descriptor")) (hm : MtD X id r) (ho : QE X o to)
    (hbase : attributeBase o name X.env (eval o X.env) = eval o X.env := by rfl) (hline : (apos.endLine == cpos.line) = true := by rfl) : QE X (.Call (.Attribute o name apos) [] [] cpos) (dMtS0 r to) :=
  PE.imp (pe_bm0 PySem.F.plainAttrs_str slot hty hm ho hbase hline) fun σ H Q ⟨δ, S, P, rs, sr, h, fin⟩ => ⟨δ, S, _, rs, sr, h, fun d S1 v H1 h1 r1 s1 e1 => by
    obtain ⟨z, rfl, h1⟩ := asS_of h1
    cases r1
    exact ⟨rfl, .str z, [], S1, P, rfl, rfl, s1, h1, fin.ext e1⟩⟩
end

/-! ### defs -/
abbrev DSp := List D → Sto → DK → Prop
section
variable {X : Cx} {CX : CXT} {k : Nat} {f : Addr} {fd : FuncData} {ps : List Str} {sp : DSp} {E : XK} {x : Str} {p pos : Pos} {e : Expr} {es : List Expr} {t : DA}
/-- a def keeps its promise, told in trees; no repr is under way -/
structure FnD (P : Program) (w : World) (K : PySem.W.Frag) (mg : Str → Option Value) (base : Heap) (k : Nat) (f : Addr) (fd : FuncData) (ps : List Str) (sp : DSp) : Prop where
  len : ∀ ds S P', sp ds S P' → ds.length = ps.length
  run : ∀ (A : Around) (outer : List Env) (s : Shared) (H : Hp) (args : Args) (us : List Value) (vs : List V) (Q : VK), Room k A → A.guards = some [] → Env0 P w K mg base A outer s H → BindsTo s fd args (ps.zip us) → Vals vs us →
    (∃ ds S P', RpA K H ds vs ∧ SR K H S ∧ sp ds S P' ∧ Fin K H P' Q) → codeAny (model P w) A (.call (.ref f) args) (CR CX0 outer P w H s Q E0) s
theorem FnD.mono {P : Program} {w : World} {K : PySem.W.Frag} {mg : Str → Option Value} {base : Heap} {j k : Nat} {f : Addr} {fd : FuncData} {ps : List Str} {sp : DSp} (F : FnD P w K mg base j f fd ps sp) (h : j ≤ k) : FnD P w K mg base k f fd ps sp :=
  ⟨F.len, fun A outer s H args us vs Q hr => F.run A outer s H args us vs Q (hr.mono h)⟩
theorem FnD.imp {P : Program} {w : World} {K : PySem.W.Frag} {mg : Str → Option Value} {base : Heap} {k : Nat} {f : Addr} {fd : FuncData} {ps : List Str} {sp sp' : DSp} (F : FnD P w K mg base k f fd ps sp) (h : ∀ ds S P', sp' ds S P' → sp ds S P') : FnD P w K mg base k f fd ps sp' :=
  ⟨fun ds S P' q => F.len ds S P' (h _ _ _ q), fun A outer s H args us vs Q hr hg he hb hv ⟨ds, S, P', a, b, c, d⟩ => F.run A outer s H args us vs Q hr hg he hb hv ⟨ds, S, P', a, b, h _ _ _ c, d⟩⟩
theorem q_call (F : FnD X.prog X.w X.K X.mg X.base k f fd ps sp) (hr : Room k X.A) (hgd : X.A.guards = some []) (hg : Gl X x) (hm : X.mg x = some (.ref f)) (hk : PySem.W.keepIn X.K (.ref f) = true) (hb : Binds X.K fd ps [])
    (ha : QA X (e :: es) t) (hdb : (x == ("__debug__" : Str)) = false := by decide) (he : starEach (e :: es) X.env = (false, eval e X.env) :: starEach es X.env := by rfl) (hpl : (backTo pos (starEach es X.env)).any (·.1) = false := by rfl) :
    QE X (.Call (.Name x p) (e :: es) [] pos) (dCB sp t) := by
  refine ⟨fun pins s σ H Q I ⟨δ, S, P, rs, sr, h, fin⟩ => wpAny_Call_Name_kw (ld_glob I hg hm ?_ hdb)⟩
  refine PySem.W.callWith_K (h₀ := X.base) I.ok.mod.kin hk ?_ he hpl
  refine thn (ha.run pos pins s σ H (fun vs H1 => ∃ ds S1, RpA X.K H1 ds vs ∧ SR X.K H1 S1 ∧ sp ds S1 P ∧ Fin X.K H1 P Q) I ⟨δ, S, _, rs, sr, h, fun ds S1 vs H1 h1 r1 s1 e1 => ⟨ds, S1, r1, s1, h1, fin.ext e1⟩⟩) fun us s1 ⟨vs, H1, I1, r, ds, S1, r1, s2, q, fin1⟩ => ⟨I1.kIn, ?_⟩
  have hl : us.length = ps.length := by rw [← r.length, r1.length]; exact F.len _ _ _ q
  have hb' : BindsTo s1 fd ⟨us, []⟩ (ps.zip us) := by have z := hb s1 us I1.kIn (by simpa using hl); rw [List.append_nil] at z; exact z
  refine wpAny_call (codeAny_mono (F.run X.A X.stack s1 H1 ⟨us, []⟩ us vs Q hr hgd I1.env0 hb' r ⟨ds, S1, P, r1, s2, q, fin1⟩) fun r s' hq => ?_)
  cases r with
  | error e => exact False.elim hq
  | ok fl => cases fl with
    | ret u => exact I1.after hq
    | _ => exact False.elim hq
end
end DL
set_option Elab.async false
set_option linter.all false
set_option maxRecDepth 100000
set_option maxHeartbeats 1000000
namespace DL
open PySem PySem.Spec PyProof.Rows L2

/-! ### statements -/
def dNext : DS := fun E δ S => E.nx δ S
def dSeq (t u : DS) : DS := fun E δ S => t { E with nx := u E } δ S
def dDrop (t : DE) : DS := fun E δ S => t δ S fun _ S1 => E.nx δ S1
def dRet (t : DE) : DS := fun E δ S => t δ S E.rt
def dRetN : DS := fun E _ S => E.rt .non S
def dIfS (c : DT) (t u : DS) : DS := fun E δ S => c δ S fun b S1 => bif b then t E δ S1 else u E δ S1
def dCont : DS := fun E δ S => E.ct δ S
def dBreak : DS := fun E δ S => E.bk δ S
def dSet (i : Nat) (t : DE) : DS := fun E δ S => t δ S fun d S1 => E.nx (δ.set i (some d)) S1
def setAll (δ : DSt) : List Nat → List D → DSt
  | i :: is, d :: ds => setAll (δ.set i (some d)) is ds
  | _, _ => δ
def setAllV (σ : L2.St) : List Nat → List V → L2.St
  | i :: is, d :: ds => setAllV (σ.set i (some d)) is ds
  | _, _ => σ
abbrev DG := D → DSt → Sto → (DSt → Sto → Prop) → Prop
def gN (i : Nat) : DG := fun d δ S P => P (δ.set i (some d)) S
/-- a tuple (a list) of so many -/
def gT (is : List Nat) : DG := fun d δ S P => match d with
  | .tup ds => ds.length = is.length ∧ P (setAll δ is ds) S
  | .lst ds => ds.length = is.length ∧ P (setAll δ is ds) S
  | _ => False
def dAsg (t : DE) (g : DG) : DS := fun E δ S => t δ S fun d S1 => g d δ S1 E.nx
def dPar (i j : Nat) (t : DA) : DS := fun E δ S => t δ S fun ds S1 => match ds with
  | [d, e] => E.nx ((δ.set i (some d)).set j (some e)) S1
  | _ => False
/-- o[i] = v, o a list that changes -/
def setD (o i v : D) (S : Sto) (P : Sto → Prop) : Prop := match o, i with
  | .ref a, .int k => match S a with
    | some (.lst xs) => match ixN xs.length k with
      | some j => P (sup S a (.lst (xs.set j v)))
      | none => False
    | _ => False
  | _, _ => False
theorem setD_of {o i v : D} {S : Sto} {P : Sto → Prop} (h : setD o i v S P) : ∃ a k xs j, o = .ref a ∧ i = .int k ∧ S a = some (.lst xs) ∧ ixN xs.length k = some j ∧ P (sup S a (.lst (xs.set j v))) := by
  unfold setD at h
  split at h
  · split at h
    · split at h
      · exact ⟨_, _, _, _, rfl, rfl, by assumption, by assumption, h⟩
      · exact h.elim
    · exact h.elim
  · exact h.elim
def dSetI (tv to ti : DE) : DS := fun E δ S => tv δ S fun v S1 => to δ S1 fun o S2 => ti δ S2 fun i S3 => setD o i v S3 fun S4 => E.nx δ S4
abbrev DI := DSt → Sto → (List D → Sto → Prop) → Prop
def forB (g : DG) (tb : DS) (E : DEnds) (δ : DSt) (ds : List D) (S : Sto) : Prop := ∃ Inv : Nat → DSt → Sto → Prop, Inv 0 δ S ∧
  (∀ i d δ' S', ds[i]? = some d → Inv i δ' S' → g d δ' S' fun δ2 S2 => tb { nx := Inv (i + 1), ct := Inv (i + 1), rt := E.rt, bk := E.nx } δ2 S2) ∧
  ∀ δ' S', Inv ds.length δ' S' → E.nx δ' S'
def dFor (t : DI) (g : DG) (tb : DS) : DS := fun E δ S => t δ S fun ds S1 => forB g tb E δ ds S1
def dWhile (c : DT) (tb : DS) : DS := fun E δ S => ∃ Inv : Nat → DSt → Sto → Prop, (∃ m, Inv m δ S) ∧ ∀ m δ' S', Inv m δ' S' →
  c δ' S' fun b S1 => bif b then tb { nx := fun δ2 S2 => ∃ m', m' < m ∧ Inv m' δ2 S2, ct := fun δ2 S2 => ∃ m', m' < m ∧ Inv m' δ2 S2, rt := E.rt, bk := E.nx } δ' S1 else E.nx δ' S1
def dwipe (δ : DSt) : List Nat → DSt
  | [] => δ
  | v :: vs => (dwipe δ vs).set v none
def sdel (S : Sto) (p : Addr) : Sto := fun b => if b = p then none else S b
theorem sdel_sup {S : Sto} {p : Addr} {o : SO} (h : S p = none) : sdel (sup S p o) p = S := by
  funext b; unfold sdel sup
  by_cases e : b = p
  · subst e; rw [if_pos rfl]; exact h.symm
  · rw [if_neg e, if_neg e]
/-- a list comprehension: the list stands at p meanwhile -/
def lcB (g : DG) (tt : DT) (te : DE) (vs : List Nat) (δ : DSt) (ds : List D) (S1 : Sto) (P : DK) : Prop := ∀ p, S1 p = none → ∃ Inv : Nat → List D → Sto → Prop, Inv 0 [] (sup S1 p (.lst [])) ∧
  (∀ i acc S', Inv i acc S' → S' p = some (.lst acc)) ∧
  (∀ i d acc S', ds[i]? = some d → Inv i acc S' → g d (dwipe δ vs) S' fun δ2 S2 => tt δ2 S2 fun b S3 =>
    bif b then te δ2 S3 fun y S4 => S4 p = some (.lst acc) ∧ acc.length < sizeLine ∧ Inv (i + 1) (acc ++ [y]) (sup S4 p (.lst (acc ++ [y]))) else Inv (i + 1) acc S3) ∧
  ∀ acc S', Inv ds.length acc S' → P (.lst acc) (sdel S' p)
def dLc (t : DI) (g : DG) (tt : DT) (te : DE) (vs : List Nat) : DE := fun δ S P => t δ S fun ds S1 => lcB g tt te vs δ ds S1 P

section
variable {X : Cx} {st : Stmt} {rest : List Stmt} {t u : DS} {e : Expr} {te : DE} {pos : Pos}
theorem ss_nil : QSs X [] dNext := PSs.imp pss_nil fun D σ H ⟨δ, S, P, rs, sr, h, fin⟩ => fin.nx δ S σ H h rs sr (.refl H)
theorem EndF.seq {K : PySem.W.Frag} {H : Hp} {P : DEnds} {D : Ends} {u : DS} (f : EndF K H P D) : EndF K H { P with nx := u P } { D with nx := lS K u D } :=
  ⟨fun δ S σ H' h rs sr e => ⟨δ, S, P, rs, sr, h, f.ext e⟩, f.rt, f.bk, f.ct⟩
theorem ss_cons (h1 : QS X st t) (h2 : QSs X rest u) : QSs X (st :: rest) (dSeq t u) := PSs.imp (pss_cons h1 h2) fun D σ H ⟨δ, S, P, rs, sr, h, fin⟩ => ⟨δ, S, { P with nx := u P }, rs, sr, h, fin.seq⟩
theorem ss_one (h1 : QS X st t) : QSs X [st] t := pss_one h1
theorem s_expr (he : QE X e te) (hs : swapsWith e none pos.line X.env = pure false := by rfl) : QS X (.Expr e pos) (dDrop te) :=
  PS.imp (ps_expr he hs) fun D σ H ⟨δ, S, P, rs, sr, h, fin⟩ => ⟨δ, S, _, rs, sr, h, fun d S1 v H1 h1 r1 s1 e1 => fin.nx δ S1 σ H1 h1 (rs.ext e1) s1 e1⟩
theorem s_ret (he : QE X e te) : QS X (.Return (some e) pos) (dRet te) := PS.imp (ps_ret he) fun D σ H ⟨δ, S, P, rs, sr, h, fin⟩ => ⟨δ, S, _, rs, sr, h, fin.rt⟩
theorem s_retN : QS X (.Return none pos) dRetN := PS.imp ps_retN fun D σ H ⟨δ, S, P, rs, sr, h, fin⟩ => fin.rt .non S .non H h rfl sr (.refl H)
theorem s_cont : QS X (.Continue pos) dCont := PS.imp ps_continue fun D σ H ⟨δ, S, P, rs, sr, h, fin⟩ => fin.ct δ S σ H h rs sr (.refl H)
theorem s_break : QS X (.Break pos) dBreak := PS.imp ps_break fun D σ H ⟨δ, S, P, rs, sr, h, fin⟩ => fin.bk δ S σ H h rs sr (.refl H)
theorem s_if {c : Expr} {a b : List Stmt} {tc : DT} (hc : QT X c tc) (ha : QSs X a t) (hb : QSs X b u) : QS X (.If c a b pos) (dIfS tc t u) :=
  PS.imp (ps_if hc ha hb) fun D σ H ⟨δ, S, P, rs, sr, h, fin⟩ => ⟨δ, S, _, rs, sr, h, fun k S1 H1 q s1 e1 => by
    rw [bif_if] at q
    split
    · rename_i hc; rw [if_pos hc] at q; exact ⟨δ, S1, P, rs.ext e1, s1, q, fin.ext e1⟩
    · rename_i hc; rw [if_neg hc] at q; exact ⟨δ, S1, P, rs.ext e1, s1, q, fin.ext e1⟩⟩
theorem s_set (i : Nat) {x : Str} {pos' : Pos} (hN : X.N.Nodup) (he : QE X e te) (hi : X.N[i]? = some x := by rfl) (hx : Loc X.env.scope x := by first | exact Or.inl rfl | exact Or.inr rfl) (hs : swapsWith e (some (.Name x pos')) pos.line X.env = pure false := by rfl)
    (hf : X.fn x = true ∨ X.env.scope.names.lookup x = some .local := by first | exact .inl rfl | exact .inr rfl | assumption) : QS X (.Assign [.Name x pos'] e pos) (dSet i te) :=
  PS.imp (ps_set hN hi hx he hs hf) fun D σ H ⟨δ, S, P, rs, sr, h, fin⟩ => ⟨δ, S, _, rs, sr, h, fun d S1 v H1 h1 r1 s1 e1 => fin.nx _ S1 _ H1 h1 ((rs.ext e1).set r1) s1 e1⟩
/-! targets -/
def lG (K : PySem.W.Frag) (g : DG) : TG := fun v σ H Q => ∃ d δ S P, Rp K H d v ∧ RS K H σ δ ∧ SR K H S ∧ g d δ S P ∧ NxF K H P Q
theorem PG.imp {e : Expr} {t t' : TG} (h : L2.PG X e t) (f : ∀ v σ H Q, t' v σ H Q → t v σ H Q) : L2.PG X e t' := ⟨fun pins s σ H v u Q I r q => h.run pins s σ H v u Q I r (f _ _ _ _ q)⟩
theorem PGs.imp {e : List Expr} {t t' : TGs} (h : L2.PGs X e t) (f : ∀ v σ H Q, t' v σ H Q → t v σ H Q) : L2.PGs X e t' := ⟨fun pins s σ H v u Q I r q => h.run pins s σ H v u Q I r (f _ _ _ _ q)⟩
abbrev QG (X : Cx) (e : Expr) (g : DG) : Prop := L2.PG X e (lG X.K g)
theorem g_name (i : Nat) {x : Str} (hN : X.N.Nodup) (hi : X.N[i]? = some x := by rfl) (hx : Loc X.env.scope x := by first | exact Or.inl rfl | exact Or.inr rfl) (hf : X.fn x = true ∨ X.env.scope.names.lookup x = some .local := by first | exact .inl rfl | exact .inr rfl | assumption) : QG X (.Name x pos) (gN i) :=
  PG.imp (pg_name hN hi hx hf) fun v σ H Q ⟨d, δ, S, P, r, rs, sr, h, fin⟩ => fin _ S _ H h (rs.set r) sr (.refl H)
def gAll (is : List Nat) : TGs := fun vs σ H Q => vs.length = is.length ∧ Q (setAllV σ is vs) H
theorem gs_nil : L2.PGs X [] (gAll []) := PGs.imp pgs_nil fun vs σ H Q ⟨h, q⟩ => by
  cases vs with
  | nil => exact ⟨rfl, q⟩
  | cons a b => cases h
theorem gs_cons (i : Nat) {x : Str} {es : List Expr} {is : List Nat} {p : Pos} (hN : X.N.Nodup) (h2 : L2.PGs X es (gAll is)) (hi : X.N[i]? = some x := by rfl) (hx : Loc X.env.scope x := by first | exact Or.inl rfl | exact Or.inr rfl) (hf : X.fn x = true ∨ X.env.scope.names.lookup x = some .local := by first | exact .inl rfl | exact .inr rfl | assumption)
    (hs : (assignEach (.Name x p :: es) X.env).map (·.2) = assign (.Name x p) X.env :: (assignEach es X.env).map (·.2) := by rfl) : L2.PGs X (.Name x p :: es) (gAll (i :: is)) :=
  PGs.imp (pgs_cons (pg_name hN hi hx hf) h2 hs) fun vs σ H Q ⟨h, q⟩ => by
    cases vs with
    | nil => cases h
    | cons a b => exact ⟨a, b, rfl, Nat.succ.inj h, q⟩
theorem RS.setAll {K : PySem.W.Frag} {H : Hp} : ∀ {is : List Nat} {ds : List D} {vs : List V} {σ : L2.St} {δ : DSt}, RS K H σ δ → RpA K H ds vs → RS K H (setAllV σ is vs) (DL.setAll δ is ds)
  | [], _, _, _, _, h, r => by unfold setAllV DL.setAll; exact h
  | _ :: _, [], _, _, _, h, r => by cases r; exact h
  | i :: is, d :: ds, _, _, _, h, ⟨v, ws, e, h1, h2⟩ => by subst e; exact RS.setAll (is := is) (h.set h1) h2
theorem g_tup {es : List Expr} {k : Nat} {is : List Nat} (hc : X.calm = true) (h : L2.PGs X es (gAll is)) (hn : (assignEach es X.env).length = is.length := by rfl) (hst : (assignEach es X.env).findIdx? (·.1) = none := by rfl) : QG X (.Tuple es k pos) (gT is) := by
  have a := pg_tup (k := k) (pos := pos) hc h hn hst
  have b := pg_unl (k := k) (pos := pos) hc h hn hst
  refine ⟨fun pins s σ H v u Q I r ⟨d, δ, S, P, rp, rs, sr, q, fin⟩ => ?_⟩
  cases d with
  | tup ds =>
    obtain ⟨p, vs, rfl, hq, r2⟩ := rp
    obtain ⟨hl, q⟩ := q
    exact a.run pins s σ H _ u Q I r ⟨p, vs, rfl, hq, by rw [r2.length, hl], by rw [r2.length, hl], fin _ S _ H q (rs.setAll r2) sr (.refl H)⟩
  | lst ds =>
    obtain ⟨p, vs, rfl, hq, r2⟩ := rp
    obtain ⟨hl, q⟩ := q
    exact b.run pins s σ H _ u Q I r ⟨p, vs, rfl, hq.sq, by rw [r2.length, hl], by rw [r2.length, hl], fin _ S _ H q (rs.setAll r2) sr (.refl H)⟩
  | _ => exact q.elim
theorem s_asg {tg : Expr} {g : DG} (he : QE X e te) (hg : QG X tg g) (hs : swapsWithSole [tg] e pos.line X.env = pure false := by rfl) (hw : swappedStores [tg] e X.env = pure none := by rfl)
    (h1 : (assignEach [tg] X.env).map (·.2) = [assign tg X.env] := by rfl) : QS X (.Assign [tg] e pos) (dAsg te g) :=
  PS.imp (ps_asg he hg hs hw h1) fun D σ H ⟨δ, S, P, rs, sr, h, fin⟩ => ⟨δ, S, _, rs, sr, h, fun d S1 v H1 q r1 s1 e1 => ⟨d, δ, S1, P.nx, r1, rs.ext e1, s1, q, fin.nx.ext e1⟩⟩
theorem s_par (i j : Nat) {x y : Str} {a b : Expr} {ta : DA} {px py pt : Pos} {kt k2 pt2} (hc : X.calm = true) (hN : X.N.Nodup) (ha : QA X [a, b] ta)
    (hw : swappedStores [.Tuple [.Name x px, .Name y py] kt pt] (.Tuple [a, b] k2 pt2) X.env = pure (some [x, y]) := by rfl) (hi : X.N[i]? = some x := by rfl) (hj : X.N[j]? = some y := by rfl) (hij : i ≠ j := by decide)
    (hx : X.env.scope.names.lookup x = some .local := by rfl) (hy : X.env.scope.names.lookup y = some .local := by rfl)
    (hs : swapsWithSole [.Tuple [.Name x px, .Name y py] kt pt] (.Tuple [a, b] k2 pt2) pos.line X.env = pure false := by rfl) :
    QS X (.Assign [.Tuple [.Name x px, .Name y py] kt pt] (.Tuple [a, b] k2 pt2) pos) (dPar i j ta) :=
  PS.imp (ps_par hc hN hi hj hij hx hy ha hw hs) fun D σ H ⟨δ, S, P, rs, sr, h, fin⟩ => ⟨δ, S, _, rs, sr, h, fun ds S1 vs H1 q r1 s1 e1 => by
    match ds, q, r1 with
    | [d, e], q, ⟨v, _, h4, r2, w, _, h5, r3, h6⟩ =>
      subst h6
      subst h5
      subst h4
      exact ⟨v, w, rfl, fin.nx _ S1 _ H1 q (((rs.ext e1).set r2).set r3) s1 e1⟩⟩
theorem s_setI {o i v : Expr} {to ti tv : DE} {p : Pos} (hv : QE X v tv) (ho : QE X o to) (hi : QE X i ti)
    (ha : ∀ v, assign (.Subscript o i p) X.env v = (do
      let ov ← holding [v] (eval o X.env)
      let iv ← holding [v, ov] (eval i X.env)
      standAt p
      holding [v, ov, iv] (setItem ov iv v)
      release [v, ov, iv] []) := by intro _; rfl)
    (hs : swapsWithSole [.Subscript o i p] v pos.line X.env = pure false := by rfl) (hw : swappedStores [.Subscript o i p] v X.env = pure none := by rfl)
    (h1 : (assignEach [.Subscript o i p] X.env).map (·.2) = [assign (.Subscript o i p) X.env] := by rfl) : QS X (.Assign [.Subscript o i p] v pos) (dSetI tv to ti) :=
  PS.imp (ps_asg hv (pg_sub ho hi set_list ha) hs hw h1) fun D σ H ⟨δ, S, P, rs, sr, h, fin⟩ => ⟨δ, S, _, rs, sr, h, fun d S1 v H1 q r1 s1 e1 => ⟨δ, S1, _, rs.ext e1, s1, q, fun o S2 ov H2 q2 r2 s2 e2 =>
    ⟨δ, S2, _, rs.ext (e1.trans e2), s2, q2, fun i S3 iv H3 q3 r3 s3 e3 => by
      obtain ⟨a, k, xs, j, rfl, rfl, hS, hj, q3⟩ := setD_of q3
      cases r2
      cases r3
      obtain ⟨vs, hv, r4⟩ := s3.lst hS
      refine ⟨a, vs, k, j, rfl, rfl, hv, by rw [r4.length]; exact hj, ?_⟩
      have x : Ext H3 (upd H3 a (.lst (vs.set j v))) := .mutL hv
      exact fin.nx δ _ σ _ q3 (rs.ext (e1.trans (e2.trans (e3.trans x)))) (s3.mut hS ((r4.set j (r1.ext (e2.trans e3))))) (e1.trans (e2.trans (e3.trans x)))⟩⟩⟩
end

/-! ### what is walked -/
structure ItOk (K : PySem.W.Frag) (J : It) (ds : List D) (H0 : Hp) : Prop where
  go : ∀ i d H, Ext H0 H → ds[i]? = some d → J.go i H ∧ ∀ x H', J.yld i H x H' → Ext H H' ∧ Rp K H' d x ∧ ∀ S, SR K H S → SR K H' S
  stop : ∀ i H, Ext H0 H → ds.length ≤ i → J.stop i H
def lI (K : PySem.W.Frag) (t : DI) : TI := fun σ H R => ∃ δ S P, RS K H σ δ ∧ SR K H S ∧ t δ S P ∧ ∀ ds S' J H', P ds S' → SR K H' S' → Ext H H' → ItOk K J ds H' → R J H'
section
variable {X : Cx} {tg iter : Expr} {pos : Pos}
theorem PI.imp {t t' : TI} (h : L2.PI X tg iter t) (f : ∀ σ H Q, t' σ H Q → t σ H Q) : L2.PI X tg iter t' := ⟨fun pins s σ H Q I q => h.run pins s σ H Q I (f _ _ _ q)⟩
abbrev QI (X : Cx) (tg iter : Expr) (t : DI) : Prop := L2.PI X tg iter (lI X.K t)
theorem s_for {body : List Stmt} {t : DI} {g : DG} {tb : DS} (hp : PassesOwn (model X.prog X.w) X.A X.env X.xe) (hc : X.calm = true) (hi : QI X tg iter t) (hg : QG X tg g) (hb : QSs X body tb)
    (hs : ∀ x, foldedSetIterable iter X.env x = pure x := by intro _; rfl) : QS X (.For tg iter body [] pos) (dFor t g tb) :=
  PS.imp (ps_for hp hc hi hg hb hs) fun D σ H ⟨δ, S, P, rs, sr, h, fin⟩ => ⟨δ, S, _, rs, sr, h, fun ds S1 J H1 ⟨Iv, i0, turn, last⟩ s1 e1 it => by
    refine ⟨fun i m σ' H' => m = ds.length - i ∧ i ≤ ds.length ∧ Ext H1 H' ∧ ∃ δ' S', RS X.K H' σ' δ' ∧ SR X.K H' S' ∧ Iv i δ' S', ⟨_, rfl, Nat.zero_le _, .refl _, δ, S1, rs.ext e1, s1, i0⟩, ?_⟩
    rintro i m σ' H' ⟨rfl, hi, e2, δ', S', rs2, sr2, iv⟩
    by_cases hlt : i < ds.length
    · obtain ⟨d, hd⟩ : ∃ d, ds[i]? = some d := ⟨_, List.getElem?_eq_getElem hlt⟩
      obtain ⟨g1, g2⟩ := it.go i d H' e2 hd
      refine .inr ⟨g1, fun σ2 H2 => Ext H1 H2 ∧ ∃ δ' S', RS X.K H2 σ2 δ' ∧ SR X.K H2 S' ∧ Iv (i + 1) δ' S', fun σ2 H2 ⟨x1, x2⟩ => ⟨ds.length - (i + 1), by omega, rfl, hlt, x1, x2⟩, fun x H2 y => ?_⟩
      obtain ⟨y1, y2, y3⟩ := g2 x H2 y
      have q := turn i d δ' S' hd iv
      refine ⟨d, δ', S', _, y2, rs2.ext y1, y3 _ sr2, q, fun δ3 S3 σ3 H3 q3 rs3 sr3 e3 => ⟨δ3, S3, _, rs3, sr3, q3, ?_⟩⟩
      have e4 := e2.trans (y1.trans e3)
      have nx : NxF X.K H3 (Iv (i + 1)) fun σ2 H2 => Ext H1 H2 ∧ ∃ δ' S', RS X.K H2 σ2 δ' ∧ SR X.K H2 S' ∧ Iv (i + 1) δ' S' := fun δ5 S5 σ5 H5 q5 rs5 sr5 e5 => ⟨e4.trans e5, δ5, S5, rs5, sr5, q5⟩
      exact ⟨nx, (fin.ext (e1.trans e4)).rt, (fin.ext (e1.trans e4)).nx, nx⟩
    · have : i = ds.length := by omega
      subst this
      exact .inl ⟨it.stop _ H' e2 (Nat.le_refl _), fin.nx δ' S' σ' H' (last δ' S' iv) rs2 sr2 (e1.trans e2)⟩⟩
theorem s_while {c : Expr} {body : List Stmt} {tc : DT} {tb : DS} (hp : PassesOwn (model X.prog X.w) X.A X.env X.xe) (hc : QT X c tc) (hb : QSs X body tb) : QS X (.While c body [] pos) (dWhile tc tb) :=
  PS.imp (ps_while hp hc hb) fun D σ H ⟨δ, S, P, rs, sr, ⟨Iv, ⟨m0, i0⟩, turn⟩, fin⟩ => by
    refine ⟨fun m σ' H' => Ext H H' ∧ ∃ δ' S', RS X.K H' σ' δ' ∧ SR X.K H' S' ∧ Iv m δ' S', ⟨m0, .refl _, δ, S, rs, sr, i0⟩, ?_⟩
    rintro m σ' H' ⟨e1, δ', S', rs1, sr1, iv⟩
    refine ⟨δ', S', _, rs1, sr1, turn m δ' S' iv, fun b S2 H2 q2 s2 e2 => ?_⟩
    rw [bif_if] at q2
    split
    · rename_i hb
      rw [if_pos hb] at q2
      have nx : NxF X.K H2 (fun δ2 S2 => ∃ m', m' < m ∧ Iv m' δ2 S2) fun σ2 H2 => ∃ m', m' < m ∧ Ext H H2 ∧ ∃ δ' S', RS X.K H2 σ2 δ' ∧ SR X.K H2 S' ∧ Iv m' δ' S' := fun δ5 S5 σ5 H5 ⟨m', l, q5⟩ rs5 sr5 e5 => ⟨m', l, e1.trans (e2.trans e5), δ5, S5, rs5, sr5, q5⟩
      exact ⟨fun σ2 H2 => ∃ m', m' < m ∧ Ext H H2 ∧ ∃ δ' S', RS X.K H2 σ2 δ' ∧ SR X.K H2 S' ∧ Iv m' δ' S', fun σ2 H2 z => z, δ', S2, _, rs1.ext e2, s2, q2, ⟨nx, (fin.ext (e1.trans e2)).rt, (fin.ext (e1.trans e2)).nx, nx⟩⟩
    · rename_i hb
      rw [if_neg hb] at q2
      exact fin.nx δ' S2 σ' H2 q2 (rs1.ext e2) s2 (e1.trans e2)
end
end DL
set_option Elab.async false
set_option linter.all false
set_option maxRecDepth 100000
set_option maxHeartbeats 1000000
namespace DL
open PySem PySem.Spec PyProof.Rows L2

section
variable {X : Cx} {tg iter : Expr} {pos : Pos} {te : DE} {t : DA}
theorem ItOk.tup {K : PySem.W.Frag} {H : Hp} {a : Addr} {vs : List V} {ds : List D} (h : SqT K H a vs) (r : RpA K H ds vs) : ItOk K (Itt K a) ds H where
  go := fun i d H' e hd => by
    obtain ⟨v, hv, rv⟩ := r.get hd
    exact ⟨⟨vs, v, e.sqT h, hv⟩, fun x H2 ⟨e1, y⟩ => by subst e1; cases Option.some.inj ((y vs (e.sqT h)).symm.trans hv); exact ⟨.refl _, rv.ext e, fun S s => s⟩⟩
  stop := fun i H' e hi => ⟨vs, e.sqT h, by rw [r.length]; exact hi⟩
theorem ItOk.lst {K : PySem.W.Frag} {H : Hp} {a : Addr} {vs : List V} {ds : List D} (h : SqF K H a vs) (r : RpA K H ds vs) : ItOk K (Itl K a) ds H where
  go := fun i d H' e hd => by
    obtain ⟨v, hv, rv⟩ := r.get hd
    exact ⟨⟨vs, v, (e.sqF h).sq, hv⟩, fun x H2 ⟨e1, y⟩ => by subst e1; cases Option.some.inj ((y vs ((e.sqF h).sq)).symm.trans hv); exact ⟨.refl _, rv.ext e, fun S s => s⟩⟩
  stop := fun i H' e hi => ⟨vs, (e.sqF h).sq, by rw [r.length]; exact hi⟩
theorem PI.or {t t' : TI} (h : L2.PI X tg iter t) (h' : L2.PI X tg iter t') : L2.PI X tg iter (fun σ H R => t σ H R ∨ t' σ H R) := ⟨fun pins s σ H R I q => q.elim (h.run pins s σ H R I) (h'.run pins s σ H R I)⟩
def iota (lo : Int) (n : Nat) : List D := (List.range n).map fun i => .int (lo + (i : Nat))
theorem ItOk.rng {K : PySem.W.Frag} {H : Hp} {lo : Int} {n : Nat} : ItOk K (Itr lo n) (iota lo n) H where
  go := fun i d H' e hd => by
    unfold iota at hd
    rw [List.getElem?_map] at hd
    by_cases hi : i < n
    · rw [List.getElem?_range hi] at hd
      cases hd
      exact ⟨hi, fun x H2 ⟨e1, y⟩ => by subst e1; subst y; exact ⟨.refl _, rfl, fun S s => s⟩⟩
    · rw [List.getElem?_eq_none (by simpa using hi)] at hd; cases hd
  stop := fun i H' e hi => (show n ≤ i by simpa [iota] using hi)
def revInts (lo : Int) (n : Nat) : List D := (List.range n).map fun i => .int (lo + (i : Nat) * (-1))
theorem ItOk.rngC {K : PySem.W.Frag} {H : Hp} {lo : Int} {n : Nat} : ItOk K (Itc lo (-1) n) (revInts lo n) H where
  go := fun i d H' e hd => by
    unfold revInts at hd
    rw [List.getElem?_map] at hd
    by_cases hi : i < n
    · rw [List.getElem?_range hi] at hd
      cases hd
      exact ⟨hi, fun x H2 ⟨e1, y⟩ => by subst e1; subst y; exact ⟨.refl _, rfl, fun S s => s⟩⟩
    · rw [List.getElem?_eq_none (by simpa using hi)] at hd; cases hd
  stop := fun i H' e hi => (show n ≤ i by simpa [revInts] using hi)
def signs (z : Str) : List D := z.cps.toList.map fun c => .str ⟨#[c]⟩
/-- over a tuple, a list that stays -/
def dItS (t : DE) : DI := fun δ S P => t δ S fun d S1 => match d with
  | .tup ds => P ds S1
  | .lst ds => P ds S1
  | _ => False
theorem i_seq (h : QE X iter te) : QI X tg iter (dItS te) := by
  refine ⟨fun pins s σ H R I ⟨δ, S, P, rs, sr, q, fin⟩ => ?_⟩
  have a := PI.or (pi_tup (tg := tg) h) (pi_list (tg := tg) h)
  by_cases hh : True
  · refine thn (h.run pins s σ H (fun v H1 => ∃ d S1, Rp X.K H1 d v ∧ SR X.K H1 S1 ∧ Ext H H1 ∧ (match d with | .tup ds => P ds S1 | .lst ds => P ds S1 | _ => False)) I ⟨δ, S, _, rs, sr, q, fun d S1 v H1 h1 r1 s1 e1 => ⟨d, S1, r1, s1, e1, h1⟩⟩) fun v s1 ⟨x, H1, I1, rv, d, S1, r1, s2, e1, h1⟩ => ?_
    cases d with
    | tup ds =>
      obtain ⟨p, vs, rfl, hq, r2⟩ := r1
      cases rv
      obtain ⟨its, rv, p1, hz⟩ := I1.tuple hq
      refine wpAny_pyIter_tuple (show s1.heap.IsTuple p its.toArray from p1) ?_
      refine ⟨s1.heap.objs.size, [s1.heap.objs.size], _, _, H1, rfl, I1.kept (t' := s1.toks) fun b o e => Heap.get?_push_of_some _ e, turn_tuple p _, ⟨_, Heap.get?_push_size _ rfl, rfl, rfl⟩, fun b hb => ?_, fin ds S1 _ H1 h1 s2 e1 (.tup hq r2)⟩
      have e : b = s1.heap.objs.size := by simpa using hb
      subst e
      exact I1.fpOk (Nat.le_refl _) (I1.hok.fresh (Nat.le_refl _))
    | lst ds =>
      obtain ⟨p, vs, rfl, hq, r2⟩ := r1
      cases rv
      obtain ⟨its, rv, p1, hz⟩ := I1.list hq.sq
      refine wpAny_pyIter_list p1.isList ?_
      refine ⟨s1.heap.objs.size, [s1.heap.objs.size], _, _, H1, rfl, I1.kept (t' := s1.toks) fun b o e => Heap.get?_push_of_some _ e, turn_list p _, ⟨_, Heap.get?_push_size _ rfl, rfl, rfl⟩, fun b hb => ?_, fin ds S1 _ H1 h1 s2 e1 (.lst hq r2)⟩
      have e : b = s1.heap.objs.size := by simpa using hb
      subst e
      exact I1.fpOk (Nat.le_refl _) (I1.hok.fresh (Nat.le_refl _))
    | _ => exact h1.elim
  · exact absurd True.intro hh
def dItStr (t : DE) : DI := fun δ S P => t δ S fun d S1 => asS d fun z => P (signs z) S1
theorem ItOk.str {K : PySem.W.Frag} {H : Hp} {z : Str} : ItOk K (Its z) (signs z) H where
  go := fun i d H' e hd => by
    unfold signs at hd
    rw [List.getElem?_map] at hd
    cases hc : z.cps.toList[i]? with
    | none => rw [hc] at hd; cases hd
    | some c =>
      rw [hc] at hd
      cases hd
      refine ⟨?_, fun x H2 y => ?_⟩
      · simp only [Its]
        have : i < z.cps.toList.length := by
          rcases Nat.lt_or_ge i z.cps.toList.length with q | q
          · exact q
          · rw [List.getElem?_eq_none q] at hc; cases hc
        simpa using this
      · obtain ⟨e1, c', hc', y⟩ := y
        subst e1
        have : c' = c := by
          have q : z.cps[i]? = some c := by rw [← Array.getElem?_toList]; exact hc
          rw [hc'] at q; exact Option.some.inj q
        subst this
        subst y
        exact ⟨.refl _, rfl, fun S s => s⟩
  stop := fun i H' e hi => by unfold signs at hi; simpa [Its] using hi
theorem i_str (h : QE X iter te) : QI X tg iter (dItStr te) := PI.imp (pi_str h) fun σ H R ⟨δ, S, P, rs, sr, q, fin⟩ => ⟨δ, S, _, rs, sr, q, fun d S1 v H1 h1 r1 s1 e1 => by
  obtain ⟨z, rfl, h1⟩ := asS_of h1
  cases r1
  exact ⟨z, rfl, fin _ S1 _ H1 h1 s1 e1 .str⟩⟩
def big (j : Int) : Prop := -(2 ^ 62) ≤ j ∧ j < 2 ^ 62
def dRng1 (t : DA) : DI := fun δ S P => t δ S fun ds S1 => match ds with
  | [.int j] => big j ∧ P (iota 0 j.toNat) S1
  | _ => False
def dRng2 (t : DA) : DI := fun δ S P => t δ S fun ds S1 => match ds with
  | [.int i, .int j] => (big i ∧ big j) ∧ P (iota i (j - i).toNat) S1
  | _ => False
theorem i_rng1 {a : Expr} {p : Pos} (hg : Gl X "range") (hm : X.mg "range" = none) (ha : QA X [a] t) (hs : starEach [a] X.env = [(false, eval a X.env)] := by rfl) : QI X tg (.Call (.Name "range" p) [a] [] pos) (dRng1 t) :=
  PI.imp (pi_range1 hg hm ha hs) fun σ H R ⟨δ, S, P, rs, sr, q, fin⟩ => ⟨δ, S, _, rs, sr, q, fun ds S1 vs H1 h1 r1 s1 e1 => by
    split at h1
    · obtain ⟨v, ws, rfl, rv, rw'⟩ := r1
      cases rv
      cases rw'
      exact ⟨_, rfl, h1.1.1, h1.1.2, fin _ S1 _ H1 h1.2 s1 e1 .rng⟩
    · exact h1.elim⟩
theorem i_rng2 {a b : Expr} {p : Pos} (hg : Gl X "range") (hm : X.mg "range" = none) (ha : QA X [a, b] t) (hs : starEach [a, b] X.env = [(false, eval a X.env), (false, eval b X.env)] := by rfl) (hs2 : starEach [b] X.env = [(false, eval b X.env)] := by rfl) : QI X tg (.Call (.Name "range" p) [a, b] [] pos) (dRng2 t) :=
  PI.imp (pi_range2 hg hm ha hs hs2) fun σ H R ⟨δ, S, P, rs, sr, q, fin⟩ => ⟨δ, S, _, rs, sr, q, fun ds S1 vs H1 h1 r1 s1 e1 => by
    split at h1
    · obtain ⟨v, ws, rfl, rv, v2, ws2, rfl, rv2, rw2⟩ := r1
      cases rv
      cases rv2
      cases rw2
      exact ⟨_, _, rfl, ⟨h1.1.1.1, h1.1.1.2, h1.1.2.1, h1.1.2.2⟩, fin _ S1 _ H1 h1.2 s1 e1 .rng⟩
    · exact h1.elim⟩

/-! ### list comprehensions -/
theorem dwipe_length (δ : DSt) : ∀ vs : List Nat, (dwipe δ vs).length = δ.length
  | [] => rfl
  | v :: vs => by unfold dwipe; rw [List.length_set, dwipe_length δ vs]
theorem dwipe_some {δ : DSt} {i : Nat} {x : D} : ∀ {vs : List Nat}, (dwipe δ vs)[i]? = some (some x) → δ[i]? = some (some x) ∧ i ∉ vs
  | [], h => ⟨h, by simp⟩
  | v :: vs, h => by
    unfold dwipe at h
    by_cases hi : v = i
    · subst hi
      by_cases hv : v < (dwipe δ vs).length
      · rw [List.getElem?_set_self hv] at h; cases h
      · rw [List.getElem?_eq_none (by simpa using hv)] at h; cases h
    · rw [List.getElem?_set_ne hi] at h
      obtain ⟨a, b⟩ := dwipe_some h
      exact ⟨a, by simp [b, Ne.symm hi]⟩
theorem wipe_at {σ : L2.St} {i : Nat} : ∀ {vs : List Nat}, i ∉ vs → (wipe σ vs)[i]? = σ[i]?
  | [], _ => rfl
  | v :: vs, h => by
    unfold wipe
    rw [List.getElem?_set_ne (fun e => h (by simp [e]))]
    exact wipe_at (fun z => h (by simp [z]))
theorem RS.wipe {K : PySem.W.Frag} {H : Hp} {σ : L2.St} {δ : DSt} {vs : List Nat} (h : RS K H σ δ) : RS K H (L2.wipe σ vs) (dwipe δ vs) := by
  refine ⟨by rw [wipe_length, dwipe_length, h.1], fun i d q => ?_⟩
  obtain ⟨a, b⟩ := dwipe_some q
  rw [wipe_at b]
  exact h.2 i d a
theorem wipe_in {σ : L2.St} {j : Nat} : ∀ {vs : List Nat}, j ∈ vs → (wipe σ vs)[j]? = if j < σ.length then some none else none
  | v :: vs, h => by
    unfold wipe
    by_cases e : v = j
    · subst e
      by_cases hv : v < (wipe σ vs).length
      · rw [List.getElem?_set_self hv, if_pos (by rw [← wipe_length σ vs]; exact hv)]
      · rw [List.getElem?_eq_none (by simpa using hv), if_neg (by rw [← wipe_length σ vs]; exact hv)]
    · rw [List.getElem?_set_ne e]
      exact wipe_in (by rcases List.mem_cons.mp h with z | z; exact absurd z.symm e; exact z)
theorem wipe_ext {σ τ : L2.St} {vs : List Nat} (hl : τ.length = σ.length) (h : ∀ j, j ∉ vs → τ[j]? = (wipe σ vs)[j]?) : wipe τ vs = wipe σ vs := by
  apply List.ext_getElem?
  intro j
  by_cases hj : j ∈ vs
  · rw [wipe_in hj, wipe_in hj, hl]
  · rw [wipe_at hj]; exact h j hj
theorem setAllV_length : ∀ {is : List Nat} {xs : List V} {σ : L2.St}, (setAllV σ is xs).length = σ.length
  | [], _, _ => by unfold setAllV; rfl
  | _ :: _, [], _ => rfl
  | i :: is, x :: xs, σ => by show (setAllV (σ.set i (some x)) is xs).length = _; rw [setAllV_length, List.length_set]
theorem setAllV_ne {j : Nat} : ∀ {is : List Nat} {xs : List V} {σ : L2.St}, j ∉ is → (setAllV σ is xs)[j]? = σ[j]?
  | [], _, _, _ => by unfold setAllV; rfl
  | _ :: _, [], _, _ => rfl
  | i :: is, x :: xs, σ, h => by
    show (setAllV (σ.set i (some x)) is xs)[j]? = _
    rw [setAllV_ne (fun z => h (by simp [z])), List.getElem?_set_ne (fun e => h (by simp [e]))]
theorem wipe_setAll {σ : L2.St} {is : List Nat} {xs : List V} : wipe (setAllV (wipe σ is) is xs) is = wipe σ is :=
  wipe_ext (by rw [setAllV_length, wipe_length]) fun j hj => setAllV_ne hj
theorem SR.del {K : PySem.W.Frag} {H : Hp} {S : Sto} {p : Addr} {o : Obj} {vs : List V} (s : SR K H S) (h : H p = some (.lst vs)) : SR K (upd H p (.frz o (.lst vs))) (sdel S p) := fun b u q => by
  by_cases hb : b = p
  · subst hb; unfold sdel at q; rw [if_pos rfl] at q; cases q
  · unfold sdel at q; rw [if_neg hb] at q
    cases u with
    | lst es =>
      obtain ⟨xs, h3, h4⟩ := s b _ q
      exact ⟨xs, by rw [upd_ne hb]; exact h3, h4.ext (.mutL h)⟩
    | dic es =>
      obtain ⟨xs, h3, h4⟩ := s b _ q
      exact ⟨xs, by rw [upd_ne hb]; exact h3, h4.ext (.mutL h)⟩
/-- the target of a comprehension, its slots is -/
def LcG (K : PySem.W.Frag) (g : TG) (dg : DG) (is : List Nat) : Prop := ∀ (d : D) (v : V) (σ : L2.St) (H : Hp) (δ : DSt) (S : Sto) (P : DSt → Sto → Prop) (Q : L2.St → Hp → Prop), Rp K H d v → RS K H (L2.wipe σ is) (dwipe δ is) → dg d (dwipe δ is) S P →
  (∀ δ2 σ2, wipe σ2 is = wipe σ is → RS K H σ2 δ2 → P δ2 S → Q σ2 H) → g v (L2.wipe σ is) H Q
theorem lcg_name {K : PySem.W.Frag} {i : Nat} : LcG K (gName i) (gN i) [i] := fun d v σ H δ S P Q r rs h f => f _ _ (wipe_setAll (is := [i]) (xs := [v])) (rs.set r) h
def gTT (is : List Nat) : DG := fun d δ S P => match d with
  | .tup ds => ds.length = is.length ∧ P (setAll δ is ds) S
  | _ => False
theorem lcg_tup {K : PySem.W.Frag} {is : List Nat} {n : Nat} (hn : n = is.length) : LcG K (gTup K n (gAll is)) (gTT is) is := fun d v σ H δ S P Q r rs h f => by
  cases d with
  | tup ds =>
    obtain ⟨p, vs, rfl, hq, r2⟩ := r
    obtain ⟨hl, q⟩ := h
    exact ⟨p, vs, rfl, hq, by rw [r2.length, hl, hn], by rw [r2.length, hl], f _ _ wipe_setAll (rs.setAll r2) q⟩
  | _ => exact h.elim
theorem lc_core {t : DI} {g : TG} {dg : DG} {tt : DT} {is : List Nat} {σ : L2.St} {H : Hp} {Q Q' : VK} (G : LcG X.K g dg is) (h : lE X.K (dLc t dg tt te is) σ H Q)
    (hQ : ∀ v H1 a xs, v = V.ref a → H1 a = some (.lst xs) → (∀ o, Q v (upd H1 a (.frz o (.lst xs)))) → Q' v H1) : tLc (lI X.K t) g (lT X.K tt) (lE X.K te) is σ H Q' := by
  obtain ⟨δ, S, P, rs, sr, h, fin⟩ := h
  refine ⟨δ, S, _, rs, sr, h, fun ds S1 J H1 hp s1 e1 it => fun Dd nD => ?_⟩
  obtain ⟨Iv, i0, ip, turn, last⟩ := hp Dd (s1.none nD)
  refine ⟨fun i m H' => m = ds.length - i ∧ i ≤ ds.length ∧ Ext H1 H' ∧ ∃ acc S', SR X.K H' S' ∧ Iv i acc S', ⟨_, rfl, Nat.zero_le _, .new nD, [], _, s1.add (ds := []) nD (by simp [RpA]), i0⟩, ?_⟩
  rintro i m H' ⟨rfl, hi, e2, acc, S', sr2, iv⟩
  have hS := ip i acc S' iv
  by_cases hlt : i < ds.length
  · obtain ⟨d, hd⟩ : ∃ d, ds[i]? = some d := ⟨_, List.getElem?_eq_getElem hlt⟩
    obtain ⟨g1, g2⟩ := it.go i d H' e2 hd
    refine .inr ⟨g1, fun H2 => Ext H1 H2 ∧ ∃ acc S', SR X.K H2 S' ∧ Iv (i + 1) acc S', fun H2 ⟨x1, x2⟩ => ⟨ds.length - (i + 1), by omega, rfl, hlt, x1, x2⟩, fun x H2 y => ?_⟩
    obtain ⟨y1, y2, y3⟩ := g2 x H2 y
    refine G d x σ H2 δ S' _ _ y2 ((rs.ext (e1.trans (e2.trans y1))).wipe) (turn i d acc S' hd iv) fun δ2 σ2 hw rs2 q => ⟨hw, δ2, S', _, rs2, y3 _ sr2, q, fun b S3 H3 q3 s3 e3 => ?_⟩
    rw [bif_if] at q3
    split
    · rename_i hb
      rw [if_pos hb] at q3
      refine ⟨δ2, S3, _, rs2.ext e3, s3, q3, fun y S4 v H4 ⟨h0, hl, h4⟩ r4 s4 e4 => ?_⟩
      obtain ⟨vs, hv, r5⟩ := s4.lst h0
      exact ⟨vs, hv, by rw [r5.length]; exact hl, e2.trans (y1.trans (e3.trans (e4.trans (.mutL hv)))), _, _, s4.mut h0 (r5.append (.single r4)), h4⟩
    · rename_i hb
      rw [if_neg hb] at q3
      exact ⟨e2.trans (y1.trans e3), acc, S3, s3, q3⟩
  · have : i = ds.length := by omega
    subst this
    obtain ⟨vs, hv, r5⟩ := sr2.lst hS
    refine .inl ⟨it.stop _ H' e2 (Nat.le_refl _), hQ _ _ Dd vs rfl hv fun o => ?_⟩
    exact fin _ _ _ _ (last acc S' iv) ⟨Dd, vs, rfl, .inl ⟨o, upd_same⟩, r5.ext (.mutL hv)⟩ (sr2.del hv) (e1.trans (e2.trans (.mutL hv)))
/-- behind a statement a list is left as it is -/
theorem ps_frz {st : Stmt} {t : TS} (h : L2.PS X st t) : L2.PS X st (fun D σ H => t { D with nx := fun σ' H' => ∃ a xs, H' a = some (.lst xs) ∧ ∀ o, D.nx σ' (upd H' a (.frz o (.lst xs))) } σ H) := ⟨fun pins s σ H D I q => thn (h.run pins s σ H _ I q) fun f s1 q1 => by
  cases f with
  | next =>
    obtain ⟨σ', H', I1, a, xs, h1, h2⟩ := q1
    obtain ⟨o, J⟩ := freezeL I1 h1
    exact ⟨σ', _, J, h2 o⟩
  | ret v => exact q1
  | brk => exact q1
  | cont => exact q1⟩
variable {elt : Expr} {ifs : List Expr} {scope : Scope} {di : DI} {dt : DT}
def dYes : DT := fun _ S P => P true S
theorem ts_nil : PTs X [] (lT X.K dYes) := ⟨fun pins s σ H Q I ⟨δ, S, P, rs, sr, h, fin⟩ => pts_nil.run pins s σ H Q I (fin true S H h sr (.refl H))⟩
theorem ts_one {c : Expr} (h : QT X c dt) : PTs X [c] (lT X.K dt) := pts_one h
theorem q_lc {g : TG} {dg : DG} {own : List (Str × Nat)} {is : List Nat} (hown : own.map (·.2) = is) (G : LcG X.K g dg is) (hc : X.calm = true) (hN : X.N.Nodup) (hi : QI X tg iter di) (ok : BlkOk X.N X.env.scope scope own)
    (hg : ∀ (s : Shared) (H : Hp) (C : Addr) (cl : List (Str × Addr)) (fp : List Addr), L2.PG (X.blk s H scope (compEnvC scope cl C X.env) fp) tg g) (ht : ∀ (s : Shared) (H : Hp) (C : Addr) (cl : List (Str × Addr)) (fp : List Addr), PTs (X.blk s H scope (compEnvC scope cl C X.env) fp) ifs (lT X.K dt))
    (he : ∀ (s : Shared) (H : Hp) (C : Addr) (cl : List (Str × Addr)) (fp : List Addr), L2.PE (X.blk s H scope (compEnvC scope cl C X.env) fp) elt (lE X.K te)) (hs : ∀ x, foldedSetIterable iter X.env x = pure x := by intro _; rfl) :
    QE X (.ListComp elt [⟨tg, iter, ifs, 0⟩] scope pos) (dLc di dg dt te is) :=
  PE.imp (pe_frz (pe_lc hc hN hi ok hg ht he hs)) fun σ H Q h => by
    subst hown
    exact lc_core G h fun v H1 a xs e1 e2 q => ⟨a, xs, e1, e2, q⟩
theorem s_setLc {g : TG} {dg : DG} {own : List (Str × Nat)} {is : List Nat} (i : Nat) {y : Str} {py spos : Pos} (hown : own.map (·.2) = is) (G : LcG X.K g dg is) (hc : X.calm = true) (hN : X.N.Nodup) (hi : QI X tg iter di) (ok : BlkOk X.N X.env.scope scope own)
    (hg : ∀ (s : Shared) (H : Hp) (C : Addr) (cl : List (Str × Addr)) (fp : List Addr), L2.PG (X.blk s H scope (compEnvC scope cl C X.env) fp) tg g) (ht : ∀ (s : Shared) (H : Hp) (C : Addr) (cl : List (Str × Addr)) (fp : List Addr), PTs (X.blk s H scope (compEnvC scope cl C X.env) fp) ifs (lT X.K dt))
    (he : ∀ (s : Shared) (H : Hp) (C : Addr) (cl : List (Str × Addr)) (fp : List Addr), L2.PE (X.blk s H scope (compEnvC scope cl C X.env) fp) elt (lE X.K te))
    (hsw : swapsWith (.ListComp elt [⟨tg, iter, ifs, 0⟩] scope pos) (some (.Name y py)) spos.line X.env = pure true) (hy : X.N[i]? = some y := by rfl) (hyl : X.env.scope.names.lookup y = some .local := by rfl) (hs : ∀ x, foldedSetIterable iter X.env x = pure x := by intro _; rfl) :
    QS X (.Assign [.Name y py] (.ListComp elt [⟨tg, iter, ifs, 0⟩] scope pos) spos) (dSet i (dLc di dg dt te is)) :=
  PS.imp (ps_frz (ps_setLc hc hN hy hyl hsw hi ok hg ht he hs)) fun D σ H ⟨δ, S, P, rs, sr, h, fin⟩ => by
    subst hown
    exact lc_core (Q := fun v H2 => D.nx (σ.set i (some v)) H2) G ⟨δ, S, _, rs, sr, h, fun d S1 v H1 h1 r1 s1 e1 => fin.nx _ S1 _ H1 h1 ((rs.ext e1).set r1) s1 e1⟩ fun v H1 a xs e1 e2 q => ⟨a, xs, e2, q⟩
end

/-! ### a def by its body -/
section
variable {P : Program} {w : World} {K : PySem.W.Frag} {mg : Str → Option Value} {base : Heap}
def dstart (N : List Str) (ds : List D) : DSt := ds.map some ++ List.replicate (N.length - ds.length) none
theorem okD {x qual : Str} {st : Stmt} {f : Addr} {fd : FuncData} {N ps : List Str} {k : Nat} {sp : DSp} (F : Fun K x qual st f fd) (S : FnScope N ps (defScope st)) (len : ∀ ds S P, sp ds S P → ds.length = ps.length)
    (hbody : ∀ (cdv : Value) (A : Around) (outer : List Env) (s : Shared) (H : Hp), Room k (A.deeper (envOfC qual (defScope st) s.heap.objs.size f cdv)) → A.guards = some [] →
      ∃ t, QSs (cxOf CX0 P w K mg base N qual (defScope st) f cdv A outer s H E0).nox (defBody st) t ∧ ∀ ds S' P', sp ds S' P' → t { nx := fun _ S2 => P' .non S2, rt := P' } (dstart N ds) S') : FnD P w K mg base (k + 1) f fd ps sp := by
  obtain ⟨oc, od, kV, doc, pm, an, cdv, ct, osl, rfl, lk, hcd⟩ := F.ex
  refine ⟨len, fun A outer s H args us vs Q hr hgd e0 hb r ⟨ds, S', P', rp, sr, hsp, fin⟩ => ?_⟩
  have hl : vs.length = ps.length := by rw [rp.length]; exact len _ _ _ hsp
  have KX : K.In s.heap := e0.mod.kin.keeps fun b o e => (e0.bs b o e).1
  refine codeAny_call_function hr.depth (KX _ _ lk) rfl S.co S.gen rfl (PySem.W.codeRec_of KX hcd) (hb _ _ _ _ ?_)
  refine wpAny_newFunctionEnv_cells S.kind (fun ⟨n, v⟩ hy => ?_) fun env he s1 x => ?_
  · rcases S.par n (List.of_mem_zip hy).1 with q | q
    · exact Or.inl q
    · exact Or.inr ⟨q, PySem.W.cellsFrom_some _ _ _ (Or.inl q)⟩
  subst he
  refine ⟨(e0.mod.nolimit.keeps fun b o e => (e0.bs b o e).1).keeps x.toInCall.keep, codeAny_func ?_⟩
  obtain ⟨t, ht, hq⟩ := hbody cdv A outer s H (hr.deeper _) hgd
  have I := inv_start (CX := CX0) (E := E0) S hr.hd e0 hl r x
  refine wpAny_mono (ht.nox.run [] s1 (start N vs) H { nx := fun _ H' => Q .non H', rt := Q } I ⟨dstart N ds, S', _, RS.start rp, sr, hq ds S' P' hsp, ⟨fun δ S2 σ H2 p rs sr e => fin _ S2 _ H2 p rfl sr e, fin, fun _ _ _ _ p => p.elim, fun _ _ _ _ p => p.elim⟩⟩) (fun fl s' hs => ?_) fun e s' hs => hs
  cases fl with
  | ret u => obtain ⟨v, σ', H', J, rv, q⟩ := hs; exact ⟨v, H', J.os, J.bare, J.base, J.hok, rv, q⟩
  | next => obtain ⟨σ', H', J, q⟩ := hs; exact ⟨.non, H', J.os, J.bare, J.base, J.hok, rfl, q⟩
  | brk => obtain ⟨_, _, _, q⟩ := hs; exact False.elim q
  | cont => obtain ⟨_, _, _, q⟩ := hs; exact False.elim q
end

/-! ### the end of a law -/
theorem law_end {P : Program} {w : World} {K : PySem.W.Frag} {mg mb : Str → Option Value} {k : Nat} {fa a : Addr} {fd : FuncData} {x : Str} {sp : DSp} {s1 : Shared} {vs : List Value} {ns : List Int}
    (KX : K.In s1.heap) (hns : s1.heap.Ns mainGlobals mg) (hb : s1.heap.Ns builtinsNs mb) (hbb : ∀ x : Str, x ≠ "__name__" → mb x = bootBuiltins x) (hlim : s1.heap.NoLimit) (hg : s1.gens = #[])
    (ha : s1.heap.get? a = some { cls := .type "list", data := .seq vs.toArray }) (hi : IntsAre vs ns) (hl : ns.length ≤ sizeLine) (hr : Room k callerA)
    (F : ∀ base : Heap, K.In base → base.Ns mainGlobals mg → FnD P w K mg base k fa fd [x] sp) (hbind : ∀ (s : Shared) (u : Value), BindsTo s fd ⟨[u], []⟩ [(x, u)])
    (hsp : sp [.lst (ns.map .int)] (fun _ => none) fun d _ => d = .bl true) :
    codeAny (model P w) callerA (.call (.ref fa) ⟨[.ref a], []⟩) (fun r s' => r = .ok (.ret (.bool true)) ∧ OldK s1.heap s'.heap ∧ s'.os = s1.os ∧ AllBare s'.gens) s1 := by
  have rv := vals_ints hi
  have core : ∀ H : Hp, Only H → SqF K H a (ns.map V.int) → HOk P w H s1.heap → (∀ b, H b ≠ none → b = a) → (H a ≠ none → K.lookup a = none) →
      codeAny (model P w) callerA (.call (.ref fa) ⟨[.ref a], []⟩) (fun r s' => r = .ok (.ret (.bool true)) ∧ OldK s1.heap s'.heap ∧ s'.os = s1.os ∧ AllBare s'.gens) s1 := by
    intro H hO hS hok hA hK
    have noA : ∀ {b : Addr} {o : Obj} {es : Array DictEntry} {ep : Nat}, s1.heap.get? b = some o → o.data = .dict es ep → H b = none := fun {b o es ep} e d => by
      rcases hO b with z | ⟨u, xs, z⟩
      · exact z
      · cases hA b (by rw [z]; intro q; cases q)
        rw [ha] at e; cases e; cases d
    have nsK : ∀ {b : Addr} {m : Str → Option Value}, s1.heap.Ns b m → (hidT s1.heap H).Ns b m := fun {b m} ⟨o, es, ep, e, d, r⟩ => ⟨o, es, ep, hidT_get e (noA e d), d, r⟩
    have hKb : K.In (hidT s1.heap H) := fun b o e => hidT_get (KX b o e) (by
      rcases hO b with z | ⟨u, xs, z⟩
      · exact z
      · have zz : H b ≠ none := by rw [z]; intro q; cases q
        have ea := hA b zz
        subst ea
        rw [hK zz] at e; cases e)
    have hM : Mod K mg (hidT s1.heap H) := ⟨hKb, nsK hns, ⟨mb, nsK hb, hbb⟩, let ⟨mc, h1, h2⟩ := hlim; ⟨mc, nsK h1, h2⟩⟩
    have e0 : Env0 P w K mg (hidT s1.heap H) callerA [] s1 H := ⟨rfl, hM, fun b o e => of_hidT e, Nat.le_of_eq (hidT_size _ _), trivial, fun b hb => (List.not_mem_nil hb).elim, hok, .of_eq hg⟩
    refine codeAny_mono ((F _ hKb (nsK hns)).run callerA [] s1 H ⟨[.ref a], []⟩ [.ref a] [.ref a] (fun v _ => v = .bl true) hr rfl e0 (hbind s1 (.ref a)) (.cons rfl .nil)
      ⟨[.lst (ns.map .int)], fun _ => none, _, ⟨_, _, rfl, ⟨a, _, rfl, hS, RpA.of_ints ns⟩, rfl⟩, fun _ _ q => (by cases q), hsp, fun d S' v H' q r _ _ => by subst q; exact r⟩) fun r s' h => ?_
    cases r with
    | error e => exact False.elim h
    | ok fl =>
      cases fl with
      | ret u =>
        obtain ⟨v, H', os, bare, un, hok', r', q⟩ := h
        subst q
        cases r'
        refine ⟨rfl, OldK.of_keep fun b o e => ?_, os, bare⟩
        rcases hO b with z | ⟨ob, xs, z⟩
        · exact un.keep b o e z List.not_mem_nil List.not_mem_nil
        · have z1 := (hok b _ z).1
          have z2 := (hok' b _ (un.frzs b ob _ z)).1
          rw [e] at z1; cases z1
          exact z2
      | _ => exact False.elim h
  cases hk : K.lookup a with
  | some o =>
    have e := KX a o hk
    rw [ha] at e
    cases e
    exact core (fun _ => none) (fun _ => .inl rfl) (.inr ⟨_, vs.toArray, _, hk, rfl, rfl, rfl, by rw [List.size_toArray, hi.length]; exact hl, by simpa using rv⟩) (fun b u z => by cases z) (fun b z => absurd rfl z) fun z => absurd rfl z
  | none =>
    have at1 : ∀ b, (fun b => if b = a then some (HO.frz { cls := .type "list", data := .seq vs.toArray } (.lst (ns.map V.int))) else none) b = if b = a then some (HO.frz { cls := .type "list", data := .seq vs.toArray } (.lst (ns.map V.int))) else none := fun b => rfl
    refine core (fun b => if b = a then some (HO.frz { cls := .type "list", data := .seq vs.toArray } (.lst (ns.map V.int))) else none) (fun b => ?_) (.inl ⟨_, if_pos rfl⟩) (fun b u z => ?_) (fun b z => ?_) fun _ => hk
    · by_cases hb : b = a
      · exact .inr ⟨_, _, if_pos hb⟩
      · exact .inl (if_neg hb)
    · by_cases hb : b = a
      · rw [at1, if_pos hb] at z
        cases z
        subst hb
        exact ⟨ha, by rw [List.length_map]; exact hl, vs, _, rv, ha⟩
      · rw [at1, if_neg hb] at z; cases z
    · by_cases hb : b = a
      · exact hb
      · exact absurd (if_neg hb) z
theorem walkD {l : PySem.W.OpenLaw} {n k : Nat} {q : Program} {loose : List Str} {XP : (Str → Option Value) → Heap → Prop} {YP : World → Heap → Prop} {d : DefRec} {K : Params → PySem.W.Frag} {sp : DSp} {x : Str}
    (hn : l.most = some n) (hn2 : n ≤ sizeLine) (hdf : d.params.defaults = []) (hr : Room k callerA) (hY : ∀ (w : World) (h : Heap), YP w h → (K w.params).In h)
    (F : ∀ (w : World) (mg : Str → Option Value) (fa : Addr) (h : Heap), (K w.params).In h → h.Ns mainGlobals mg → mg d.name = some (.ref fa) →
      ∃ fd : FuncData, (∀ (s : Shared) (u : Value), BindsTo s fd ⟨[u], []⟩ [(x, u)]) ∧ ∀ base : Heap, (K w.params).In base → base.Ns mainGlobals mg → FnD l.prog w (K w.params) mg base k fa fd [x] sp)
    (hsp : ∀ ns : List Int, ns.length ≤ n → sp [.lst (ns.map .int)] (fun _ => none) fun d _ => d = .bl true) :
    PySem.W.WalkO q loose XP YP l.row.toRowW d [] (fun f vs => PySem.call f vs) := by
  refine Att.attach_call hn hdf fun w s0 s1 mg mb fa o pm cd doc a vs ns G Y ho hd hcd hmg hobj hints hlen hg => ?_
  obtain ⟨fd, hb, hF⟩ := F w mg fa _ (hY w _ Y) G.T.g hmg
  exact law_end (hY w _ Y) G.T.g G.T.b G.T.builtins G.T.nolimit hg hobj hints (Nat.le_trans hlen hn2) hr hF hb (hsp ns hlen)
end DL
set_option Elab.async false
set_option linter.all false
set_option maxRecDepth 100000
set_option maxHeartbeats 1000000
namespace DL
open PySem PySem.Spec PyProof.Rows L2

section
variable {X : Cx}
/-! ### ints, texts, tuples, lists added and so on -/
def b2i (b : Bool) : Int := if b = true then 1 else 0
def addD : DR := fun x y S P => match x, y with
  | .int i, .int j => P (.int (i + j)) S
  | .int i, .bl j => P (.int (i + b2i j)) S
  | .bl i, .int j => P (.int (b2i i + j)) S
  | .str a, .str b => a.length + b.length ≤ sizeLine ∧ P (.str (a ++ b)) S
  | .tup xs, .tup ys => xs.length + ys.length ≤ sizeLine ∧ P (.tup (xs ++ ys)) S
  | .lst xs, .lst ys => xs.length + ys.length ≤ sizeLine ∧ P (.lst (xs ++ ys)) S
  | _, _ => False
theorem sqF_at {pins : List (Addr × Obj)} {σ : L2.St} {H : Hp} {s : Shared} {a : Addr} {vs : List V} (I : L2.Inv X pins σ H s) (h : SqF X.K H a vs) : ∃ its : List Value, ∃ n, ∃ sl, Vals vs its ∧ vs.length ≤ sizeLine ∧ s.heap.get? a = some { cls := .type "list", data := .seq its.toArray n, slots := sl } := by
  obtain ⟨its, r, ⟨⟨cls, dd, data, sl⟩, n, e, hc, hd, hs⟩, hz⟩ := I.list h.sq
  simp only at hc hd hs
  subst hc hd hs
  exact ⟨its, n, sl, r, hz, e⟩
theorem freezeE {pins : List (Addr × Obj)} {σ : L2.St} {Q : VK} {u : Value} {s : Shared} (h : EP X pins σ (fun v H1 => ∃ a xs, v = .ref a ∧ H1 a = some (.lst xs) ∧ ∀ o, Q v (upd H1 a (.frz o (.lst xs)))) u s) : EP X pins σ Q u s := by
  obtain ⟨v, H1, I1, r1, a, xs, e1, h1, q⟩ := h
  obtain ⟨o, J⟩ := freezeL I1 h1
  exact ⟨v, _, J, r1, q o⟩
theorem op_addD : OpD X (binaryOp .Add) addD := by
  intro pins s σ H x y v u Q I rx ry ⟨d, e, S, P, r1, r2, sr, h, fin⟩
  unfold addD at h
  split at h
  · cases r1; cases r2
    exact op_add pins s σ H _ _ v u Q I rx ry ⟨_, _, rfl, rfl, fin _ S _ H h rfl sr (.refl H)⟩
  · cases r1; cases r2
    obtain ⟨t, rfl⟩ := rx
    cases ry
    exact PySem.add_int_bool ⟨.int _, H, I.tok _, ⟨_, rfl⟩, fin _ S _ H h rfl sr (.refl H)⟩
  · cases r1; cases r2
    obtain ⟨t, rfl⟩ := ry
    cases rx
    exact IntBool.add_bool_int ⟨.int _, H, I.tok _, ⟨_, rfl⟩, fin _ S _ H h rfl sr (.refl H)⟩
  · cases r1; cases r2
    exact op_add_str pins s σ H _ _ v u Q I rx ry ⟨_, _, rfl, rfl, h.1, fin _ S _ H h.2 rfl sr (.refl H)⟩
  · obtain ⟨a, vs, rfl, ha, r3⟩ := r1
    obtain ⟨b, ws, rfl, hb, r4⟩ := r2
    obtain ⟨hz, q⟩ := h
    refine op_catA pins s σ H _ _ v u Q I rx ry ⟨a, b, vs, ws, rfl, rfl, ha, hb, by rw [r3.length, r4.length]; exact hz, fun e => ?_, fun _ e => ?_, fun _ _ p np => ?_⟩
    · subst e
      exact fin _ S _ H q ⟨b, ws, rfl, hb, by simpa using r3.append r4⟩ sr (.refl H)
    · subst e
      exact fin _ S _ H q ⟨a, vs, rfl, ha, by simpa using r3.append r4⟩ sr (.refl H)
    · exact fin _ S _ _ q ⟨p, _, rfl, .of upd_same, (r3.append r4).ext (.new np)⟩ (sr.new np) (.new np)
  · obtain ⟨a, vs, rfl, ha, r3⟩ := r1
    obtain ⟨b, ws, rfl, hb, r4⟩ := r2
    obtain ⟨hz, q⟩ := h
    cases rx; cases ry
    obtain ⟨its, n, sl, rv, z1, e1⟩ := sqF_at I ha
    obtain ⟨its2, n2, sl2, rv2, z2, e2⟩ := sqF_at I hb
    have l1 := r3.length
    have l2 := r4.length
    have l3 := rv.length
    have l4 := rv2.length
    have hsz : its.toArray.size + its2.toArray.size ≤ sizeLine := by rw [List.size_toArray, List.size_toArray]; omega
    refine DM.cat_any e1 e2 hsz ?_
    have ea : its.toArray ++ its2.toArray = (its ++ its2).toArray := by simp
    rw [ea]
    refine freezeE ⟨.ref _, _, I.lnew (t' := s.toks) (rv.append rv2) (by rw [List.length_append]; omega), rfl, _, _, rfl, upd_same, fun o => ?_⟩
    rw [upd_upd]
    exact fin _ S _ _ q ⟨_, _, rfl, .inl ⟨o, upd_same⟩, (r3.append r4).ext (.new I.fresh)⟩ (sr.new I.fresh) (.new I.fresh)
  · exact h.elim
def subD : DR := fun x y S P => match x, y with
  | .int i, .int j => P (.int (i - j)) S
  | .int i, .bl j => P (.int (i - b2i j)) S
  | .bl i, .int j => P (.int (b2i i - j)) S
  | _, _ => False
theorem op_subD : OpD X (binaryOp .Sub) subD := by
  intro pins s σ H x y v u Q I rx ry ⟨d, e, S, P, r1, r2, sr, h, fin⟩
  unfold subD at h
  split at h
  · cases r1; cases r2
    exact op_sub pins s σ H _ _ v u Q I rx ry ⟨_, _, rfl, rfl, fin _ S _ H h rfl sr (.refl H)⟩
  · cases r1; cases r2
    obtain ⟨t, rfl⟩ := rx
    cases ry
    exact IntBool.sub_int_bool ⟨.int _, H, I.tok _, ⟨_, rfl⟩, fin _ S _ H h rfl sr (.refl H)⟩
  · cases r1; cases r2
    obtain ⟨t, rfl⟩ := ry
    cases rx
    exact IntBool.sub_bool_int ⟨.int _, H, I.tok _, ⟨_, rfl⟩, fin _ S _ H h rfl sr (.refl H)⟩
  · exact h.elim
def iiD (C : Int → Int → Prop) (g : Int → Int → Int) : DR := fun x y S P => match x, y with
  | .int i, .int j => C i j ∧ P (.int (g i j)) S
  | _, _ => False
theorem op_iiD {f : Value → Value → Sem Value} {C : Int → Int → Prop} {g : Int → Int → Int} (h0 : OpR X f (rI C fun i j => .int (g i j))) : OpD X f (iiD C g) := by
  intro pins s σ H x y v u Q I rx ry ⟨d, e, S, P, r1, r2, sr, h, fin⟩
  unfold iiD at h
  split at h
  · cases r1; cases r2
    exact h0 pins s σ H _ _ v u Q I rx ry ⟨_, _, rfl, rfl, h.1, fin _ S _ H h.2 rfl sr (.refl H)⟩
  · exact h.elim
theorem op_fdivD : OpD X (binaryOp .FloorDiv) (iiD CDiv fun i j => i / j) := op_iiD op_fdiv
theorem op_modD : OpD X (binaryOp .Mod) (iiD (fun _ j => 0 < j) fun i j => i % j) := op_iiD op_mod
theorem op_powD : OpD X (binaryOp .Pow) (iiD CPow fun i j => i ^ j.toNat) := op_iiD op_pow
def mulD : DR := fun x y S P => match x, y with
  | .int i, .int j => CMul i j ∧ P (.int (i * j)) S
  | .tup xs, .int k => (xs ≠ [] ∧ 2 ≤ k ∧ k ≤ 1000 ∧ xs.length ≤ 1000) ∧ P (.tup (List.replicate k.toNat xs).flatten) S
  | .str z, .int k => (1 < k ∧ k ≤ 1000 ∧ z.length ≤ 1000 ∧ z.length ≠ 0) ∧ P (.str ⟨(List.replicate k.toNat z.cps).foldl (· ++ ·) #[]⟩) S
  | _, _ => False
theorem RpA.rep {K : PySem.W.Frag} {H : Hp} {ds : List D} {vs : List V} (h : RpA K H ds vs) : ∀ n : Nat, RpA K H (List.replicate n ds).flatten (List.replicate n vs).flatten
  | 0 => by simp [RpA]
  | n + 1 => by rw [List.replicate_succ, List.replicate_succ, List.flatten_cons, List.flatten_cons]; exact h.append (RpA.rep h n)
theorem size_joinN (xs : Array Nat) : ∀ (k : Nat) (acc : Array Nat), (List.foldl (fun x1 x2 => x1 ++ x2) acc (List.replicate k xs)).size = acc.size + k * xs.size
  | 0, acc => by simp
  | k + 1, acc => by
    have e : (k + 1) * xs.size = k * xs.size + xs.size := Nat.succ_mul ..
    rw [List.replicate_succ, List.foldl_cons, size_joinN xs k, Array.size_append, e]; omega
theorem op_mulD : OpD X (binaryOp .Mult) mulD := by
  intro pins s σ H x y v u Q I rx ry ⟨d, e, S, P, r1, r2, sr, h, fin⟩
  unfold mulD at h
  split at h
  · cases r1; cases r2
    exact op_mul pins s σ H _ _ v u Q I rx ry ⟨_, _, rfl, rfl, h.1, fin _ S _ H h.2 rfl sr (.refl H)⟩
  · obtain ⟨a, vs, rfl, ha, r3⟩ := r1
    cases r2
    obtain ⟨⟨h1, h2, h3, h4⟩, q⟩ := h
    exact op_repT pins s σ H _ _ v u Q I rx ry ⟨a, _, vs, rfl, rfl, ha, fun e => h1 (by subst e; exact List.eq_nil_of_length_eq_zero r3.length.symm), h2, h3, by rw [r3.length]; exact h4, fun p np => fin _ S _ _ q ⟨p, _, rfl, .of upd_same, (r3.rep _).ext (.new np)⟩ (sr.new np) (.new np)⟩
  · rename_i z k
    cases r1; cases r2
    obtain ⟨t, rfl⟩ := rx
    obtain ⟨t', rfl⟩ := ry
    obtain ⟨⟨h1, h2, h3, h4⟩, q⟩ := h
    have hn : ¬ k < 1 := by omega
    have hk : (k == 1 || z.length == 0) = false := by
      rw [Bool.or_eq_false_iff]; exact ⟨beq_eq_false_iff_ne.mpr (by omega), beq_eq_false_iff_ne.mpr h4⟩
    have hb : z.length * k.toNat ≤ 1000 * 1000 := Nat.mul_le_mul h3 (by omega)
    refine PySem.P.mul_str (by rw [decide_eq_false (by omega), decide_eq_false (by omega)]; rfl) (fun _ _ => ?_) (fun _ _ => ?_) ?_
    · have e : (z.length : Int) * k ≤ 2 ^ 63 - 1 := by
        have e1 : ((z.length * k.toNat : Nat) : Int) = (z.length : Int) * k := by rw [Int.natCast_mul, Int.toNat_of_nonneg (by omega)]
        omega
      have := Int.le_ediv_of_mul_le (show 0 < k by omega) e
      omega
    · unfold Builtin.Str.tooLong; rw [sizeLine_eq]; exact decide_eq_false (by omega)
    · rw [if_neg hn, hk, if_neg Bool.false_ne_true]
      refine ⟨?_, .str _, H, I.tok _, ⟨_, rfl⟩, fin _ S _ H q rfl sr (.refl H)⟩
      show (List.foldl (fun x1 x2 => x1 ++ x2) #[] (List.replicate k.toNat z.cps)).size ≤ sizeLine
      rw [size_joinN, sizeLine_eq]
      have : k.toNat * z.cps.size = z.length * k.toNat := Nat.mul_comm _ _
      simp only [Array.size_empty]
      omega
  · exact h.elim
/-! ### order -/
def cmpI (p : Int → Int → Bool) : DR := fun x y S P => match x, y with
  | .int i, .int j => P (.bl (p i j)) S
  | _, _ => False
theorem op_cmpI {f : Value → Value → Sem Value} {p : Int → Int → Bool} (h0 : OpR X f (rI0 fun i j => .bl (p i j))) : OpD X f (cmpI p) := by
  intro pins s σ H x y v u Q I rx ry ⟨d, e, S, P, r1, r2, sr, h, fin⟩
  unfold cmpI at h
  split at h
  · cases r1; cases r2
    exact h0 pins s σ H _ _ v u Q I rx ry ⟨_, _, rfl, rfl, fin _ S _ H h rfl sr (.refl H)⟩
  · exact h.elim
theorem op_ltD : OpD X (compareOp .Lt) (cmpI fun i j => decide (i < j)) := op_cmpI op_lt
theorem op_gtD : OpD X (compareOp .Gt) (cmpI fun i j => decide (j < i)) := op_cmpI op_gt
theorem op_geD : OpD X (compareOp .GtE) (cmpI fun i j => decide (j ≤ i)) := op_cmpI op_ge
def leD : DR := fun x y S P => match x, y with
  | .int i, .int j => P (.bl (decide (i ≤ j))) S
  | .str i, .str j => P (.bl (!decide (j.cps.toList < i.cps.toList))) S
  | _, _ => False
theorem op_leD : OpD X (compareOp .LtE) leD := by
  intro pins s σ H x y v u Q I rx ry ⟨d, e, S, P, r1, r2, sr, h, fin⟩
  unfold leD at h
  split at h
  · cases r1; cases r2
    exact op_le pins s σ H _ _ v u Q I rx ry ⟨_, _, rfl, rfl, fin _ S _ H h rfl sr (.refl H)⟩
  · cases r1; cases r2
    exact op_le_str pins s σ H _ _ v u Q I rx ry ⟨_, _, rfl, rfl, fin _ S _ H h rfl sr (.refl H)⟩
  · exact h.elim
def isB (neg : Bool) : DR := fun x y S P => match x, y with
  | .bl i, .bl j => P (.bl (neg != decide (i = j))) S
  | _, _ => False
theorem op_isBD : OpD X (compareOp .Is) (isB false) := by
  intro pins s σ H x y v u Q I rx ry ⟨d, e, S, P, r1, r2, sr, h, fin⟩
  unfold isB at h
  split at h
  · cases r1; cases r2
    exact op_isBl pins s σ H _ _ v u Q I rx ry ⟨_, _, rfl, rfl, fin (.bl _) S _ H (by simpa using h) rfl sr (.refl H)⟩
  · exact h.elim
theorem op_isNotBD : OpD X (compareOp .IsNot) (isB true) := by
  intro pins s σ H x y v u Q I rx ry ⟨d, e, S, P, r1, r2, sr, h, fin⟩
  unfold isB at h
  split at h
  · cases r1; cases r2
    exact op_notBl pins s σ H _ _ v u Q I rx ry ⟨_, _, rfl, rfl, fin (.bl _) S _ H (by simpa using h) rfl sr (.refl H)⟩
  · exact h.elim
def negD : D → Sto → DK → Prop := fun x S P => match x with
  | .int i => P (.int (-i)) S
  | _ => False
theorem un_negD : UnD X (unaryOp .USub) negD := by
  intro pins s σ H x v Q I rx ⟨d, S, P, r1, sr, h, fin⟩
  unfold negD at h
  split at h
  · cases r1
    exact un_neg pins s σ H _ v Q I rx ⟨_, rfl, fin _ S _ H h rfl sr (.refl H)⟩
  · exact h.elim
/-! ### subscripts -/
def ixD : DR := fun x y S P => match x, y with
  | .tup xs, .int i => (atI xs i).elim False fun d => P d S
  | .lst xs, .int i => (atI xs i).elim False fun d => P d S
  | .str z, .int i => z.length ≤ sizeLine ∧ (atI z.cps.toList i).elim False fun c => P (.str ⟨#[c]⟩) S
  | .ref a, .int i => match S a with
    | some (.lst xs) => (atI xs i).elim False fun d => P d S
    | _ => False
  | _, _ => False
theorem RpA.atI {K : PySem.W.Frag} {H : Hp} {ds : List D} {vs : List V} {i : Int} {d : D} (h : RpA K H ds vs) (e : L2.atI ds i = some d) : ∃ v, L2.atI vs i = some v ∧ Rp K H d v := by
  unfold L2.atI at e ⊢
  rw [h.length]
  cases q : ixN ds.length i with
  | none => rw [q] at e; cases e
  | some j => rw [q] at e; exact h.get e
theorem ix_D : IxD X ixD := by
  intro value slice pins s σ H x y v u Q I rx ry ⟨d, e, S, P, r1, r2, sr, h, fin⟩ hs
  unfold ixD at h
  have el : ∀ {α : Type} {o : Option α} {f : α → Prop}, o.elim False f → ∃ a, o = some a ∧ f a := fun {α o f} h => by cases o with | none => exact h.elim | some a => exact ⟨a, rfl, h⟩
  split at h
  · obtain ⟨a, vs, rfl, ha, r3⟩ := r1
    cases r2
    obtain ⟨w', hw, q⟩ := el h
    obtain ⟨w2, h2, r4⟩ := r3.atI hw
    exact ix_tup value slice pins s σ H _ _ v u Q I rx ry ⟨a, vs, _, w2, rfl, rfl, ha, h2, fin _ S _ H q r4 sr (.refl H)⟩ hs
  · obtain ⟨a, vs, rfl, ha, r3⟩ := r1
    cases r2
    obtain ⟨w', hw, q⟩ := el h
    obtain ⟨w2, h2, r4⟩ := r3.atI hw
    exact ix_list value slice pins s σ H _ _ v u Q I rx ry ⟨a, vs, _, w2, rfl, rfl, ha.sq, h2, fin _ S _ H q r4 sr (.refl H)⟩ hs
  · cases r1
    cases r2
    obtain ⟨hz, h⟩ := h
    obtain ⟨c, hc, q⟩ := el h
    exact ix_str value slice pins s σ H _ _ v u Q I rx ry ⟨_, _, c, rfl, rfl, hz, hc, fin _ S _ H q rfl sr (.refl H)⟩ hs
  · cases r1
    cases r2
    split at h
    · rename_i xs hS
      obtain ⟨vs, hv, r3⟩ := sr.lst hS
      obtain ⟨w', hw, q⟩ := el h
      obtain ⟨w2, h2, r4⟩ := r3.atI hw
      exact ix_list value slice pins s σ H _ _ v u Q I rx ry ⟨_, vs, _, w2, rfl, rfl, .of hv, h2, fin _ S _ H q r4 sr (.refl H)⟩ hs
    · exact h.elim
  · exact h.elim
def cutD (xs : List D) (lo hi : Option Int) : List D := (xs.drop (HT.sIx xs.length 0 lo)).take (HT.sIx xs.length xs.length hi - HT.sIx xs.length 0 lo)
theorem RpA.cut {K : PySem.W.Frag} {H : Hp} {ds : List D} {vs : List V} {lo hi : Option Int} (h : RpA K H ds vs) : RpA K H (cutD ds lo hi) (cutV vs lo hi) := by
  unfold cutD cutV
  rw [h.length]
  exact (h.drop _).take _
def slD : D → Option Int → Option Int → Sto → DK → Prop := fun x lo hi S P => match x with
  | .tup xs => P (.tup (cutD xs lo hi)) S
  | .lst xs => P (.lst (cutD xs lo hi)) S
  | .str z => z.length ≤ sizeLine ∧ P (.str (cutS z lo hi)) S
  | _ => False
theorem sIx_whole {n : Nat} {lo hi : Option Int} (h : HT.sIx n 0 lo = 0 ∧ HT.sIx n n hi = n) (xs : List D) (hn : xs.length = n) : cutD xs lo hi = xs := by
  unfold cutD
  rw [hn, h.1, h.2, List.drop_zero, Nat.sub_zero, ← hn, List.take_length]
theorem sl_D : SlD X slD := by
  intro pins s σ H x v vl vu lo hi sl Q I rx hs pl pu ⟨d, S, P, r1, sr, h, fin⟩
  unfold slD at h
  split at h
  · obtain ⟨a, vs, rfl, ha, r3⟩ := r1
    refine sl_tupA pins s σ H _ v vl vu lo hi sl Q I rx hs pl pu ⟨a, vs, rfl, ha, fun hw => ?_, fun _ p np => ?_⟩
    · rw [r3.length] at hw
      rw [sIx_whole hw _ rfl] at h
      exact fin _ S _ H h ⟨a, vs, rfl, ha, r3⟩ sr (.refl H)
    · exact fin _ S _ _ h ⟨p, _, rfl, .of upd_same, r3.cut.ext (.new np)⟩ (sr.new np) (.new np)
  · obtain ⟨a, vs, rfl, ha, r3⟩ := r1
    obtain ⟨T, id, t1, t2, t3⟩ := sl_list pins s σ H _ v vl vu lo hi sl (fun v H1 => ∃ a xs, v = .ref a ∧ H1 a = some (.lst xs) ∧ ∀ o, Q v (upd H1 a (.frz o (.lst xs)))) I rx hs pl pu ⟨a, vs, rfl, ha.sq, fun p np => ⟨p, _, rfl, upd_same, fun o => by
      rw [upd_upd]
      exact fin _ S _ _ h ⟨p, _, rfl, .inl ⟨o, upd_same⟩, r3.cut.ext (.new np)⟩ (sr.new np) (.new np)⟩⟩
    exact ⟨T, id, t1, t2, thn t3 fun u s1 q => freezeE q⟩
  · cases r1
    exact sl_str pins s σ H _ v vl vu lo hi sl Q I rx hs pl pu ⟨_, rfl, h.1, fin _ S _ H h.2 rfl sr (.refl H)⟩
  · exact h.elim
/-! ### calls of built-ins -/
def lenD : List D → Sto → DK → Prop := fun ds S P => match ds with
  | [.tup xs] => P (.int xs.length) S
  | [.lst xs] => P (.int xs.length) S
  | [.str z] => z.length ≤ sizeLine ∧ P (.int z.length) S
  | [.ref a] => match S a with
    | some (.lst xs) => P (.int xs.length) S
    | _ => False
  | _ => False
theorem RpA.one {K : PySem.W.Frag} {H : Hp} {d : D} {vs : List V} (h : RpA K H [d] vs) : ∃ v, vs = [v] ∧ Rp K H d v := by
  obtain ⟨v, ws, rfl, r, rfl⟩ := h
  exact ⟨v, rfl, r⟩
theorem RpA.two {K : PySem.W.Frag} {H : Hp} {d e : D} {vs : List V} (h : RpA K H [d, e] vs) : ∃ v w, vs = [v, w] ∧ Rp K H d v ∧ Rp K H e w := by
  obtain ⟨v, ws, rfl, r, h⟩ := h
  obtain ⟨w, rfl, r2⟩ := RpA.one h
  exact ⟨v, w, rfl, r, r2⟩
theorem c_len : CallD X (.builtin "len") lenD := CallR.imp call_len fun xs H Q hh => by
  obtain ⟨ds, S, P, r, sr, h, fin⟩ := hh
  unfold lenD at h
  split at h
  · obtain ⟨v, rfl, a, vs, rfl, ha, r3⟩ := r.one
    exact ⟨_, _, rfl, .inr ⟨vs, ha, rfl⟩, fin (.int _) S _ H (by rw [r3.length]; exact h) rfl sr (.refl H)⟩
  · obtain ⟨v, rfl, a, vs, rfl, ha, r3⟩ := r.one
    exact ⟨_, _, rfl, .inl ⟨vs, ha.sq, rfl⟩, fin (.int _) S _ H (by rw [r3.length]; exact h) rfl sr (.refl H)⟩
  · obtain ⟨v, rfl, r1⟩ := r.one
    cases r1
    exact ⟨_, _, rfl, ⟨h.1, rfl⟩, fin _ S _ H h.2 rfl sr (.refl H)⟩
  · obtain ⟨v, rfl, r1⟩ := r.one
    cases r1
    split at h
    · rename_i xs hS
      obtain ⟨vs, hv, r3⟩ := sr.lst hS
      exact ⟨_, _, rfl, .inl ⟨vs, .of hv, rfl⟩, fin (.int _) S _ H (by rw [r3.length]; exact h) rfl sr (.refl H)⟩
    · exact h.elim
  · exact h.elim
/-- the name of its type -/
def tyD : D → Sto → Option String
  | .non, _ => some "NoneType" | .bl _, _ => some "bool" | .int _, _ => some "int" | .str _, _ => some "str"
  | .tup _, _ => some "tuple" | .lst _, _ => some "list" | .dic _, _ => some "dict"
  | .ref a, S => (S a).bind fun u => match u with | .lst _ => some "list" | .dic _ => none
  | .ty _, _ => none
def isiD : List D → Sto → DK → Prop := fun ds S P => match ds with
  | [d, .ty n] => match tyD d S with
    | some T => match kitB T n with
      | some b => P (.bl b) S
      | none => False
    | none => False
  | _ => False
theorem c_isi : CallD X (.builtin "isinstance") isiD := CallR.imp call_isi fun xs H Q hh => by
  obtain ⟨ds, S, P, r, sr, h, fin⟩ := hh
  unfold isiD at h
  split at h
  · rename_i d n
    obtain ⟨v, w', rfl, r1, r2⟩ := r.two
    cases r2
    split at h
    · rename_i T hT
      split at h
      · rename_i b hb
        refine ⟨v, _, .type T, _, b, rfl, .ty n, ?_, kit_ty hb, fin _ S _ H h rfl sr (.refl H)⟩
        cases d with
        | non => cases r1; cases hT; exact .base .non
        | bl x => cases r1; cases hT; exact .base (.bl x)
        | int x => cases r1; cases hT; exact .base (.int x)
        | str x => cases r1; cases hT; exact .base (.str x)
        | tup x =>
          cases hT
          obtain ⟨a, vs, rfl, ha, r3⟩ := r1
          rcases ha with (e | ⟨o, e⟩) | ⟨o, its, n, e, hc, _⟩
          · exact .base (.tup e)
          · exact .fTuple e
          · exact .kTuple e hc
        | lst x =>
          cases hT
          obtain ⟨a, vs, rfl, ha, r3⟩ := r1
          rcases ha with ⟨o, e⟩ | ⟨o, its, n, e, hc, _⟩
          · exact .base (.frz e)
          · exact .kList e hc
        | dic x =>
          cases hT
          obtain ⟨a, o, vs, rfl, e, r3⟩ := r1
          exact .fDict e
        | ref a =>
          cases r1
          have hT : (S a).bind (fun u => match u with | .lst _ => some "list" | .dic _ => none) = some T := hT
          cases hS : S a with
          | none => rw [hS] at hT; cases hT
          | some u =>
            rw [hS] at hT
            cases u with
            | dic xs => cases hT
            | lst xs =>
              cases hT
              obtain ⟨vs, hv, _⟩ := sr.lst hS
              exact .base (.lst hv)
        | ty n => cases hT
      · exact h.elim
    · exact h.elim
  · exact h.elim
/-- all truths -/
def blsD : List D → Option (List Bool)
  | [] => some []
  | .bl b :: r => (blsD r).map (b :: ·)
  | _ => none
theorem blsD_eq : ∀ {ds : List D} {bs : List Bool}, blsD ds = some bs → ds = bs.map .bl
  | [], _, h => by cases h; rfl
  | .bl b :: r, bs, h => by
    simp only [blsD, Option.map_eq_some_iff] at h
    obtain ⟨cs, h1, rfl⟩ := h
    simp [blsD_eq h1]
def intsD : List D → Option (List Int)
  | [] => some []
  | .int b :: r => (intsD r).map (b :: ·)
  | _ => none
theorem intsD_eq : ∀ {ds : List D} {bs : List Int}, intsD ds = some bs → ds = bs.map .int
  | [], _, h => by cases h; rfl
  | .int b :: r, bs, h => by
    simp only [intsD, Option.map_eq_some_iff] at h
    obtain ⟨cs, h1, rfl⟩ := h
    simp [intsD_eq h1]
def strsD : List D → Option (List Str)
  | [] => some []
  | .str b :: r => (strsD r).map (b :: ·)
  | _ => none
theorem strsD_eq : ∀ {ds : List D} {bs : List Str}, strsD ds = some bs → ds = bs.map .str
  | [], _, h => by cases h; rfl
  | .str b :: r, bs, h => by
    simp only [strsD, Option.map_eq_some_iff] at h
    obtain ⟨cs, h1, rfl⟩ := h
    simp [strsD_eq h1]
def allD : List D → Sto → DK → Prop := fun ds S P => match ds with
  | [.lst xs] => (blsD xs).elim False fun bs => P (.bl (bs.all id)) S
  | _ => False
theorem c_all (hc : X.calm = true) : CallD X (.builtin "all") allD := CallR.imp (cr_all hc) fun xs H Q hh => by
  obtain ⟨ds, S, P, r, sr, h, fin⟩ := hh
  unfold allD at h
  split at h
  · obtain ⟨v, rfl, a, vs, rfl, ha, r3⟩ := r.one
    rename_i zs
    cases hb : blsD zs with
    | none => rw [hb] at h; exact h.elim
    | some bs =>
      rw [hb] at h
      rw [blsD_eq hb] at r3
      rw [r3.bls] at ha
      exact ⟨a, bs, rfl, ha.sq, fin _ S _ H h rfl sr (.refl H)⟩
  · exact h.elim
def sumD : List D → Sto → DK → Prop := fun ds S P => match ds with
  | [.lst xs] => (intsD xs).elim False fun bs => P (.int bs.sum) S
  | _ => False
theorem c_sum (hc : X.calm = true) : CallD X (.builtin "sum") sumD := CallR.imp (cr_sum hc) fun xs H Q hh => by
  obtain ⟨ds, S, P, r, sr, h, fin⟩ := hh
  unfold sumD at h
  split at h
  · obtain ⟨v, rfl, a, vs, rfl, ha, r3⟩ := r.one
    rename_i zs
    cases hb : intsD zs with
    | none => rw [hb] at h; exact h.elim
    | some bs =>
      rw [hb] at h
      rw [intsD_eq hb] at r3
      rw [r3.ints] at ha
      exact ⟨a, bs, rfl, ha.sq, fin _ S _ H h rfl sr (.refl H)⟩
  · exact h.elim
/-- list(x) that may change; list(x) that stays; tuple(x) -/
def listM : List D → Sto → DK → Prop := fun ds S P => match ds with
  | [.tup xs] => ∀ p, S p = none → P (.ref p) (sup S p (.lst xs))
  | [.lst xs] => ∀ p, S p = none → P (.ref p) (sup S p (.lst xs))
  | _ => False
theorem c_listM : CallD X (.type "list") listM := CallR.imp call_list_of fun xs H Q hh => by
  obtain ⟨ds, S, P, r, sr, h, fin⟩ := hh
  unfold listM at h
  split at h
  · obtain ⟨v, rfl, a, vs, rfl, ha, r3⟩ := r.one
    exact ⟨a, vs, rfl, .inr ha, fun p np => fin _ _ _ _ (h p (sr.none np)) rfl (sr.add np r3) (.new np)⟩
  · obtain ⟨v, rfl, a, vs, rfl, ha, r3⟩ := r.one
    exact ⟨a, vs, rfl, .inl ha.sq, fun p np => fin _ _ _ _ (h p (sr.none np)) rfl (sr.add np r3) (.new np)⟩
  · exact h.elim
theorem CallR.frz {f : Value} {r : List V → Hp → VK → Prop} (h : CallR X f r) : CallR X f (fun xs H Q => r xs H fun v H1 => ∃ a ys, v = .ref a ∧ H1 a = some (.lst ys) ∧ ∀ o, Q v (upd H1 a (.frz o (.lst ys)))) :=
  fun pins s σ H xs us Q I a q => thn (h pins s σ H xs us _ I a q) fun u s1 q1 => freezeE q1
def listF : List D → Sto → DK → Prop := fun ds S P => match ds with
  | [.tup xs] => P (.lst xs) S
  | [.lst xs] => P (.lst xs) S
  | [.ref a] => match S a with
    | some (.lst xs) => P (.lst xs) S
    | _ => False
  | _ => False
theorem c_listF : CallD X (.type "list") listF := CallR.imp (CallR.frz call_list_of) fun xs H Q hh => by
  obtain ⟨ds, S, P, r, sr, h, fin⟩ := hh
  unfold listF at h
  split at h
  · obtain ⟨v, rfl, a, vs, rfl, ha, r3⟩ := r.one
    exact ⟨a, vs, rfl, .inr ha, fun p np => ⟨p, vs, rfl, upd_same, fun o => by rw [upd_upd]; exact fin _ S _ _ h ⟨p, vs, rfl, .inl ⟨o, upd_same⟩, r3.ext (.new np)⟩ (sr.new np) (.new np)⟩⟩
  · obtain ⟨v, rfl, a, vs, rfl, ha, r3⟩ := r.one
    exact ⟨a, vs, rfl, .inl ha.sq, fun p np => ⟨p, vs, rfl, upd_same, fun o => by rw [upd_upd]; exact fin _ S _ _ h ⟨p, vs, rfl, .inl ⟨o, upd_same⟩, r3.ext (.new np)⟩ (sr.new np) (.new np)⟩⟩
  · obtain ⟨v, rfl, r1⟩ := r.one
    cases r1
    split at h
    · rename_i ys hS
      obtain ⟨vs, hv, r3⟩ := sr.lst hS
      exact ⟨_, vs, rfl, .inl (.of hv), fun p np => ⟨p, vs, rfl, upd_same, fun o => by rw [upd_upd]; exact fin _ S _ _ h ⟨p, vs, rfl, .inl ⟨o, upd_same⟩, r3.ext (.new np)⟩ (sr.new np) (.new np)⟩⟩
    · exact h.elim
  · exact h.elim
def tupleD : List D → Sto → DK → Prop := fun ds S P => match ds with
  | [.tup xs] => P (.tup xs) S
  | [.lst xs] => P (.tup xs) S
  | [.ref a] => match S a with
    | some (.lst xs) => P (.tup xs) S
    | _ => False
  | _ => False
theorem c_tuple : CallD X (.type "tuple") tupleD := CallR.imp call_tuple_of fun xs H Q hh => by
  obtain ⟨ds, S, P, r, sr, h, fin⟩ := hh
  unfold tupleD at h
  split at h
  · obtain ⟨v, rfl, a, vs, rfl, ha, r3⟩ := r.one
    exact ⟨a, vs, rfl, .inr ⟨ha, fin _ S _ H h ⟨a, vs, rfl, ha, r3⟩ sr (.refl H)⟩⟩
  · obtain ⟨v, rfl, a, vs, rfl, ha, r3⟩ := r.one
    exact ⟨a, vs, rfl, .inl ⟨ha.sq, fun p np => fin _ S _ _ h ⟨p, vs, rfl, .of upd_same, r3.ext (.new np)⟩ (sr.new np) (.new np)⟩⟩
  · obtain ⟨v, rfl, r1⟩ := r.one
    cases r1
    split at h
    · rename_i ys hS
      obtain ⟨vs, hv, r3⟩ := sr.lst hS
      exact ⟨_, vs, rfl, .inl ⟨.of hv, fun p np => fin _ S _ _ h ⟨p, vs, rfl, .of upd_same, r3.ext (.new np)⟩ (sr.new np) (.new np)⟩⟩
    · exact h.elim
  · exact h.elim
def intD : List D → Sto → DK → Prop := fun ds S P => match ds with
  | [.int i] => P (.int i) S
  | [.bl b] => P (.int (if b then 1 else 0)) S
  | _ => False
theorem c_int : CallD X (.type "int") intD := CallR.imp call_int1 fun xs H Q hh => by
  obtain ⟨ds, S, P, r, sr, h, fin⟩ := hh
  unfold intD at h
  split at h
  · obtain ⟨v, rfl, r1⟩ := r.one
    cases r1
    exact .inl ⟨_, rfl, fin _ S _ H h rfl sr (.refl H)⟩
  · obtain ⟨v, rfl, r1⟩ := r.one
    cases r1
    exact .inr ⟨_, rfl, fin _ S _ H h rfl sr (.refl H)⟩
  · exact h.elim
def minD : List D → Sto → DK → Prop := fun ds S P => match ds with
  | [.int i, .int j] => P (.int (if j < i then j else i)) S
  | _ => False
theorem c_min (hc : X.calm = true) : CallD X (.builtin "min") minD := CallR.imp (call_min2 hc) fun xs H Q hh => by
  obtain ⟨ds, S, P, r, sr, h, fin⟩ := hh
  unfold minD at h
  split at h
  · obtain ⟨v, w', rfl, r1, r2⟩ := r.two
    cases r1
    cases r2
    exact ⟨_, _, rfl, fin _ S _ H h rfl sr (.refl H)⟩
  · exact h.elim
/-! ### methods -/
def onL (x : D) (S : Sto) (f : Addr → List D → Prop) : Prop := match x with
  | .ref a => match S a with
    | some (.lst xs) => f a xs
    | _ => False
  | _ => False
theorem onL_of {x : D} {S : Sto} {f : Addr → List D → Prop} (h : onL x S f) : ∃ a xs, x = .ref a ∧ S a = some (.lst xs) ∧ f a xs := by
  unfold onL at h
  split at h
  · split at h
    · exact ⟨_, _, rfl, by assumption, h⟩
    · exact h.elim
  · exact h.elim
def appendD : D → List D → Sto → DK → Prop := fun x ds S P => match ds with
  | [d] => onL x S fun a xs => xs.length < sizeLine ∧ P .non (sup S a (.lst (xs ++ [d])))
  | _ => False
theorem m_append : MtD X "list.append" appendD := fun pins s σ H x xs v us Q I rx rs ⟨d, ds, S, P, r1, r2, sr, h, fin⟩ => by
  unfold appendD at h
  split at h
  · obtain ⟨a, ys, rfl, hS, h1, h2⟩ := onL_of h
    obtain ⟨w', rfl, r3⟩ := r2.one
    cases r1
    obtain ⟨vs, hv, r4⟩ := sr.lst hS
    exact mt_append pins s σ H _ _ v us Q I rx rs ⟨a, vs, w', rfl, rfl, hv, by rw [r4.length]; exact h1, fin _ _ _ _ h2 rfl (sr.mut hS (r4.append (.single r3))) (.mutL hv)⟩
  · exact h.elim
def popD : D → List D → Sto → DK → Prop := fun x ds S P => match ds with
  | [] => onL x S fun a xs => (xs[xs.length - 1]?).elim False fun d => P d (sup S a (.lst xs.dropLast))
  | _ => False
theorem m_pop : MtD X "list.pop" popD := fun pins s σ H x xs v us Q I rx rs ⟨d, ds, S, P, r1, r2, sr, h, fin⟩ => by
  unfold popD at h
  split at h
  · obtain ⟨a, ys, rfl, hS, h1⟩ := onL_of h
    cases r1
    cases r2
    obtain ⟨vs, hv, r4⟩ := sr.lst hS
    cases hy : ys[ys.length - 1]? with
    | none => rw [hy] at h1; exact h1.elim
    | some y =>
      rw [hy] at h1
      obtain ⟨z, hz, r5⟩ := r4.get hy
      exact mt_pop pins s σ H _ _ v us Q I rx rs ⟨a, vs, z, rfl, rfl, hv, by rw [r4.length]; exact hz, fin _ _ _ _ h1 (r5.ext (.mutL hv)) (sr.mut hS r4.dropLast) (.mutL hv)⟩
  · exact h.elim
def extendD : D → List D → Sto → DK → Prop := fun x ds S P => match ds with
  | [.tup zs] => onL x S fun a xs => xs.length + zs.length ≤ sizeLine ∧ P .non (sup S a (.lst (xs ++ zs)))
  | _ => False
theorem m_extend : MtD X "list.extend" extendD := fun pins s σ H x xs v us Q I rx rs ⟨d, ds, S, P, r1, r2, sr, h, fin⟩ => by
  unfold extendD at h
  split at h
  · obtain ⟨a, ys, rfl, hS, h1, h2⟩ := onL_of h
    obtain ⟨w', rfl, b, ws, rfl, hb, r3⟩ := r2.one
    cases r1
    obtain ⟨vs, hv, r4⟩ := sr.lst hS
    cases rx
    obtain ⟨u, rfl, ru⟩ := rs.one
    cases ru
    obtain ⟨z, its, n, r, hl, e⟩ := I.lstM hv
    obtain ⟨its2, rr2, ⟨⟨cls, dd, data, sl⟩, ho, hcl, n2, hd⟩, hz2⟩ := I.tuple hb
    simp only at hcl hd
    subst hcl hd
    have l1 := r4.length
    have l2 := r3.length
    have l3 := rr2.length
    have hsz : its.toArray.size + its2.toArray.size ≤ sizeLine := by rw [List.size_toArray, List.size_toArray]; omega
    have hlong : ¬ (!its.toArray.isEmpty && Builtin.List.listTooLong (its.toArray.size + its2.toArray.size)) = true := by
      rw [notLongL hsz, Bool.and_false]; exact Bool.false_ne_true
    refine call_meets PySem.F.slot_list_extend ⟨_, e, rfl⟩ PySem.F.entry_list_extend (PySem.F.args_list_extend_2 _ _) (DM.ext_tup a b its.toArray its2.toArray n n2 dd sl hlong (by rw [List.size_toArray]; omega) (by omega)) ⟨⟨e, ho⟩, ?_⟩
    exact ⟨.non, _, I.lset (its' := its ++ its2) (t' := s.toks) hv e (by simp) (r.append rr2) (by rw [List.length_append]; omega), rfl, fin _ _ _ _ h2 rfl (sr.mut hS (r4.append r3)) (.mutL hv)⟩
  · exact h.elim
/-! texts -/
def splitD : D → List D → Sto → DK → Prop := fun x ds S P => match x, ds with
  | .str a, [.str b] => ((b.length == 0) = false ∧ a.length + 2 ≤ sizeLine) ∧ P (.lst ((Txt.split a b).map .str)) S
  | _, _ => False
theorem MtR.frz {id : String} {r : V → List V → Hp → VK → Prop} (h : MtR X id r) : MtR X id (fun x xs H Q => r x xs H fun v H1 => ∃ a ys, v = .ref a ∧ H1 a = some (.lst ys) ∧ ∀ o, Q v (upd H1 a (.frz o (.lst ys)))) :=
  fun pins s σ H x xs v us Q I a b q => thn (h pins s σ H x xs v us _ I a b q) fun u s1 q1 => freezeE q1
theorem m_split : MtD X "str.split" splitD := MtR.imp (MtR.frz mt_split) fun x xs H Q hh => by
  obtain ⟨d, ds, S, P, r1, r2, sr, h, fin⟩ := hh
  unfold splitD at h
  split at h
  · cases r1
    obtain ⟨w', rfl, r3⟩ := r2.one
    cases r3
    exact ⟨_, _, rfl, rfl, h.1.1, h.1.2, fun p np => ⟨p, _, rfl, upd_same, fun o => by rw [upd_upd]; exact fin _ S _ _ h.2 ⟨p, _, rfl, .inl ⟨o, upd_same⟩, RpA.of_strs _⟩ (sr.new np) (.new np)⟩⟩
  · exact h.elim
def countD : D → List D → Sto → DK → Prop := fun x ds S P => match x, ds with
  | .str a, [.str b] => P (.int (Txt.count a b)) S
  | _, _ => False
theorem m_count : MtD X "str.count" countD := MtR.imp mt_count fun x xs H Q hh => by
  obtain ⟨d, ds, S, P, r1, r2, sr, h, fin⟩ := hh
  unfold countD at h
  split at h
  · cases r1
    obtain ⟨w', rfl, r3⟩ := r2.one
    cases r3
    exact ⟨_, _, rfl, rfl, fin _ S _ H h rfl sr (.refl H)⟩
  · exact h.elim
def upperD : D → List D → Sto → DK → Prop := fun x ds S P => match x, ds with
  | .str a, [] => a.length ≤ 5592405 ∧ P (.str (Txt.upper a)) S
  | _, _ => False
theorem m_upper : MtD X "str.upper" upperD := MtR.imp mt_upper fun x xs H Q hh => by
  obtain ⟨d, ds, S, P, r1, r2, sr, h, fin⟩ := hh
  unfold upperD at h
  split at h
  · cases r1
    cases r2
    exact ⟨_, rfl, rfl, h.1, fin _ S _ H h.2 rfl sr (.refl H)⟩
  · exact h.elim
def joinD : D → List D → Sto → DK → Prop := fun x ds S P => match x, ds with
  | .str a, [.lst xs] => (strsD xs).elim False fun ys => (ys.map (·.length)).sum + ys.length * a.length ≤ 16777216 ∧ P (.str (Txt.join a ys)) S
  | _, _ => False
theorem m_join : MtD X "str.join" joinD := MtR.imp mt_join fun x xs H Q hh => by
  obtain ⟨d, ds, S, P, r1, r2, sr, h, fin⟩ := hh
  unfold joinD at h
  split at h
  · cases r1
    obtain ⟨w', rfl, a, vs, rfl, ha, r3⟩ := r2.one
    rename_i zs
    cases hb : strsD zs with
    | none => rw [hb] at h; exact h.elim
    | some bs =>
      rw [hb] at h
      rw [strsD_eq hb] at r3
      rw [r3.strs] at ha
      exact ⟨_, a, bs, rfl, rfl, .inl ha.sq, h.1, fin _ S _ H h.2 rfl sr (.refl H)⟩
  · exact h.elim
end
end DL
set_option Elab.async false
set_option linter.all false
set_option maxRecDepth 100000
set_option maxHeartbeats 1000000
namespace DL
open PySem PySem.Spec PyProof.Rows L2

/-- a list that changes, as it stands -/
def norm (S : Sto) : D → D
  | .ref a => match S a with
    | some (.lst xs) => .lst xs
    | _ => .ref a
  | d => d
def KD (K : PySem.W.Frag) (H : Hp) : D → V → Prop
  | .lst xs, v => ∃ a vs, v = .ref a ∧ SqL K H a vs ∧ RpA K H xs vs
  | d, v => Rp K H d v
theorem kd_of {K : PySem.W.Frag} {H : Hp} {S : Sto} {d : D} {v : V} (r : Rp K H d v) (sr : SR K H S) : KD K H (norm S d) v := by
  cases d with
  | ref a =>
    unfold norm
    simp only
    split
    · rename_i xs hS
      obtain ⟨vs, hv, r2⟩ := sr.lst hS
      exact ⟨a, vs, r, .of hv, r2⟩
    · exact r
  | lst xs => obtain ⟨a, vs, e, h, r2⟩ := r; exact ⟨a, vs, e, h.sq, r2⟩
  | _ => exact r
def two (xs ys : List D) : Option Bool := if xs.isEmpty || ys.isEmpty then some (xs.isEmpty && ys.isEmpty) else none
def eqB : D → D → Option Bool
  | .str a, .str b => some (a == b)
  | .int a, .int b => some (a == b)
  | .bl a, .bl b => some (a == b)
  | .bl a, .int b => some (b2i a == b)
  | .int a, .bl b => some (a == b2i b)
  | .tup xs, .tup ys => two xs ys
  | .lst xs, .lst ys => two xs ys
  | .str _, .non => some false
  | .str _, .bl _ => some false
  | .str _, .int _ => some false
  | .str _, .tup _ => some false
  | .str _, .lst _ => some false
  | .str _, .dic _ => some false
  | .non, .str _ => some false
  | .bl _, .str _ => some false
  | .int _, .str _ => some false
  | .tup _, .str _ => some false
  | .lst _, .str _ => some false
  | .dic _, .str _ => some false
  | _, _ => none
section
variable {X : Cx} {pins : List (Addr × Obj)} {σ : L2.St} {H : Hp} {s : Shared} {A : Around}
theorem dic_at {a : Addr} {o : Obj} {ws : List (Key × V)} (I : L2.Inv X pins σ H s) (h : H a = some (.frz o (.dK ws))) : ∃ es n dd sl, s.heap.get? a = some ⟨.type "dict", dd, .dict es n, sl⟩ := by
  obtain ⟨_, _, _, vs, _, ob, es, ep, e, ex, hd, _⟩ := (show ObjOk X.prog X.w H s.heap a (.frz o (.dK ws)) from I.hok a _ h)
  obtain ⟨cls, dd, data, sl⟩ := ob
  have c : cls = .type "dict" := ex.1
  simp only at hd
  subst c hd
  exact ⟨es, ep, dd, sl, e⟩
theorem two_of {xs ys : List D} {vs ws : List V} {its its2 : List Value} {b : Bool} (h : two xs ys = some b) (r1 : RpA X.K H xs vs) (r2 : RpA X.K H ys ws) (q1 : Vals vs its) (q2 : Vals ws its2) :
    ((its.toArray.size = 0 ∨ its2.toArray.size = 0) ∧ b = (its.toArray.size == its2.toArray.size)) := by
  have l1 : xs.length = its.toArray.size := by rw [List.size_toArray, ← q1.length, r1.length]
  have l2 : ys.length = its2.toArray.size := by rw [List.size_toArray, ← q2.length, r2.length]
  unfold two at h
  split at h
  · rename_i hc
    cases h
    cases xs with
    | nil =>
      rw [← l1, ← l2]
      cases ys with
      | nil => exact ⟨.inl rfl, rfl⟩
      | cons y t => exact ⟨.inl rfl, rfl⟩
    | cons x t =>
      cases ys with
      | nil => rw [← l1, ← l2]; exact ⟨.inr rfl, rfl⟩
      | cons y u => cases hc
  · cases h
theorem rc_eq {d e : D} {x y : V} {v u : Value} {b : Bool} (I : L2.Inv X pins σ H s) (hu : A.units < cLine) (h : eqB d e = some b) (k1 : KD X.K H d x) (k2 : KD X.K H e y) (r1 : RelV x v) (r2 : RelV y u) : SeqAt.RcAt A s v u b := by
  unfold eqB at h
  split at h
  all_goals first
    | (cases h; done)
    | skip
  · cases h; cases k1; cases k2; obtain ⟨t, rfl⟩ := r1; obtain ⟨t', rfl⟩ := r2; exact SeqAt.RcAt.str_str _ _ _ _
  · cases h; cases k1; cases k2; obtain ⟨t, rfl⟩ := r1; obtain ⟨t', rfl⟩ := r2; exact SeqAt.RcAt.int_int _ _ _ _
  · cases h; cases k1; cases k2; cases r1; cases r2; exact SeqAt.RcAt.bool_bool _ _
  · cases h; cases k1; cases k2; cases r1; obtain ⟨t', rfl⟩ := r2; exact SeqAt.RcAt.bool_int _ _ _
  · cases h; cases k1; cases k2; cases r2; obtain ⟨t', rfl⟩ := r1; exact SeqAt.RcAt.int_bool _ _ _
  · obtain ⟨a, vs, rfl, ha, r3⟩ := k1
    obtain ⟨c, ws, rfl, hc, r4⟩ := k2
    cases r1; cases r2
    obtain ⟨its, q1, p1, _⟩ := I.tuple ha
    obtain ⟨its2, q2, p2, _⟩ := I.tuple hc
    obtain ⟨hz, rfl⟩ := two_of h r3 r4 q1 q2
    have z := SeqAt.RcAt.tuples (A := A) (s := s) (e := fun _ => true) (show s.heap.IsTuple a its.toArray from p1) (show s.heap.IsTuple c its2.toArray from p2) hu (fun j h1 h2 => by omega)
    have z2 : (List.range (min its.toArray.size its2.toArray.size)).all (fun _ => true) = true := by simp
    rw [z2, Bool.true_and] at z
    exact z
  · obtain ⟨a, vs, rfl, ha, r3⟩ := k1
    obtain ⟨c, ws, rfl, hc, r4⟩ := k2
    cases r1; cases r2
    obtain ⟨its, q1, p1, _⟩ := I.list ha
    obtain ⟨its2, q2, p2, _⟩ := I.list hc
    obtain ⟨hz, rfl⟩ := two_of h r3 r4 q1 q2
    by_cases hs : its.toArray.size = its2.toArray.size
    · have z := SeqAt.RcAt.lists (A := A) (s := s) (e := fun _ => true) p1.isList p2.isList hs hu (fun j h1 h2 => by omega)
      have z2 : (List.range its.toArray.size).all (fun _ => true) = true := by simp
      rw [z2] at z
      rw [beq_iff_eq.mpr hs]
      exact z
    · rw [beq_eq_false_iff_ne.mpr hs]
      exact SeqAt.RcAt.lists_lengths p1.isList p2.isList (by simpa using hs) hu
  · cases h; cases k1; cases k2; obtain ⟨t, rfl⟩ := r1; cases r2; exact SeqAt.RcAt.str_none _ _
  · cases h; cases k1; cases k2; obtain ⟨t, rfl⟩ := r1; cases r2; exact SeqAt.RcAt.str_bool _ _ _
  · cases h; cases k1; cases k2; obtain ⟨t, rfl⟩ := r1; obtain ⟨t', rfl⟩ := r2; exact SeqAt.RcAt.str_int _ _ _ _
  · cases h; cases k1; obtain ⟨t, rfl⟩ := r1; obtain ⟨c, ws, rfl, hc, r4⟩ := k2; cases r2
    obtain ⟨its2, q2, p2, _⟩ := I.tuple hc
    exact SeqAt.RcAt.str_tuple _ _ (show s.heap.IsTuple c its2.toArray from p2) hu
  · cases h; cases k1; obtain ⟨t, rfl⟩ := r1; obtain ⟨c, ws, rfl, hc, r4⟩ := k2; cases r2
    obtain ⟨its2, q2, p2, _⟩ := I.list hc
    exact SeqAt.RcAt.str_list _ _ p2.isList hu
  · cases h; cases k1; obtain ⟨t, rfl⟩ := r1; obtain ⟨c, o, ws, rfl, hc, r4⟩ := k2; cases r2
    obtain ⟨es, n, dd, sl, q⟩ := dic_at I hc
    exact DM.rc_str_dict _ _ q hu
  · cases h; cases k1; cases k2; obtain ⟨t, rfl⟩ := r2; cases r1; exact SeqAt.RcAt.none_str _ _
  · cases h; cases k1; cases k2; obtain ⟨t, rfl⟩ := r2; cases r1; exact SeqAt.RcAt.bool_str _ _ _
  · cases h; cases k1; cases k2; obtain ⟨t, rfl⟩ := r1; obtain ⟨t', rfl⟩ := r2; exact SeqAt.RcAt.int_str _ _ _ _
  · cases h; cases k2; obtain ⟨t, rfl⟩ := r2; obtain ⟨c, ws, rfl, hc, r4⟩ := k1; cases r1
    obtain ⟨its2, q2, p2, _⟩ := I.tuple hc
    exact SeqAt.RcAt.tuple_str _ _ (show s.heap.IsTuple c its2.toArray from p2) hu
  · cases h; cases k2; obtain ⟨t, rfl⟩ := r2; obtain ⟨c, ws, rfl, hc, r4⟩ := k1; cases r1
    obtain ⟨its2, q2, p2, _⟩ := I.list hc
    exact SeqAt.RcAt.list_str _ _ p2.isList hu
  · cases h; cases k2; obtain ⟨t, rfl⟩ := r2; obtain ⟨c, o, ws, rfl, hc, r4⟩ := k1; cases r1
    obtain ⟨es, n, dd, sl, q⟩ := dic_at I hc
    exact DM.rc_dict_str _ _ q hu
def eqD : DR := fun x y S P => (eqB (norm S x) (norm S y)).elim False fun b => P (.bl b) S
theorem el_of {α : Type} {o : Option α} {f : α → Prop} (h : o.elim False f) : ∃ a, o = some a ∧ f a := by cases o with | none => exact h.elim | some a => exact ⟨a, rfl, h⟩
theorem op_eqD (hu : X.A.units < cLine) : OpD X (compareOp .Eq) eqD := by
  intro pins s σ H x y v u Q I rx ry ⟨d, e, S, P, r1, r2, sr, h, fin⟩
  obtain ⟨b, hb, q⟩ := el_of h
  exact rc_eq I hu hb (kd_of r1 sr) (kd_of r2 sr) rx ry X.prog X.w _ _ ⟨.bl b, H, I, rfl, fin (.bl b) S _ H q rfl sr (.refl H)⟩
/-- != : as ==, but not of a dict -/
def neB : D → D → Option Bool
  | .str _, .dic _ => none
  | .dic _, .str _ => none
  | x, y => eqB x y
def neD : DR := fun x y S P => (neB (norm S x) (norm S y)).elim False fun b => P (.bl (!b)) S
theorem rc_ne {d e : D} {x y : V} {v u : Value} {b : Bool} (I : L2.Inv X pins σ H s) (hu : A.units < cLine) (h : neB d e = some b) (k1 : KD X.K H d x) (k2 : KD X.K H e y) (r1 : RelV x v) (r2 : RelV y u) : SeqAt.RcNeAt A s v u (!b) := by
  unfold neB at h
  split at h
  · cases h
  · cases h
  rename_i n1 n2
  unfold eqB at h
  split at h
  all_goals first
    | (cases h; done)
    | skip
  · cases h; cases k1; cases k2; obtain ⟨t, rfl⟩ := r1; obtain ⟨t', rfl⟩ := r2; exact SeqAt.RcNeAt.str_str _ _ _ _
  · cases h; cases k1; cases k2; obtain ⟨t, rfl⟩ := r1; obtain ⟨t', rfl⟩ := r2; exact SeqAt.RcNeAt.int_int _ _ _ _
  · cases h; cases k1; cases k2; cases r1; cases r2; exact SeqAt.RcNeAt.bool_bool _ _
  · cases h; cases k1; cases k2; cases r1; obtain ⟨t', rfl⟩ := r2; exact SeqAt.RcNeAt.bool_int _ _ _
  · cases h; cases k1; cases k2; cases r2; obtain ⟨t', rfl⟩ := r1; exact SeqAt.RcNeAt.int_bool _ _ _
  · obtain ⟨a, vs, rfl, ha, r3⟩ := k1
    obtain ⟨c, ws, rfl, hc, r4⟩ := k2
    cases r1; cases r2
    obtain ⟨its, q1, p1, _⟩ := I.tuple ha
    obtain ⟨its2, q2, p2, _⟩ := I.tuple hc
    obtain ⟨hz, rfl⟩ := two_of h r3 r4 q1 q2
    have z := SeqAt.RcNeAt.tuples (A := A) (s := s) (e := fun _ => true) (show s.heap.IsTuple a its.toArray from p1) (show s.heap.IsTuple c its2.toArray from p2) hu (fun j h1 h2 => by omega)
    have z2 : (List.range (min its.toArray.size its2.toArray.size)).all (fun _ => true) = true := by simp
    rw [z2, Bool.true_and] at z
    exact z
  · obtain ⟨a, vs, rfl, ha, r3⟩ := k1
    obtain ⟨c, ws, rfl, hc, r4⟩ := k2
    cases r1; cases r2
    obtain ⟨its, q1, p1, _⟩ := I.list ha
    obtain ⟨its2, q2, p2, _⟩ := I.list hc
    obtain ⟨hz, rfl⟩ := two_of h r3 r4 q1 q2
    by_cases hs : its.toArray.size = its2.toArray.size
    · have z := SeqAt.RcNeAt.lists (A := A) (s := s) (e := fun _ => true) p1.isList p2.isList hs hu (fun j h1 h2 => by omega)
      have z2 : (List.range its.toArray.size).all (fun _ => true) = true := by simp
      rw [z2] at z
      rw [beq_iff_eq.mpr hs]
      exact z
    · rw [beq_eq_false_iff_ne.mpr hs]
      exact SeqAt.RcNeAt.lists_lengths p1.isList p2.isList (by simpa using hs) hu
  · cases h; cases k1; cases k2; obtain ⟨t, rfl⟩ := r1; cases r2; exact SeqAt.RcNeAt.str_none _ _
  · cases h; cases k1; cases k2; obtain ⟨t, rfl⟩ := r1; cases r2; exact SeqAt.RcNeAt.str_bool _ _ _
  · cases h; cases k1; cases k2; obtain ⟨t, rfl⟩ := r1; obtain ⟨t', rfl⟩ := r2; exact SeqAt.RcNeAt.str_int _ _ _ _
  · cases h; cases k1; obtain ⟨t, rfl⟩ := r1; obtain ⟨c, ws, rfl, hc, r4⟩ := k2; cases r2
    obtain ⟨its2, q2, p2, _⟩ := I.tuple hc
    exact SeqAt.RcNeAt.str_tuple _ _ (show s.heap.IsTuple c its2.toArray from p2) hu
  · cases h; cases k1; obtain ⟨t, rfl⟩ := r1; obtain ⟨c, ws, rfl, hc, r4⟩ := k2; cases r2
    obtain ⟨its2, q2, p2, _⟩ := I.list hc
    exact SeqAt.RcNeAt.str_list _ _ p2.isList hu
  · exact absurd rfl (n1 _ _ rfl)
  · cases h; cases k1; cases k2; obtain ⟨t, rfl⟩ := r2; cases r1; exact SeqAt.RcNeAt.none_str _ _
  · cases h; cases k1; cases k2; obtain ⟨t, rfl⟩ := r2; cases r1; exact SeqAt.RcNeAt.bool_str _ _ _
  · cases h; cases k1; cases k2; obtain ⟨t, rfl⟩ := r1; obtain ⟨t', rfl⟩ := r2; exact SeqAt.RcNeAt.int_str _ _ _ _
  · cases h; cases k2; obtain ⟨t, rfl⟩ := r2; obtain ⟨c, ws, rfl, hc, r4⟩ := k1; cases r1
    obtain ⟨its2, q2, p2, _⟩ := I.tuple hc
    exact SeqAt.RcNeAt.tuple_str _ _ (show s.heap.IsTuple c its2.toArray from p2) hu
  · cases h; cases k2; obtain ⟨t, rfl⟩ := r2; obtain ⟨c, ws, rfl, hc, r4⟩ := k1; cases r1
    obtain ⟨its2, q2, p2, _⟩ := I.list hc
    exact SeqAt.RcNeAt.list_str _ _ p2.isList hu
  · exact absurd rfl (n2 _ _ rfl)
theorem op_neD (hu : X.A.units < cLine) : OpD X (compareOp .NotEq) neD := by
  intro pins s σ H x y v u Q I rx ry ⟨d, e, S, P, r1, r2, sr, h, fin⟩
  obtain ⟨b, hb, q⟩ := el_of h
  exact rc_ne I hu hb (kd_of r1 sr) (kd_of r2 sr) rx ry X.prog X.w _ _ ⟨.bl _, H, I, rfl, fin (.bl _) S _ H q rfl sr (.refl H)⟩
end
end DL
set_option Elab.async false
set_option linter.all false
set_option maxRecDepth 100000
set_option maxHeartbeats 1000000
namespace DL
open PySem PySem.Spec PyProof.Rows L2

/-! ### trees as the model's plain data, and their texts -/
def keyPy : Key → PyData
  | .inl i => .int i
  | .inr x => .str x
mutual
def py : D → PyData
  | .non => .none
  | .bl b => .bool b
  | .int i => .int i
  | .str s => .str s
  | .ref _ => .none
  | .ty _ => .none
  | .tup xs => .tuple (pyA xs)
  | .lst xs => .list (pyA xs)
  | .dic kvs => .dict (pyK kvs)
def pyA : List D → List PyData
  | [] => []
  | d :: r => py d :: pyA r
def pyK : List (Key × D) → List (PyData × PyData)
  | [] => []
  | (k, d) :: r => (keyPy k, py d) :: pyK r
end
mutual
/-- nothing in it may change -/
def still : D → Bool
  | .ref _ => false
  | .ty _ => false
  | .tup xs => stillA xs
  | .lst xs => stillA xs
  | .dic kvs => stillK kvs
  | _ => true
def stillA : List D → Bool
  | [] => true
  | d :: r => still d && stillA r
def stillK : List (Key × D) → Bool
  | [] => true
  | (_, d) :: r => still d && stillK r
end
/-- what a value gives for its repr -/
def Both (P : Program) (w : World) (h : Heap) (u : Value) (d : PyData) : Prop :=
  ∃ as bs, Reads h u d as ∧ ReadAtMost h d.depth bs ∧ ReprK P w bs h d.depth u d.shown
def BothA (P : Program) (w : World) (h : Heap) (us : List Value) (ds : List PyData) : Prop :=
  ∃ as bs, ReadsAll h us ds as ∧ ReadAtMost h (PyData.depthAll ds) bs ∧ ReprAllK P w bs h (PyData.depthAll ds) us (PyData.shownAll ds)
theorem noAddr {h : Heap} {n : Nat} : ReadAtMost h n [] := fun _ q => nomatch q
section
variable {P : Program} {w : World} {h : Heap}
theorem BothA.nil : BothA P w h [] [] := ⟨[], [], .nil, noAddr, by simp only [PyData.shownAll]; exact .nil⟩
theorem BothA.cons {u : Value} {d : PyData} {us : List Value} {ds : List PyData} (a : Both P w h u d) (b : BothA P w h us ds) : BothA P w h (u :: us) (d :: ds) := by
  obtain ⟨as, bs, r, m, k⟩ := a
  obtain ⟨as', bs', r', m', k'⟩ := b
  refine ⟨as ++ as', bs ++ bs', .cons r r', ?_, ?_⟩
  · simp only [PyData.depthAll]
    exact (m.mono (Nat.le_max_left _ _)).append (m'.mono (Nat.le_max_right _ _))
  · simp only [PyData.depthAll, PyData.shownAll]
    exact .cons ((k.more fun _ z => List.mem_append_left _ z).level_le (Nat.le_max_left _ _)) (k'.more_le (fun _ z => List.mem_append_right _ z) (Nat.le_max_right _ _))
theorem Both.tup {a : Addr} {o : Obj} {its : Array Value} {n : Nat} {ds : List PyData} (e : h.get? a = some o) (c : o.cls = .type "tuple") (q : o.data = .seq its n) (b : BothA P w h its.toList ds) : Both P w h (.ref a) (.tuple ds) := by
  obtain ⟨as, bs, r, m, k⟩ := b
  have R : Reads h (.ref a) (.tuple ds) as := .tuple e c q r
  have na : a ∉ bs := not_mem_of_deeper R (by simp only [PyData.depth]; exact Nat.lt_succ_self _) m
  refine ⟨as, a :: bs, R, .cons R (by simp only [PyData.depth]; exact Nat.le_succ _) m, ?_⟩
  simp only [PyData.depth, PyData.shown]
  exact .tuple e c q na k
theorem Both.lst {a : Addr} {o : Obj} {its : Array Value} {n : Nat} {ds : List PyData} (e : h.get? a = some o) (c : o.cls = .type "list") (q : o.data = .seq its n) (b : BothA P w h its.toList ds) : Both P w h (.ref a) (.list ds) := by
  obtain ⟨as, bs, r, m, k⟩ := b
  have R : Reads h (.ref a) (.list ds) (a :: as) := .list e c q r
  have na : a ∉ bs := not_mem_of_deeper R (by simp only [PyData.depth]; exact Nat.lt_succ_self _) m
  refine ⟨a :: as, a :: bs, R, .cons R (by simp only [PyData.depth]; exact Nat.le_succ _) m, ?_⟩
  simp only [PyData.depth, PyData.shown]
  obtain ⟨its⟩ := its
  cases its with
  | nil =>
    cases ds with
    | nil => simp only [PyData.shownAll, listText_nil]; exact .listEmpty e c q
    | cons x t => cases r
  | cons x t => exact .list e c q na (by simpa using k.length_eq) fun i y z => k.item i y (by simpa using z)
theorem Both.dic {a : Addr} {o : Obj} {es : Array DictEntry} {n : Nat} {kvs : List (PyData × PyData)} (e : h.get? a = some o) (c : o.cls = .type "dict") (q : o.data = .dict es n) (low : (a == sysModules) = false)
    (b1 : BothA P w h (es.toList.map (·.key)) (kvs.map (·.1))) (b2 : BothA P w h (es.toList.map (·.val)) (kvs.map (·.2))) : Both P w h (.ref a) (.dict kvs) := by
  obtain ⟨as, bs, r, m, k⟩ := b1
  obtain ⟨as', bs', r', m', k'⟩ := b2
  have R : Reads h (.ref a) (.dict kvs) _ := .dict e c q r r'
  have l1 := PyData.depthAll_keys_le kvs
  have l2 := PyData.depthAll_vals_le kvs
  have M : ReadAtMost h (PyData.depthKv kvs) (bs ++ bs') := (m.mono l1).append (m'.mono l2)
  have na : a ∉ bs ++ bs' := not_mem_of_deeper R (by simp only [PyData.depth]; exact Nat.lt_succ_self _) M
  refine ⟨_, a :: (bs ++ bs'), R, .cons R (by simp only [PyData.depth]; exact Nat.le_succ _) M, ?_⟩
  simp only [PyData.depth, PyData.shown, PyData.shownKv_eq]
  exact .dict e c q low na (.of_two es.toList _ _ (k.more_le (fun _ z => List.mem_append_left _ z) l1) (k'.more_le (fun _ z => List.mem_append_right _ z) l2))
end
def fitsKey : Key → Bool
  | .inl i => decide (i.natAbs.log2 < 1920)
  | .inr x => decide ((reprText x).length ≤ sizeLine)
mutual
/-- no number, no text too long -/
def fits : D → Bool
  | .int i => decide (i.natAbs.log2 < 1920)
  | .str x => decide ((reprText x).length ≤ sizeLine)
  | .tup xs => fitsA xs
  | .lst xs => fitsA xs
  | .dic kvs => fitsK kvs
  | .ref _ => false
  | .ty _ => false
  | _ => true
def fitsA : List D → Bool
  | [] => true
  | d :: r => fits d && fitsA r
def fitsK : List (Key × D) → Bool
  | [] => true
  | (k, d) :: r => fitsKey k && fits d && fitsK r
end
section
variable {X : Cx} {pins : List (Addr × Obj)} {σ : L2.St} {H : Hp} {s : Shared}
theorem both_leaf {u : Value} {d : PyData} {t : Str} {as : List Addr} (r : Reads s.heap u d as) (e : d.shown = t) (k : ReprIs X.prog X.w u t) : Both X.prog X.w s.heap u d := ⟨as, [], r, noAddr, by rw [e]; exact .of_is k _ _ _⟩
theorem both_int (i : Int) (t : Tok) (h : i.natAbs.log2 < 1920) : Both X.prog X.w s.heap (.int i t) (.int i) := both_leaf (.int i t) (by simp only [PyData.shown]) (ReprIs.int t h)
theorem both_str (x : Str) (t : Tok) (h : (reprText x).length ≤ sizeLine) : Both X.prog X.w s.heap (.str x t) (.str x) := both_leaf (.str x t) (by simp only [PyData.shown]) (ReprIs.str x t h)
theorem both_key {k : Key} {v : Value} (e : keyIs k v = true) (hk : fitsKey k = true) : Both X.prog X.w s.heap v (keyPy k) := by
  have r := keyIs_rel e
  cases k with
  | inl i => obtain ⟨t, rfl⟩ := r; exact both_int i t (of_decide_eq_true hk)
  | inr x => obtain ⟨t, rfl⟩ := r; exact both_str x t (of_decide_eq_true hk)
mutual
theorem both (I : L2.Inv X pins σ H s) : ∀ (d : D) (v : V) (u : Value), Rp X.K H d v → RelV v u → fits d = true → Both X.prog X.w s.heap u (py d)
  | .non, _, _, r, ru, _ => by cases r; cases ru; simp only [py]; exact both_leaf .none (by simp only [PyData.shown]) ReprIs.none
  | .bl b, _, _, r, ru, _ => by cases r; cases ru; simp only [py]; exact both_leaf (.bool b) (by simp only [PyData.shown]) (ReprIs.bool b)
  | .int i, _, _, r, ru, f => by cases r; obtain ⟨t, rfl⟩ := ru; simp only [py]; exact both_int i t (by simpa [fits] using f)
  | .str x, _, _, r, ru, f => by cases r; obtain ⟨t, rfl⟩ := ru; simp only [py]; exact both_str x t (by simpa [fits] using f)
  | .ref _, _, _, _, _, f => by simp [fits] at f
  | .ty _, _, _, _, _, f => by simp [fits] at f
  | .tup ds, _, _, ⟨a, vs, e, hq, r2⟩, ru, f => by
    subst e
    cases ru
    obtain ⟨its, q1, ⟨o, e1, c1, n, d1⟩, _⟩ := I.tuple hq
    simp only [py]
    exact .tup e1 c1 d1 (by simpa using bothA I ds vs its r2 q1 (by simpa [fits] using f))
  | .lst ds, _, _, ⟨a, vs, e, hq, r2⟩, ru, f => by
    subst e
    cases ru
    obtain ⟨its, n, sl, q1, _, e1⟩ := sqF_at I hq
    simp only [py]
    exact .lst e1 rfl rfl (by simpa using bothA I ds vs its r2 q1 (by simpa [fits] using f))
  | .dic kvs, _, _, ⟨a, o, ws, e, hq, r2⟩, ru, f => by
    subst e
    cases ru
    obtain ⟨_, _, low, vs, kv, ob, es, ep, e1, ex, hd, _, pr, _⟩ := (show ObjOk X.prog X.w H s.heap a (.frz o (.dK ws)) from I.hok a _ hq)
    simp only [py]
    obtain ⟨b1, b2⟩ := bothK I kvs ws vs es.toList r2 kv pr (by simpa [fits] using f)
    exact .dic e1 ex.1 hd low b1 b2
theorem bothA (I : L2.Inv X pins σ H s) : ∀ (ds : List D) (vs : List V) (us : List Value), RpA X.K H ds vs → Vals vs us → fitsA ds = true → BothA X.prog X.w s.heap us (pyA ds)
  | [], _, _, r, q, _ => by cases r; cases q; simp only [pyA]; exact .nil
  | d :: ds, _, _, ⟨v, ws, e, r1, r2⟩, q, f => by
    subst e
    cases q with
    | cons q1 q2 =>
      have f' : fits d = true ∧ fitsA ds = true := by simpa [fitsA] using f
      simp only [pyA]
      exact .cons (both I d v _ r1 q1 f'.1) (bothA I ds ws _ r2 q2 f'.2)
theorem bothK (I : L2.Inv X pins σ H s) : ∀ (ds : List (Key × D)) (ws : List (Key × V)) (vs : List (Key × Value)) (es : List DictEntry), RpK X.K H ds ws → KV ws vs → Pairs (mixKind X.prog X.w) es vs → fitsK ds = true →
    BothA X.prog X.w s.heap (es.map (·.key)) ((pyK ds).map (·.1)) ∧ BothA X.prog X.w s.heap (es.map (·.val)) ((pyK ds).map (·.2))
  | [], _, _, _, r, q, p, _ => by cases r; cases q; cases p; simp only [pyK, List.map_nil]; exact ⟨.nil, .nil⟩
  | (k, d) :: ds, _, _, _, ⟨v, ws', e, r1, r2⟩, q, p, f => by
    subst e
    cases q with
    | cons q1 q2 =>
      cases p with
      | cons p1 p2 p3 =>
        have f' : (fitsKey k = true ∧ fits d = true) ∧ fitsK ds = true := by
          unfold fitsK at f
          rw [Bool.and_eq_true, Bool.and_eq_true] at f
          exact f
        obtain ⟨b1, b2⟩ := bothK I ds ws' _ _ r2 q2 p3 f'.2
        simp only [pyK, List.map_cons]
        obtain ⟨q3, q4⟩ := q1
        simp only at q3 q4
        subst q3
        rw [p2]
        exact ⟨.cons (both_key p1 f'.1.1) b1, .cons (both I d v _ r1 q4 f'.1.2) b2⟩
end
end
end DL
set_option Elab.async false
set_option linter.all false
set_option maxRecDepth 100000
set_option maxHeartbeats 1000000
namespace DL
open PySem PySem.Spec PyProof.Rows L2
section
variable {X : Cx}
theorem in1_units (A : Around) : A.in1.units = A.units + 1 := rfl
/-- repr of a tree -/
def reprD : List D → Sto → DK → Prop := fun ds S P => match ds with
  | [d] => (fits d = true ∧ (py d).shown.length ≤ sizeLine ∧ (py d).depth ≤ 150) ∧ P (.str (py d).shown) S
  | _ => False
theorem RpA.one' {K : PySem.W.Frag} {H : Hp} {d : D} {vs : List V} (h : RpA K H [d] vs) : ∃ v, vs = [v] ∧ Rp K H d v := by
  obtain ⟨v, ws, e, r, e2⟩ := h
  cases e2
  exact ⟨v, e, r⟩
theorem c_repr (hgd : X.A.guards = some []) (hu : X.A.units + 200 < cLine) : CallD X (.builtin "repr") reprD := by
  intro pins s σ H xs us Q I rv ⟨ds, S, P, ra, sr, h, fin⟩
  unfold reprD at h
  split at h
  · rename_i d
    obtain ⟨⟨hf, hz, hd⟩, q⟩ := h
    obtain ⟨v, rfl, r⟩ := ra.one'
    obtain ⟨u, rfl, ru⟩ := vals1 rv
    have B := both I d v u r ru hf
    have done : ∀ (h' : Heap) (t tk : Tok), (∀ b o, s.heap.get? b = some o → h'.get? b = some o) → EP X pins σ Q (.str (py d).shown t) { s with heap := h', toks := tk } := fun h' t tk k => ⟨.str _, H, I.kept (t' := tk) k, ⟨_, rfl⟩, fin _ S _ H q rfl sr (.refl H)⟩
    obtain ⟨as, bs, R, m, k⟩ := B
    have g1 : X.A.in1.guards = some [] := hgd
    have u1 : X.A.in1.units = X.A.units + 1 ∨ True := .inr trivial
    cases d with
    | non => cases r; cases ru; simp only [py, PyData.shown] at q done ⊢; exact PySem.P.repr_of_none (done s.heap _ _ fun _ _ e => e)
    | bl b => cases r; cases ru; simp only [py, PyData.shown] at q done ⊢; exact PySem.P.repr_of_bool (done s.heap _ _ fun _ _ e => e)
    | int i => cases r; obtain ⟨t, rfl⟩ := ru; simp only [py, PyData.shown] at q done ⊢; exact PySem.P.repr_of_int (by simpa [fits] using hf) (done s.heap _ _ fun _ _ e => e)
    | str x => cases r; obtain ⟨t, rfl⟩ := ru; simp only [py, PyData.shown] at q done ⊢; exact PySem.P.repr_of_str (done s.heap _ _ fun _ _ e => e) (by simpa [fits] using hf)
    | ref a => simp [fits] at hf
    | ty n => simp [fits] at hf
    | tup xs =>
      obtain ⟨a, vs, rfl, hq, r2⟩ := r
      cases ru
      obtain ⟨its, q1, ⟨o, e1, c1, n, d1⟩, _⟩ := I.tuple hq
      obtain ⟨as', bs', R', m', k'⟩ := bothA I xs vs its r2 q1 (by simpa [fits] using hf)
      have R2 : Reads s.heap (.ref a) (.tuple (pyA xs)) as' := .tuple e1 c1 d1 (by simpa using R')
      have na : a ∉ bs' := not_mem_of_deeper R2 (by simp only [PyData.depth]; exact Nat.lt_succ_self _) m'
      simp only [py, PyData.depth] at hd
      simp only [py, PyData.shown] at hz
      refine call_repr_slot (by omega) ⟨o, e1, c1⟩ F.slot_tuple_repr ?_
      refine call_tuple_reprK e1 c1 d1 na (by simpa using k') g1 (fun b _ => Clear.nil b) (by rw [in1_units]; omega) (fun _ _ e => e) (fun h' t tk kp => ⟨_, _, rfl, ?_⟩) hz

      · have z := done h' t tk kp
        simp only [py, PyData.shown] at z
        exact z
    | lst xs =>
      obtain ⟨a, vs, rfl, hq, r2⟩ := r
      cases ru
      obtain ⟨its, n, sl, q1, _, e1⟩ := sqF_at I hq
      obtain ⟨as', bs', R', m', k'⟩ := bothA I xs vs its r2 q1 (by simpa [fits] using hf)
      have R2 : Reads s.heap (.ref a) (.list (pyA xs)) (a :: as') := .list e1 rfl rfl (by simpa using R')
      have na : a ∉ bs' := not_mem_of_deeper R2 (by simp only [PyData.depth]; exact Nat.lt_succ_self _) m'
      simp only [py, PyData.depth] at hd
      simp only [py, PyData.shown] at hz
      refine call_repr_slot (by omega) ⟨_, e1, rfl⟩ F.slot_list_repr.toG ?_
      cases its with
      | nil =>
        cases q1
        cases xs with
        | cons x t => obtain ⟨_, _, e, _⟩ := r2; cases e
        | nil =>
          refine call_list_repr_empty ⟨_, e1, rfl⟩ e1 rfl ⟨_, _, rfl, ?_⟩
          have z := done s.heap s.toks (s.toks + 1) fun _ _ e => e
          simp only [py, pyA, PyData.shown, PyData.shownAll, listText_nil] at z
          exact z
      | cons x t =>
        refine call_list_reprK e1 rfl rfl na (by simpa using k'.length_eq) (fun i y z => k'.item i y (by simpa using z)) g1 (fun b _ => Clear.nil b) (by rw [in1_units]; omega) (fun _ _ e => e) (fun h' t tk kp => ⟨_, _, rfl, ?_⟩) hz

        · have z := done h' t tk kp
          simp only [py, PyData.shown] at z
          exact z
    | dic kvs =>
      obtain ⟨a, o, ws, rfl, hq, r2⟩ := r
      cases ru
      obtain ⟨_, _, low, vs, kv, ob, es, ep, e1, ex, hd', _, pr, _⟩ := (show ObjOk X.prog X.w H s.heap a (.frz o (.dK ws)) from I.hok a _ hq)
      obtain ⟨⟨as1, bs1, R1, m1, k1⟩, ⟨as2, bs2, R2, m2, k2⟩⟩ := bothK I kvs ws vs es.toList r2 kv pr (by simpa [fits] using hf)
      have R3 : Reads s.heap (.ref a) (.dict (pyK kvs)) _ := .dict e1 ex.1 hd' R1 R2
      have l1 := PyData.depthAll_keys_le (pyK kvs)
      have l2 := PyData.depthAll_vals_le (pyK kvs)
      have M : ReadAtMost s.heap (PyData.depthKv (pyK kvs)) (bs1 ++ bs2) := (m1.mono l1).append (m2.mono l2)
      have na : a ∉ bs1 ++ bs2 := not_mem_of_deeper R3 (by simp only [PyData.depth]; exact Nat.lt_succ_self _) M
      simp only [py, PyData.depth] at hd
      simp only [py, PyData.shown, PyData.shownKv_eq] at hz
      refine call_repr_slot (by omega) ⟨_, e1, ex.1⟩ F.slot_dict_repr ?_
      refine call_dict_reprK e1 ex.1 hd' low na (.of_two es.toList _ _ (k1.more_le (fun _ z => List.mem_append_left _ z) l1) (k2.more_le (fun _ z => List.mem_append_right _ z) l2)) g1 (fun b _ => Clear.nil b) (by rw [in1_units]; omega) (fun _ _ e => e) (fun h' t tk kp => ⟨_, _, rfl, ?_⟩) hz

      · have z := done h' t tk kp
        simp only [py, PyData.shown, PyData.shownKv_eq] at z
        exact z
  · exact h.elim
end
end DL
set_option Elab.async false
set_option linter.all false
set_option maxRecDepth 100000
set_option maxHeartbeats 1000000
namespace DL
open PySem PySem.Spec PyProof.Rows L2

/-! ### in -/
def found (a b : Str) : Bool := !(Builtin.Str.occurrences b a 0 b.length 1).isEmpty
theorem found_sign (c : Nat) (z : Str) : found ⟨#[c]⟩ z = decide (c ∈ z.cps.toList) := PySem.StrLaws.found_one z c
/-- one of some texts -/
def memS (x : D) (zs : List Str) : Bool := match x with
  | .str a => zs.any fun z => z == a
  | _ => false
def flat : D → Bool
  | .ref _ => false
  | .ty _ => false
  | _ => true
def inB (x y : D) : Option Bool := match x, y with
  | .str a, .str b => some (found a b)
  | x, .tup ys => if flat x then (strsD ys).map (memS x) else none
  | x, .lst ys => if flat x then (strsD ys).map (memS x) else none
  | _, _ => none
def inD (neg : Bool) : DR := fun x y S P => (inB x y).elim False fun b => P (.bl (neg != b)) S
def eStr (x : D) : Value → Bool
  | .str z _ => memS x [z]
  | _ => false
theorem any_eStr {K : PySem.W.Frag} {H : Hp} {x : D} : ∀ {zs : List Str} {us : List Value}, Vals (zs.map V.str) us → us.any (eStr x) = memS x zs
  | [], _, r => by cases r; cases x <;> rfl
  | z :: zs, _, r => by
    cases r with
    | cons r1 r2 =>
      obtain ⟨t, rfl⟩ := r1
      rw [List.any_cons, any_eStr (K := K) (H := H) r2]
      cases x <;> simp [eStr, memS]
section
variable {X : Cx} {pins : List (Addr × Obj)} {σ : L2.St} {H : Hp} {s : Shared} {A : Around}
theorem eq_str {x : D} {v : V} {u : Value} (I : L2.Inv X pins σ H s) (hu : A.units < cLine) (hx : flat x = true) (r : Rp X.K H x v) (ru : RelV v u) (z : Str) (t : Tok) : SeqAt.EqAt A s (.str z t) u (memS x [z]) := by
  cases x with
  | non => cases r; cases ru; exact SeqAt.EqAt.str_none z t
  | bl b => cases r; cases ru; exact SeqAt.EqAt.str_bool z t b
  | int i => cases r; obtain ⟨t', rfl⟩ := ru; exact SeqAt.EqAt.str_int z t i t'
  | str a => cases r; obtain ⟨t', rfl⟩ := ru; have e : memS (.str a) [z] = (z == a) := by simp [memS]
             rw [e]; exact SeqAt.EqAt.str_str z t a t'
  | tup ds =>
    obtain ⟨a, vs, rfl, hq, _⟩ := r
    cases ru
    obtain ⟨its, q1, p1, _⟩ := I.tuple hq
    exact SeqAt.EqAt.str_tuple z t (show s.heap.IsTuple a its.toArray from p1) hu
  | lst ds =>
    obtain ⟨a, vs, rfl, hq, _⟩ := r
    cases ru
    obtain ⟨its, q1, p1, _⟩ := I.list hq.sq
    exact SeqAt.EqAt.str_list z t p1.isList hu
  | dic kvs =>
    obtain ⟨a, o, ws, rfl, hq, _⟩ := r
    cases ru
    obtain ⟨es, n, dd, sl, q⟩ := dic_at I hq
    intro prog w E Q hq2
    unfold eqBool
    refine wpAny_holding (wpAny_ite_split (fun z => absurd (eq_of_beq z) nofun) fun _ => ?_)
    exact wpAny_bind (DM.rc_str_dict z t q hu prog w E _ (wpAny_truthy_bool hq2))
  | ref a => cases hx
  | ty n => cases hx
theorem inB_of {x y : D} {b : Bool} (h : inB x y = some b) : (∃ a c, x = .str a ∧ y = .str c ∧ b = found a c) ∨ ∃ ys zs, (y = .tup ys ∨ y = .lst ys) ∧ flat x = true ∧ strsD ys = some zs ∧ b = memS x zs := by
  unfold inB at h
  split at h
  · cases h; exact .inl ⟨_, _, rfl, rfl, rfl⟩
  · split at h
    · rename_i hf
      cases q : strsD (by assumption) with
      | none => rw [q] at h; cases h
      | some zs => rw [q] at h; cases h; exact .inr ⟨_, zs, .inl rfl, hf, q, rfl⟩
    · cases h
  · split at h
    · rename_i hf
      cases q : strsD (by assumption) with
      | none => rw [q] at h; cases h
      | some zs => rw [q] at h; cases h; exact .inr ⟨_, zs, .inr rfl, hf, q, rfl⟩
    · cases h
  · cases h
theorem eqs_of {x : D} {v : V} {u : Value} {zs : List Str} {its : List Value} (I : L2.Inv X pins σ H s) (hu : A.units < cLine) (hx : flat x = true) (r : Rp X.K H x v) (ru : RelV v u) (q : Vals (zs.map V.str) its) :
    ∀ y, y ∈ its → SeqAt.EqAt A s y u (eStr x y) := by
  induction zs generalizing its with
  | nil => cases q; intro y hy; cases hy
  | cons z zs ih =>
    cases q with
    | cons q1 q2 =>
      obtain ⟨t, rfl⟩ := q1
      intro y hy
      rcases List.mem_cons.mp hy with rfl | hy
      · exact eq_str I hu hx r ru z t
      · exact ih q2 y hy
end
section
variable {X : Cx}
theorem op_inD (hu : X.A.units + 200 < cLine) : OpD X (compareOp .In) (inD false) := by
  intro pins s σ H x y v u Q I rx ry ⟨d, e, S, P, r1, r2, sr, h, fin⟩
  obtain ⟨b, hb, q⟩ := el_of h
  rw [show (false != b) = b by cases b <;> rfl] at q
  have go : EP X pins σ Q (.bool b) s := ⟨.bl b, H, I, rfl, fin (.bl b) S _ H q rfl sr (.refl H)⟩
  have u1 : X.A.in1.units < cLine := by rw [in1_units]; omega
  rcases inB_of hb with ⟨a, c, rfl, rfl, e1⟩ | ⟨ys, zs, hy, hx, hz, e1⟩
  · cases r1; cases r2
    obtain ⟨t, rfl⟩ := rx
    obtain ⟨t', rfl⟩ := ry
    subst e1
    exact PyProof.Rows.in_str go
  · rcases hy with rfl | rfl
    · obtain ⟨a, vs, rfl, ha, r3⟩ := r2
      cases ry
      rw [strsD_eq hz] at r3
      rw [r3.strs] at ha
      obtain ⟨its, q1, p1, _⟩ := I.tuple ha
      refine SeqAt.in_tupleAt (eStr d) p1 (fun w hw => eqs_of I u1 hx r1 rx q1 w (by simpa using hw)) ?_
      rw [show its.toArray.any (eStr d) = its.any (eStr d) by simp, any_eStr (K := X.K) (H := H) q1, ← e1]
      exact go
    · obtain ⟨a, vs, rfl, ha, r3⟩ := r2
      cases ry
      rw [strsD_eq hz] at r3
      rw [r3.strs] at ha
      obtain ⟨its, q1, p1, _⟩ := I.list ha.sq
      refine SeqAt.in_listAt (eStr d) p1.isList (fun w hw => eqs_of I u1 hx r1 rx q1 w (by simpa using hw)) ?_
      rw [show its.toArray.any (eStr d) = its.any (eStr d) by simp, any_eStr (K := X.K) (H := H) q1, ← e1]
      exact go
theorem op_notInD (hu : X.A.units + 200 < cLine) : OpD X (compareOp .NotIn) (inD true) := by
  intro pins s σ H x y v u Q I rx ry ⟨d, e, S, P, r1, r2, sr, h, fin⟩
  obtain ⟨b, hb, q⟩ := el_of h
  rw [show (true != b) = !b by cases b <;> rfl] at q
  have go : EP X pins σ Q (.bool (!b)) s := ⟨.bl (!b), H, I, rfl, fin (.bl (!b)) S _ H q rfl sr (.refl H)⟩
  have u1 : X.A.in1.units < cLine := by rw [in1_units]; omega
  rcases inB_of hb with ⟨a, c, rfl, rfl, e1⟩ | ⟨ys, zs, hy, hx, hz, e1⟩
  · cases r1; cases r2
    obtain ⟨t, rfl⟩ := rx
    obtain ⟨t', rfl⟩ := ry
    subst e1
    exact PyProof.Rows.notIn_str go
  · rcases hy with rfl | rfl
    · obtain ⟨a, vs, rfl, ha, r3⟩ := r2
      cases ry
      rw [strsD_eq hz] at r3
      rw [r3.strs] at ha
      obtain ⟨its, q1, p1, _⟩ := I.tuple ha
      refine SeqAt.notIn_tupleAt (eStr d) p1 (fun w hw => eqs_of I u1 hx r1 rx q1 w (by simpa using hw)) ?_
      rw [show its.toArray.any (eStr d) = its.any (eStr d) by simp, any_eStr (K := X.K) (H := H) q1, ← e1]
      exact go
    · obtain ⟨a, vs, rfl, ha, r3⟩ := r2
      cases ry
      rw [strsD_eq hz] at r3
      rw [r3.strs] at ha
      obtain ⟨its, q1, p1, _⟩ := I.list ha.sq
      refine SeqAt.notIn_listAt (eStr d) p1.isList (fun w hw => eqs_of I u1 hx r1 rx q1 w (by simpa using hw)) ?_
      rw [show its.toArray.any (eStr d) = its.any (eStr d) by simp, any_eStr (K := X.K) (H := H) q1, ← e1]
      exact go
/-! ### truth -/
def truB (S : Sto) : D → Option Bool
  | .non => some false
  | .bl b => some b
  | .int i => some (i != 0)
  | .str z => if z.length ≤ sizeLine then some (z.length != 0) else none
  | .tup xs => some (!xs.isEmpty)
  | .lst xs => some (!xs.isEmpty)
  | .ref a => match S a with
    | some (.lst xs) => some (!xs.isEmpty)
    | _ => none
  | _ => none
def dTru (te : DE) : DT := fun δ S P => te δ S fun d S1 => (truB S1 d).elim False fun b => P b S1
theorem RpA.isEmpty {K : PySem.W.Frag} {H : Hp} {ds : List D} {vs : List V} (h : RpA K H ds vs) : vs.isEmpty = ds.isEmpty := by
  cases ds with
  | nil => cases h; rfl
  | cons d r => obtain ⟨_, _, e, _⟩ := h; subst e; rfl
theorem tru_of {K : PySem.W.Frag} {H : Hp} {S : Sto} {d : D} {v : V} {b : Bool} (r : Rp K H d v) (sr : SR K H S) (h : truB S d = some b) : TruV K v H b := by
  cases d with
  | non => cases r; cases h; rfl
  | bl c => cases r; cases h; rfl
  | int i => cases r; cases h; rfl
  | str z =>
    cases r
    simp only [truB] at h
    split at h
    · rename_i hz
      cases h
      refine ⟨hz, ?_⟩
      rw [Bool.eq_iff_iff]
      simp only [bne_iff_ne, ne_eq]
      omega
    · cases h
  | tup xs => obtain ⟨a, vs, rfl, hq, r2⟩ := r; cases h; exact .inr (.inl ⟨vs, hq, by rw [r2.isEmpty]⟩)
  | lst xs => obtain ⟨a, vs, rfl, hq, r2⟩ := r; cases h; exact .inl ⟨vs, hq.sq, by rw [r2.isEmpty]⟩
  | ref a =>
    cases r
    simp only [truB] at h
    split at h
    · rename_i xs hS
      cases h
      obtain ⟨vs, hv, r2⟩ := sr.lst hS
      exact .inl ⟨vs, .of hv, by rw [r2.isEmpty]⟩
    · cases h
  | dic kvs => cases h
  | ty n => cases h
theorem t_tru {e : Expr} {te : DE} (h : QE X e te) (he : ∀ whole, isTrue e X.env whole = (do let v ← whole; standAt e.pos; holding [v] (truthy v)) := by intro _; rfl) : QT X e (dTru te) :=
  PT.imp (pt_truth h he) fun σ H Q ⟨δ, S, P, rs, sr, h, fin⟩ => ⟨δ, S, _, rs, sr, h, fun d S1 v H1 h1 r1 s1 e1 => by
    obtain ⟨b, hb, q⟩ := el_of h1
    exact ⟨b, tru_of r1 s1 hb, fin b S1 H1 q s1 e1⟩⟩
/-! ### small dicts, left as they are -/
def dDic0 : DE := fun _ S P => P (.dic []) S
def dDic1 (k : Key) (te : DE) : DE := fun δ S P => te δ S fun d S1 => P (.dic [(k, d)]) S1
def tFrzD (t : TE) : TE := fun σ H Q => t σ H fun v H1 => ∃ a xs, v = .ref a ∧ H1 a = some (.dK xs) ∧ ∀ o, Q v (upd H1 a (.frz o (.dK xs)))
theorem pe_frzD {e : Expr} {t : TE} (h : L2.PE X e t) : L2.PE X e (tFrzD t) := ⟨fun pins s σ H Q I q => thn (h.run pins s σ H _ I q) fun v s1 ⟨x, H1, I1, r1, a, xs, e1, h1, q1⟩ => by
  obtain ⟨o, J⟩ := freezeD I1 h1
  exact ⟨x, _, J, r1, q1 o⟩⟩
theorem q_dic0 {pos : Pos} : QE X (.Dict [] [] pos) dDic0 := PE.imp (pe_frzD pe_dnewK) fun σ H Q ⟨δ, S, P, rs, sr, h, fin⟩ => fun p np => ⟨p, _, rfl, upd_same, fun o => by
  rw [upd_upd]
  exact fin _ S _ _ h ⟨p, o, [], rfl, upd_same, rfl⟩ (sr.new np) (.new np)⟩
/-- {number: name} -/
theorem q_dicI {i : Int} {j : Nat} {kp vp pos : Pos} (n : Nat) {x : Str} (hN : X.N[n]? = some x := by rfl) (hv : Vis X.env.scope x := by first | exact Or.inl rfl | exact Or.inr (Or.inl rfl) | exact Or.inr (Or.inr rfl)) (hd : (x == ("__debug__" : Str)) = false := by decide)
    (hcd : (x == ("__classdict__" : Str)) = false := by decide) : QE X (.Dict [some (.Constant (.int i) j kp)] [.Name x vp] pos) (dDic1 (.inl i) (dVar n)) :=
  PE.imp (pe_frzD (pe_disp (pps_cons pe_int (pe_var hN hv hd hcd) pps_nil) rfl rfl (by simp) (by simp))) fun σ H Q ⟨δ, S, P, rs, sr, h, fin⟩ => fun p np => by
    unfold dDic1 dVar at h
    cases q : slot δ n with
    | none => rw [q] at h; exact h.elim
    | some d =>
      rw [q] at h
      obtain ⟨v, e, r⟩ := rs.2 n d (slot_get q)
      refine ⟨v, e, upd_same, [(.inl i, v)], rfl, by simp, p, _, rfl, upd_same, fun o => ?_⟩
      rw [upd_upd, upd_upd]
      exact fin _ S _ _ h ⟨p, o, _, rfl, upd_same, v, [], rfl, r.ext (.new np), rfl⟩ (sr.new np) (.new np)
/-! ### text of a number, of a truth -/
def strD : List D → Sto → DK → Prop := fun ds S P => match ds with
  | [.int i] => i.natAbs.log2 < 1920 ∧ P (.str (toString i)) S
  | [.bl b] => P (.str (if b then "True" else "False")) S
  | _ => False
theorem c_str : CallD X (.type "str") strD := by
  intro pins s σ H xs us Q I rv ⟨ds, S, P, ra, sr, h, fin⟩
  unfold strD at h
  split at h
  · obtain ⟨v, rfl, r⟩ := ra.one'
    cases r
    obtain ⟨u, rfl, t, rfl⟩ := vals1 rv
    exact PySem.P.str_of_int h.1 ⟨.str _, H, I.tok _, ⟨_, rfl⟩, fin _ S _ H h.2 rfl sr (.refl H)⟩
  · obtain ⟨v, rfl, r⟩ := ra.one'
    cases r
    obtain ⟨u, rfl, ru⟩ := vals1 rv
    cases ru
    exact PySem.P.str_of_bool ⟨.str _, H, I.tok _, ⟨_, rfl⟩, fin _ S _ H h rfl sr (.refl H)⟩
  · exact h.elim
end

/-! ### t[::-1] -/
section
variable {prog : Program} {w : World} {A : Around} {E : Value → Shared → Prop} {s : Shared}
theorem rev_pick (items : Array Value) : ((List.range items.size).filterMap fun (k : Nat) => items[(((items.size : Int) - 1) + (k : Int) * (-1)).toNat]?).toArray = items.toList.reverse.toArray := by
  have h := PySem.W.krv_pick items
  unfold slicePick at h
  rw [PySem.W.krv_bounds] at h
  have e : sliceRange ((items.size : Int) - 1) (-1) (-1) = (List.range items.size).map fun k => items.size - 1 - k := PySem.W.krv_sliceRange _
  simp only [e, List.filterMap_map] at h
  rw [← h]
  congr 1
  have f : ∀ l : List Nat, (∀ k ∈ l, k < items.size) → l.filterMap (fun (k : Nat) => items[(((items.size : Int) - 1) + (k : Int) * (-1)).toNat]?) = l.filterMap ((fun x => items[x]?) ∘ fun k => items.size - 1 - k) := by
    intro l hl
    induction l with
    | nil => rfl
    | cons k r ih =>
      have hk := hl k (by simp)
      have e1 : (((items.size : Int) - 1) + (k : Int) * (-1)).toNat = items.size - 1 - k := by omega
      rw [List.filterMap_cons, List.filterMap_cons, ih fun z hz => hl z (by simp [hz]), e1]
      rfl
  exact f _ fun k hk => List.mem_range.mp hk
theorem back_at {sl : Addr} {vl vu vs : Value} {n : Nat} {Q : Int × Int × Nat → Shared → Prop} (hs : s.heap.IsSliceOf sl vl vu vs) (pl : IsPart vl none) (pu : IsPart vu none) (ps : IsPart vs (some (-1)))
    (h : Q ((n : Int) - 1, -1, n) s) : wpAny (model prog w) A (Builtin.Slice.sliceApplied (.ref sl) (pure (n : Int))) Q E s := by
  obtain ⟨os, hos, hcs, hds⟩ := id hs
  unfold Builtin.Slice.sliceApplied Builtin.Slice.sliceFields
  refine wpAny_bind (wpAny_bind (wpAny_field hos hds (x := vl) rfl (wpAny_bind (wpAny_field hos hds (x := vu) rfl (wpAny_bind (wpAny_field hos hds (x := vs) rfl (wpAny_pure ?_)))))))
  refine wpAny_bind (HT.slicePart_ ps ?_)
  show wpAny _ _ (if ((-1 : Int) == 0) = true then _ else _) _ _ s
  rw [if_neg (by decide)]
  refine wpAny_bind (HT.slicePart_ pl (wpAny_bind (HT.slicePart_ pu (wpAny_bind (wpAny_pure ?_)))))
  show wpAny _ _ (pure ((n : Int) - 1, (-1 : Int), Builtin.Slice.slicePlaces ((n : Int) - 1) (-1) (-1))) _ _ s
  have e : Builtin.Slice.slicePlaces ((n : Int) - 1) (-1) (-1) = n := by
    unfold Builtin.Slice.slicePlaces
    rw [if_neg (by decide)]
    by_cases h0 : (n : Int) - 1 > -1
    · rw [if_pos h0, show (- -1 : Int) = 1 by decide, Int.ediv_one]; omega
    · rw [if_neg h0]; omega
  rw [e]
  exact wpAny_pure h
theorem back_tup {t sl : Addr} {items : Array Value} {vl vu vs : Value} {Q : Value → Shared → Prop} (ht : IsTup s.heap t items) (hs : s.heap.IsSliceOf sl vl vu vs) (pl : IsPart vl none) (pu : IsPart vu none) (ps : IsPart vs (some (-1)))
    (h : Q (.ref s.heap.objs.size) { s with heap := s.heap.push { cls := .type "tuple", data := .seq items.toList.reverse.toArray } }) (hz : items.size ≤ sizeLine) : wpAny (model prog w) A (getItem (.ref t) (.ref sl)) Q E s := by
  have ok : sizeOk (.seq items.toList.reverse.toArray) := by
    show items.toList.reverse.toArray.size ≤ sizeLine
    simpa using hz
  obtain ⟨os, hos, hcs, hds⟩ := id hs
  have hT : s.TypeIs (.ref sl) "slice" := ⟨os, hos, hcs⟩
  unfold getItem
  try with_reducible refine wpAny_holding ?_
  first | refine wpAny_bind (wpAny_pure ?_) | skip
  refine wpAny_bind (wpAny_sequenceKey ht.typeIs (by decide) ?_)
  refine wpAny_bind (wpAny_callSpecial?_slot (name := Str.ofString "__getitem__") ht.typeIs PyProof.Rows.slot_tuple_getitem (wpAny_call_entry PyProof.Rows.slot_tuple_getitem ht.typeIs entry_tuple_getitem ?_ (args_tuple_getitem _ _)))
  show wpAny _ _ (Builtin.Tuple.tupleItemsOf (.ref t) >>= _) _ _ s
  refine wpAny_bind (tupleItemsOf_ ht (wpAny_bind (wpAny_typeOf hT ?_)))
  rw [if_pos (by decide)]
  refine wpAny_bind (back_at hs pl pu ps ?_)
  have no : ¬ (((items.size : Int) - 1 == 0 && (-1 : Int) == 1 && items.size == items.size) = true) := by
    rw [show ((-1 : Int) == 1) = false by decide, Bool.and_false, Bool.false_and]
    exact Bool.false_ne_true
  show wpAny _ _ (if (((items.size : Int) - 1 == 0 && (-1 : Int) == 1 && items.size == items.size) = true) then _ else _) _ _ s
  rw [if_neg no, rev_pick]
  first
    | exact wpAny_bind (m := Builtin.Tuple.tupleExact _) (wpAny_newObj_type (wpAny_pure ⟨_, rfl, wpAny_pure h⟩) ok)
    | exact wpAny_bind (m := Builtin.Tuple.tupleExact _) (wpAny_newObj_type (wpAny_bind (wpAny_pure (wpAny_pure ⟨_, rfl, wpAny_pure h⟩))) ok)
    | exact wpAny_bind (wpAny_bind (m := Builtin.Tuple.tupleExact _) (wpAny_newObj_type (wpAny_pure (wpAny_pure ⟨_, rfl, wpAny_pure h⟩)) ok))
end
section
variable {X : Cx}
def backD : D → Sto → DK → Prop := fun d S P => match d with
  | .tup xs => P (.tup xs.reverse) S
  | .lst xs => P (.lst xs.reverse) S
  | _ => False
def dRev (te : DE) : DE := fun δ S P => te δ S fun d S1 => backD d S1 P
theorem q_rev {e : Expr} {te : DE} {k : Nat} {p1 p2 p3 pos : Pos} (he : QE X e te) : QE X (.Subscript e (.Slice none none (some (.UnaryOp .USub (.Constant (.int 1) k p1) p2)) p3) pos) (dRev te) := by
  refine ⟨fun pins s σ H Q I ⟨δ, S, P, rs, sr, h, fin⟩ => ?_⟩
  refine Subscript_ (thn (he.run pins s σ H (fun v H1 => ∃ d S1, Rp X.K H1 d v ∧ SR X.K H1 S1 ∧ Ext H H1 ∧ backD d S1 P) I ⟨δ, S, _, rs, sr, h, fun d S1 v H1 h1 r1 s1 e1 => ⟨d, S1, r1, s1, e1, h1⟩⟩) fun v s1 ⟨x, H1, I1, r1, d, S1, rd, sr1, e1, hd⟩ => ?_)
  have hst : L2.PO X (some (.UnaryOp .USub (.Constant (.int 1) k p1) p2)) (tPart (tUn (rU fun i => .int (-i)) (tC (.int 1)))) := po_some (pe_un un_neg pe_int)
  refine wpAny_Slice (thn (po_none.run pins s1 σ H1 (fun o H2 => o = none ∧ H2 = H1) I1 ⟨rfl, rfl⟩) fun vl s2 ⟨l, H2, I2, pl, el, e2⟩ => ?_)
  subst el e2
  refine thn (po_none.run pins s2 σ H2 (fun o H3 => o = none ∧ H3 = H2) I2 ⟨rfl, rfl⟩) fun vu s3 ⟨u, H3, I3, pu, eu, e3⟩ => ?_
  subst eu e3
  refine thn (hst.run pins s3 σ H3 (fun o H4 => o = some (-1) ∧ H4 = H3) I3 ⟨1, rfl, -1, rfl, rfl, rfl⟩) fun vs s4 ⟨o, H4, I4, ps, eo, e4⟩ => ?_
  subst eo e4
  have I5 : L2.Inv X pins σ H4 { s4 with heap := s4.heap.push { cls := .type "slice", data := .fields #[vl, vu, vs] } } := I4.kept (t' := s4.toks) fun b ob q => Heap.get?_push_of_some _ q
  have sl := Heap.IsSliceOf.new s4.heap vl vu vs
  cases d with
  | tup ds =>
    obtain ⟨a, zs, rfl, ha, r3⟩ := rd
    cases r1
    obtain ⟨its, r, ht, hz⟩ := I5.tuple ha
    have hl := r.length
    show wpAny (model X.prog X.w) X.A (subscriptTail e (.Slice none none (some (.UnaryOp .USub (.Constant (.int 1) k p1) p2)) p3) (.ref a) (.ref s4.heap.objs.size)) (EP X pins σ Q) X.xe _
    refine tail_any (ops := [.ref a, .ref s4.heap.objs.size]) ht.typeIs (PyProof.Rows.slot_tuple_getitem.lookup) ?_ (by with_unfolding_all rfl)
    refine back_tup ht sl pl pu ps ?_ (by rw [List.size_toArray]; omega)
    have e6 : its.toArray.toList.reverse.toArray = its.reverse.toArray := by simp
    rw [e6]
    have np := I5.fresh
    refine ⟨.ref _, _, I5.laid (t' := s4.toks) (o := .tup zs.reverse) (fun _ _ q => Heap.get?_push_of_some _ q) (Nat.le_refl _) ⟨by rw [List.length_reverse]; omega, _, r.reverse, _, Heap.get?_push_size _ rfl, rfl, _, rfl⟩, rfl, fin _ S1 _ _ hd ⟨_, _, rfl, .of upd_same, r3.rev.ext (.new np)⟩ (sr1.new np) (e1.trans (.new np))⟩
  | lst ds =>
    obtain ⟨a, zs, rfl, ha, r3⟩ := rd
    cases r1
    obtain ⟨its, r, ht, hz⟩ := I5.list ha.sq
    have hl := r.length
    show wpAny (model X.prog X.w) X.A (subscriptTail e (.Slice none none (some (.UnaryOp .USub (.Constant (.int 1) k p1) p2)) p3) (.ref a) (.ref s4.heap.objs.size)) (EP X pins σ Q) X.xe _
    refine tail_any (ops := [.ref a, .ref s4.heap.objs.size]) ht.isList.typeIs (PySem.slot_list_getitem.lookup) ?_ (by with_unfolding_all rfl)
    refine wpAny_getItem_list_slice ht.isList sl pl pu ps (by decide) ?_ (by rw [List.size_toArray]; omega)
    rw [PySem.W.krv_pick]
    have e6 : its.toArray.toList.reverse.toArray = its.reverse.toArray := by simp
    rw [e6]
    have np := I5.fresh
    refine freezeE ⟨.ref _, _, I5.lnew (t' := s4.toks) r.reverse (by rw [List.length_reverse]; omega), rfl, _, _, rfl, upd_same, fun o => ?_⟩
    rw [upd_upd]
    exact fin _ S1 _ _ hd ⟨_, _, rfl, .inl ⟨o, upd_same⟩, r3.rev.ext (.new np)⟩ (sr1.new np) (e1.trans (.new np))
  | _ => exact hd.elim
end
end DL
set_option Elab.async false
set_option linter.all false
set_option maxRecDepth 100000
set_option maxHeartbeats 1000000
namespace DL
open PySem PySem.Spec PyProof.Rows L2

/-! ### lists added, that change or not -/
def lsts (S : Sto) (x y : D) : Option (List D × List D) := match norm S x, norm S y with
  | .lst xs, .lst ys => some (xs, ys)
  | _, _ => none
def addL : DR := fun x y S P => (lsts S x y).elim False fun p => p.1.length + p.2.length ≤ sizeLine ∧ P (.lst (p.1 ++ p.2)) S
def addM : DR := fun x y S P => (lsts S x y).elim False fun p => p.1.length + p.2.length ≤ sizeLine ∧ ∀ a, S a = none → P (.ref a) (sup S a (.lst (p.1 ++ p.2)))
section
variable {X : Cx}
theorem lsts_of {S : Sto} {x y : D} {p : List D × List D} (h : lsts S x y = some p) : norm S x = .lst p.1 ∧ norm S y = .lst p.2 := by
  unfold lsts at h
  split at h
  · rename_i e1 e2; cases h; exact ⟨e1, e2⟩
  · cases h
theorem two_lists {pins : List (Addr × Obj)} {σ : L2.St} {H : Hp} {s : Shared} {d e : D} {x y : V} {v u : Value} {S : Sto} {p : List D × List D} {R : Value → Shared → Prop} (I : L2.Inv X pins σ H s) (rx : RelV x v) (ry : RelV y u) (r1 : Rp X.K H d x) (r2 : Rp X.K H e y) (sr : SR X.K H S)
    (hl : lsts S d e = some p) (hz : p.1.length + p.2.length ≤ sizeLine)
    (h : ∀ vs : List V, RpA X.K H (p.1 ++ p.2) vs → ∀ s' : Shared, L2.Inv X pins σ (upd H s.heap.objs.size (.lst vs)) s' → R (.ref s.heap.objs.size) s') :
    wpAny (model X.prog X.w) X.A (binaryOp .Add v u) R X.xe s := by
  obtain ⟨n1, n2⟩ := lsts_of hl
  have k1 := kd_of r1 sr
  have k2 := kd_of r2 sr
  rw [n1] at k1
  rw [n2] at k2
  obtain ⟨a, vs, rfl, ha, r3⟩ := k1
  obtain ⟨b, ws, rfl, hb, r4⟩ := k2
  cases rx
  cases ry
  obtain ⟨its, rv, ⟨⟨cls, dd, data, sl⟩, n, e1, hc, hd, hs⟩, z1⟩ := I.list ha
  obtain ⟨its2, rv2, ⟨⟨cls2, dd2, data2, sl2⟩, n', e2, hc2, hd2, hs2⟩, z2⟩ := I.list hb
  simp only at hc hd hs hc2 hd2 hs2
  subst hc hd hs hc2 hd2 hs2
  have l1 := r3.length
  have l2 := r4.length
  have l3 := rv.length
  have l4 := rv2.length
  have hsz : its.toArray.size + its2.toArray.size ≤ sizeLine := by rw [List.size_toArray, List.size_toArray]; omega
  refine DM.cat_any e1 e2 hsz ?_
  have ea : its.toArray ++ its2.toArray = (its ++ its2).toArray := by simp
  rw [ea]
  exact h (vs ++ ws) (r3.append r4) _ (I.lnew (t' := s.toks) (rv.append rv2) (by rw [List.length_append]; omega))
theorem op_addL : OpD X (binaryOp .Add) addL := by
  intro pins s σ H x y v u Q I rx ry ⟨d, e, S, P, r1, r2, sr, h, fin⟩
  obtain ⟨p, hp, hz, q⟩ := el_of h
  refine two_lists I rx ry r1 r2 sr hp hz fun vs r3 s' J => ?_
  refine freezeE ⟨.ref _, _, J, rfl, _, _, rfl, upd_same, fun o => ?_⟩
  rw [upd_upd]
  exact fin _ S _ _ q ⟨_, _, rfl, .inl ⟨o, upd_same⟩, r3.ext (.new I.fresh)⟩ (sr.new I.fresh) (.new I.fresh)
theorem op_addM : OpD X (binaryOp .Add) addM := by
  intro pins s σ H x y v u Q I rx ry ⟨d, e, S, P, r1, r2, sr, h, fin⟩
  obtain ⟨p, hp, hz, q⟩ := el_of h
  refine two_lists I rx ry r1 r2 sr hp hz fun vs r3 s' J => ?_
  exact ⟨.ref _, _, J, rfl, fin _ _ _ _ (q _ (sr.none I.fresh)) rfl (sr.add I.fresh r3) (.new I.fresh)⟩
/-- x[::-1], a new list that changes -/
def backM : D → Sto → DK → Prop := fun d S P => match norm S d with
  | .lst xs => ∀ a, S a = none → P (.ref a) (sup S a (.lst xs.reverse))
  | _ => False
def dRevM (te : DE) : DE := fun δ S P => te δ S fun d S1 => backM d S1 P
theorem q_revM {e : Expr} {te : DE} {k : Nat} {p1 p2 p3 pos : Pos} (he : QE X e te) : QE X (.Subscript e (.Slice none none (some (.UnaryOp .USub (.Constant (.int 1) k p1) p2)) p3) pos) (dRevM te) :=
  PE.imp (pe_revL he) fun σ H Q ⟨δ, S, P, rs, sr, h, fin⟩ => ⟨δ, S, _, rs, sr, h, fun d S1 v H1 h1 r1 s1 e1 => by
    unfold backM at h1
    have k1 := kd_of r1 s1
    split at h1
    · rename_i xs hn
      rw [hn] at k1
      obtain ⟨a, vs, rfl, ha, r3⟩ := k1
      exact ⟨a, vs, rfl, ha, fun p np => fin _ _ _ _ (h1 p (s1.none np)) rfl (s1.add np r3.rev) (e1.trans (.new np))⟩
    · exact h1.elim⟩
/-! ### iteration over what has just been made -/
end

/-! ### defs by their names -/
section
variable {P : Program} {w : World} {K : PySem.W.Frag} {mg : Str → Option Value} {base : Heap}
/-- a def as the top's statement has it -/
def Def (K : PySem.W.Frag) (mg : Str → Option Value) (x : Str) (st : Stmt) (ps : List Str) : Prop := ∃ f fd, Fun K x x st f fd ∧ Binds K fd ps [] ∧ mg x = some (.ref f)
/-- a def that keeps its promise, k calls below -/
def Has (P : Program) (w : World) (K : PySem.W.Frag) (mg : Str → Option Value) (base : Heap) (k : Nat) (x : Str) (ps : List Str) (sp : DSp) : Prop := ∃ f fd, FnD P w K mg base k f fd ps sp ∧ Binds K fd ps [] ∧ PySem.W.keepIn K (.ref f) = true ∧ mg x = some (.ref f)
theorem Has.mono {j k : Nat} {x : Str} {ps : List Str} {sp : DSp} (h : Has P w K mg base j x ps sp) (l : j ≤ k) : Has P w K mg base k x ps sp := let ⟨f, fd, a, b⟩ := h; ⟨f, fd, a.mono l, b⟩
theorem Has.imp {k : Nat} {x : Str} {ps : List Str} {sp sp' : DSp} (h : Has P w K mg base k x ps sp) (q : ∀ ds S P', sp' ds S P' → sp ds S P') : Has P w K mg base k x ps sp' := let ⟨f, fd, a, b⟩ := h; ⟨f, fd, a.imp q, b⟩
theorem Def.has {x : Str} {st : Stmt} {N ps : List Str} {k : Nat} {sp : DSp} (D : Def K mg x st ps) (S : FnScope N ps (defScope st)) (len : ∀ ds S P, sp ds S P → ds.length = ps.length)
    (hbody : ∀ (f : Addr) (cdv : Value) (A : Around) (outer : List Env) (s : Shared) (H : Hp), Room k (A.deeper (envOfC x (defScope st) s.heap.objs.size f cdv)) → A.guards = some [] →
      ∃ t, QSs (cxOf CX0 P w K mg base N x (defScope st) f cdv A outer s H E0).nox (defBody st) t ∧ ∀ ds S' P', sp ds S' P' → t { nx := fun _ S2 => P' .non S2, rt := P' } (dstart N ds) S') : Has P w K mg base (k + 1) x ps sp := by
  obtain ⟨f, fd, F, b, m⟩ := D
  exact ⟨f, fd, okD F S len (hbody f), b, F.kp, m⟩
end
section
variable {X : Cx} {k : Nat} {ps : List Str} {sp : DSp} {x : Str} {p pos : Pos} {e : Expr} {es : List Expr} {t : DA}
theorem q_def (G : Has X.prog X.w X.K X.mg X.base k x ps sp) (hr : Room k X.A) (hgd : X.A.guards = some []) (ha : QA X (e :: es) t) (hg : Gl X x := by rfl) (hdb : (x == ("__debug__" : Str)) = false := by decide)
    (he : starEach (e :: es) X.env = (false, eval e X.env) :: starEach es X.env := by rfl) (hpl : (backTo pos (starEach es X.env)).any (·.1) = false := by rfl) : QE X (.Call (.Name x p) (e :: es) [] pos) (dCB sp t) := by
  obtain ⟨f, fd, F, b, kk, m⟩ := G
  exact q_call F hr hgd hg m kk b ha hdb he hpl
theorem Room.un0 {k : Nat} {A : Around} (r : Room k A) : A.units + 200 < cLine := by have := r.un; omega
theorem Room.un1 {k : Nat} {A : Around} (r : Room k A) : A.units < cLine := by have := r.un; omega
end
theorem bt_int : bootBuiltins "int" = some (.type "int") := by decide +kernel
theorem bt_bool : bootBuiltins "bool" = some (.type "bool") := by decide +kernel
theorem bt_str : bootBuiltins "str" = some (.type "str") := by decide +kernel
theorem bt_tuple : bootBuiltins "tuple" = some (.type "tuple") := by decide +kernel
theorem bt_list : bootBuiltins "list" = some (.type "list") := by decide +kernel
theorem bt_dict : bootBuiltins "dict" = some (.type "dict") := by decide +kernel
theorem bb_all : bootBuiltins "all" = some (.builtin "all") := by decide +kernel
theorem bb_sum : bootBuiltins "sum" = some (.builtin "sum") := by decide +kernel
theorem bb_min : bootBuiltins "min" = some (.builtin "min") := by decide +kernel
theorem bb_repr : bootBuiltins "repr" = some (.builtin "repr") := by decide +kernel
theorem bb_isi : bootBuiltins "isinstance" = some (.builtin "isinstance") := by decide +kernel
end DL
set_option Elab.async false
set_option linter.all false
set_option maxRecDepth 100000
namespace DL
open PySem PySem.Spec PyProof.Rows L2
/-- a module's constant -/
def Con (K : PySem.W.Frag) (mg : Str → Option Value) (x : Str) (d : D) : Prop := ∃ v u, mg x = some u ∧ RelV v u ∧ ∀ H, Rp K H d v
theorem q_con {X : Cx} {x : Str} {d : D} {pos : Pos} (C : Con X.K X.mg x d) (hg : Gl X x := by rfl) (hd : (x == ("__debug__" : Str)) = false := by decide) : QE X (.Name x pos) (dC d) :=
  let ⟨_, _, m, r, p⟩ := C; q_glob hg m r p hd
/-- what a spec of one function on trees promises: r of the one argument -/
def sp1 (C : D → Prop) (r : D → D) : DSp := fun ds S P => match ds with
  | [d] => C d ∧ P (r d) S
  | _ => False
theorem sp1_len {C : D → Prop} {r : D → D} : ∀ ds S P, sp1 C r ds S P → ds.length = 1 := fun ds S P h => by
  unfold sp1 at h
  split at h
  · rfl
  · exact h.elim
theorem sp1_of {C : D → Prop} {r : D → D} {ds : List D} {S : Sto} {P : DK} (h : sp1 C r ds S P) : ∃ d, ds = [d] ∧ C d ∧ P (r d) S := by
  unfold sp1 at h
  split at h
  · exact ⟨_, rfl, h⟩
  · exact h.elim
end DL
set_option Elab.async false
set_option linter.all false
set_option maxRecDepth 100000
namespace DL
open PySem PySem.Spec PyProof.Rows L2

/-! ### what may have changed -/
def Step (L : List Addr) (S S' : Sto) : Prop := ∀ b, S b ≠ none → b ∉ L → S' b = S b
theorem Step.refl {L : List Addr} (S : Sto) : Step L S S := fun _ _ _ => rfl
theorem Step.trans {L : List Addr} {S S1 S2 : Sto} (a : Step L S S1) (b : Step L S1 S2) : Step L S S2 := fun x h n => by
  have e := a x h n
  rw [b x (by rw [e]; exact h) n, e]
theorem Step.mono {L L' : List Addr} {S S1 : Sto} (a : Step L S S1) (h : ∀ x ∈ L, x ∈ L') : Step L' S S1 := fun x q n => a x q fun z => n (h x z)
theorem Step.new {L : List Addr} {S : Sto} {p : Addr} {o : SO} (h : S p = none) : Step L S (sup S p o) := fun x q _ => sup_ne fun e => q (by rw [e]; exact h)
theorem Step.mut {L : List Addr} {S : Sto} {p : Addr} {o : SO} (h : p ∈ L) : Step L S (sup S p o) := fun x _ n => sup_ne fun e => n (by rw [e]; exact h)
theorem Step.at {L : List Addr} {S S' : Sto} (h : Step L S S') {b : Addr} {o : SO} (e : S b = some o) (n : b ∉ L) : S' b = some o := by
  rw [h b (by rw [e]; exact nofun) n]; exact e
/-! ### comprehensions -/
theorem dwipe1 (δ : DSt) (i : Nat) : dwipe δ [i] = δ.set i none := rfl
/-- elements one by one, each as f says; nothing that stood changes -/
theorem lc_grow {i : Nat} {tt : DT} {te : DE} {δ : DSt} {ds : List D} {S : Sto} {P : DK} (q : D → Bool) (f : D → D) (hz : ds.length ≤ sizeLine)
    (ht : ∀ d ∈ ds, ∀ (S2 : Sto) (Q : Bool → Sto → Prop), (∀ S3, Step [] S2 S3 → Q (q d) S3) → tt ((δ.set i none).set i (some d)) S2 Q)
    (he : ∀ d ∈ ds, q d = true → ∀ (S2 : Sto) (Q : DK), (∀ S3, Step [] S2 S3 → Q (f d) S3) → te ((δ.set i none).set i (some d)) S2 Q)
    (h : ∀ S', Step [] S S' → P (.lst ((ds.filter q).map f)) S') : lcB (gN i) tt te [i] δ ds S P := by
  intro p np
  refine ⟨fun j acc S' => acc = ((ds.take j).filter q).map f ∧ S' p = some (.lst acc) ∧ ∀ b, S b ≠ none → S' b = S b, ⟨rfl, sup_same, fun b hb => sup_ne fun e => hb (by rw [e]; exact np)⟩, fun _ _ _ z => z.2.1, fun j d acc S' hd ⟨e1, e2, e3⟩ => ?_, fun acc S' ⟨e1, e2, e3⟩ => ?_⟩
  · have hm : d ∈ ds := List.mem_of_getElem? hd
    refine ht d hm S' _ fun S3 s3 => ?_
    have k3 : S3 p = some (.lst acc) := s3.at e2 List.not_mem_nil
    have o3 : ∀ b, S b ≠ none → S3 b = S b := fun b hb => by rw [s3 b (by rw [e3 b hb]; exact hb) List.not_mem_nil, e3 b hb]
    have tk : ds.take (j + 1) = ds.take j ++ [d] := by rw [List.take_add_one, hd]; rfl
    cases hq : q d with
    | false =>
      show acc = _ ∧ _ ∧ _
      refine ⟨?_, k3, o3⟩
      rw [tk, List.filter_append, List.filter_cons_of_neg (by rw [hq]; exact Bool.false_ne_true), List.filter_nil, List.append_nil]
      exact e1
    | true =>
      show te _ S3 _
      refine he d hm hq S3 _ fun S4 s4 => ⟨s4.at k3 List.not_mem_nil, ?_, ?_, sup_same, fun b hb => ?_⟩
      · have l1 : acc.length ≤ (ds.take j).length := by rw [e1, List.length_map]; exact List.length_filter_le _ _
        have l2 : (ds.take j).length < ds.length := by
          have hj := (List.getElem?_eq_some_iff.mp hd).1
          rw [List.length_take]; omega
        omega
      · rw [tk, List.filter_append, List.filter_cons_of_pos hq, List.filter_nil, List.map_append, ← e1]
        rfl
      · have hne : b ≠ p := fun e => hb (by rw [e]; exact np)
        rw [sup_ne hne, s4 b (by rw [o3 b hb]; exact hb) List.not_mem_nil, o3 b hb]
  · rw [List.take_length] at e1
    rw [e1]
    refine h _ fun b hb _ => ?_
    have hne : b ≠ p := fun e => hb (by rw [e]; exact np)
    unfold sdel
    rw [if_neg hne]
    exact e3 b hb
/-- elements one by one, each good; what stands at L may change, W is kept -/
theorem lc_step {i : Nat} {te : DE} {δ : DSt} {ds : List D} {S : Sto} {P : DK} (L : List Addr) (W : Sto → Prop) (G : D → Prop) (hz : ds.length ≤ sizeLine) (hW : ∀ S1 S2, (∀ b ∈ L, S2 b = S1 b) → W S1 → W S2) (hL : ∀ b ∈ L, S b ≠ none) (h0 : W S)
    (he : ∀ d ∈ ds, ∀ (S2 : Sto) (Q : DK), W S2 → (∀ y S3, G y → W S3 → Step L S2 S3 → Q y S3) → te ((δ.set i none).set i (some d)) S2 Q)
    (h : ∀ ys S', ys.length = ds.length → (∀ y ∈ ys, G y) → W S' → Step L S S' → P (.lst ys) S') : lcB (gN i) dYes te [i] δ ds S P := by
  intro p np
  have nL : ∀ b ∈ L, b ≠ p := fun b hb e => hL b hb (by rw [e]; exact np)
  refine ⟨fun j acc S' => acc.length = min j ds.length ∧ (∀ y ∈ acc, G y) ∧ S' p = some (.lst acc) ∧ W S' ∧ ∀ b, S b ≠ none → b ∉ L → S' b = S b, ⟨by simp, by simp, sup_same, hW S _ (fun b hb => sup_ne (nL b hb)) h0, fun b hb _ => sup_ne fun e => hb (by rw [e]; exact np)⟩, fun _ _ _ z => z.2.2.1, fun j d acc S' hd ⟨e1, e2, e3, e4, e5⟩ => ?_, fun acc S' ⟨e1, e2, e3, e4, e5⟩ => ?_⟩
  · have hm : d ∈ ds := List.mem_of_getElem? hd
    have hj := (List.getElem?_eq_some_iff.mp hd).1
    show te _ S' _
    refine he d hm S' _ e4 fun y S3 gy w3 s3 => ⟨s3.at e3 (fun z => nL p z rfl), by omega, by rw [List.length_append, e1]; simp; omega, fun z hz2 => ?_, sup_same, hW S3 _ (fun b hb => sup_ne (nL b hb)) w3, fun b hb nb => ?_⟩
    · rcases List.mem_append.mp hz2 with q | q
      · exact e2 z q
      · rw [List.mem_singleton.mp q]; exact gy
    · have hne : b ≠ p := fun e => hb (by rw [e]; exact np)
      rw [sup_ne hne, s3 b (by rw [e5 b hb nb]; exact hb) nb, e5 b hb nb]
  · rw [Nat.min_self] at e1
    refine h acc _ e1 e2 (hW S' _ (fun b hb => ?_) e4) fun b hb nb => ?_
    · unfold sdel; rw [if_neg (nL b hb)]
    · have hne : b ≠ p := fun e => hb (by rw [e]; exact np)
      unfold sdel
      rw [if_neg hne]
      exact e5 b hb nb
end DL
set_option Elab.async false
set_option linter.all false
set_option maxRecDepth 100000
namespace DL
open PySem PySem.Spec PyProof.Rows L2
section
variable {S : Sto} {P : DK} {d x y : D} {a : Addr} {b c : Bool} {i j : Int} {z z' : Str} {xs ys : List D} {f : Bool → Prop} {g : Int → Prop} {h : Str → Prop}
theorem asB_bl : asB (.bl b) f = f b := rfl
theorem asI_int : asI (.int i) g = g i := rfl
theorem asS_str : asS (.str z) h = h z := rfl
theorem len_str : lenD [.str z] S P = (z.length ≤ sizeLine ∧ P (.int z.length) S) := rfl
theorem len_tup : lenD [.tup xs] S P = P (.int xs.length) S := rfl
theorem len_lst : lenD [.lst xs] S P = P (.int xs.length) S := rfl
theorem len_ref (e : S a = some (.lst xs)) : lenD [.ref a] S P = P (.int xs.length) S := by show (match S a with | some (.lst xs) => P (.int xs.length) S | _ => False) = _; rw [e]
theorem le_ii : leD (.int i) (.int j) S P = P (.bl (decide (i ≤ j))) S := rfl
theorem le_ss : leD (.str z) (.str z') S P = P (.bl (!decide (z'.cps.toList < z.cps.toList))) S := rfl
theorem cmp_ii {p : Int → Int → Bool} : cmpI p (.int i) (.int j) S P = P (.bl (p i j)) S := rfl
theorem cmp_bi {p : Int → Int → Bool} : cmpI p (.bl b) (.int j) S P = False := rfl
theorem add_ii : addD (.int i) (.int j) S P = P (.int (i + j)) S := rfl
theorem add_ib : addD (.int i) (.bl b) S P = P (.int (i + b2i b)) S := rfl
theorem add_bi : addD (.bl b) (.int j) S P = P (.int (b2i b + j)) S := rfl
theorem add_ss : addD (.str z) (.str z') S P = (z.length + z'.length ≤ sizeLine ∧ P (.str (z ++ z')) S) := rfl
theorem add_tt : addD (.tup xs) (.tup ys) S P = (xs.length + ys.length ≤ sizeLine ∧ P (.tup (xs ++ ys)) S) := rfl
theorem add_ll : addD (.lst xs) (.lst ys) S P = (xs.length + ys.length ≤ sizeLine ∧ P (.lst (xs ++ ys)) S) := rfl
theorem sub_ii : subD (.int i) (.int j) S P = P (.int (i - j)) S := rfl
theorem sub_ib : subD (.int i) (.bl b) S P = P (.int (i - b2i b)) S := rfl
theorem sub_bi : subD (.bl b) (.int j) S P = P (.int (b2i b - j)) S := rfl
theorem mul_ii : mulD (.int i) (.int j) S P = (CMul i j ∧ P (.int (i * j)) S) := rfl
theorem ii_ii {C : Int → Int → Prop} {q : Int → Int → Int} : iiD C q (.int i) (.int j) S P = (C i j ∧ P (.int (q i j)) S) := rfl
theorem neg_i : negD (.int i) S P = P (.int (-i)) S := rfl
theorem is_bb : isB false (.bl c) (.bl true) S P = P (.bl c) S := by cases c <;> rfl
theorem isn_bb : isB true (.bl c) (.bl true) S P = P (.bl (!c)) S := by cases c <;> rfl
theorem all_b {bs : List Bool} : allD [.lst (bs.map .bl)] S P = P (.bl (bs.all id)) S := by
  have e : blsD (bs.map .bl) = some bs := by
    induction bs with
    | nil => rfl
    | cons b r ih => simp only [List.map_cons, blsD, ih, Option.map_some]
  show (blsD (bs.map .bl)).elim False _ = _
  rw [e]; rfl
theorem sum_i {is : List Int} : sumD [.lst (is.map .int)] S P = P (.int is.sum) S := by
  have e : intsD (is.map .int) = some is := by
    induction is with
    | nil => rfl
    | cons b r ih => simp only [List.map_cons, intsD, ih, Option.map_some]
  show (intsD (is.map .int)).elim False _ = _
  rw [e]; rfl
def isS : D → Bool
  | .str _ => true
  | _ => false
def isI : D → Bool
  | .int _ => true
  | .bl _ => true
  | _ => false
def isBo : D → Bool
  | .bl _ => true
  | _ => false
def isTu : D → Bool
  | .tup _ => true
  | _ => false
theorem isi_str (e : flat d = true) : isiD [d, .ty "str"] S P = P (.bl (isS d)) S := by cases d <;> first | rfl | cases e
theorem isi_int (e : flat d = true) : isiD [d, .ty "int"] S P = P (.bl (isI d)) S := by cases d <;> first | rfl | cases e
theorem isi_bool (e : flat d = true) : isiD [d, .ty "bool"] S P = P (.bl (isBo d)) S := by cases d <;> first | rfl | cases e
theorem isi_tup (e : flat d = true) : isiD [d, .ty "tuple"] S P = P (.bl (isTu d)) S := by cases d <;> first | rfl | cases e
/-- it is this text -/
def eqT (d : D) (z : Str) : Bool := match d with
  | .str a => a == z
  | _ => false
theorem eq_str' (e : flat d = true) : eqD d (.str z) S P = P (.bl (eqT d z)) S := by cases d <;> first | rfl | cases e
theorem eq_ii : eqD (.int i) (.int j) S P = P (.bl (i == j)) S := rfl
theorem eq_bi : eqD (.bl b) (.int j) S P = P (.bl (b2i b == j)) S := rfl
theorem eq_t0 : eqD (.tup xs) (.tup []) S P = P (.bl xs.isEmpty) S := by cases xs <;> rfl
theorem eq_l0 : eqD (.lst xs) (.lst []) S P = P (.bl xs.isEmpty) S := by cases xs <;> rfl
theorem ne_ss : neD (.str z) (.str z') S P = P (.bl (!(z == z'))) S := rfl
theorem ne_ii : neD (.int i) (.int j) S P = P (.bl (!(i == j))) S := rfl
theorem ne_t0 : neD (.tup xs) (.tup []) S P = P (.bl (!xs.isEmpty)) S := by cases xs <;> rfl
theorem ne_l0 : neD (.lst xs) (.lst []) S P = P (.bl (!xs.isEmpty)) S := by cases xs <;> rfl
theorem ne_r0 (e : S a = some (.lst xs)) : neD (.ref a) (.lst []) S P = P (.bl (!xs.isEmpty)) S := by
  have n : norm S (.ref a) = .lst xs := by show (match S a with | some (.lst xs) => D.lst xs | _ => .ref a) = _; rw [e]
  show (neB (norm S (.ref a)) (.lst [])).elim False _ = _
  rw [n]
  cases xs <;> rfl
theorem ix_tup : ixD (.tup xs) (.int i) S P = (atI xs i).elim False fun d => P d S := rfl
theorem ix_lst : ixD (.lst xs) (.int i) S P = (atI xs i).elim False fun d => P d S := rfl
theorem ix_str : ixD (.str z) (.int i) S P = (z.length ≤ sizeLine ∧ (atI z.cps.toList i).elim False fun c => P (.str ⟨#[c]⟩) S) := rfl
theorem ix_ref (e : S a = some (.lst xs)) : ixD (.ref a) (.int i) S P = (atI xs i).elim False fun d => P d S := by show (match S a with | some (.lst xs) => (atI xs i).elim False fun d => P d S | _ => False) = _; rw [e]
theorem all_map {α : Type} {l : List α} {q : α → Bool} : allD [.lst (l.map fun c => .bl (q c))] S P = P (.bl (l.all q)) S := by
  have e : l.map (fun c => D.bl (q c)) = (l.map q).map .bl := by rw [List.map_map]; rfl
  rw [e, all_b, List.all_map]
  rfl
theorem in_tt0 {neg : Bool} {zs : List Str} (e : flat d = true) (q : strsD ys = some zs) : inD neg d (.tup ys) S P = P (.bl (neg != memS d zs)) S := by
  have k : inB d (.tup ys) = some (memS d zs) := by
    cases d <;> first | (cases e; done) | simp [inB, flat, q]
  show (inB d (.tup ys)).elim False _ = _
  rw [k]; rfl
theorem in_tt {zs : List Str} (e : flat d = true) (q : strsD ys = some zs) : inD false d (.tup ys) S P = P (.bl (memS d zs)) S := by
  rw [in_tt0 e q]; cases memS d zs <;> rfl
theorem nin_tt {zs : List Str} (e : flat d = true) (q : strsD ys = some zs) : inD true d (.tup ys) S P = P (.bl (!memS d zs)) S := by
  rw [in_tt0 e q]; cases memS d zs <;> rfl
theorem in_c {n : Nat} : inD false (.str ⟨#[n]⟩) (.str z) S P = P (.bl (decide (n ∈ z.cps.toList))) S := by
  show P (.bl (false != found ⟨#[n]⟩ z)) S = _
  rw [found_sign]; cases decide (n ∈ z.cps.toList) <;> rfl
theorem nin_c {n : Nat} : inD true (.str ⟨#[n]⟩) (.str z) S P = P (.bl (!decide (n ∈ z.cps.toList))) S := by
  show P (.bl (true != found ⟨#[n]⟩ z)) S = _
  rw [found_sign]; cases decide (n ∈ z.cps.toList) <;> rfl
theorem sl_str {lo hi : Option Int} : slD (.str z) lo hi S P = (z.length ≤ sizeLine ∧ P (.str (cutS z lo hi)) S) := rfl
theorem sl_tup {lo hi : Option Int} : slD (.tup xs) lo hi S P = P (.tup (cutD xs lo hi)) S := rfl
theorem sl_lst {lo hi : Option Int} : slD (.lst xs) lo hi S P = P (.lst (cutD xs lo hi)) S := rfl
theorem on_ref {q : Addr → List D → Prop} (e : S a = some (.lst xs)) : onL (.ref a) S q = q a xs := by show (match S a with | some (.lst xs) => q a xs | _ => False) = _; rw [e]
theorem setD_ref {k : Int} {n : Nat} {v : D} {q : Sto → Prop} (e : S a = some (.lst xs)) (hk : ixN xs.length k = some n) : setD (.ref a) (.int k) v S q = q (sup S a (.lst (xs.set n v))) := by
  show (match S a with | some (.lst xs) => (match ixN xs.length k with | some j => q (sup S a (.lst (xs.set j v))) | none => False) | _ => False) = _
  rw [e]
  show (match ixN xs.length k with | some j => q (sup S a (.lst (xs.set j v))) | none => False) = _
  rw [hk]
theorem app_1 : appendD x [d] S P = onL x S fun a xs => xs.length < sizeLine ∧ P .non (sup S a (.lst (xs ++ [d]))) := rfl
theorem pop_0 : popD x [] S P = onL x S fun a xs => (xs[xs.length - 1]?).elim False fun d => P d (sup S a (.lst xs.dropLast)) := rfl
theorem ext_t : extendD x [.tup ys] S P = onL x S fun a xs => xs.length + ys.length ≤ sizeLine ∧ P .non (sup S a (.lst (xs ++ ys))) := rfl
theorem tuple_l : tupleD [.lst xs] S P = P (.tup xs) S := rfl
theorem list_t : listF [.tup xs] S P = P (.lst xs) S := rfl
theorem list_l : listF [.lst xs] S P = P (.lst xs) S := rfl
theorem int_b : intD [.bl b] S P = P (.int (if b then 1 else 0)) S := rfl
theorem int_i : intD [.int i] S P = P (.int i) S := rfl
theorem min_ii : minD [.int i, .int j] S P = P (.int (if j < i then j else i)) S := rfl
theorem str_i : strD [.int i] S P = (i.natAbs.log2 < 1920 ∧ P (.str (toString i)) S) := rfl
theorem str_b : strD [.bl b] S P = P (.str (if b then "True" else "False")) S := rfl
theorem repr_1 : reprD [d] S P = ((fits d = true ∧ (py d).shown.length ≤ sizeLine ∧ (py d).depth ≤ 150) ∧ P (.str (py d).shown) S) := rfl
theorem back_t : backD (.tup xs) S P = P (.tup xs.reverse) S := rfl
theorem tru_l {q : Bool → Prop} : (truB S (.lst xs)).elim False q = q (!xs.isEmpty) := rfl
theorem tru_r {q : Bool → Prop} (e : S a = some (.lst xs)) : (truB S (.ref a)).elim False q = q (!xs.isEmpty) := by
  have n : truB S (.ref a) = some (!xs.isEmpty) := by show (match S a with | some (.lst xs) => some (!xs.isEmpty) | _ => none) = _; rw [e]
  rw [n]; rfl
end
end DL
set_option Elab.async false
set_option linter.all false
set_option maxRecDepth 100000
namespace DL
open PySem PySem.Spec PyProof.Rows L2
def ch (c : Nat) : D := .str ⟨#[c]⟩
theorem signs_map (z : Str) : signs z = z.cps.toList.map ch := rfl
theorem signs_len (z : Str) : (signs z).length = z.length := by
  rw [signs_map, List.length_map]
  show z.cps.toList.length = z.cps.size
  simp
def unch : D → Nat
  | .str z => z.cps.toList.headD 0
  | _ => 0
theorem unch_ch (c : Nat) : unch (ch c) = c := rfl
section
variable {i : Nat} {tt : DT} {te : DE} {δ : DSt} {S : Sto} {P : DK} {z : Str}
theorem lc_signs (f : Nat → D) (hz : z.length ≤ sizeLine) (he : ∀ (c : Nat) (S2 : Sto) (Q : DK), Q (f c) S2 → te ((δ.set i none).set i (some (ch c))) S2 Q)
    (h : ∀ S', Step [] S S' → P (.lst (z.cps.toList.map f)) S') : lcB (gN i) dYes te [i] δ (signs z) S P := by
  refine lc_grow (fun _ => true) (fun d => f (unch d)) (by rw [signs_len]; exact hz) (fun d _ S2 Q q => q S2 (.refl _)) (fun d hd _ S2 Q q => ?_) fun S' s => ?_
  · rw [signs_map] at hd
    obtain ⟨c, _, rfl⟩ := List.mem_map.mp hd
    exact he c S2 Q (q S2 (.refl _))
  · rw [List.filter_eq_self.mpr (fun _ _ => rfl), signs_map, List.map_map]
    exact h S' s
theorem lc_signsF (q : Nat → Bool) (hz : z.length ≤ sizeLine) (ht : ∀ (c : Nat) (S2 : Sto) (Q : Bool → Sto → Prop), Q (q c) S2 → tt ((δ.set i none).set i (some (ch c))) S2 Q)
    (he : ∀ (c : Nat) (S2 : Sto) (Q : DK), Q (ch c) S2 → te ((δ.set i none).set i (some (ch c))) S2 Q)
    (h : ∀ S', Step [] S S' → P (.lst ((z.cps.toList.filter q).map ch)) S') : lcB (gN i) tt te [i] δ (signs z) S P := by
  refine lc_grow (fun d => q (unch d)) (fun d => d) (by rw [signs_len]; exact hz) (fun d hd S2 Q r => ?_) (fun d hd _ S2 Q r => ?_) fun S' s => ?_
  · rw [signs_map] at hd
    obtain ⟨c, _, rfl⟩ := List.mem_map.mp hd
    exact ht c S2 Q (r S2 (.refl _))
  · rw [signs_map] at hd
    obtain ⟨c, _, rfl⟩ := List.mem_map.mp hd
    exact he c S2 Q (r S2 (.refl _))
  · have e : (List.filter (fun d => q (unch d)) (signs z)).map (fun d => d) = (z.cps.toList.filter q).map ch := by
      rw [List.map_id'', signs_map, List.filter_map]
      · rfl
      · intro x; rfl
    rw [e]
    exact h S' s
end
theorem lc_empty {α : Type} {q : α → Bool} {l : List α} : (l.filter q).isEmpty = l.all fun c => !q c := by
  induction l with
  | nil => rfl
  | cons x r ih =>
    rw [List.filter_cons, List.all_cons]
    cases q x
    · simpa using ih
    · rfl
theorem strlen (z : Str) : z.length = z.cps.toList.length := by show z.cps.size = _; simp
section
variable {α : Type} {a b c d e : α} {l : List α}
theorem at0 : L2.atI (a :: l) 0 = some a := L2.atI_nat (j := 0) rfl
theorem at1 : L2.atI (a :: b :: l) 1 = some b := L2.atI_nat (j := 1) rfl
theorem at2 : L2.atI (a :: b :: c :: l) 2 = some c := L2.atI_nat (j := 2) rfl
theorem at3 : L2.atI (a :: b :: c :: d :: l) 3 = some d := L2.atI_nat (j := 3) rfl
end
theorem eqT_eq {d : D} {z : Str} (h : eqT d z = true) : d = .str z := by
  cases d with
  | str a => exact congrArg D.str (eq_of_beq h)
  | _ => cases h
end DL
set_option Elab.async false
set_option linter.all false
set_option maxRecDepth 100000
namespace DL
open PySem PySem.Spec PyProof.Rows L2
/-! ### small, plain trees; their size and depth -/
def goodS (k : Nat) (z : Str) : Bool := decide (z.length ≤ 80 + 10 * k) && z.cps.toList.all fun c => decide (c < 128)
def goodI (k : Nat) (i : Int) : Bool := decide (i.natAbs ≤ 10 ^ 50 + 100 * k)
mutual
def good (k : Nat) : D → Bool
  | .str z => goodS k z
  | .int i => goodI k i
  | .tup xs => goodA k xs
  | .lst xs => goodA k xs
  | .dic kvs => goodK k kvs
  | .ref _ => false
  | .ty _ => false
  | _ => true
def goodA (k : Nat) : List D → Bool
  | [] => true
  | d :: r => good k d && goodA k r
def goodK (k : Nat) : List (Key × D) → Bool
  | [] => true
  | (.inl i, d) :: r => goodI k i && good k d && goodK k r
  | (.inr z, d) :: r => goodS k z && good k d && goodK k r
end
mutual
def sz : D → Nat
  | .tup xs => szA xs + 1
  | .lst xs => szA xs + 1
  | .dic kvs => szK kvs + 1
  | _ => 1
def szA : List D → Nat
  | [] => 0
  | d :: r => sz d + szA r
def szK : List (Key × D) → Nat
  | [] => 0
  | (_, d) :: r => sz d + szK r + 1
end
mutual
def dp : D → Nat
  | .tup xs => dpA xs + 1
  | .lst xs => dpA xs + 1
  | .dic kvs => dpK kvs + 1
  | _ => 0
def dpA : List D → Nat
  | [] => 0
  | d :: r => max (dp d) (dpA r)
def dpK : List (Key × D) → Nat
  | [] => 0
  | (_, d) :: r => max (dp d) (dpK r)
end
section
variable {k j : Nat}
theorem goodA_cons {d : D} {r : List D} : goodA k (d :: r) = (good k d && goodA k r) := by simp only [goodA]
theorem goodA_all : ∀ {ds : List D}, goodA k ds = ds.all (good k)
  | [] => by simp only [goodA, List.all_nil]
  | d :: r => by simp only [goodA, List.all_cons, goodA_all (ds := r)]
theorem goodA_append {xs ys : List D} : goodA k (xs ++ ys) = (goodA k xs && goodA k ys) := by rw [goodA_all, goodA_all, goodA_all, List.all_append]
theorem goodA_mem {ds : List D} {d : D} (h : goodA k ds = true) (m : d ∈ ds) : good k d = true := by
  rw [goodA_all] at h
  exact List.all_eq_true.mp h d m
theorem goodA_of {ds : List D} (h : ∀ d ∈ ds, good k d = true) : goodA k ds = true := by
  rw [goodA_all]
  exact List.all_eq_true.mpr h
theorem goodS_len {z : Str} (h : goodS k z = true) : z.length ≤ 80 + 10 * k := by
  unfold goodS at h
  rw [Bool.and_eq_true] at h
  exact of_decide_eq_true h.1
theorem goodS_asc {z : Str} (h : goodS k z = true) : ∀ c ∈ z.cps.toList, c < 128 := fun c hc => by
  unfold goodS at h
  rw [Bool.and_eq_true] at h
  exact of_decide_eq_true (List.all_eq_true.mp h.2 c hc)
theorem goodS_of {z : Str} (h1 : z.length ≤ 80 + 10 * k) (h2 : ∀ c ∈ z.cps.toList, c < 128) : goodS k z = true := by
  unfold goodS
  rw [decide_eq_true h1, Bool.true_and]
  exact List.all_eq_true.mpr fun c hc => decide_eq_true (h2 c hc)
theorem goodI_le {i : Int} (h : goodI k i = true) : i.natAbs ≤ 10 ^ 50 + 100 * k := of_decide_eq_true h
theorem goodS_mono {z : Str} (h : goodS k z = true) (l : k ≤ j) : goodS j z = true := goodS_of (by have := goodS_len h; omega) (goodS_asc h)
theorem goodI_mono {i : Int} (h : goodI k i = true) (l : k ≤ j) : goodI j i = true := decide_eq_true (by have := goodI_le h; omega)
mutual
theorem good_mono (l : k ≤ j) : ∀ {d : D}, good k d = true → good j d = true
  | .non, h => by simp only [good]
  | .bl _, h => by simp only [good]
  | .int i, h => by simp only [good] at h ⊢; exact goodI_mono h l
  | .str z, h => by simp only [good] at h ⊢; exact goodS_mono h l
  | .tup xs, h => by simp only [good] at h ⊢; exact goodA_mono l h
  | .lst xs, h => by simp only [good] at h ⊢; exact goodA_mono l h
  | .dic kvs, h => by simp only [good] at h ⊢; exact goodK_mono l h
  | .ref _, h => by simp [good] at h
  | .ty _, h => by simp [good] at h
theorem goodA_mono (l : k ≤ j) : ∀ {ds : List D}, goodA k ds = true → goodA j ds = true
  | [], _ => by simp only [goodA]
  | d :: r, h => by
    simp only [goodA, Bool.and_eq_true] at h ⊢
    exact ⟨good_mono l h.1, goodA_mono l h.2⟩
theorem goodK_mono (l : k ≤ j) : ∀ {ds : List (Key × D)}, goodK k ds = true → goodK j ds = true
  | [], _ => by simp only [goodK]
  | (.inl i, d) :: r, h => by
    simp only [goodK, Bool.and_eq_true] at h ⊢
    exact ⟨⟨goodI_mono h.1.1 l, good_mono l h.1.2⟩, goodK_mono l h.2⟩
  | (.inr z, d) :: r, h => by
    simp only [goodK, Bool.and_eq_true] at h ⊢
    exact ⟨⟨goodS_mono h.1.1 l, good_mono l h.1.2⟩, goodK_mono l h.2⟩
end
end
theorem szA_append : ∀ {xs ys : List D}, szA (xs ++ ys) = szA xs + szA ys
  | [], ys => by simp [szA]
  | d :: r, ys => by simp only [List.cons_append, szA, szA_append (xs := r)]; omega
theorem sz_pos : ∀ d : D, 1 ≤ sz d := by
  intro d
  cases d <;> simp [sz]
theorem len_szA : ∀ ds : List D, ds.length ≤ szA ds
  | [] => by simp
  | d :: r => by have := len_szA r; have := sz_pos d; simp only [List.length_cons, szA]; omega
theorem szA_mem : ∀ {ds : List D} {d : D}, d ∈ ds → sz d ≤ szA ds
  | x :: r, d, h => by
    rcases List.mem_cons.mp h with rfl | h
    · simp only [szA]; omega
    · have := szA_mem h; simp only [szA]; omega
theorem dpA_mem : ∀ {ds : List D} {d : D}, d ∈ ds → dp d ≤ dpA ds
  | x :: r, d, h => by
    rcases List.mem_cons.mp h with rfl | h
    · simp only [dpA]; omega
    · have := dpA_mem h; simp only [dpA]; omega
theorem dpA_le {n : Nat} : ∀ {ds : List D}, (∀ d ∈ ds, dp d ≤ n) → dpA ds ≤ n
  | [], _ => by simp [dpA]
  | x :: r, h => by
    have h1 := h x (by simp)
    have h2 := dpA_le (ds := r) fun d hd => h d (by simp [hd])
    simp only [dpA]; omega
theorem dpA_append : ∀ {xs ys : List D}, dpA (xs ++ ys) = max (dpA xs) (dpA ys)
  | [], ys => by simp [dpA]
  | d :: r, ys => by simp only [List.cons_append, dpA, dpA_append (xs := r)]; omega
theorem line_big : 1000000 ≤ sizeLine := by rw [sizeLine_eq]; decide
theorem good_flat {k : Nat} {d : D} (h : good k d = true) : flat d = true := by cases d <;> first | rfl | simp [good] at h
end DL
set_option Elab.async false
set_option linter.all false
set_option maxRecDepth 100000
namespace DL
open PySem PySem.Spec PyProof.Rows L2
/-- one statement at a time -/
theorem seq_gen {t u : DS} {E : DEnds} {δ : DSt} {S : Sto} (h : ∀ M : DSt → Sto → Prop, M = u E → t { nx := M, rt := E.rt, bk := E.bk, ct := E.ct } δ S) : dSeq t u E δ S := h _ rfl
theorem if_gen {c : DT} {t u : DS} {E : DEnds} {δ : DSt} {S : Sto} (h : ∀ M1 M2 : Sto → Prop, M1 = t E δ → M2 = u E δ → c δ S fun b S1 => bif b then M1 S1 else M2 S1) : dIfS c t u E δ S := h _ _ rfl rfl
theorem iota_mem {lo : Int} {n : Nat} {d : D} (h : d ∈ iota lo n) : ∃ i : Nat, i < n ∧ d = .int (lo + (i : Int)) := by
  unfold iota at h
  obtain ⟨i, hi, rfl⟩ := List.mem_map.mp h
  exact ⟨i, List.mem_range.mp hi, rfl⟩
theorem iota_len (lo : Int) (n : Nat) : (iota lo n).length = n := by unfold iota; rw [List.length_map, List.length_range]
theorem at_mem {α : Type} {xs : List α} {i : Int} (h0 : 0 ≤ i) (h1 : i < (xs.length : Int)) : ∃ d, L2.atI xs i = some d ∧ d ∈ xs := by
  obtain ⟨n, rfl⟩ : ∃ n : Nat, i = (n : Int) := ⟨i.toNat, by omega⟩
  have hn : n < xs.length := by omega
  exact ⟨xs[n], L2.atI_nat (List.getElem?_eq_getElem hn), List.getElem_mem hn⟩
/-! ### joined signs -/
theorem strs_ch : ∀ cs : List Nat, strsD (cs.map ch) = some (cs.map fun c => (⟨#[c]⟩ : Str))
  | [] => rfl
  | c :: r => by
    show (strsD (r.map ch)).map _ = _
    rw [strs_ch r]
    rfl
theorem cps_app (a b : Str) : (a ++ b).cps.toList = a.cps.toList ++ b.cps.toList := by
  rw [Str.cps_append, Array.toList_append]
theorem join_signs : ∀ cs : List Nat, (Txt.join "" (cs.map fun c => (⟨#[c]⟩ : Str))).cps.toList = cs := by
  intro cs
  show (Builtin.Str.glued "" (cs.map fun c => (⟨#[c]⟩ : Str))).cps.toList = cs
  rw [StrLaws.glued_eq_join]
  induction cs with
  | nil => rfl
  | cons c r ih =>
    cases r with
    | nil => rfl
    | cons d s =>
      show ((⟨#[c]⟩ : Str) ++ ("" : Str) ++ Str.join "" ((d :: s).map fun c => (⟨#[c]⟩ : Str))).cps.toList = _
      rw [cps_app, cps_app, ih]
      rfl
theorem all_ch {ys : List D} {q : Nat → Prop} (h : ∀ y ∈ ys, ∃ c, q c ∧ y = ch c) : ∃ cs : List Nat, ys = cs.map ch ∧ ∀ c ∈ cs, q c := by
  induction ys with
  | nil => exact ⟨[], rfl, by simp⟩
  | cons y r ih =>
    obtain ⟨c, hc, rfl⟩ := h y (by simp)
    obtain ⟨cs, rfl, h2⟩ := ih fun z hz => h z (by simp [hz])
    exact ⟨c :: cs, rfl, by simpa using ⟨hc, h2⟩⟩
/-! ### a text that is cut at a sign -/
theorem join_inj {c : Nat} : ∀ {ps qs : List Str}, ps ≠ [] → qs ≠ [] → (∀ p ∈ ps, c ∉ p.cps.toList) → (∀ p ∈ qs, c ∉ p.cps.toList) → (Str.join ⟨#[c]⟩ ps).cps.toList = (Str.join ⟨#[c]⟩ qs).cps.toList → ps.map (fun p => p.cps.toList) = qs.map (fun p => p.cps.toList)
  | [], _, h, _, _, _, _ => absurd rfl h
  | _, [], _, h, _, _, _ => absurd rfl h
  | [p], [q], _, _, _, _, e => by simpa [Str.join] using e
  | [p], q :: q2 :: qs, _, _, hp, _, e => by
    exfalso
    have e2 : p.cps.toList = q.cps.toList ++ (c :: (Str.join ⟨#[c]⟩ (q2 :: qs)).cps.toList) := by
      have : (Str.join ⟨#[c]⟩ (q :: q2 :: qs)) = q ++ ⟨#[c]⟩ ++ Str.join ⟨#[c]⟩ (q2 :: qs) := rfl
      rw [this, cps_app, cps_app] at e
      simpa [Str.join] using e
    exact hp p (by simp) (by rw [e2]; simp)
  | p :: p2 :: ps, [q], _, _, _, hq, e => by
    exfalso
    have e2 : q.cps.toList = p.cps.toList ++ (c :: (Str.join ⟨#[c]⟩ (p2 :: ps)).cps.toList) := by
      have : (Str.join ⟨#[c]⟩ (p :: p2 :: ps)) = p ++ ⟨#[c]⟩ ++ Str.join ⟨#[c]⟩ (p2 :: ps) := rfl
      rw [this, cps_app, cps_app] at e
      simpa [Str.join] using e.symm
    exact hq q (by simp) (by rw [e2]; simp)
  | p :: p2 :: ps, q :: q2 :: qs, _, _, hp, hq, e => by
    have j1 : (Str.join ⟨#[c]⟩ (p :: p2 :: ps)) = p ++ ⟨#[c]⟩ ++ Str.join ⟨#[c]⟩ (p2 :: ps) := rfl
    have j2 : (Str.join ⟨#[c]⟩ (q :: q2 :: qs)) = q ++ ⟨#[c]⟩ ++ Str.join ⟨#[c]⟩ (q2 :: qs) := rfl
    rw [j1, j2, cps_app, cps_app, cps_app, cps_app] at e
    have e' : p.cps.toList ++ c :: (Str.join ⟨#[c]⟩ (p2 :: ps)).cps.toList = q.cps.toList ++ c :: (Str.join ⟨#[c]⟩ (q2 :: qs)).cps.toList := by simpa using e
    have key : ∀ (a b r s : List Nat), c ∉ a → c ∉ b → a ++ c :: r = b ++ c :: s → a = b ∧ r = s := by
      intro a
      induction a with
      | nil =>
        intro b r s _ hb z
        cases b with
        | nil => simpa using z
        | cons x t => simp at z; exact absurd (by rw [z.1]; simp) hb
      | cons x t ih =>
        intro b r s ha hb z
        cases b with
        | nil => simp at z; exact absurd (by rw [z.1]; simp) ha
        | cons y u =>
          simp at z
          obtain ⟨z1, z2⟩ := ih u r s (fun m => ha (by simp [m])) (fun m => hb (by simp [m])) z.2
          exact ⟨by rw [z.1, z1], z2⟩
    obtain ⟨k1, k2⟩ := key _ _ _ _ (hp p (by simp)) (hq q (by simp)) e'
    have ih := join_inj (ps := p2 :: ps) (qs := q2 :: qs) (by simp) (by simp) (fun z hz => hp z (by simp [hz])) (fun z hz => hq z (by simp [hz])) k2
    show p.cps.toList :: List.map (fun p => p.cps.toList) (p2 :: ps) = q.cps.toList :: List.map (fun p => p.cps.toList) (q2 :: qs)
    rw [k1, ih]
theorem str_ext {a b : Str} (h : a.cps.toList = b.cps.toList) : a = b := by
  cases a
  cases b
  exact congrArg Str.mk (Array.toList_inj.mp h)
theorem split_is {c : Nat} {z : Str} {qs : List Str} (h0 : qs ≠ []) (hf : ∀ p ∈ qs, c ∉ p.cps.toList) (e : z = Str.join ⟨#[c]⟩ qs) : Txt.split z ⟨#[c]⟩ = qs := by
  have h1 := StrLaws.join_split z ⟨#[c]⟩
  have h2 := StrLaws.split_free z c
  have h3 : Txt.split z ⟨#[c]⟩ ≠ [] := fun q => by have := PyProof.Rows.split_pos z ⟨#[c]⟩; rw [q] at this; simp at this
  have h4 := join_inj h3 h0 h2 hf (by rw [h1, e])
  have inj : ∀ {a b : List Str}, a.map (fun p => p.cps.toList) = b.map (fun p => p.cps.toList) → a = b := by
    intro a
    induction a with
    | nil => intro b q; cases b with | nil => rfl | cons x t => cases q
    | cons x t ih =>
      intro b q
      cases b with
      | nil => cases q
      | cons y u =>
        simp only [List.map_cons, List.cons.injEq] at q
        rw [str_ext q.1, ih q.2]
  exact inj h4
/-- elements one by one, what has been gathered in sight -/
theorem lc_acc {i : Nat} {te : DE} {δ : DSt} {ds : List D} {S : Sto} {P : DK} (L : List Addr) (J : Nat → List D → Sto → Prop) (hz : ds.length ≤ sizeLine) (hJ : ∀ n acc S1 S2, (∀ b ∈ L, S2 b = S1 b) → J n acc S1 → J n acc S2) (hL : ∀ b ∈ L, S b ≠ none) (h0 : J 0 [] S)
    (he : ∀ n d acc, ds[n]? = some d → acc.length = n → ∀ (S2 : Sto) (Q : DK), J n acc S2 → (∀ y S3, J (n + 1) (acc ++ [y]) S3 → Step L S2 S3 → Q y S3) → te ((δ.set i none).set i (some d)) S2 Q)
    (h : ∀ ys S', ys.length = ds.length → J ds.length ys S' → Step L S S' → P (.lst ys) S') : lcB (gN i) dYes te [i] δ ds S P := by
  intro p np
  have nL : ∀ b ∈ L, b ≠ p := fun b hb e => hL b hb (by rw [e]; exact np)
  refine ⟨fun j acc S' => acc.length = min j ds.length ∧ J j acc S' ∧ S' p = some (.lst acc) ∧ ∀ b, S b ≠ none → b ∉ L → S' b = S b, ⟨by simp, hJ _ _ S _ (fun b hb => sup_ne (nL b hb)) h0, sup_same, fun b hb _ => sup_ne fun e => hb (by rw [e]; exact np)⟩, fun _ _ _ z => z.2.2.1, fun j d acc S' hd ⟨e1, e2, e3, e5⟩ => ?_, fun acc S' ⟨e1, e2, e3, e5⟩ => ?_⟩
  · have hj := (List.getElem?_eq_some_iff.mp hd).1
    show te _ S' _
    refine he j d acc hd (by omega) S' _ e2 fun y S3 j3 s3 => ⟨s3.at e3 (fun z => nL p z rfl), by omega, by rw [List.length_append, e1]; simp; omega, hJ _ _ S3 _ (fun b hb => sup_ne (nL b hb)) j3, sup_same, fun b hb nb => ?_⟩
    have hne : b ≠ p := fun e => hb (by rw [e]; exact np)
    rw [sup_ne hne, s3 b (by rw [e5 b hb nb]; exact hb) nb, e5 b hb nb]
  · rw [Nat.min_self] at e1
    refine h acc _ e1 (hJ _ _ S' _ (fun b hb => ?_) e2) fun b hb nb => ?_
    · unfold sdel; rw [if_neg (nL b hb)]
    · have hne : b ≠ p := fun e => hb (by rw [e]; exact np)
      unfold sdel
      rw [if_neg hne]
      exact e5 b hb nb
section
variable {P : Program} {w : World} {K : PySem.W.Frag} {mg : Str → Option Value} {base : Heap}
/-- what nobody asks is kept -/
theorem Def.none {x : Str} {st : Stmt} {ps : List Str} {k : Nat} {sp : DSp} (h : Def K mg x st ps) (n : ∀ ds S P', ¬ sp ds S P') : Has P w K mg base k x ps sp := by
  obtain ⟨f, fd, F, b, m⟩ := h
  exact ⟨f, fd, ⟨fun ds S P' q => absurd q (n ds S P'), fun A outer s H args us vs Q _ _ _ _ _ ⟨ds, S, P', _, _, q, _⟩ => absurd q (n ds S P')⟩, b, F.kp, m⟩
end
end DL
set_option Elab.async false
set_option linter.all false
set_option maxRecDepth 100000
namespace DL
open PySem PySem.Spec PyProof.Rows L2
theorem goodS_app {k j : Nat} {a b : Str} (h1 : goodS k a = true) (h2 : ∀ c ∈ b.cps.toList, c < 128) (hl : a.length + b.length ≤ 80 + 10 * j) : goodS j (a ++ b) = true := by
  refine goodS_of (by rw [strLen_append]; exact hl) fun c hc => ?_
  rw [cps_app, List.mem_append] at hc
  exact hc.elim (goodS_asc h1 c) (h2 c)
theorem goodS_cut {k : Nat} {z : Str} {lo hi : Option Int} (h : goodS k z = true) : goodS k (cutS z lo hi) = true := by
  have e : (cutS z lo hi).cps.toList = ((z.cps.toList.drop (HT.sIx z.length 0 lo)).take (HT.sIx z.length z.length hi - HT.sIx z.length 0 lo)) := by unfold cutS; simp
  refine goodS_of ?_ fun c hc => ?_
  · rw [strlen, e]
    have h1 := goodS_len h
    have h2 := strlen z
    rw [List.length_take, List.length_drop]
    omega
  · rw [e] at hc
    exact goodS_asc h c (List.mem_of_mem_drop (List.mem_of_mem_take hc))
theorem goodS_int {k j : Nat} {i : Int} (hk : k ≤ 9) (h : goodI k i = true) : goodS j (toString i : Str) = true := by
  have h1 := goodI_le h
  have h2 : i.natAbs < 10 ^ 60 := by
    have : 10 ^ 50 + 100 * 9 < 10 ^ 60 := by decide
    omega
  have h3 := int_text_length_le10 (k := 60) (by decide) h2
  refine goodS_of ?_ fun c hc => ?_
  · have e : (Str.ofString (toString i)).length = (toString i).length := PySem.ofString_length _
    show (Str.ofString (toString i)).length ≤ _
    omega
  · by_cases q : c < 128
    · exact q
    · exact absurd hc (PyProof.Rows.int_text_free' c ⟨by omega, .inr (by omega)⟩ i)
theorem goodI_log {k : Nat} {i : Int} (hk : k ≤ 9) (h : goodI k i = true) : i.natAbs.log2 < 1920 := by
  have h1 := goodI_le h
  have h2 : i.natAbs < 2 ^ 1920 := by
    have : 10 ^ 50 + 100 * 9 < 2 ^ 1920 := by decide +kernel
    omega
  by_cases z : i.natAbs = 0
  · rw [z]; decide
  · exact (Nat.log2_lt z).mpr h2
theorem upper_asc : ∀ c : _root_.Fin 128, (Unicode.upperOf c.val).length = 1 ∧ ∀ u ∈ Unicode.upperOf c.val, u < 128 := by decide +kernel
theorem mapIdx_const {α β : Type} (g : α → β) : ∀ l : List α, List.mapIdx (fun _ c => g c) l = l.map g
  | [] => rfl
  | a :: r => by rw [List.mapIdx_cons, mapIdx_const g r]; rfl
theorem upper_list (z : Str) : (Txt.upper z).cps.toList = (z.cps.toList.map Unicode.upperOf).flatten := by
  show (PySem.placed z fun _ c => Unicode.upperOf c).toList = _
  unfold PySem.placed
  rw [Array.toList_flatten, Array.toList_mapIdx, mapIdx_const (fun c => (Unicode.upperOf c).toArray), List.map_map]
  congr 1
theorem goodS_upper {k : Nat} {z : Str} (h : goodS k z = true) : goodS k (Txt.upper z) = true := by
  have ha := goodS_asc h
  have hl := goodS_len h
  have key : ∀ l : List Nat, (∀ c ∈ l, c < 128) → ((l.map Unicode.upperOf).flatten).length = l.length ∧ ∀ u ∈ (l.map Unicode.upperOf).flatten, u < 128 := by
    intro l
    induction l with
    | nil => intro _; exact ⟨rfl, by simp⟩
    | cons c r ih =>
      intro q
      obtain ⟨i1, i2⟩ := ih fun x hx => q x (by simp [hx])
      have u := upper_asc ⟨c, q c (by simp)⟩
      rw [List.map_cons, List.flatten_cons]
      refine ⟨by rw [List.length_append, i1, u.1, List.length_cons]; omega, fun x hx => ?_⟩
      rcases List.mem_append.mp hx with y | y
      · exact u.2 x y
      · exact i2 x y
  obtain ⟨k1, k2⟩ := key _ ha
  exact goodS_of (by rw [strlen, upper_list, k1, ← strlen]; exact hl) (by rw [upper_list]; exact k2)
/-! ### cuts of trees -/
theorem szA_take_drop (n : Nat) : ∀ ds : List D, szA (ds.take n) + szA (ds.drop n) = szA ds := by
  intro ds
  rw [← szA_append, List.take_append_drop]
theorem szA_take (n : Nat) (ds : List D) : szA (ds.take n) ≤ szA ds := by have := szA_take_drop n ds; omega
theorem szA_drop (n : Nat) (ds : List D) : szA (ds.drop n) ≤ szA ds := by have := szA_take_drop n ds; omega
theorem sub_facts {k n : Nat} {xs ys : List D} (h : ∀ y ∈ ys, y ∈ xs) (g : goodA k xs = true) : goodA k ys = true ∧ dpA ys ≤ dpA xs :=
  ⟨goodA_of fun d hd => goodA_mem g (h d hd), dpA_le fun d hd => dpA_mem (h d hd)⟩
theorem cutD_mem {xs : List D} {lo hi : Option Int} : ∀ y ∈ cutD xs lo hi, y ∈ xs := fun y hy => by
  unfold cutD at hy
  exact List.mem_of_mem_drop (List.mem_of_mem_take hy)
theorem cutD_sz {xs : List D} {lo hi : Option Int} : szA (cutD xs lo hi) ≤ szA xs := by
  unfold cutD
  exact Nat.le_trans (szA_take _ _) (szA_drop _ _)
theorem cutD_len {xs : List D} {lo hi : Option Int} : (cutD xs lo hi).length ≤ xs.length := by
  unfold cutD
  rw [List.length_take, List.length_drop]; omega
theorem szA_rev : ∀ ds : List D, szA ds.reverse = szA ds
  | [] => rfl
  | d :: r => by rw [List.reverse_cons, szA_append, szA_rev r]; simp only [szA]; omega
/-- cut at a place -/
theorem cut_to {xs : List D} {n : Nat} (h : n ≤ xs.length) : cutD xs none (some (n : Int)) = xs.take n := by
  unfold cutD
  rw [HT.sIx_none, HT.sIx_nat, List.drop_zero, Nat.sub_zero, Nat.min_eq_left h]
theorem cut_from {xs : List D} {n : Nat} (h : n ≤ xs.length) : cutD xs (some (n : Int)) none = xs.drop n := by
  unfold cutD
  rw [HT.sIx_none, HT.sIx_nat, Nat.min_eq_left h, List.take_of_length_le (by rw [List.length_drop]; omega)]
end DL
set_option Elab.async false
set_option linter.all false
set_option maxRecDepth 100000
namespace DL
open PySem PySem.Spec PyProof.Rows L2
section
variable {E : DEnds} {δ : DSt} {S : Sto} {P : DK} {Q : Bool → Sto → Prop} {R : List D → Sto → Prop} {O : Option Int → Sto → Prop} {t u : DS} {te ta tb tc : DE} {tt tu : DT} {tA : DA} {tO tO' : DO} {i j : Nat} {d : D} {r r' : DR} {g : DG} {ti : DI} {x : Option D} {l : DSt} {is : List Nat} {c : Bool}
theorem e_next : dNext E δ S = E.nx δ S := rfl
theorem e_seq : dSeq t u E δ S = t { nx := u E, rt := E.rt, bk := E.bk, ct := E.ct } δ S := rfl
theorem e_drop : dDrop te E δ S = te δ S fun _ S1 => E.nx δ S1 := rfl
theorem e_ret : dRet te E δ S = te δ S E.rt := rfl
theorem e_retN : dRetN E δ S = E.rt .non S := rfl
theorem e_if : dIfS tt t u E δ S = tt δ S fun b S1 => bif b then t E δ S1 else u E δ S1 := rfl
theorem e_cont : dCont E δ S = E.ct δ S := rfl
theorem e_break : dBreak E δ S = E.bk δ S := rfl
theorem e_set : dSet i te E δ S = te δ S fun d S1 => E.nx (δ.set i (some d)) S1 := rfl
theorem e_asg : dAsg te g E δ S = te δ S fun d S1 => g d δ S1 E.nx := rfl
theorem e_par : dPar i j tA E δ S = tA δ S fun ds S1 => match ds with | [d, e] => E.nx ((δ.set i (some d)).set j (some e)) S1 | _ => False := rfl
theorem e_setI {tv to ti : DE} : dSetI tv to ti E δ S = tv δ S fun v S1 => to δ S1 fun o S2 => ti δ S2 fun i S3 => setD o i v S3 fun S4 => E.nx δ S4 := rfl
theorem e_for : dFor ti g t E δ S = ti δ S fun ds S1 => forB g t E δ ds S1 := rfl
theorem e_var : dVar i δ S P = (slot δ i).elim False fun d => P d S := rfl
theorem e_c : dC d δ S P = P d S := rfl
theorem e_op : dOp r ta tb δ S P = ta δ S fun d S1 => tb δ S1 fun e S2 => r d e S2 P := rfl
theorem e_un {q : D → Sto → DK → Prop} : dUn q ta δ S P = ta δ S fun d S1 => q d S1 P := rfl
theorem e_test : dTest te δ S Q = te δ S fun d S1 => asB d fun b => Q b S1 := rfl
theorem e_chain : dChain r r' ta tb tc δ S P = ta δ S fun d S1 => tb δ S1 fun e S2 => r d e S2 fun z S3 => asB z fun k => bif k then tc δ S3 fun f S4 => r' e f S4 P else P (.bl false) S3 := rfl
theorem e_and : dAnd tt tu δ S Q = tt δ S fun c S1 => bif c then tu δ S1 Q else Q false S1 := rfl
theorem e_or : dOr tt tu δ S Q = tt δ S fun c S1 => bif c then Q true S1 else tu δ S1 Q := rfl
theorem e_not : dNot tt δ S Q = tt δ S fun c S1 => Q (!c) S1 := rfl
theorem e_andV : dAndV ta tb δ S P = ta δ S fun x S1 => asB x fun c => bif c then tb δ S1 P else P (.bl false) S1 := rfl
theorem e_orV : dOrV ta tb δ S P = ta δ S fun x S1 => asB x fun c => bif c then P (.bl true) S1 else tb δ S1 P := rfl
theorem e_notV : dNotV ta δ S P = ta δ S fun x S1 => asB x fun c => P (.bl (!c)) S1 := rfl
theorem e_ife : dIf tt ta tb δ S P = tt δ S fun c S1 => bif c then ta δ S1 P else tb δ S1 P := rfl
theorem e_nil : dNil δ S R = R [] S := rfl
theorem e_cons : dCons te tA δ S R = te δ S fun d S1 => tA δ S1 fun ds S2 => R (d :: ds) S2 := rfl
theorem e_tup : dTup tA δ S P = tA δ S fun ds S1 => ds.length ≤ sizeLine ∧ P (.tup ds) S1 := rfl
theorem e_lst : dLst tA δ S P = tA δ S fun ds S1 => ds.length ≤ sizeLine ∧ P (.lst ds) S1 := rfl
theorem e_lstM : dLstM tA δ S P = tA δ S fun ds S1 => ds.length ≤ sizeLine ∧ ∀ p, S1 p = none → P (.ref p) (sup S1 p (.lst ds)) := rfl
theorem e_noPart : dNoPart δ S O = O none S := rfl
theorem e_part : dPart te δ S O = te δ S fun d S1 => asI d fun i => O (some i) S1 := rfl
theorem e_sl {q : D → Option Int → Option Int → Sto → DK → Prop} : dSl q te tO tO' δ S P = te δ S fun d S1 => tO δ S1 fun lo S2 => tO' δ S2 fun hi S3 => q d lo hi S3 P := rfl
theorem e_cb {q : List D → Sto → DK → Prop} : dCB q tA δ S P = tA δ S fun ds S1 => q ds S1 P := rfl
theorem e_mtL {q : D → List D → Sto → DK → Prop} : dMtL q te tA δ S P = te δ S fun d S1 => (∃ a xs, d = .ref a ∧ S1 a = some (.lst xs)) ∧ tA δ S1 fun ds S2 => q d ds S2 P := rfl
theorem e_mt0 {q : D → List D → Sto → DK → Prop} : dMt0 q te δ S P = te δ S fun d S1 => (∃ a xs, d = .ref a ∧ S1 a = some (.lst xs)) ∧ q d [] S1 P := rfl
theorem e_mtS {q : D → List D → Sto → DK → Prop} : dMtS q te tA δ S P = te δ S fun d S1 => asS d fun _ => tA δ S1 fun ds S2 => q d ds S2 P := rfl
theorem e_mtS0 {q : D → List D → Sto → DK → Prop} : dMtS0 q te δ S P = te δ S fun d S1 => asS d fun _ => q d [] S1 P := rfl
theorem e_tru : dTru te δ S Q = te δ S fun d S1 => (truB S1 d).elim False fun b => Q b S1 := rfl
theorem e_lc : dLc ti g tt te is δ S P = ti δ S fun ds S1 => lcB g tt te is δ ds S1 P := rfl
theorem e_itT {xs : List D} {q : List D → Sto → Prop} : dItS (dC (.tup xs)) δ S q = q xs S := rfl
theorem e_itS : dItS te δ S R = te δ S fun d S1 => match d with | .tup ds => R ds S1 | .lst ds => R ds S1 | _ => False := rfl
theorem e_itStr : dItStr te δ S R = te δ S fun d S1 => asS d fun z => R (signs z) S1 := rfl
theorem e_rng1 : dRng1 tA δ S R = tA δ S fun ds S1 => match ds with | [.int j] => big j ∧ R (iota 0 j.toNat) S1 | _ => False := rfl
theorem e_rev : dRev te δ S P = te δ S fun d S1 => backD d S1 P := rfl
theorem e_dic0 : dDic0 δ S P = P (.dic []) S := rfl
theorem e_dic1 {k : Key} : dDic1 k te δ S P = te δ S fun d S1 => P (.dic [(k, d)]) S1 := rfl
theorem e_s0 : slot (x :: l) 0 = x := rfl
theorem e_s1 : slot (x :: l) (i + 1) = slot l i := rfl
theorem e_ct {a b : Prop} : (bif true then a else b) = a := rfl
theorem e_cf {a b : Prop} : (bif false then a else b) = b := rfl
end
end DL
set_option Elab.async false
set_option linter.all false
set_option maxRecDepth 100000
namespace DL
open PySem PySem.Spec PyProof.Rows L2
/-! ### what good trees give for repr -/
theorem goodS_repr {k : Nat} {z : Str} (hk : k ≤ 3) (h : goodS k z = true) : (reprText z).length ≤ sizeLine := by
  have h1 := StrLaws.reprText_len z fun c hc => by have := goodS_asc h c hc; omega
  have h2 := goodS_len h
  have h3 := line_big
  omega
theorem goodI_shown {k : Nat} {i : Int} (hk : k ≤ 3) (h : goodI k i = true) : (PyData.shown (.int i)).length ≤ 64 := by
  have h1 := goodI_le h
  have h2 : i.natAbs < 10 ^ 60 := by
    have : 10 ^ 50 + 100 * 9 < 10 ^ 60 := by decide
    omega
  have h3 := int_text_length_le10 (k := 60) (by decide) h2
  have e : (Str.ofString (toString i)).length = (toString i).length := PySem.ofString_length _
  simp only [PyData.shown]
  show (Str.ofString (toString i)).length ≤ _
  omega
mutual
theorem good_fits {k : Nat} (hk : k ≤ 3) : ∀ {d : D}, good k d = true → fits d = true
  | .non, _ => by simp only [fits]
  | .bl _, _ => by simp only [fits]
  | .int i, h => by simp only [good] at h; simp only [fits]; exact decide_eq_true (goodI_log (by omega) h)
  | .str z, h => by simp only [good] at h; simp only [fits]; exact decide_eq_true (goodS_repr hk h)
  | .tup xs, h => by simp only [good] at h; simp only [fits]; exact goodA_fits hk h
  | .lst xs, h => by simp only [good] at h; simp only [fits]; exact goodA_fits hk h
  | .dic kvs, h => by simp only [good] at h; simp only [fits]; exact goodK_fits hk h
  | .ref _, h => by simp [good] at h
  | .ty _, h => by simp [good] at h
theorem goodA_fits {k : Nat} (hk : k ≤ 3) : ∀ {ds : List D}, goodA k ds = true → fitsA ds = true
  | [], _ => by simp only [fitsA]
  | d :: r, h => by
    simp only [goodA, Bool.and_eq_true] at h
    simp only [fitsA, Bool.and_eq_true]
    exact ⟨good_fits hk h.1, goodA_fits hk h.2⟩
theorem goodK_fits {k : Nat} (hk : k ≤ 3) : ∀ {ds : List (Key × D)}, goodK k ds = true → fitsK ds = true
  | [], _ => by simp only [fitsK]
  | (.inl i, d) :: r, h => by
    simp only [goodK, Bool.and_eq_true] at h
    simp only [fitsK, fitsKey, Bool.and_eq_true]
    exact ⟨⟨decide_eq_true (goodI_log (by omega) h.1.1), good_fits hk h.1.2⟩, goodK_fits hk h.2⟩
  | (.inr z, d) :: r, h => by
    simp only [goodK, Bool.and_eq_true] at h
    simp only [fitsK, fitsKey, Bool.and_eq_true]
    exact ⟨⟨decide_eq_true (goodS_repr hk h.1.1), good_fits hk h.1.2⟩, goodK_fits hk h.2⟩
end
mutual
theorem py_depth : ∀ d : D, (py d).depth ≤ dp d
  | .non => by simp only [py, PyData.depth]; omega
  | .bl _ => by simp only [py, PyData.depth]; omega
  | .int _ => by simp only [py, PyData.depth]; omega
  | .str _ => by simp only [py, PyData.depth]; omega
  | .ref _ => by simp only [py, PyData.depth]; omega
  | .ty _ => by simp only [py, PyData.depth]; omega
  | .tup xs => by have := pyA_depth xs; simp only [py, PyData.depth, dp]; omega
  | .lst xs => by have := pyA_depth xs; simp only [py, PyData.depth, dp]; omega
  | .dic kvs => by have := pyK_depth kvs; simp only [py, PyData.depth, dp]; omega
theorem pyA_depth : ∀ ds : List D, PyData.depthAll (pyA ds) ≤ dpA ds
  | [] => by simp only [pyA, PyData.depthAll]; omega
  | d :: r => by have := py_depth d; have := pyA_depth r; simp only [pyA, PyData.depthAll, dpA]; omega
theorem pyK_depth : ∀ ds : List (Key × D), PyData.depthKv (pyK ds) ≤ dpK ds
  | [] => by simp only [pyK, PyData.depthKv]; omega
  | (.inl i, d) :: r => by have := py_depth d; have := pyK_depth r; simp only [pyK, keyPy, PyData.depthKv, PyData.depth, dpK]; omega
  | (.inr z, d) :: r => by have := py_depth d; have := pyK_depth r; simp only [pyK, keyPy, PyData.depthKv, PyData.depth, dpK]; omega
end
mutual
theorem py_short {k : Nat} (hk : k ≤ 3) : ∀ {d : D}, good k d = true → (py d).leavesShort 64 = true ∧ (py d).bulk + 1 ≤ 112 * sz d
  | .non, _ => by simp only [py, PyData.leavesShort, PyData.bulk, sz]; exact ⟨trivial, by omega⟩
  | .bl _, _ => by simp only [py, PyData.leavesShort, PyData.bulk, sz]; exact ⟨trivial, by omega⟩
  | .int i, h => by simp only [good] at h; simp only [py, PyData.leavesShort, PyData.bulk, sz]; exact ⟨decide_eq_true (goodI_shown hk h), by omega⟩
  | .str z, h => by
    simp only [good] at h
    simp only [py, PyData.leavesShort, PyData.bulk, sz]
    have h2 : z.cps.size ≤ 80 + 10 * k := goodS_len h
    exact ⟨List.all_eq_true.mpr fun c hc => decide_eq_true (by have := goodS_asc h c hc; omega), by omega⟩
  | .tup xs, h => by
    simp only [good] at h
    obtain ⟨a, b⟩ := pyA_short hk h
    simp only [py, PyData.leavesShort, PyData.bulk, sz]
    exact ⟨a, by omega⟩
  | .lst xs, h => by
    simp only [good] at h
    obtain ⟨a, b⟩ := pyA_short hk h
    simp only [py, PyData.leavesShort, PyData.bulk, sz]
    exact ⟨a, by omega⟩
  | .dic kvs, h => by
    simp only [good] at h
    obtain ⟨a, b⟩ := pyK_short hk h
    simp only [py, PyData.leavesShort, PyData.bulk, sz]
    exact ⟨a, by omega⟩
  | .ref _, h => by simp [good] at h
  | .ty _, h => by simp [good] at h
theorem pyA_short {k : Nat} (hk : k ≤ 3) : ∀ {ds : List D}, goodA k ds = true → PyData.leavesShortAll 64 (pyA ds) = true ∧ PyData.bulkAll (pyA ds) ≤ 112 * szA ds
  | [], _ => by simp only [pyA, PyData.leavesShortAll, PyData.bulkAll]; exact ⟨trivial, by omega⟩
  | d :: r, h => by
    simp only [goodA, Bool.and_eq_true] at h
    obtain ⟨a, b⟩ := py_short hk h.1
    obtain ⟨a2, b2⟩ := pyA_short hk h.2
    have := sz_pos d
    simp only [pyA, PyData.leavesShortAll, PyData.bulkAll, szA, Bool.and_eq_true]
    exact ⟨⟨a, a2⟩, by omega⟩
theorem pyK_short {k : Nat} (hk : k ≤ 3) : ∀ {ds : List (Key × D)}, goodK k ds = true → PyData.leavesShortKv 64 (pyK ds) = true ∧ PyData.bulkKv (pyK ds) ≤ 112 * szK ds
  | [], _ => by simp only [pyK, PyData.leavesShortKv, PyData.bulkKv]; exact ⟨trivial, by omega⟩
  | (.inl i, d) :: r, h => by
    simp only [goodK, Bool.and_eq_true] at h
    obtain ⟨a, b⟩ := py_short hk h.1.2
    obtain ⟨a2, b2⟩ := pyK_short hk h.2
    simp only [pyK, keyPy, PyData.leavesShortKv, PyData.leavesShort, PyData.bulkKv, PyData.bulk, szK, Bool.and_eq_true]
    exact ⟨⟨⟨decide_eq_true (goodI_shown hk h.1.1), a⟩, a2⟩, by omega⟩
  | (.inr z, d) :: r, h => by
    simp only [goodK, Bool.and_eq_true] at h
    obtain ⟨a, b⟩ := py_short hk h.1.2
    obtain ⟨a2, b2⟩ := pyK_short hk h.2
    have h2 : z.cps.size ≤ 80 + 10 * k := goodS_len h.1.1
    have := sz_pos d
    simp only [pyK, keyPy, PyData.leavesShortKv, PyData.leavesShort, PyData.bulkKv, PyData.bulk, szK, Bool.and_eq_true]
    exact ⟨⟨⟨List.all_eq_true.mpr fun c hc => decide_eq_true (by have := goodS_asc h.1.1 c hc; omega), a⟩, a2⟩, by omega⟩
end
theorem good_repr {k : Nat} {d : D} (hk : k ≤ 3) (h : good k d = true) (hs : sz d ≤ 2000) (hd : dp d ≤ 150) : fits d = true ∧ (py d).shown.length ≤ sizeLine ∧ (py d).depth ≤ 150 := by
  obtain ⟨a, b⟩ := py_short hk h
  have e := PyData.shown_le_bulk 64 (by decide) (py d) a
  have q := py_depth d
  refine ⟨good_fits hk h, ?_, by omega⟩
  rw [sizeLine_eq]
  omega
end DL
set_option Elab.async false
set_option linter.all false
set_option maxRecDepth 100000
set_option maxHeartbeats 1000000
namespace DL
open PySem PySem.Spec PyProof.Rows L2
/-! ### once a token has been given out: str.replace -/
section
variable {X : Cx} {e f o : Expr} {es : List Expr} {te tf to : DE} {t : DA} {st : Stmt} {rest : List Stmt} {u v : DS} {pos : Pos}
abbrev KE' (X : Cx) (e : Expr) (t : DE) : Prop := L2.PET X e (lE X.K t)
abbrev KA' (X : Cx) (e : List Expr) (t : DA) : Prop := L2.PAT X e (lA X.K t)
abbrev KS' (X : Cx) (e : Stmt) (t : DS) : Prop := L2.PST X e (lS X.K t)
abbrev KSs' (X : Cx) (e : List Stmt) (t : DS) : Prop := L2.PSsT X e (lS X.K t)
theorem k_of (h : QE X e te) : KE' X e te := CwR.PET.of h
theorem ks_of (h : QS X st u) : KS' X st u := L2.PST.of h
theorem kss_of (h : QSs X rest u) : KSs' X rest u := L2.PSsT.of h
theorem k_op {op : Operator} {r : DR} (ho : OpD X (binaryOp op) r) (ha : KE' X e te) (hb : KE' X f tf) : KE' X (.BinOp e op f pos) (dOp r te tf) :=
  fun pins s σ H Q h0 I h => CwR.pet_op ho ha hb pins s σ H Q h0 I (l2_of h)
theorem ka_nil : KA' X [] dNil := fun pos pins s σ H Q h0 I ⟨δ, S, P, rs, sr, h, fin⟩ => L2.pat_nil pos pins s σ H Q h0 I (fin [] S [] H h rfl sr (.refl H))
theorem ka_cons (ha : KE' X e te) (hr : KA' X es t) (hs : starEach (e :: es) X.env = (false, eval e X.env) :: starEach es X.env := by rfl) : KA' X (e :: es) (dCons te t) :=
  fun pos pins s σ H Q h0 I ⟨δ, S, P, rs, sr, h, fin⟩ => L2.pat_cons ha hr hs pos pins s σ H Q h0 I ⟨δ, S, _, rs, sr, h, fun d S1 v H1 h1 r1 s1 e1 => ⟨δ, S1, _, rs.ext e1, s1, h1, fun ds S2 vs H2 h2 r2 s2 e2 => fin _ S2 _ H2 h2 ⟨v, vs, rfl, r1.ext e2, r2⟩ s2 (e1.trans e2)⟩⟩
theorem k_lst (h : KA' X es t) : KE' X (.List es pos) (dLst t) := fun pins s σ H Q h0 I ⟨δ, S, P, rs, sr, q, fin⟩ => by
  refine thn (L2.pet_lst h pins s σ H (fun v H1 => ∃ a xs, v = .ref a ∧ H1 a = some (.lst xs) ∧ ∀ o, Q v (upd H1 a (.frz o (.lst xs)))) h0 I ⟨δ, S, _, rs, sr, q, fun ds S1 vs H1 ⟨h0, h1⟩ r1 s1 e1 => ⟨by rw [r1.length]; exact h0, fun p np => ⟨p, vs, rfl, upd_same, fun o => ?_⟩⟩⟩) fun v s1 q => freezeE q
  rw [upd_upd]
  exact fin _ S1 _ _ h1 ⟨p, vs, rfl, .inl ⟨o, upd_same⟩, r1.ext (.new np)⟩ (s1.new np) (e1.trans (.new np))
def dRepl (to : DE) (y z : Str) : DE := fun δ S P => to δ S fun d S1 => asS d fun x => x.length + (x.length + 1) * z.length ≤ 16777216 ∧ P (.str (Txt.replace x y z)) S1
theorem k_repl {y z : Str} {j k : Nat} {c0 c1 apos : Pos} (ho : QE X o to) (hyz : (y == z) = false := by decide +kernel)
    (hst : starEach [.Constant (.str y) j c0, .Constant (.str z) k c1] X.env = [(false, eval (.Constant (.str y) j c0) X.env), (false, eval (.Constant (.str z) k c1) X.env)] := by rfl)
    (hbase : attributeBase o "replace" X.env (eval o X.env) = eval o X.env := by rfl) (hline : (apos.endLine == pos.line) = true := by rfl) :
    KE' X (.Call (.Attribute o "replace" apos) [.Constant (.str y) j c0, .Constant (.str z) k c1] [] pos) (dRepl to y z) :=
  fun pins s σ H Q h0 I ⟨δ, S, P, rs, sr, q, fin⟩ => CwR.pet_replC ho hyz hst hbase hline pins s σ H Q h0 I ⟨δ, S, _, rs, sr, q, fun d S1 v H1 h1 r1 s1 e1 => by
    obtain ⟨x, rfl, h2, h3⟩ := asS_of h1
    cases r1
    exact ⟨x, rfl, h2, fin _ S1 _ H1 h3 rfl s1 e1⟩⟩
theorem ks_set (i : Nat) {x : Str} {pos' : Pos} (hN : X.N.Nodup) (he : KE' X e te) (hi : X.N[i]? = some x := by rfl) (hx : Loc X.env.scope x := by first | exact Or.inl rfl | exact Or.inr rfl) (hs : swapsWith e (some (.Name x pos')) pos.line X.env = pure false := by rfl)
    (hf : X.fn x = true ∨ X.env.scope.names.lookup x = some .local := by first | exact .inl rfl | exact .inr rfl | assumption) : KS' X (.Assign [.Name x pos'] e pos) (dSet i te) :=
  fun pins s σ H D h0 I ⟨δ, S, P, rs, sr, q, fin⟩ => by
    refine wpAny_Assign_Name (thn (he pins s σ H (fun v H1 => D.nx (σ.set i (some v)) H1) h0 I ⟨δ, S, _, rs, sr, q, fun d S1 v H1 h1 r1 s1 e1 => fin.nx _ S1 _ H1 h1 ((rs.ext e1).set r1) s1 e1⟩) fun v s1 ⟨y, H1, I1, r1, q1⟩ => ?_) hs
    exact store_ok I1 hN hi hx r1 (fun s2 I2 => ⟨_, H1, I2, q1⟩) hf
theorem kss_cons (h1 : KS' X st u) (h2 : KSs' X rest v) : KSs' X (st :: rest) (dSeq u v) := fun pins s σ H D h0 I ⟨δ, S, P, rs, sr, h, fin⟩ => L2.psst_cons h1 h2 pins s σ H D h0 I ⟨δ, S, { P with nx := v P }, rs, sr, h, fin.seq⟩
/-- behind a list whose first item is a written text a token is out -/
theorem ss_pos (i : Nat) {x c : Str} {j : Nat} {cp lp pos' : Pos} (hN : X.N.Nodup) (ha : QA X es t) (h2 : KSs' X rest v) (hi : X.N[i]? = some x := by rfl) (hx : Loc X.env.scope x := by first | exact Or.inl rfl | exact Or.inr rfl)
    (hs : swapsWith (.List (.Constant (.str c) j cp :: es) lp) (some (.Name x pos')) pos.line X.env = pure false := by rfl) (hst : starEach (.Constant (.str c) j cp :: es) X.env = (false, eval (.Constant (.str c) j cp) X.env) :: starEach es X.env := by rfl)
    (hf : X.fn x = true ∨ X.env.scope.names.lookup x = some .local := by first | exact .inl rfl | exact .inr rfl | assumption) :
    QSs X (.Assign [.Name x pos'] (.List (.Constant (.str c) j cp :: es) lp) pos :: rest) (dSeq (dSet i (dLst (dCons (dC (.str c)) t))) v) := by
  refine ⟨fun pins s σ H D I ⟨δ, S, P, rs, sr, h, fin⟩ => ?_⟩
  refine wpAny_execs_cons (wpAny_Assign_Name (wpAny_List_spliced ?_) hs)
  rw [hst]
  show wpAny _ _ (spliced ((false, eval (.Constant (.str c) j cp) X.env) :: backTo lp (starEach es X.env))) _ _ s
  refine Calls.spliced_cons (Calls.Constant_str ?_)
  have I0 := I.tok (s.toks + 1)
  refine wpAny_mono (PySem.wpAny_toks (ha.run lp pins _ σ H (fun vs H1 => ∃ ds S1, RpA X.K H1 ds vs ∧ SR X.K H1 S1 ∧ Ext H H1 ∧ (ds.length + 1 ≤ sizeLine ∧ v P (δ.set i (some (.lst (.str c :: ds)))) S1)) I0 ⟨δ, S, _, rs, sr, h, fun ds S1 vs H1 h1 r1 s1 e1 => ⟨ds, S1, r1, s1, e1, h1⟩⟩)) (fun us s1 q => ?_) fun _ _ z => z.2
  obtain ⟨hk, vs, H1, I1, r1, ds, S1, r2, sr1, e1, hz, hv⟩ := q
  have hk : s.toks + 1 ≤ s1.toks := hk
  have ll : us.length = ds.length := by rw [← r1.length, r2.length]
  refine ⟨by rw [List.length_cons, ll]; exact hz, ?_⟩
  have J := I1.lnew (t' := s1.toks) (ys := .str c :: vs) (its := .str c s.toks :: us) (.cons ⟨_, rfl⟩ r1) (by rw [List.length_cons, r1.length, ll]; exact hz)
  obtain ⟨ob, J2⟩ := freezeL J upd_same
  rw [upd_upd] at J2
  refine wpAny_mono (PySem.wpAny_toks (store_ok (v := V.ref s1.heap.objs.size) (u := Value.ref s1.heap.objs.size) (Q := fun _ s2 => L2.Inv X pins (σ.set i (some (V.ref s1.heap.objs.size))) _ s2) J2 hN hi hx rfl (fun _ I2 => I2) hf)) (fun _ s2 q => ?_) fun _ _ z => z.2
  have hk2 : s1.toks ≤ s2.toks := q.1
  have np := I1.fresh
  refine h2 pins s2 _ _ D (by omega) q.2 ⟨δ.set i (some (.lst (.str c :: ds))), S1, P, (rs.ext (e1.trans (.new np))).set ⟨_, _, rfl, .inl ⟨ob, upd_same⟩, ⟨_, _, rfl, rfl, r2.ext (.new np)⟩⟩, sr1.new np, hv, fin.ext (e1.trans (.new np))⟩
end
end DL
set_option Elab.async false
set_option linter.all false
set_option maxRecDepth 100000
set_option maxHeartbeats 1000000
namespace DL
open PySem PySem.Spec PyProof.Rows L2

/-! ### a def that is handed about, called by a name of its own -/
def HasAt (P : Program) (w : World) (K : PySem.W.Frag) (mg : Str → Option Value) (base : Heap) (k : Nat) (f : Addr) (ps : List Str) (sp : DSp) : Prop := ∃ fd, FnD P w K mg base k f fd ps sp ∧ Binds K fd ps [] ∧ PySem.W.keepIn K (.ref f) = true
theorem HasAt.mono {P : Program} {w : World} {K : PySem.W.Frag} {mg : Str → Option Value} {base : Heap} {j k : Nat} {f : Addr} {ps : List Str} {sp : DSp} (h : HasAt P w K mg base j f ps sp) (l : j ≤ k) : HasAt P w K mg base k f ps sp := let ⟨fd, a, b⟩ := h; ⟨fd, a.mono l, b⟩
theorem Has.split {P : Program} {w : World} {K : PySem.W.Frag} {mg : Str → Option Value} {base : Heap} {k : Nat} {x : Str} {ps : List Str} {sp : DSp} (h : Has P w K mg base k x ps sp) : ∃ f, HasAt P w K mg base k f ps sp ∧ Con K mg x (.ref f) := by
  obtain ⟨f, fd, a, b, c, m⟩ := h
  exact ⟨f, ⟨fd, a, b, c⟩, .ref f, .ref f, m, rfl, fun _ => rfl⟩
def dCallL (i : Nat) (f : Addr) (sp : DSp) (t : DA) : DE := fun δ S P => slot δ i = some (.ref f) ∧ t δ S fun ds S1 => sp ds S1 P
section
variable {X : Cx} {k i : Nat} {f : Addr} {ps : List Str} {sp : DSp} {x : Str} {p pos : Pos} {e : Expr} {es : List Expr} {t : DA}
theorem q_callL (i : Nat) (F : HasAt X.prog X.w X.K X.mg X.base k f ps sp) (hr : Room k X.A) (hgd : X.A.guards = some []) (ha : QA X (e :: es) t) (hN : X.N[i]? = some x := by rfl) (hv : Vis X.env.scope x := by first | exact Or.inl rfl | exact Or.inr (Or.inl rfl) | exact Or.inr (Or.inr rfl))
    (hdb : (x == ("__debug__" : Str)) = false := by decide) (hcd : (x == ("__classdict__" : Str)) = false := by decide)
    (he : starEach (e :: es) X.env = (false, eval e X.env) :: starEach es X.env := by rfl) (hpl : (backTo pos (starEach es X.env)).any (·.1) = false := by rfl) : QE X (.Call (.Name x p) (e :: es) [] pos) (dCallL i f sp t) := by
  obtain ⟨fd, F, hb, hk⟩ := F
  refine ⟨fun pins s σ H Q I ⟨δ, S, P, rs, sr, ⟨hs, h⟩, fin⟩ => ?_⟩
  obtain ⟨v, hv2, r2⟩ := rs.2 i _ (slot_get hs)
  cases r2
  refine wpAny_Call_Name_kw (thn ((pe_var (pos := p) hN hv hdb hcd).run pins s σ H (fun v H1 => v = .ref f ∧ H1 = H) I ⟨.ref f, hv2, rfl, rfl⟩) fun u s0 ⟨v, H0, I0, r1, q1⟩ => ?_)
  obtain ⟨rfl, rfl⟩ := q1
  cases r1
  refine PySem.W.callWith_K (h₀ := X.base) I.ok.mod.kin hk ?_ he hpl
  refine thn (ha.run pos pins s0 σ _ (fun vs H1 => ∃ ds S1, RpA X.K H1 ds vs ∧ SR X.K H1 S1 ∧ sp ds S1 P ∧ Fin X.K H1 P Q) I0 ⟨δ, S, _, rs, sr, h, fun ds S1 vs H1 h1 r1 s1 e1 => ⟨ds, S1, r1, s1, h1, fin.ext e1⟩⟩) fun us s1 ⟨vs, H1, I1, r, ds, S1, r1, s2, q, fin1⟩ => ⟨I1.kIn, ?_⟩
  have hl : us.length = ps.length := by rw [← r.length, r1.length]; exact F.len _ _ _ q
  have hb' : BindsTo s1 fd ⟨us, []⟩ (ps.zip us) := by have z := hb s1 us I1.kIn (by simpa using hl); rw [List.append_nil] at z; exact z
  refine wpAny_call (codeAny_mono (F.run X.A X.stack s1 H1 ⟨us, []⟩ us vs Q hr hgd I1.env0 hb' r ⟨ds, S1, P, r1, s2, q, fin1⟩) fun r s' hq => ?_)
  cases r with
  | error e => exact False.elim hq
  | ok fl => cases fl with
    | ret u => exact I1.after hq
    | _ => exact False.elim hq
/-! ### what is never come to -/
def dNever : DS := fun _ _ _ => False
theorem s_never {st : Stmt} : QS X st dNever := ⟨fun pins s σ H D I ⟨δ, S, P, rs, sr, h, fin⟩ => h.elim⟩
/-! ### f'..' of a fixed part and one that is put in -/
def dFs (c : Str) (te : DE) : DE := fun δ S P => te δ S fun d S1 => match d with
  | .str y => y.length ≤ sizeLine ∧ (c ++ y).length ≤ sizeLine ∧ P (.str (c ++ y)) S1
  | .int i => i.natAbs.log2 < 1920 ∧ (c ++ (toString i : Str)).length ≤ sizeLine ∧ P (.str (c ++ (toString i : Str))) S1
  | _ => False
theorem empty_app (c : Str) : Str.empty ++ c = c := by
  apply congrArg Str.mk
  simp [Str.empty]
theorem q_fs {c : Str} {k : Nat} {p1 p2 p3 : Pos} {te : DE} (he : QE X e te) (hc : c.length ≤ sizeLine := by decide) : QE X (.JoinedStr [.Constant (.str c) k p1, .FormattedValue e (-1) none p2] p3) (dFs c te) :=
  PE.imp (pe_joined (.cons pe_str (.cons (pe_fmt he) .nil))) fun σ H Q ⟨δ, S, P, rs, sr, h, fin⟩ => by
    refine ⟨c, rfl, by rw [empty_app]; exact hc, ?_⟩
    rw [empty_app]
    refine ⟨δ, S, _, rs, sr, h, fun d S1 v H1 h1 r1 s1 e1 => ?_⟩
    split at h1
    · cases r1
      exact .inl ⟨_, rfl, h1.1, _, rfl, h1.2.1, fin _ S1 _ H1 h1.2.2 rfl s1 e1⟩
    · cases r1
      exact .inr ⟨_, rfl, h1.1, _, rfl, h1.2.1, fin _ S1 _ H1 h1.2.2 rfl s1 e1⟩
    · exact h1.elim
/-! ### int of a text, too -/
def intE : List D → Sto → DK → Prop := fun ds S P => match ds with
  | [.str z] => ∃ n : Int, PySem.intText? z = some n ∧ z.length ≤ 640 ∧ P (.int n) S
  | _ => intD ds S P
theorem c_intE : CallD X (.type "int") intE := by
  intro pins s σ H xs us Q I rv ⟨ds, S, P, ra, sr, h, fin⟩
  unfold intE at h
  split at h
  · obtain ⟨n, hn, hl, h⟩ := h
    obtain ⟨v, rfl, r⟩ := ra.one'
    cases r
    exact call_int_str pins s σ H _ us Q I rv ⟨_, n, rfl, hn, hl, fin _ S _ H h rfl sr (.refl H)⟩
  · exact c_int pins s σ H xs us Q I rv ⟨ds, S, P, ra, sr, h, fin⟩
end
end DL
set_option Elab.async false
set_option linter.all false
set_option maxRecDepth 100000
set_option maxHeartbeats 1000000
namespace DL
open PySem PySem.Spec PyProof.Rows L2

/-! ### dicts -/
def valD (kvs : List (Key × D)) (k : Key) : Option D := (kvs.find? fun kv => decide (kv.1 = k)).map (·.2)
def putD (kvs : List (Key × D)) (k : Key) (v : D) : List (Key × D) :=
  if (kvs.any fun kv => decide (kv.1 = k)) = true then kvs.map (fun kv => if kv.1 = k then (kv.1, v) else kv) else kvs ++ [(k, v)]
section
variable {K : PySem.W.Frag} {H H' : Hp}
theorem RpK.val {k : Key} {d : D} : ∀ {kvs : List (Key × D)} {ws : List (Key × V)}, RpK K H kvs ws → valD kvs k = some d → ∃ v, valV ws k = some v ∧ Rp K H d v
  | [], _, _, h => by cases h
  | (j, x) :: r, _, ⟨v, ws, rfl, h1, h2⟩, h => by
    by_cases e : j = k
    · have h : some x = some d := by simpa [valD, List.find?_cons, e] using h
      cases h
      exact ⟨v, valV_pos e, h1⟩
    · obtain ⟨v', q1, q2⟩ := RpK.val (kvs := r) h2 (by simpa [valD, List.find?_cons, e] using h)
      exact ⟨v', by rw [valV_neg e]; exact q1, q2⟩
theorem RpK.any {k : Key} : ∀ {kvs : List (Key × D)} {ws : List (Key × V)}, RpK K H kvs ws → (kvs.any fun kv => decide (kv.1 = k)) = (ws.any fun kv => decide (kv.1 = k))
  | [], _, h => by cases h; rfl
  | (j, x) :: r, _, ⟨v, ws, rfl, h1, h2⟩ => by rw [List.any_cons, List.any_cons, RpK.any h2]
theorem RpK.length : ∀ {kvs : List (Key × D)} {ws : List (Key × V)}, RpK K H kvs ws → kvs.length = ws.length
  | [], _, h => by cases h; rfl
  | (j, x) :: r, _, ⟨v, ws, rfl, h1, h2⟩ => by rw [List.length_cons, List.length_cons, RpK.length h2]
theorem RpK.repl {k : Key} {d : D} {v : V} (rv : Rp K H d v) : ∀ {kvs : List (Key × D)} {ws : List (Key × V)}, RpK K H kvs ws → RpK K H (kvs.map fun kv => if kv.1 = k then (kv.1, d) else kv) (ws.map fun kv => if kv.1 = k then (kv.1, v) else kv)
  | [], _, h => by cases h; rfl
  | (j, x) :: r, _, ⟨y, ws, rfl, h1, h2⟩ => by
    rw [List.map_cons, List.map_cons]
    by_cases e : j = k
    · rw [if_pos e, if_pos e]; exact ⟨v, _, rfl, rv, RpK.repl rv h2⟩
    · rw [if_neg e, if_neg e]; exact ⟨y, _, rfl, h1, RpK.repl rv h2⟩
theorem RpK.snoc {k : Key} {d : D} {v : V} (rv : Rp K H d v) : ∀ {kvs : List (Key × D)} {ws : List (Key × V)}, RpK K H kvs ws → RpK K H (kvs ++ [(k, d)]) (ws ++ [(k, v)])
  | [], _, h => by cases h; exact ⟨v, [], rfl, rv, rfl⟩
  | (j, x) :: r, _, ⟨y, ws, rfl, h1, h2⟩ => ⟨y, _, rfl, h1, RpK.snoc rv h2⟩
theorem RpK.put {k : Key} {d : D} {v : V} (rv : Rp K H d v) {kvs : List (Key × D)} {ws : List (Key × V)} (h : RpK K H kvs ws) : RpK K H (putD kvs k d) (putK ws k v) := by
  unfold putD putK
  rw [h.any]
  split
  · exact .repl rv h
  · exact .snoc rv h
theorem Ext.mutK {a : Addr} {o : HO} {vs : List (Key × V)} (h : H a = some (.dK vs)) : Ext H (upd H a o) := .mut h (fun _ z => by cases z) (fun _ _ z => by cases z)
theorem SR.dic {S : Sto} {a : Addr} {kvs : List (Key × D)} (h : SR K H S) (e : S a = some (.dic kvs)) : ∃ ws, H a = some (.dK ws) ∧ RpK K H kvs ws := h a _ e
theorem SR.addK {S : Sto} {p : Addr} {ds : List (Key × D)} {vs : List (Key × V)} (h : SR K H S) (e : H p = Option.none) (r : RpK K H ds vs) : SR K (upd H p (.dK vs)) (sup S p (.dic ds)) := fun b u q => by
  by_cases hb : b = p
  · subst hb; rw [sup_same] at q; cases q; exact ⟨vs, upd_same, r.ext (.new e)⟩
  · rw [sup_ne hb] at q; exact (h.new e) b u q
theorem SR.mutK {S : Sto} {a : Addr} {ds ds' : List (Key × D)} {vs : List (Key × V)} (h : SR K H S) (e : S a = some (.dic ds')) (r : RpK K H ds vs) : SR K (upd H a (.dK vs)) (sup S a (.dic ds)) := fun b u q => by
  obtain ⟨ws, h1, _⟩ := h.dic e
  by_cases hb : b = a
  · subst hb; rw [sup_same] at q; cases q; exact ⟨vs, upd_same, r.ext (.mutK h1)⟩
  · rw [sup_ne hb] at q
    cases u with
    | lst es =>
      obtain ⟨xs, h3, h4⟩ := h b _ q
      exact ⟨xs, by rw [upd_ne hb]; exact h3, h4.ext (.mutK h1)⟩
    | dic es =>
      obtain ⟨xs, h3, h4⟩ := h b _ q
      exact ⟨xs, by rw [upd_ne hb]; exact h3, h4.ext (.mutK h1)⟩
theorem SR.delK {S : Sto} {p : Addr} {o : Obj} {vs : List (Key × V)} (s : SR K H S) (h : H p = some (.dK vs)) : SR K (upd H p (.frz o (.dK vs))) (sdel S p) := fun b u q => by
  by_cases hb : b = p
  · subst hb; unfold sdel at q; rw [if_pos rfl] at q; cases q
  · unfold sdel at q; rw [if_neg hb] at q
    cases u with
    | lst es =>
      obtain ⟨xs, h3, h4⟩ := s b _ q
      exact ⟨xs, by rw [upd_ne hb]; exact h3, h4.ext (.mutK h)⟩
    | dic es =>
      obtain ⟨xs, h3, h4⟩ := s b _ q
      exact ⟨xs, by rw [upd_ne hb]; exact h3, h4.ext (.mutK h)⟩
end
section
variable {X : Cx} {o i value tg : Expr} {to ti tv : DE} {pos pos' : Pos}
/-- {} that changes -/
def dDicM : DE := fun _ S P => ∀ p, S p = none → P (.ref p) (sup S p (.dic []))
theorem q_dicM : QE X (.Dict [] [] pos) dDicM := PE.imp pe_dnewK fun σ H Q ⟨δ, S, P, rs, sr, h, fin⟩ => fun p np => fin _ _ _ _ (h p (sr.none np)) rfl (sr.addK np rfl) (.new np)
/-- a text's place in a dict -/
def getD (d k : D) (S : Sto) (P : DK) : Prop := match d, k with
  | .dic kvs, .str z => (valD kvs (.inr z)).elim False fun x => P x S
  | _, _ => False
def dGet (to ti : DE) : DE := fun δ S P => to δ S fun d S1 => ti δ S1 fun k S2 => getD d k S2 P
theorem q_dget (hu : X.A.units + 1 < cLine) (ho : QE X o to) (hi : QE X i ti) (hs : NoSl i := by intro _ _; rfl) : QE X (.Subscript o i pos) (dGet to ti) :=
  PE.imp (pe_dget hu ho hi hs) fun σ H Q ⟨δ, S, P, rs, sr, h, fin⟩ => ⟨δ, S, _, rs, sr, h, fun d S1 v H1 h1 r1 s1 e1 => ⟨δ, S1, _, rs.ext e1, s1, h1, fun k S2 u H2 h2 r2 s2 e2 => by
    unfold getD at h2
    split at h2
    · obtain ⟨x, hx, h2⟩ := el_of h2
      obtain ⟨a, ob, ws, rfl, e3, r3⟩ := r1.ext e2
      cases r2
      obtain ⟨y, hy, ry⟩ := r3.val hx
      exact ⟨a, y, rfl, .inl ⟨ws, .inr _, .inr ⟨ob, e3⟩, rfl, hy.symm⟩, fin _ S2 _ H2 h2 ry s2 (e1.trans e2)⟩
    · exact h2.elim⟩⟩
/-- d[text] = v -/
def dPut (tv to ti : DE) : DS := fun E δ S => tv δ S fun v S1 => to δ S1 fun d S2 => ti δ S2 fun k S3 => ∃ a kvs z, d = .ref a ∧ k = .str z ∧ S3 a = some (.dic kvs) ∧ kvs.length < sizeLine ∧ E.nx δ (sup S3 a (.dic (putD kvs (.inr z) v)))
theorem s_dput (hu : X.A.units + 1 < cLine) (hv : QE X value tv) (ho : QE X o to) (hi : QE X i ti) (hs : swapsWith value (some (.Subscript o i pos')) pos.line X.env = pure false := by rfl) : QS X (.Assign [.Subscript o i pos'] value pos) (dPut tv to ti) :=
  PS.imp (ps_dput hu ho hi hv hs) fun D σ H ⟨δ, S, P, rs, sr, h, fin⟩ => ⟨δ, S, _, rs, sr, h, fun v S1 u1 H1 h1 r1 s1 e1 => ⟨δ, S1, _, rs.ext e1, s1, h1, fun d S2 u2 H2 h2 r2 s2 e2 => ⟨δ, S2, _, rs.ext (e1.trans e2), s2, h2, fun k S3 u3 H3 h3 r3 s3 e3 => by
    obtain ⟨a, kvs, z, rfl, rfl, hS, hl, h3⟩ := h3
    cases r2
    cases r3
    obtain ⟨ws, hw, rw'⟩ := s3.dic hS
    have x : Ext H3 (upd H3 a (.dK (putK ws (.inr z) u1))) := .mutK hw
    exact ⟨a, _, rfl, .k (k := .inr z) hw (by rw [← rw'.length]; exact hl), fin.nx δ _ σ _ h3 (rs.ext (e1.trans (e2.trans (e3.trans x)))) (s3.mutK hS (.put (r1.ext (e2.trans e3)) rw')) (e1.trans (e2.trans (e3.trans x)))⟩⟩⟩⟩
def keyD : Key → D
  | .inl i => .int i
  | .inr z => .str z
theorem RpK.at {K : PySem.W.Frag} {H : Hp} : ∀ {kvs : List (Key × D)} {ws : List (Key × V)} {i : Nat} {k : Key} {d : D}, RpK K H kvs ws → kvs[i]? = some (k, d) → ∃ v, ws[i]? = some (k, v)
  | (j, x) :: r, _, 0, k, d, ⟨v, ws, rfl, h1, h2⟩, e => by
    have e : some (j, x) = some (k, d) := e
    cases e
    exact ⟨v, rfl⟩
  | (j, x) :: r, _, i + 1, k, d, ⟨v, ws, rfl, h1, h2⟩, e => RpK.at (kvs := r) (i := i) h2 e
theorem ItOk.keys {K : PySem.W.Frag} {H : Hp} {a : Addr} {ob : Obj} {kvs : List (Key × D)} {ws : List (Key × V)} (h : H a = some (.frz ob (.dK ws))) (r : RpK K H kvs ws) : ItOk K (Itk a ob ws) (kvs.map fun kv => keyD kv.1) H where
  go := fun i d H' e hd => by
    rw [List.getElem?_map] at hd
    cases hk : kvs[i]? with
    | none => rw [hk] at hd; cases hd
    | some kv =>
      obtain ⟨k, x⟩ := kv
      rw [hk] at hd
      cases hd
      obtain ⟨v, hv⟩ := r.at hk
      refine ⟨⟨e.f _ _ _ h, ?_⟩, fun y H2 ⟨e1, k', v', q1, q2⟩ => ?_⟩
      · rcases Nat.lt_or_ge i ws.length with q | q
        · exact q
        · rw [List.getElem?_eq_none q] at hv; cases hv
      · subst e1
        rw [hv] at q1
        cases q1
        subst q2
        refine ⟨.refl _, ?_, fun S s => s⟩
        cases k <;> rfl
  stop := fun i H' e hi => ⟨e.f _ _ _ h, by rw [List.length_map] at hi; rw [← r.length]; exact hi⟩
/-- a for over a name's dict that changes: from here on it is left as it is -/
def dForK (n : Nat) (g : DG) (tb : DS) : DS := fun E δ S => ∃ a kvs, slot δ n = some (.ref a) ∧ S a = some (.dic kvs) ∧ forB g tb E (δ.set n (some (.dic kvs))) (kvs.map fun kv => keyD kv.1) (sdel S a)
theorem RS.put {K : PySem.W.Frag} {H : Hp} {σ : L2.St} {δ : DSt} {n : Nat} {d : D} {v : V} (h : RS K H σ δ) (e : σ[n]? = some (some v)) (r : Rp K H d v) : RS K H σ (δ.set n (some d)) := by
  have q := h.set (i := n) r
  have z : σ.set n (some v) = σ := by
    apply List.ext_getElem?
    intro j
    by_cases hj : n = j
    · subst hj
      have hl : n < σ.length := by
        rcases Nat.lt_or_ge n σ.length with q | q
        · exact q
        · rw [List.getElem?_eq_none q] at e; cases e
      rw [List.getElem?_set_self hl, e]
    · rw [List.getElem?_set_ne hj]
  rw [z] at q
  exact q
/-- its walk: the name's slot holds the dict as it is left -/
theorem i_key (n : Nat) {x : Str} {px : Pos} (hN : X.N[n]? = some x := by rfl) (hv : Vis X.env.scope x := by first | exact Or.inl rfl | exact Or.inr (Or.inl rfl) | exact Or.inr (Or.inr rfl))
    (hd : (x == ("__debug__" : Str)) = false := by decide) (hcd : (x == ("__classdict__" : Str)) = false := by decide) : L2.PI X tg (.Name x px) (fun σ H R => ∃ δ S a kvs, RS X.K H σ δ ∧ SR X.K H S ∧ slot δ n = some (.ref a) ∧ S a = some (.dic kvs) ∧
      ∀ J H', RS X.K H' σ (δ.set n (some (.dic kvs))) → SR X.K H' (sdel S a) → Ext H H' → ItOk X.K J (kvs.map fun kv => keyD kv.1) H' → R J H') :=
  PI.imp (pi_keys (pe_frzD (pe_var hN hv hd hcd))) fun σ H R ⟨δ, S, a, kvs, rs, sr, hs, hS, h⟩ => by
    obtain ⟨v, e, r⟩ := rs.2 n _ (slot_get hs)
    cases r
    obtain ⟨ws, hw, rw'⟩ := sr.dic hS
    have x : ∀ ob, Ext H (upd H a (.frz ob (.dK ws))) := fun ob => .mutK hw
    exact ⟨.ref a, e, a, ws, rfl, hw, fun ob => ⟨a, ob, rfl, .inl ⟨ws, upd_same, h _ _ ((rs.ext (x ob)).put e ⟨a, ob, ws, rfl, upd_same, rw'.ext (x ob)⟩) (sr.delK hw) (x ob) (.keys upd_same (rw'.ext (x ob)))⟩⟩⟩
theorem s_forK (n : Nat) {x : Str} {px : Pos} {body : List Stmt} {g : DG} {tb : DS} (hp : PassesOwn (model X.prog X.w) X.A X.env X.xe) (hc : X.calm = true) (hg : QG X tg g) (hb : QSs X body tb) (hN : X.N[n]? = some x := by rfl) (hv : Vis X.env.scope x := by first | exact Or.inl rfl | exact Or.inr (Or.inl rfl) | exact Or.inr (Or.inr rfl))
    (hd : (x == ("__debug__" : Str)) = false := by decide) (hcd : (x == ("__classdict__" : Str)) = false := by decide)
    (hs : ∀ y, foldedSetIterable (.Name x px) X.env y = pure y := by intro _; rfl) : QS X (.For tg (.Name x px) body [] pos) (dForK n g tb) :=
  PS.imp (ps_for hp hc (i_key n hN hv hd hcd) hg hb hs) fun D σ H ⟨δ, S, P, rs, sr, ⟨a, kvs, hsl, hS, Iv, i0, turn, last⟩, fin⟩ => ⟨δ, S, a, kvs, rs, sr, hsl, hS, fun J H1 rs1 s1 e1 it => by
    refine ⟨fun i m σ' H' => m = (kvs.map fun kv => keyD kv.1).length - i ∧ i ≤ (kvs.map fun kv => keyD kv.1).length ∧ Ext H1 H' ∧ ∃ δ' S', RS X.K H' σ' δ' ∧ SR X.K H' S' ∧ Iv i δ' S', ⟨_, rfl, Nat.zero_le _, .refl _, _, _, rs1, s1, i0⟩, ?_⟩
    generalize (kvs.map fun kv => keyD kv.1) = ds at *
    rintro i m σ' H' ⟨rfl, hi, e2, δ', S', rs2, sr2, iv⟩
    by_cases hlt : i < ds.length
    · obtain ⟨d, hd⟩ : ∃ d, ds[i]? = some d := ⟨_, List.getElem?_eq_getElem hlt⟩
      obtain ⟨g1, g2⟩ := it.go i d H' e2 hd
      refine .inr ⟨g1, fun σ2 H2 => Ext H1 H2 ∧ ∃ δ' S', RS X.K H2 σ2 δ' ∧ SR X.K H2 S' ∧ Iv (i + 1) δ' S', fun σ2 H2 ⟨x1, x2⟩ => ⟨ds.length - (i + 1), by omega, rfl, hlt, x1, x2⟩, fun x H2 y => ?_⟩
      obtain ⟨y1, y2, y3⟩ := g2 x H2 y
      have q := turn i d δ' S' hd iv
      refine ⟨d, δ', S', _, y2, rs2.ext y1, y3 _ sr2, q, fun δ3 S3 σ3 H3 q3 rs3 sr3 e3 => ⟨δ3, S3, _, rs3, sr3, q3, ?_⟩⟩
      have e4 := e2.trans (y1.trans e3)
      have nx : NxF X.K H3 (Iv (i + 1)) fun σ2 H2 => Ext H1 H2 ∧ ∃ δ' S', RS X.K H2 σ2 δ' ∧ SR X.K H2 S' ∧ Iv (i + 1) δ' S' := fun δ5 S5 σ5 H5 q5 rs5 sr5 e5 => ⟨e4.trans e5, δ5, S5, rs5, sr5, q5⟩
      exact ⟨nx, (fin.ext (e1.trans e4)).rt, (fin.ext (e1.trans e4)).nx, nx⟩
    · have : i = ds.length := by omega
      subst this
      exact .inl ⟨it.stop _ H' e2 (Nat.le_refl _), fin.nx δ' S' σ' H' (last δ' S' iv) rs2 sr2 (e1.trans e2)⟩⟩
end
end DL
set_option Elab.async false
set_option linter.all false
set_option maxRecDepth 100000
set_option maxHeartbeats 1000000
namespace DL
open PySem PySem.Spec PyProof.Rows L2
section
variable {X : Cx} {pos : Pos}
/-- three texts by three texts -/
def dDicS (kvs : List (Str × Str)) : DE := fun _ S P => P (.dic (kvs.map fun kv => (.inr kv.1, .str kv.2))) S
theorem q_dicS3 {a b c x y z : Str} {j1 j2 j3 j4 j5 j6 : Nat} {p1 p2 p3 p4 p5 p6 : Pos} (hab : a ≠ b := by decide) (hac : a ≠ c := by decide) (hbc : b ≠ c := by decide) :
    QE X (.Dict [some (.Constant (.str a) j1 p1), some (.Constant (.str b) j2 p2), some (.Constant (.str c) j3 p3)] [.Constant (.str x) j4 p4, .Constant (.str y) j5 p5, .Constant (.str z) j6 p6] pos) (dDicS [(a, x), (b, y), (c, z)]) :=
  PE.imp (pe_frzD (pe_disp (pps_cons pe_str pe_str (pps_cons pe_str pe_str (pps_cons pe_str pe_str pps_nil))) rfl rfl (by simp) (by simp))) fun σ H Q ⟨δ, S, P, rs, sr, h, fin⟩ => fun p np => by
    have m : mergeK [] ([(.inr a, .str x), (.inr b, .str y), (.inr c, .str z)] : List (Key × V)) = [(.inr a, .str x), (.inr b, .str y), (.inr c, .str z)] := by
      have e1 : ¬ (Sum.inr a : Key) = .inr b := fun e => hab (Sum.inr.inj e)
      have e2 : ¬ (Sum.inr a : Key) = .inr c := fun e => hac (Sum.inr.inj e)
      have e3 : ¬ (Sum.inr b : Key) = .inr c := fun e => hbc (Sum.inr.inj e)
      simp [mergeK, putK, e1, e2, e3, hab, hac, hbc]
    refine ⟨upd_same, [(.inr a, .str x), (.inr b, .str y), (.inr c, .str z)], rfl, by simp, p, _, rfl, upd_same, fun o => ?_⟩
    rw [upd_upd, upd_upd, m]
    exact fin _ S _ _ h ⟨p, o, _, rfl, upd_same, _, _, rfl, rfl, _, _, rfl, rfl, _, _, rfl, rfl, rfl⟩ (sr.new np) (.new np)
end
end DL
set_option Elab.async false
set_option linter.all false
set_option maxRecDepth 100000
set_option maxHeartbeats 1000000
namespace DL
open PySem PySem.Spec PyProof.Rows L2 RT
section
variable {X : Cx} {a e tg : Expr} {ta te : DE} {pos p : Pos}
/-! ### is None -/
def isNon : D → Bool
  | .non => true
  | _ => false
theorem isNon_of {K : PySem.W.Frag} {H : Hp} {d : D} {v : V} (r : Rp K H d v) : decide (v = .non) = isNon d := by
  cases d with
  | non => cases r; rfl
  | bl b => cases r; rfl
  | int b => cases r; rfl
  | str b => cases r; rfl
  | ref b => cases r; rfl
  | ty b => cases r; rfl
  | tup b => obtain ⟨x, vs, rfl, _⟩ := r; rfl
  | lst b => obtain ⟨x, vs, rfl, _⟩ := r; rfl
  | dic b => obtain ⟨x, o, vs, rfl, _⟩ := r; rfl
def dIsN (ta : DE) : DT := fun δ S Q => ta δ S fun d S1 => Q (isNon d) S1
theorem t_isN {j : Nat} (ha : QE X a ta) : QT X (.Compare a [.Is] [.Constant .none j p] pos) (dIsN ta) :=
  PT.imp (pt_cmp (pc_isN ha)) fun σ H Q ⟨δ, S, P, rs, sr, h, fin⟩ => ⟨δ, S, _, rs, sr, h, fun d S1 v H1 h1 r1 s1 e1 => ⟨_, rfl, by rw [isNon_of r1]; exact fin _ S1 H1 h1 s1 e1⟩⟩
/-! ### a tuple from its end -/
def dRevI (te : DE) : DI := fun δ S P => te δ S fun d S1 => match d with
  | .tup ds => P ds.reverse S1
  | _ => False
theorem ItOk.rev {K : PySem.W.Frag} {H : Hp} {a : Addr} {vs : List V} {ds : List D} (h : SqT K H a vs) (r : RpA K H ds vs) : ItOk K (ItvT K a vs.length) ds.reverse H where
  go := fun i d H' e hd => by
    have hl := r.length
    have hi : i < ds.length := by
      rcases Nat.lt_or_ge i ds.reverse.length with q | q
      · simpa using q
      · rw [List.getElem?_eq_none q] at hd; cases hd
    rw [List.getElem?_reverse hi] at hd
    obtain ⟨v, hv, rv⟩ := r.get hd
    rw [← hl] at hv
    exact ⟨⟨by rw [hl]; exact hi, vs, v, e.sqT h, hv⟩, fun x H2 ⟨e1, y⟩ => by subst e1; cases Option.some.inj ((y vs (e.sqT h)).symm.trans hv); exact ⟨.refl _, rv.ext e, fun S s => s⟩⟩
  stop := fun i H' e hi => (show vs.length ≤ i by rw [r.length]; simpa using hi)
theorem i_rev (hg : Gl X "reversed") (hm : X.mg "reversed" = none) (he : QE X e te) (hs : starEach [e] X.env = (false, eval e X.env) :: starEach [] X.env := by rfl) : QI X tg (.Call (.Name "reversed" p) [e] [] pos) (dRevI te) :=
  PI.imp (pi_revA hg hm he hs) fun σ H R ⟨δ, S, P, rs, sr, h, fin⟩ => ⟨δ, S, _, rs, sr, h, fun d S1 v H1 h1 r1 s1 e1 => by
    split at h1
    · obtain ⟨a, vs, rfl, hq, r2⟩ := r1
      exact ⟨a, vs, rfl, .inr ⟨hq, fin _ S1 _ H1 h1 s1 e1 (.rev hq r2)⟩⟩
    · exact h1.elim⟩
end
end DL
set_option Elab.async false
set_option linter.all false
set_option maxRecDepth 100000
set_option maxHeartbeats 1000000
namespace DL
open PySem PySem.Spec PyProof.Rows L2
section
variable {E : DEnds} {δ : DSt} {S : Sto} {P : DK} {Q : Bool → Sto → Prop} {R : List D → Sto → Prop} {ta te to ti tv : DE} {tA : DA} {i n : Nat} {f a : Addr} {sp : DSp} {g : DG} {tb : DS} {c z : Str} {d k : D} {ds : List D} {kvs : List (Key × D)}
def fsD (c : Str) (d : D) (S : Sto) (P : DK) : Prop := match d with
  | .str y => y.length ≤ sizeLine ∧ (c ++ y).length ≤ sizeLine ∧ P (.str (c ++ y)) S
  | .int i => i.natAbs.log2 < 1920 ∧ (c ++ (toString i : Str)).length ≤ sizeLine ∧ P (.str (c ++ (toString i : Str))) S
  | _ => False
theorem e_fs : dFs c te δ S P = te δ S fun d S1 => fsD c d S1 P := rfl
theorem fs_s : fsD c (.str z) S P = (z.length ≤ sizeLine ∧ (c ++ z).length ≤ sizeLine ∧ P (.str (c ++ z)) S) := rfl
theorem fs_i {i : Int} : fsD c (.int i) S P = (i.natAbs.log2 < 1920 ∧ (c ++ (toString i : Str)).length ≤ sizeLine ∧ P (.str (c ++ (toString i : Str))) S) := rfl
theorem e_callL : dCallL i f sp tA δ S P = (slot δ i = some (.ref f) ∧ tA δ S fun ds S1 => sp ds S1 P) := rfl
theorem e_never : dNever E δ S = False := rfl
theorem e_dicM : dDicM δ S P = ∀ p, S p = none → P (.ref p) (sup S p (.dic [])) := rfl
theorem e_dicS {l : List (Str × Str)} : dDicS l δ S P = P (.dic (l.map fun kv => (.inr kv.1, .str kv.2))) S := rfl
theorem e_dget : dGet to ti δ S P = to δ S fun d S1 => ti δ S1 fun k S2 => getD d k S2 P := rfl
theorem get_d : getD (.dic kvs) (.str z) S P = (valD kvs (.inr z)).elim False fun x => P x S := rfl
theorem e_dput : dPut tv to ti E δ S = tv δ S fun v S1 => to δ S1 fun d S2 => ti δ S2 fun k S3 => ∃ a kvs z, d = .ref a ∧ k = .str z ∧ S3 a = some (.dic kvs) ∧ kvs.length < sizeLine ∧ E.nx δ (sup S3 a (.dic (putD kvs (.inr z) v))) := rfl
theorem e_forK : dForK n g tb E δ S = ∃ a kvs, slot δ n = some (.ref a) ∧ S a = some (.dic kvs) ∧ forB g tb E (δ.set n (some (.dic kvs))) (kvs.map fun kv => keyD kv.1) (sdel S a) := rfl
theorem e_isN : dIsN ta δ S Q = ta δ S fun d S1 => Q (isNon d) S1 := rfl
def revI (d : D) (S : Sto) (R : List D → Sto → Prop) : Prop := match d with
  | .tup ds => R ds.reverse S
  | _ => False
theorem e_revI : dRevI te δ S R = te δ S fun d S1 => revI d S1 R := rfl
theorem rev_t : revI (.tup ds) S R = R ds.reverse S := rfl
def intEr (ds : List D) (S : Sto) (P : DK) : Prop := intE ds S P
theorem int_e : intE [.str z] S P = ∃ n : Int, PySem.intText? z = some n ∧ z.length ≤ 640 ∧ P (.int n) S := rfl
end
end DL
set_option Elab.async false
set_option linter.all false
set_option maxRecDepth 100000
set_option maxHeartbeats 1000000
namespace DL
open PySem PySem.Spec PyProof.Rows L2
section
variable {X : Cx} {pos : Pos}
/-- a name's list that changes: from here on it is left as it is -/
def dVarF (i : Nat) : DE := fun δ S P => ∃ p xs, slot δ i = some (.ref p) ∧ S p = some (.lst xs) ∧ P (.lst xs) (sdel S p)
theorem q_varF (i : Nat) {x : Str} (hN : X.N[i]? = some x := by rfl) (hv : Vis X.env.scope x := by first | exact Or.inl rfl | exact Or.inr (Or.inl rfl) | exact Or.inr (Or.inr rfl)) (hd : (x == ("__debug__" : Str)) = false := by decide)
    (hcd : (x == ("__classdict__" : Str)) = false := by decide) : QE X (.Name x pos) (dVarF i) := by
  refine ⟨fun pins s σ H Q I ⟨δ, S, P, rs, sr, ⟨p, xs, hs, hS, h⟩, fin⟩ => ?_⟩
  obtain ⟨v, e, r⟩ := rs.2 i _ (slot_get hs)
  cases r
  obtain ⟨vs, hw, rw'⟩ := sr.lst hS
  refine thn ((pe_var (pos := pos) hN hv hd hcd).run pins s σ H (fun v H1 => v = .ref p ∧ H1 = H) I ⟨.ref p, e, rfl, rfl⟩) fun u s1 ⟨v, H1, I1, r1, q1⟩ => ?_
  obtain ⟨rfl, rfl⟩ := q1
  obtain ⟨o, J⟩ := freezeL I1 hw
  have x : Ext H1 (upd H1 p (.frz o (.lst vs))) := .mutL hw
  exact ⟨.ref p, _, J, r1, fin _ _ _ _ h ⟨p, vs, rfl, .inl ⟨o, upd_same⟩, rw'.ext x⟩ (sr.del hw) x⟩
variable {δ : DSt} {S : Sto} {P : DK} {i : Nat}
theorem e_varF : dVarF i δ S P = ∃ p xs, slot δ i = some (.ref p) ∧ S p = some (.lst xs) ∧ P (.lst xs) (sdel S p) := rfl
end
end DL
set_option Elab.async false
set_option linter.all false
set_option maxRecDepth 100000
set_option maxHeartbeats 1000000
namespace DL
open PySem PySem.Spec PyProof.Rows L2 SkE
section
variable {X : Cx}
/-- a new list so many times -/
def repL : DR := fun x y S P => match x, y with
  | .ref a, .int k => ∃ xs, S a = some (.lst xs) ∧ -(2 ^ 63) ≤ k ∧ k < 2 ^ 63 ∧ xs.length * k.toNat ≤ sizeLine ∧ P (.lst (List.replicate k.toNat xs).flatten) S
  | _, _ => False
theorem op_repL : OpD X (binaryOp .Mult) repL := by
  intro pins s σ H x y v u Q I rx ry ⟨d, e, S, P, r1, r2, sr, h, fin⟩
  unfold repL at h
  split at h
  · obtain ⟨xs, hS, h1, h2, h3, q⟩ := h
    cases r1
    cases r2
    obtain ⟨vs, hv, r3⟩ := sr.lst hS
    refine wpAny_mono (op_rep pins s σ H _ _ v u (fun v H1 => ∃ a xs, v = .ref a ∧ H1 a = some (.lst xs) ∧ ∀ o, Q v (upd H1 a (.frz o (.lst xs)))) I rx ry ⟨_, _, vs, rfl, rfl, hv, h1, h2, by rw [r3.length]; exact h3, fun p np => ⟨p, _, rfl, upd_same, fun o => ?_⟩⟩) (fun _ _ q => freezeE q) fun _ _ q => q
    rw [upd_upd]
    exact fin _ S _ _ q ⟨p, _, rfl, .inl ⟨o, upd_same⟩, (r3.rep _).ext (.new np)⟩ (sr.new np) (.new np)
  · exact h.elim
theorem rep_L {a : Addr} {xs : List D} {k : Int} {S : Sto} {P : DK} (e : S a = some (.lst xs)) : repL (.ref a) (.int k) S P = (-(2 ^ 63) ≤ k ∧ k < 2 ^ 63 ∧ xs.length * k.toNat ≤ sizeLine ∧ P (.lst (List.replicate k.toNat xs).flatten) S) := by
  apply propext
  constructor
  · rintro ⟨ys, e2, h⟩
    rw [e] at e2
    cases e2
    exact h
  · exact fun h => ⟨xs, e, h⟩
/-- str of a text, too -/
def strE : List D → Sto → DK → Prop := fun ds S P => match ds with
  | [.str z] => P (.str z) S
  | _ => strD ds S P
theorem c_strE : CallD X (.type "str") strE := by
  intro pins s σ H xs us Q I rv ⟨ds, S, P, ra, sr, h, fin⟩
  unfold strE at h
  split at h
  · obtain ⟨v, rfl, r⟩ := ra.one'
    cases r
    exact call_str_str pins s σ H _ us Q I rv ⟨_, rfl, fin _ S _ H h rfl sr (.refl H)⟩
  · exact c_str pins s σ H xs us Q I rv ⟨ds, S, P, ra, sr, h, fin⟩
variable {S : Sto} {P : DK}
theorem str_e {z : Str} : strE [.str z] S P = P (.str z) S := rfl
theorem str_ei {i : Int} : strE [.int i] S P = (i.natAbs.log2 < 1920 ∧ P (.str (toString i)) S) := rfl
end
end DL
set_option Elab.async false
set_option linter.all false
set_option maxRecDepth 100000
set_option maxHeartbeats 1000000
namespace DL
open PySem PySem.Spec PyProof.Rows L2

/-! ### defs that want a token to be out when they are called -/
theorem kss_nox {X : Cx} {st : List Stmt} {t : DS} (h : KSs' X.nox st t) : KSs' X st t := fun pins s σ H D h0 I hw =>
  wpAny_mono (h pins s σ H D h0 (I.wish _) hw) (fun fl s' q => q.unwish) fun _ _ z => z.elim
structure FnDP (P : Program) (w : World) (K : PySem.W.Frag) (mg : Str → Option Value) (base : Heap) (k : Nat) (f : Addr) (fd : FuncData) (ps : List Str) (sp : DSp) : Prop where
  len : ∀ ds S P', sp ds S P' → ds.length = ps.length
  run : ∀ (A : Around) (outer : List Env) (s : Shared) (H : Hp) (args : Args) (us : List Value) (vs : List V) (Q : VK), 1 ≤ s.toks → Room k A → A.guards = some [] → Env0 P w K mg base A outer s H → BindsTo s fd args (ps.zip us) → Vals vs us →
    (∃ ds S P', RpA K H ds vs ∧ SR K H S ∧ sp ds S P' ∧ Fin K H P' Q) → codeAny (model P w) A (.call (.ref f) args) (CR CX0 outer P w H s Q E0) s
def HasP (P : Program) (w : World) (K : PySem.W.Frag) (mg : Str → Option Value) (base : Heap) (k : Nat) (x : Str) (ps : List Str) (sp : DSp) : Prop := ∃ f fd, FnDP P w K mg base k f fd ps sp ∧ Binds K fd ps [] ∧ PySem.W.keepIn K (.ref f) = true ∧ mg x = some (.ref f)
section
variable {P : Program} {w : World} {K : PySem.W.Frag} {mg : Str → Option Value} {base : Heap}
theorem HasP.mono {j k : Nat} {x : Str} {ps : List Str} {sp : DSp} (h : HasP P w K mg base j x ps sp) (l : j ≤ k) : HasP P w K mg base k x ps sp :=
  let ⟨f, fd, F, a⟩ := h; ⟨f, fd, ⟨F.len, fun A outer s H args us vs Q h0 hr => F.run A outer s H args us vs Q h0 (hr.mono l)⟩, a⟩
theorem okDP {x qual : Str} {st : Stmt} {f : Addr} {fd : FuncData} {N ps : List Str} {k : Nat} {sp : DSp} (F : Fun K x qual st f fd) (S : FnScope N ps (defScope st)) (len : ∀ ds S P, sp ds S P → ds.length = ps.length)
    (hbody : ∀ (cdv : Value) (A : Around) (outer : List Env) (s : Shared) (H : Hp), Room k (A.deeper (envOfC qual (defScope st) s.heap.objs.size f cdv)) → A.guards = some [] →
      ∃ t, KSs' (cxOf CX0 P w K mg base N qual (defScope st) f cdv A outer s H E0).nox (defBody st) t ∧ ∀ ds S' P', sp ds S' P' → t { nx := fun _ S2 => P' .non S2, rt := P' } (dstart N ds) S') : FnDP P w K mg base (k + 1) f fd ps sp := by
  obtain ⟨oc, od, kV, doc, pm, an, cdv, ct, osl, rfl, lk, hcd⟩ := F.ex
  refine ⟨len, fun A outer s H args us vs Q h0 hr hgd e0 hb r ⟨ds, S', P', rp, sr, hsp, fin⟩ => ?_⟩
  have hl : vs.length = ps.length := rp.length.trans (len _ _ _ hsp)
  have KX : K.In s.heap := e0.mod.kin.keeps fun b o e => (e0.bs b o e).1
  refine codeAny_call_function hr.depth (KX _ _ lk) rfl S.co S.gen rfl (PySem.W.codeRec_of KX hcd) (hb _ _ _ _ (PySem.wpAny_with_toks (n := 1) h0 ?_))
  refine wpAny_newFunctionEnv_cells S.kind (fun ⟨n, v⟩ hy => (S.par n (List.of_mem_zip hy).1).elim .inl fun q => .inr ⟨q, PySem.W.cellsFrom_some _ _ _ (.inl q)⟩) fun env he s1 x hk => ?_
  subst he
  refine ⟨(e0.mod.nolimit.keeps fun b o e => (e0.bs b o e).1).keeps x.toInCall.keep, codeAny_func ?_⟩
  obtain ⟨t, ht, hq⟩ := hbody cdv A outer s H (hr.deeper _) hgd
  have I := inv_start (CX := CX0) (E := E0) S hr.hd e0 hl r x
  refine wpAny_mono (kss_nox ht [] s1 (start N vs) H { nx := fun _ H' => Q .non H', rt := Q } hk I ⟨dstart N ds, S', _, RS.start rp, sr, hq ds S' P' hsp, ⟨fun δ S2 σ H2 p rs sr e => fin _ S2 _ H2 p rfl sr e, fin, fun _ _ _ _ p => p.elim, fun _ _ _ _ p => p.elim⟩⟩) (fun fl s' hs => ?_) fun e s' hs => hs
  cases fl with
  | ret u => obtain ⟨v, σ', H', J, rv, q⟩ := hs; exact ⟨v, H', J.os, J.bare, J.base, J.hok, rv, q⟩
  | next => obtain ⟨σ', H', J, q⟩ := hs; exact ⟨.non, H', J.os, J.bare, J.base, J.hok, rfl, q⟩
  | brk => obtain ⟨_, _, _, q⟩ := hs; exact False.elim q
  | cont => obtain ⟨_, _, _, q⟩ := hs; exact False.elim q
theorem Def.hasP {x : Str} {st : Stmt} {N ps : List Str} {k : Nat} {sp : DSp} (D : Def K mg x st ps) (S : FnScope N ps (defScope st)) (len : ∀ ds S P, sp ds S P → ds.length = ps.length)
    (hbody : ∀ (f : Addr) (cdv : Value) (A : Around) (outer : List Env) (s : Shared) (H : Hp), Room k (A.deeper (envOfC x (defScope st) s.heap.objs.size f cdv)) → A.guards = some [] →
      ∃ t, KSs' (cxOf CX0 P w K mg base N x (defScope st) f cdv A outer s H E0).nox (defBody st) t ∧ ∀ ds S' P', sp ds S' P' → t { nx := fun _ S2 => P' .non S2, rt := P' } (dstart N ds) S') : HasP P w K mg base (k + 1) x ps sp := by
  obtain ⟨f, fd, F, b, m⟩ := D
  exact ⟨f, fd, okDP F S len (hbody f), b, F.kp, m⟩
end
section
variable {X : Cx} {k i : Nat} {ps : List Str} {sp : DSp} {x : Str} {p pos : Pos} {e o tg iter : Expr} {es : List Expr} {t : DA} {te to : DE}
theorem k_callP (G : HasP X.prog X.w X.K X.mg X.base k x ps sp) (hr : Room k X.A) (hgd : X.A.guards = some []) (ha : KA' X (e :: es) t) (hg : Gl X x := by rfl) (hdb : (x == ("__debug__" : Str)) = false := by decide)
    (he : starEach (e :: es) X.env = (false, eval e X.env) :: starEach es X.env := by rfl) (hpl : (backTo pos (starEach es X.env)).any (·.1) = false := by rfl) : KE' X (.Call (.Name x p) (e :: es) [] pos) (dCB sp t) := fun pins s σ H Q h0 I ⟨δ, S, P, rs, sr, h, fin⟩ => by
  obtain ⟨f, fd, F, hb, hk, hm⟩ := G
  refine wpAny_Call_Name_kw (ld_glob I hg hm ?_ hdb)
  refine PySem.W.callWith_K (h₀ := X.base) I.ok.mod.kin hk ?_ he hpl
  refine wpAny_mono (PySem.wpAny_toks (ha pos pins s σ H (fun vs H1 => ∃ ds S1, RpA X.K H1 ds vs ∧ SR X.K H1 S1 ∧ sp ds S1 P ∧ Fin X.K H1 P Q) h0 I ⟨δ, S, _, rs, sr, h, fun ds S1 vs H1 h1 r1 s1 e1 => ⟨ds, S1, r1, s1, h1, fin.ext e1⟩⟩)) (fun us s1 q => ?_) fun _ _ z => z.2
  obtain ⟨ht, vs, H1, I1, r, ds, S1, r1, s2, q, fin1⟩ := q
  refine ⟨I1.kIn, ?_⟩
  have hl : us.length = ps.length := by rw [← r.length, r1.length]; exact F.len _ _ _ q
  have hb' : BindsTo s1 fd ⟨us, []⟩ (ps.zip us) := by have z := hb s1 us I1.kIn (by simpa using hl); rw [List.append_nil] at z; exact z
  refine wpAny_call (codeAny_mono (F.run X.A X.stack s1 H1 ⟨us, []⟩ us vs Q (Nat.le_trans h0 ht) hr hgd I1.env0 hb' r ⟨ds, S1, P, r1, s2, q, fin1⟩) fun r s' hq => ?_)
  cases r with
  | error e => exact False.elim hq
  | ok fl => cases fl with
    | ret u => exact I1.after hq
    | _ => exact False.elim hq
theorem k_replT {y z : Str} {j k : Nat} {c0 c1 apos : Pos} (ho : KE' X o to) (hyz : (y == z) = false := by decide +kernel)
    (hst : starEach [.Constant (.str y) j c0, .Constant (.str z) k c1] X.env = [(false, eval (.Constant (.str y) j c0) X.env), (false, eval (.Constant (.str z) k c1) X.env)] := by rfl)
    (hbase : attributeBase o "replace" X.env (eval o X.env) = eval o X.env := by rfl) (hline : (apos.endLine == pos.line) = true := by rfl) :
    KE' X (.Call (.Attribute o "replace" apos) [.Constant (.str y) j c0, .Constant (.str z) k c1] [] pos) (dRepl to y z) :=
  fun pins s σ H Q h0 I ⟨δ, S, P, rs, sr, q, fin⟩ => CwR.pet_replT ho hyz hst hbase hline pins s σ H Q h0 I ⟨δ, S, _, rs, sr, q, fun d S1 v H1 h1 r1 s1 e1 => by
    obtain ⟨x, rfl, h2, h3⟩ := asS_of h1
    cases r1
    exact ⟨x, rfl, h2, fin _ S1 _ H1 h3 rfl s1 e1⟩⟩
/-- e.split(text) -/
def dSplit (to : DE) (c : Str) : DE := fun δ S P => to δ S fun d S1 => asS d fun a => (c.length == 0) = false ∧ a.length + 2 ≤ sizeLine ∧ P (.lst ((Txt.split a c).map .str)) S1
theorem k_split {c : Str} {j : Nat} {c0 apos : Pos} (ho : KE' X o to) (hst : starEach [.Constant (.str c) j c0] X.env = [(false, eval (.Constant (.str c) j c0) X.env)] := by rfl)
    (hbase : attributeBase o "split" X.env (eval o X.env) = eval o X.env := by rfl) (hline : (apos.endLine == pos.line) = true := by rfl) : KE' X (.Call (.Attribute o "split" apos) [.Constant (.str c) j c0] [] pos) (dSplit to c) := fun pins s σ H Q h0 I ⟨δ, S, P, rs, sr, h, fin⟩ => by
  refine PySem.Call_method1 hbase hst hline (thn (ho pins s σ H (fun v H1 => ∃ a S1, v = .str a ∧ SR X.K H1 S1 ∧ ((c.length == 0) = false ∧ a.length + 2 ≤ sizeLine ∧ P (.lst ((Txt.split a c).map .str)) S1) ∧ Fin X.K H1 P Q) h0 I ⟨δ, S, _, rs, sr, h, fun d S1 v H1 h1 r1 s1 e1 => ?_⟩) fun v s1 ⟨x, H1, I1, r1, a, S1, e1, s2, ⟨q1, q2, q3⟩, fin1⟩ => ?_)
  · obtain ⟨a, rfl, h2⟩ := asS_of h1
    cases r1
    exact ⟨a, S1, rfl, s1, h2, fin.ext e1⟩
  · subst e1
    obtain ⟨tk, rfl⟩ := _root_.id r1
    refine ⟨"str", _, F.plainAttrs_str, F.slot_str_split, F.type_str_split, typeIs_str _ _ _, (fun _ e => nomatch e), Calls.callWith_builtin rfl (Calls.evalArgs_plain (Calls.spliced_cons (Calls.Constant_str (Calls.spliced_nil ?_))))⟩
    refine wpAny_mono (mt_split pins _ σ H1 _ [.str c] _ _ (fun v H1 => ∃ a xs, v = .ref a ∧ H1 a = some (.lst xs) ∧ ∀ o, Q v (upd H1 a (.frz o (.lst xs)))) (I1.tok _) r1 (.cons ⟨_, rfl⟩ .nil) ⟨_, _, rfl, rfl, q1, q2, fun p np => ⟨p, _, rfl, upd_same, fun ob => ?_⟩⟩) (fun _ _ q => freezeE q) fun _ _ q => q
    rw [upd_upd]
    exact fin1 _ S1 _ _ q3 ⟨p, _, rfl, .inl ⟨ob, upd_same⟩, RpA.of_strs _⟩ (s2.new np) (.new np)
abbrev KI' (X : Cx) (tg iter : Expr) (t : DI) : Prop := L2.PIT X tg iter (lI X.K t)
def dItL (te : DE) : DI := fun δ S P => te δ S fun d S1 => match d with
  | .lst ds => P ds S1
  | _ => False
theorem ki_seq (h : KE' X iter te) : KI' X tg iter (dItL te) := fun pins s σ H R h0 I ⟨δ, S, P, rs, sr, q, fin⟩ => by
  refine L2.pit_list (fun pins s σ H Q h0 I hw => h pins s σ H Q h0 I hw) pins s σ H R h0 I ⟨δ, S, _, rs, sr, q, fun d S1 v H1 h1 r1 s1 e1 => ?_⟩
  split at h1
  · obtain ⟨p, vs, rfl, hq, r2⟩ := r1
    exact ⟨p, rfl, ⟨vs, hq.sq⟩, fin _ S1 _ H1 h1 s1 e1 (.lst hq r2)⟩
  · exact h1.elim
theorem ks_for {body : List Stmt} {t : DI} {g : DG} {tb : DS} (hp : PassesOwn (model X.prog X.w) X.A X.env X.xe) (hc : X.calm = true) (hi : KI' X tg iter t) (hg : QG X tg g) (hb : QSs X body tb)
    (hs : ∀ x, foldedSetIterable iter X.env x = pure x := by intro _; rfl) : KS' X (.For tg iter body [] pos) (dFor t g tb) := fun pins s σ H D h0 I ⟨δ, S, P, rs, sr, h, fin⟩ => by
  refine L2.pst_for hp hc hi hg hb hs pins s σ H D h0 I ⟨δ, S, _, rs, sr, h, fun ds S1 J H1 ⟨Iv, i0, turn, last⟩ s1 e1 it => ?_⟩
  refine ⟨fun i m σ' H' => m = ds.length - i ∧ i ≤ ds.length ∧ Ext H1 H' ∧ ∃ δ' S', RS X.K H' σ' δ' ∧ SR X.K H' S' ∧ Iv i δ' S', ⟨_, rfl, Nat.zero_le _, .refl _, δ, S1, rs.ext e1, s1, i0⟩, ?_⟩
  rintro i m σ' H' ⟨rfl, hi, e2, δ', S', rs2, sr2, iv⟩
  by_cases hlt : i < ds.length
  · obtain ⟨d, hd⟩ : ∃ d, ds[i]? = some d := ⟨_, List.getElem?_eq_getElem hlt⟩
    obtain ⟨g1, g2⟩ := it.go i d H' e2 hd
    refine .inr ⟨g1, fun σ2 H2 => Ext H1 H2 ∧ ∃ δ' S', RS X.K H2 σ2 δ' ∧ SR X.K H2 S' ∧ Iv (i + 1) δ' S', fun σ2 H2 ⟨x1, x2⟩ => ⟨ds.length - (i + 1), by omega, rfl, hlt, x1, x2⟩, fun x H2 y => ?_⟩
    obtain ⟨y1, y2, y3⟩ := g2 x H2 y
    have q := turn i d δ' S' hd iv
    refine ⟨d, δ', S', _, y2, rs2.ext y1, y3 _ sr2, q, fun δ3 S3 σ3 H3 q3 rs3 sr3 e3 => ⟨δ3, S3, _, rs3, sr3, q3, ?_⟩⟩
    have e4 := e2.trans (y1.trans e3)
    have nx : NxF X.K H3 (Iv (i + 1)) fun σ2 H2 => Ext H1 H2 ∧ ∃ δ' S', RS X.K H2 σ2 δ' ∧ SR X.K H2 S' ∧ Iv (i + 1) δ' S' := fun δ5 S5 σ5 H5 q5 rs5 sr5 e5 => ⟨e4.trans e5, δ5, S5, rs5, sr5, q5⟩
    exact ⟨nx, (fin.ext (e1.trans e4)).rt, (fin.ext (e1.trans e4)).nx, nx⟩
  · have : i = ds.length := by omega
    subst this
    exact .inl ⟨it.stop _ H' e2 (Nat.le_refl _), fin.nx δ' S' σ' H' (last δ' S' iv) rs2 sr2 (e1.trans e2)⟩
end
end DL
set_option Elab.async false
set_option linter.all false
set_option maxRecDepth 100000
set_option maxHeartbeats 1000000
namespace DL
open PySem PySem.Spec PyProof.Rows L2

/-! ### tests, calls, loops once a token is out -/
section
variable {X : Cx} {a b e tg iter : Expr} {es rest : List Expr} {te ta tb' : DE} {tA tB' : DT} {t : DA} {st : Stmt} {sts : List Stmt} {u v : DS} {pos p : Pos}
theorem later {α : Type} {m : Sem α} {Q : α → Shared → Prop} {M : Model} {A : Around} {E : Value → Shared → Prop} {s : Shared} (h0 : 1 ≤ s.toks) (h : wpAny M A m Q E s) : wpAny M A m (fun x s' => 1 ≤ s'.toks ∧ Q x s') E s :=
  wpAny_mono (PySem.wpAny_toks_of h0 h) (fun _ _ z => z) fun _ _ z => z.2
abbrev KT' (X : Cx) (e : Expr) (t : DT) : Prop := ∀ (pins : List (Addr × Obj)) (s : Shared) (σ : L2.St) (H : Hp) (Q : Bool → Hp → Prop), 1 ≤ s.toks → L2.Inv X pins σ H s → lT X.K t σ H Q → wpAny (model X.prog X.w) X.A (isTrue e X.env (eval e X.env)) (TP X pins σ Q) X.xe s
abbrev KW' (X : Cx) (e : Expr) (t : DT) : Prop := ∀ (whole : Sem Value) (pins : List (Addr × Obj)) (s : Shared) (σ : L2.St) (H : Hp) (Q : Bool → Hp → Prop), 1 ≤ s.toks → L2.Inv X pins σ H s → lT X.K t σ H Q → wpAny (model X.prog X.w) X.A (isTrue e X.env whole) (TP X pins σ Q) X.xe s
theorem kt_of (h : QT X e tA) : KT' X e tA := fun pins s σ H Q _ I q => h.run pins s σ H Q I q
theorem kt_w (h : KW' X e tA) : KT' X e tA := fun pins s σ H Q h0 I q => h _ pins s σ H Q h0 I q
theorem kw_or1 (h : KT' X a tA) : KW' X (.BoolOp .Or [a] pos) tA := fun wh pins s σ H Q h0 I q => isTrue_or (thn (h pins s σ H Q h0 I q) fun c s1 z => by
  cases c with
  | true => exact z
  | false => exact isTrue_or_nil z)
theorem kw_or (h : KT' X a tA) (h2 : KW' X (.BoolOp .Or (b :: rest) pos) tB') : KW' X (.BoolOp .Or (a :: b :: rest) pos) (dOr tA tB') := fun wh pins s σ H Q h0 I ⟨δ, S, P, rs, sr, q, fin⟩ => by
  refine isTrue_or (thn (later h0 (h pins s σ H (fun c H1 => bif c then Q true H1 else lT X.K tB' σ H1 Q) h0 I ⟨δ, S, _, rs, sr, q, fun c S1 H1 z s1 e1 => ?_⟩)) fun c s1 ⟨ht, H1, I1, z⟩ => ?_)
  · cases c with
    | true => exact fin true S1 H1 z s1 e1
    | false => exact ⟨δ, S1, P, rs.ext e1, s1, z, fun c S2 H2 z2 s2 e2 => fin c S2 H2 z2 s2 (e1.trans e2)⟩
  · cases c with
    | true => exact ⟨H1, I1, z⟩
    | false => exact h2 wh pins s1 σ H1 Q ht I1 z
theorem kt_not (h : KT' X a tA) : KT' X (.UnaryOp .Not a pos) (dNot tA) := fun pins s σ H Q h0 I ⟨δ, S, P, rs, sr, q, fin⟩ =>
  isTrue_not (h pins s σ H (fun c H1 => Q (!c) H1) h0 I ⟨δ, S, _, rs, sr, q, fun c S1 H1 z s1 e1 => fin (!c) S1 H1 z s1 e1⟩)
theorem kt_val (h : KE' X e te) (he : ∀ whole, isTrue e X.env whole = (do let v ← whole; standAt e.pos; holding [v] (truthy v)) := by intro _; rfl) : KT' X e (dTest te) := fun pins s σ H Q h0 I ⟨δ, S, P, rs, sr, q, fin⟩ =>
  isTrue_plain (thn (h pins s σ H (fun x H1 => ∃ k, x = .bl k ∧ Q k H1) h0 I ⟨δ, S, _, rs, sr, q, fun d S1 x H1 z r1 s1 e1 => by
    obtain ⟨k, rfl, z⟩ := asB_of z
    exact ⟨k, r1, fin k S1 H1 z s1 e1⟩⟩) fun x s1 ⟨y, H1, I1, r1, k, ey, z⟩ => by
    subst ey
    cases r1
    exact wpAny_truthy_bool ⟨H1, I1, z⟩) (he _)
theorem two_sides {op : CmpOp} {r : DR} (ho : OpD X (compareOp op) r) (ha : KE' X a ta) (hb : KE' X b tb') {pins : List (Addr × Obj)} {s : Shared} {σ : L2.St} {H : Hp} {Q : VK} (h0 : 1 ≤ s.toks) (I : L2.Inv X pins σ H s) (q : lE X.K (dOp r ta tb') σ H Q) :
    wpAny (model X.prog X.w) X.A (eval a X.env) (fun x s₁ => wpAny (model X.prog X.w) X.A (eval b X.env) (fun y s₂ => wpAny (model X.prog X.w) X.A (compareOp op x y) (EP X pins σ Q) X.xe s₂) X.xe s₁) X.xe s := by
  obtain ⟨δ, S, P, rs, sr, q, fin⟩ := q
  refine thn (later h0 (ha pins s σ H (fun x H1 => ∃ d S1, Rp X.K H1 d x ∧ SR X.K H1 S1 ∧ Ext H H1 ∧ tb' δ S1 fun e S2 => r d e S2 P) h0 I ⟨δ, S, _, rs, sr, q, fun d S1 x H1 z r1 s1 e1 => ⟨d, S1, r1, s1, e1, z⟩⟩)) fun x s1 ⟨ht, y, H1, I1, rx, d, S1, r1, s1', e1, z⟩ => ?_
  refine thn (hb pins s1 σ H1 (fun x2 H2 => ∃ d2 S2, Rp X.K H2 d2 x2 ∧ SR X.K H2 S2 ∧ Ext H1 H2 ∧ r d d2 S2 P) ht I1 ⟨δ, S1, _, rs.ext e1, s1', z, fun d2 S2 x2 H2 z2 r2 s2 e2 => ⟨d2, S2, r2, s2, e2, z2⟩⟩) fun x2 s2 ⟨y2, H2, I2, rx2, d2, S2, r2, s2', e2, z2⟩ => ?_
  exact ho pins s2 σ H2 y y2 x x2 Q I2 rx rx2 ⟨d, d2, S2, P, r1.ext e2, r2, s2', z2, fin.ext (e1.trans e2)⟩
theorem k_cmp {op : CmpOp} {r : DR} (ho : OpD X (compareOp op) r) (ha : KE' X a ta) (hb : KE' X b tb') (hm : behindInMarks op b = false := by first | exact nobehind _ (by decide) (by decide) | rfl) : KE' X (.Compare a [op] [b] pos) (dOp r ta tb') :=
  fun pins s σ H Q h0 I q => wpAny_Compare1 (two_sides ho ha hb h0 I q) hm
theorem kt_cmp {op : CmpOp} {r : DR} (ho : OpD X (compareOp op) r) (ha : KE' X a ta) (hb : KE' X b tb') (hm : behindInMarks op b = false := by first | exact nobehind _ (by decide) (by decide) | rfl) : KT' X (.Compare a [op] [b] pos) (dTest (dOp r ta tb')) :=
  fun pins s σ H Q h0 I q => wpAny_isTrue_Compare1 (thn (two_sides ho ha hb h0 I (lT_of_test q)) fun x s1 z => thn z fun y s2 z => thn z fun c s3 ⟨w, H3, I3, r3, k, ew, z⟩ => by
    subst ew
    cases r3
    exact wpAny_truthy_bool ⟨H3, I3, z⟩) hm
theorem k_callB {x : Str} {id : String} {r : List D → Sto → DK → Prop} (hc : CallD X (.builtin id) r) (hg : Gl X x) (hm : X.mg x = none) (hv : bootBuiltins x = some (.builtin id)) (ha : KA' X (e :: es) t) (hn : x ≠ "__name__" := by decide) (hdb : (x == ("__debug__" : Str)) = false := by decide)
    (he : starEach (e :: es) X.env = (false, eval e X.env) :: starEach es X.env := by rfl) (hpl : (backTo pos (starEach es X.env)).any (·.1) = false := by rfl) : KE' X (.Call (.Name x p) (e :: es) [] pos) (dCB r t) := fun pins s σ H Q h0 I q =>
  wpAny_Call_Name_kw (ld_blt I hg hm hv (PyProof.Rows.callWith_builtin1 (thn (ha pos pins s σ H _ h0 I (lC_of q)) fun us s1 ⟨vs, H1, I1, r1, z⟩ => hc pins s1 σ H1 vs us Q I1 r1 z) he hpl) hn hdb)
theorem ks_if {c : Expr} {x y : List Stmt} (hc : KT' X c tA) (hx : KSs' X x u) (hy : KSs' X y v) : KS' X (.If c x y pos) (dIfS tA u v) := fun pins s σ H D h0 I ⟨δ, S, P, rs, sr, q, fin⟩ => by
  refine wpAny_If (thn (later h0 (hc pins s σ H (fun k H1 => bif k then lS X.K u D σ H1 else lS X.K v D σ H1) h0 I ⟨δ, S, _, rs, sr, q, fun k S1 H1 z s1 e1 => ?_⟩)) fun k s1 ⟨ht, H1, I1, z⟩ => ?_)
  · cases k with
    | true => exact ⟨δ, S1, P, rs.ext e1, s1, z, fin.ext e1⟩
    | false => exact ⟨δ, S1, P, rs.ext e1, s1, z, fin.ext e1⟩
  · cases k with
    | true => exact hx pins s1 σ H1 D ht I1 z
    | false => exact hy pins s1 σ H1 D ht I1 z
theorem ks_ret (he : KE' X e te) : KS' X (.Return (some e) pos) (dRet te) := fun pins s σ H D h0 I ⟨δ, S, P, rs, sr, q, fin⟩ =>
  wpAny_Return_some (thn (he pins s σ H D.rt h0 I ⟨δ, S, _, rs, sr, q, fin.rt⟩) fun x s1 ⟨y, H1, I1, r1, z⟩ => ⟨y, σ, H1, I1, r1, z⟩)
theorem kss_one (h : KS' X st u) : KSs' X [st] u := fun pins s σ H D h0 I q => by
  refine wpAny_execs_cons (thn (h pins s σ H D h0 I q) fun f s1 z => ?_)
  cases f with
  | next => exact wpAny_execs_nil z
  | ret _ => exact z
  | brk => exact z
  | cont => exact z
/-- a for whose body wants a token -/
theorem for_pos {wi : TI} {g : TG} {tt : TS} {body : List Stmt} (hp : PassesOwn (model X.prog X.w) X.A X.env X.xe) (hc : X.calm = true) (hi : L2.PI X tg iter wi) (hg : L2.PG X tg g) (hb : L2.PSsT X body tt)
    (hs : ∀ x, foldedSetIterable iter X.env x = pure x) : L2.PST X (.For tg iter body [] pos) (tFor wi g tt) := by
  intro pins s σ H D h0 I h
  refine wpAny_For (thn (later h0 (hi.run pins s σ H _ I h)) fun iv sa ⟨ka, ja⟩ => thn (later ka ja) fun iw sb ⟨kb, jb⟩ => ?_) hs
  obtain ⟨it, fp, tn, J, Hb, rfl, Ib, T, stb, fb, W, ⟨m0, w0⟩, turn⟩ := jb
  have stay : ∀ {H' : Hp}, (∀ b ∈ fp, H' b = none) → ∀ b ∈ fp, FpOk X pins H' b := fun z b hb => ⟨z b hb, (fb b hb).2⟩
  refine codeAny_forLoop_any (fun n sc => 1 ≤ sc.toks ∧ ∃ i σ' H', L2.Inv X pins σ' H' sc ∧ tn i sc.heap ∧ (∀ b ∈ fp, H' b = none) ∧ W i n σ' H') ?_ m0 ⟨kb, 0, σ, Hb, Ib, stb, fun b hb => (fb b hb).1, w0⟩
  rintro n sc ⟨kc, i, σc, Hc, Ic, stc, frc, wc⟩
  rcases turn i n σc Hc wc with ⟨stop, qn⟩ | ⟨go, N, hN, step⟩
  · exact wpAny_passesOwn hp (thn (T.done X rfl rfl rfl hc i pins sc σc Hc X.xe Ic (stay frc) stc stop) fun r sd ⟨er, Id⟩ => by
      subst er
      exact wpAny_execs_nil ⟨σc, Hc, Id, qn⟩)
  · refine wpAny_passesOwn hp (thn (later kc (T.item X rfl rfl rfl hc i pins sc σc Hc X.xe Ic (stay frc) stc go)) fun r sd ⟨kd, z, er, jd⟩ => ?_)
    subst er
    refine wpAny_passesOwn hp (thn (later kd jd) fun _ se ⟨ke, x, He, Ie, re, ye, ste, fre⟩ => ?_)
    refine wpAny_passesOwn hp (thn (later ke (hg.run _ se σc He x z _ (Ie.pinned (stay fre) (T.obj _ _ ste)) re (step x He ye))) fun _ sf ⟨kf, σf, Hf, If, qf⟩ => ?_)
    refine wpAny_passesOwn hp (thn (later kf (hb _ sf σf Hf _ kf If qf)) fun f sg ⟨kg, qg⟩ => ?_)
    have more : ∀ {σg : L2.St} {Hg : Hp}, L2.Inv X (pins ++ pinsAt fp se.heap) σg Hg sg → N σg Hg → ∃ m, m < n ∧ 1 ≤ sg.toks ∧ ∃ i σ' H', L2.Inv X pins σ' H' sg ∧ tn i sg.heap ∧ (∀ b ∈ fp, H' b = none) ∧ W i m σ' H' := fun {σg Hg} Ig ng => by
      obtain ⟨mm, hm, wg⟩ := hN σg Hg ng
      refine ⟨mm, hm, kg, i + 1, σg, Hg, Ig.unpinned, T.keep _ _ _ ste fun b hb o eo => (Ig.pin (b, o) (List.mem_append_right _ (List.mem_append_right _ (mem_pinsAt hb eo)))).1, fun b hb => ?_, wg⟩
      obtain ⟨o, eo, dd⟩ := T.obj _ _ ste b hb
      exact (Ig.pin (b, o) (List.mem_append_right _ (List.mem_append_right _ (mem_pinsAt hb eo)))).2.1
    cases f with
    | next => exact let ⟨σg, Hg, Ig, ng⟩ := qg; more Ig ng
    | cont => exact let ⟨σg, Hg, Ig, ng⟩ := qg; more Ig ng
    | brk => exact let ⟨σg, Hg, Ig, ng⟩ := qg; ⟨σg, Hg, Ig.unpinned, ng⟩
    | ret _ => exact let ⟨xg, σg, Hg, Ig, rg, ng⟩ := qg; ⟨xg, σg, Hg, Ig.unpinned, rg, ng⟩
end
end DL
set_option Elab.async false
set_option linter.all false
set_option maxRecDepth 100000
set_option maxHeartbeats 1000000
namespace DL
open PySem PySem.Spec PyProof.Rows L2
section
variable {X : Cx} {a b e tg iter : Expr} {es rest : List Expr} {te ta tb' : DE} {tA tB' : DT} {t : DA} {st : Stmt} {sts body : List Stmt} {u v : DS} {pos p : Pos} {g : DG} {tb : DS}
theorem walk_of {K : PySem.W.Frag} {ds : List D} {J : It} {H H1 : Hp} {E : DEnds} {D : Ends} {Iv : Nat → DSt → Sto → Prop} {σ : L2.St} {δ : DSt} {S : Sto} (fin : EndF K H E D) (e1 : Ext H H1) (it : ItOk K J ds H1) (rs : RS K H1 σ δ) (sr : SR K H1 S) (i0 : Iv 0 δ S)
    (turn : ∀ i d δ' S', ds[i]? = some d → Iv i δ' S' → g d δ' S' fun δ2 S2 => tb { nx := Iv (i + 1), ct := Iv (i + 1), rt := E.rt, bk := E.nx } δ2 S2) (last : ∀ δ' S', Iv ds.length δ' S' → E.nx δ' S') :
    ∃ W : Nat → Nat → L2.St → Hp → Prop, (∃ m, W 0 m σ H1) ∧ ∀ i m σ' H', W i m σ' H' → (J.stop i H' ∧ D.nx σ' H') ∨ (J.go i H' ∧ ∃ N : L2.St → Hp → Prop, (∀ σ2 H2, N σ2 H2 → ∃ m', m' < m ∧ W (i + 1) m' σ2 H2) ∧
      ∀ x H2, J.yld i H' x H2 → lG K g x σ' H2 fun σ2 H2 => lS K tb { D with nx := N, ct := N, bk := D.nx } σ2 H2) := by
  refine ⟨fun i m σ' H' => m = ds.length - i ∧ i ≤ ds.length ∧ Ext H1 H' ∧ ∃ δ' S', RS K H' σ' δ' ∧ SR K H' S' ∧ Iv i δ' S', ⟨_, rfl, Nat.zero_le _, .refl _, δ, S, rs, sr, i0⟩, ?_⟩
  rintro i m σ' H' ⟨rfl, hi, e2, δ', S', rs2, sr2, iv⟩
  by_cases hlt : i < ds.length
  · obtain ⟨d, hd⟩ : ∃ d, ds[i]? = some d := ⟨_, List.getElem?_eq_getElem hlt⟩
    obtain ⟨g1, g2⟩ := it.go i d H' e2 hd
    refine .inr ⟨g1, fun σ2 H2 => Ext H1 H2 ∧ ∃ δ' S', RS K H2 σ2 δ' ∧ SR K H2 S' ∧ Iv (i + 1) δ' S', fun σ2 H2 ⟨x1, x2⟩ => ⟨ds.length - (i + 1), by omega, rfl, hlt, x1, x2⟩, fun x H2 y => ?_⟩
    obtain ⟨y1, y2, y3⟩ := g2 x H2 y
    have q := turn i d δ' S' hd iv
    refine ⟨d, δ', S', _, y2, rs2.ext y1, y3 _ sr2, q, fun δ3 S3 σ3 H3 q3 rs3 sr3 e3 => ⟨δ3, S3, _, rs3, sr3, q3, ?_⟩⟩
    have e4 := e2.trans (y1.trans e3)
    have nx : NxF K H3 (Iv (i + 1)) fun σ2 H2 => Ext H1 H2 ∧ ∃ δ' S', RS K H2 σ2 δ' ∧ SR K H2 S' ∧ Iv (i + 1) δ' S' := fun δ5 S5 σ5 H5 q5 rs5 sr5 e5 => ⟨e4.trans e5, δ5, S5, rs5, sr5, q5⟩
    exact ⟨nx, (fin.ext (e1.trans e4)).rt, (fin.ext (e1.trans e4)).nx, nx⟩
  · have : i = ds.length := by omega
    subst this
    exact .inl ⟨it.stop _ H' e2 (Nat.le_refl _), fin.nx δ' S' σ' H' (last δ' S' iv) rs2 sr2 (e1.trans e2)⟩
theorem ks_forT {ti : DI} (hp : PassesOwn (model X.prog X.w) X.A X.env X.xe) (hc : X.calm = true) (hi : QI X tg iter ti) (hg : QG X tg g) (hb : KSs' X body tb) (hs : ∀ x, foldedSetIterable iter X.env x = pure x := by intro _; rfl) : KS' X (.For tg iter body [] pos) (dFor ti g tb) := fun pins s σ H D h0 I ⟨δ, S, P, rs, sr, q, fin⟩ =>
  for_pos hp hc hi hg hb hs pins s σ H D h0 I ⟨δ, S, _, rs, sr, q, fun ds S1 J H1 ⟨Iv, i0, turn, last⟩ s1 e1 it => walk_of fin e1 it (rs.ext e1) s1 i0 turn last⟩
theorem ks_forK (n : Nat) {x : Str} {px : Pos} (hp : PassesOwn (model X.prog X.w) X.A X.env X.xe) (hc : X.calm = true) (hg : QG X tg g) (hb : KSs' X body tb) (hN : X.N[n]? = some x := by rfl) (hv : Vis X.env.scope x := by first | exact Or.inl rfl | exact Or.inr (Or.inl rfl) | exact Or.inr (Or.inr rfl))
    (hd : (x == ("__debug__" : Str)) = false := by decide) (hcd : (x == ("__classdict__" : Str)) = false := by decide) (hs : ∀ y, foldedSetIterable (.Name x px) X.env y = pure y := by intro _; rfl) : KS' X (.For tg (.Name x px) body [] pos) (dForK n g tb) := fun pins s σ H D h0 I ⟨δ, S, P, rs, sr, ⟨a, kvs, hsl, hS, Iv, i0, turn, last⟩, fin⟩ =>
  for_pos hp hc (i_key n hN hv hd hcd) hg hb hs pins s σ H D h0 I ⟨δ, S, a, kvs, rs, sr, hsl, hS, fun J H1 rs1 s1 e1 it => walk_of fin e1 it rs1 s1 i0 turn last⟩
/-! ### where the first token comes from: xs[:c], list(..), a call, a name -/
abbrev PEP (X : Cx) (e : Expr) (t : DE) : Prop := ∀ (pins : List (Addr × Obj)) (s : Shared) (σ : L2.St) (H : Hp) (Q : VK), L2.Inv X pins σ H s → lE X.K t σ H Q → wpAny (model X.prog X.w) X.A (eval e X.env) (fun x s' => 1 ≤ s'.toks ∧ EP X pins σ Q x s') X.xe s
abbrev PSP (X : Cx) (st : Stmt) (t : DS) : Prop := ∀ (pins : List (Addr × Obj)) (s : Shared) (σ : L2.St) (H : Hp) (D : Ends), L2.Inv X pins σ H s → lS X.K t D σ H → wpAny (model X.prog X.w) X.A (exec st X.env) (fun f s' => 1 ≤ s'.toks ∧ SP X pins D f s') X.xe s
abbrev PSsP (X : Cx) (sts : List Stmt) (t : DS) : Prop := ∀ (pins : List (Addr × Obj)) (s : Shared) (σ : L2.St) (H : Hp) (D : Ends), L2.Inv X pins σ H s → lS X.K t D σ H → wpAny (model X.prog X.w) X.A (execs sts X.env) (fun f s' => 1 ≤ s'.toks ∧ SP X pins D f s') X.xe s
theorem p_cut {c : Int} {j : Nat} {p1 p2 : Pos} (he : QE X e te) : PEP X (.Subscript e (.Slice none (some (.Constant (.int c) j p1)) none p2) pos) (dSl slD te dNoPart (dPart (dC (.int c)))) := fun pins s σ H Q I ⟨δ, S, P, rs, sr, q, fin⟩ => by
  refine Subscript_ (thn (he.run pins s σ H (fun x H1 => ∃ d S1, Rp X.K H1 d x ∧ SR X.K H1 S1 ∧ Fin X.K H1 P Q ∧ slD d none (some c) S1 P) I ⟨δ, S, _, rs, sr, q, fun d S1 x H1 z r1 s1 e1 => ⟨d, S1, r1, s1, fin.ext e1, z⟩⟩) fun v s1 ⟨x, H1, I1, r1, d, S1, rd, s1', fin1, z⟩ => ?_)
  refine wpAny_Slice ?_
  rw [evalPart_none]
  refine wpAny_pure ?_
  rw [evalPart_some]
  refine wpAny_Constant_int (wpAny_pure ?_)
  have I4 : L2.Inv X pins σ H1 { s1 with toks := s1.toks + 1, heap := s1.heap.push { cls := .type "slice", data := .fields #[.none, .int c s1.toks, .none] } } := I1.kept fun b ob w => Heap.get?_push_of_some _ w
  obtain ⟨T, id, hT, ht, hgi⟩ := sl_D pins _ σ H1 x v .none (.int c s1.toks) none (some c) s1.heap.objs.size Q I4 r1 (Heap.IsSliceOf.new ..) .none (.int c _) ⟨d, S1, P, rd, s1', z, fin1⟩
  refine later (Nat.le_add_left 1 s1.toks) ?_
  exact tail_any (ops := [.ref s1.heap.objs.size, v]) ht hT hgi (by with_unfolding_all rfl)
theorem p_callTy1 {x : Str} {T : String} {r : List D → Sto → DK → Prop} (hc : CallD X (.type T) r) (hg : Gl X x) (hm : X.mg x = none) (hv : bootBuiltins x = some (.type T)) (ha : PEP X e te) (hn : x ≠ "__name__" := by decide) (hdb : (x == ("__debug__" : Str)) = false := by decide)
    (he : starEach [e] X.env = (false, eval e X.env) :: starEach [] X.env := by rfl) (hpl : (backTo pos (starEach [] X.env)).any (·.1) = false := by rfl) : PEP X (.Call (.Name x p) [e] [] pos) (dCB r (dCons te dNil)) := fun pins s σ H Q I ⟨δ, S, P, rs, sr, q, fin⟩ => by
  refine wpAny_Call_Name_kw (ld_blt I hg hm hv (PyProof.Rows.callWith_type1 (M := model X.prog X.w) (Q := fun x s' => 1 ≤ s'.toks ∧ EP X pins σ Q x s') ?_ he hpl) hn hdb)
  rw [he]
  show wpAny _ _ (spliced ((false, eval e X.env) :: backTo pos (starEach [] X.env))) _ _ s
  refine Calls.spliced_cons (thn (ha pins s σ H (fun x H1 => ∃ d S1, Rp X.K H1 d x ∧ SR X.K H1 S1 ∧ Fin X.K H1 P Q ∧ r [d] S1 P) I ⟨δ, S, _, rs, sr, q, fun d S1 x H1 z r1 s1 e1 => ⟨d, S1, r1, s1, fin.ext e1, z⟩⟩) fun v s1 ⟨ht, x, H1, I1, r1, d, S1, rd, s1', fin1, z⟩ => Calls.spliced_nil ?_)
  exact later ht (hc pins s1 σ H1 [x] [v] Q I1 (.cons r1 .nil) ⟨[d], S1, P, ⟨x, [], rfl, rd, rfl⟩, s1', z, fin1⟩)
theorem p_set (i : Nat) {x : Str} {pos' : Pos} (hN : X.N.Nodup) (he : PEP X e te) (hi : X.N[i]? = some x := by rfl) (hx : Loc X.env.scope x := by first | exact Or.inl rfl | exact Or.inr rfl) (hs : swapsWith e (some (.Name x pos')) pos.line X.env = pure false := by rfl)
    (hf : X.fn x = true ∨ X.env.scope.names.lookup x = some .local := by first | exact .inl rfl | exact .inr rfl | assumption) : PSP X (.Assign [.Name x pos'] e pos) (dSet i te) := fun pins s σ H D I ⟨δ, S, P, rs, sr, q, fin⟩ => by
  refine wpAny_Assign_Name (thn (he pins s σ H (fun y H1 => D.nx (σ.set i (some y)) H1) I ⟨δ, S, _, rs, sr, q, fun d S1 y H1 z r1 s1 e1 => fin.nx _ S1 _ H1 z ((rs.ext e1).set r1) s1 e1⟩) fun v s1 ⟨ht, y, H1, I1, r1, z⟩ => ?_) hs
  exact later ht (store_ok I1 hN hi hx r1 (fun s2 I2 => ⟨_, H1, I2, z⟩) hf)
theorem ss_first (h1 : PSP X st u) (h2 : KSs' X sts v) : QSs X (st :: sts) (dSeq u v) := ⟨fun pins s σ H D I ⟨δ, S, P, rs, sr, q, fin⟩ => by
  refine wpAny_execs_cons (thn (h1 pins s σ H { D with nx := lS X.K v D } I ⟨δ, S, { P with nx := v P }, rs, sr, q, fin.seq⟩) fun f s1 ⟨ht, z⟩ => ?_)
  cases f with
  | next => obtain ⟨σ', H', I', w⟩ := z; exact h2 pins s1 σ' H' D ht I' w
  | ret _ => exact z
  | brk => exact z
  | cont => exact z⟩
theorem ssp_first (h1 : PSP X st u) (h2 : QSs X sts v) : PSsP X (st :: sts) (dSeq u v) := fun pins s σ H D I ⟨δ, S, P, rs, sr, q, fin⟩ => by
  refine wpAny_execs_cons (thn (h1 pins s σ H { D with nx := lS X.K v D } I ⟨δ, S, { P with nx := v P }, rs, sr, q, fin.seq⟩) fun f s1 ⟨ht, z⟩ => ?_)
  cases f with
  | next => obtain ⟨σ', H', I', w⟩ := z; exact later ht (h2.run pins s1 σ' H' D I' w)
  | ret _ => exact ⟨ht, z⟩
  | brk => exact ⟨ht, z⟩
  | cont => exact ⟨ht, z⟩
end
/-! ### defs behind which a token is out -/
structure FnDT (P : Program) (w : World) (K : PySem.W.Frag) (mg : Str → Option Value) (base : Heap) (k : Nat) (f : Addr) (fd : FuncData) (ps : List Str) (sp : DSp) : Prop where
  len : ∀ ds S P', sp ds S P' → ds.length = ps.length
  run : ∀ (A : Around) (outer : List Env) (s : Shared) (H : Hp) (args : Args) (us : List Value) (vs : List V) (Q : VK), Room k A → A.guards = some [] → Env0 P w K mg base A outer s H → BindsTo s fd args (ps.zip us) → Vals vs us →
    (∃ ds S P', RpA K H ds vs ∧ SR K H S ∧ sp ds S P' ∧ Fin K H P' Q) → codeAny (model P w) A (.call (.ref f) args) (fun r s' => 1 ≤ s'.toks ∧ CR CX0 outer P w H s Q E0 r s') s
def HasT (P : Program) (w : World) (K : PySem.W.Frag) (mg : Str → Option Value) (base : Heap) (k : Nat) (x : Str) (ps : List Str) (sp : DSp) : Prop := ∃ f fd, FnDT P w K mg base k f fd ps sp ∧ Binds K fd ps [] ∧ PySem.W.keepIn K (.ref f) = true ∧ mg x = some (.ref f)
section
variable {P : Program} {w : World} {K : PySem.W.Frag} {mg : Str → Option Value} {base : Heap}
theorem HasT.mono {j k : Nat} {x : Str} {ps : List Str} {sp : DSp} (h : HasT P w K mg base j x ps sp) (l : j ≤ k) : HasT P w K mg base k x ps sp :=
  let ⟨f, fd, F, a⟩ := h; ⟨f, fd, ⟨F.len, fun A outer s H args us vs Q hr => F.run A outer s H args us vs Q (hr.mono l)⟩, a⟩
theorem ssp_nox {X : Cx} {st : List Stmt} {t : DS} (h : PSsP X.nox st t) : PSsP X st t := fun pins s σ H D I hw =>
  wpAny_mono (h pins s σ H D (I.wish _) hw) (fun fl s' q => ⟨q.1, q.2.unwish⟩) fun _ _ z => z.elim
theorem Def.hasT {x : Str} {st : Stmt} {N ps : List Str} {k : Nat} {sp : DSp} (D : Def K mg x st ps) (S : FnScope N ps (defScope st)) (len : ∀ ds S P, sp ds S P → ds.length = ps.length)
    (hbody : ∀ (f : Addr) (cdv : Value) (A : Around) (outer : List Env) (s : Shared) (H : Hp), Room k (A.deeper (envOfC x (defScope st) s.heap.objs.size f cdv)) → A.guards = some [] →
      ∃ t, PSsP (cxOf CX0 P w K mg base N x (defScope st) f cdv A outer s H E0).nox (defBody st) t ∧ ∀ ds S' P', sp ds S' P' → t { nx := fun _ S2 => P' .non S2, rt := P' } (dstart N ds) S') : HasT P w K mg base (k + 1) x ps sp := by
  obtain ⟨f, fd, F, b, m⟩ := D
  refine ⟨f, fd, ?_, b, F.kp, m⟩
  obtain ⟨oc, od, kV, doc, pm, an, cdv, ct, osl, rfl, lk, hcd⟩ := F.ex
  refine ⟨len, fun A outer s H args us vs Q hr hgd e0 hb r ⟨ds, S', P', rp, sr, hsp, fin⟩ => ?_⟩
  have hl : vs.length = ps.length := rp.length.trans (len _ _ _ hsp)
  have KX : K.In s.heap := e0.mod.kin.keeps fun b o e => (e0.bs b o e).1
  refine codeAny_call_function hr.depth (KX _ _ lk) rfl S.co S.gen rfl (PySem.W.codeRec_of KX hcd) (hb _ _ _ _ ?_)
  refine wpAny_newFunctionEnv_cells S.kind (fun ⟨n, v⟩ hy => (S.par n (List.of_mem_zip hy).1).elim .inl fun q => .inr ⟨q, PySem.W.cellsFrom_some _ _ _ (.inl q)⟩) fun env he s1 x => ?_
  subst he
  refine ⟨(e0.mod.nolimit.keeps fun b o e => (e0.bs b o e).1).keeps x.toInCall.keep, codeAny_func ?_⟩
  obtain ⟨t, ht, hq⟩ := hbody f cdv A outer s H (hr.deeper _) hgd
  have I := inv_start (CX := CX0) (E := E0) S hr.hd e0 hl r x
  refine wpAny_mono (ssp_nox ht [] s1 (start N vs) H { nx := fun _ H' => Q .non H', rt := Q } I ⟨dstart N ds, S', _, RS.start rp, sr, hq ds S' P' hsp, ⟨fun δ S2 σ H2 p rs sr e => fin _ S2 _ H2 p rfl sr e, fin, fun _ _ _ _ p => p.elim, fun _ _ _ _ p => p.elim⟩⟩) (fun fl s' ⟨tt, hs⟩ => ?_) fun e s' hs Γ pp hΓ => Sem.wp_mono _ Γ _ (fun _ _ _ z => (z : False).elim) (fun _ _ _ z => (z : False).elim) _ _ (hs Γ pp hΓ)
  cases fl with
  | ret u => obtain ⟨v, σ', H', J, rv, q⟩ := hs; exact ⟨tt, v, H', J.os, J.bare, J.base, J.hok, rv, q⟩
  | next => obtain ⟨σ', H', J, q⟩ := hs; exact ⟨tt, .non, H', J.os, J.bare, J.base, J.hok, rfl, q⟩
  | brk => obtain ⟨_, _, _, q⟩ := hs; exact False.elim q
  | cont => obtain ⟨_, _, _, q⟩ := hs; exact False.elim q
end
section
variable {X : Cx} {k : Nat} {ps : List Str} {sp : DSp} {x : Str} {p pos : Pos} {e : Expr} {es : List Expr} {t : DA}
theorem p_callT (G : HasT X.prog X.w X.K X.mg X.base k x ps sp) (hr : Room k X.A) (hgd : X.A.guards = some []) (ha : QA X (e :: es) t) (hg : Gl X x := by rfl) (hdb : (x == ("__debug__" : Str)) = false := by decide)
    (he : starEach (e :: es) X.env = (false, eval e X.env) :: starEach es X.env := by rfl) (hpl : (backTo pos (starEach es X.env)).any (·.1) = false := by rfl) : PEP X (.Call (.Name x p) (e :: es) [] pos) (dCB sp t) := fun pins s σ H Q I ⟨δ, S, P, rs, sr, h, fin⟩ => by
  obtain ⟨f, fd, F, hb, hk, hm⟩ := G
  refine wpAny_Call_Name_kw (ld_glob I hg hm ?_ hdb)
  refine PySem.W.callWith_K (h₀ := X.base) I.ok.mod.kin hk ?_ he hpl
  refine thn (ha.run pos pins s σ H (fun vs H1 => ∃ ds S1, RpA X.K H1 ds vs ∧ SR X.K H1 S1 ∧ sp ds S1 P ∧ Fin X.K H1 P Q) I ⟨δ, S, _, rs, sr, h, fun ds S1 vs H1 h1 r1 s1 e1 => ⟨ds, S1, r1, s1, h1, fin.ext e1⟩⟩) fun us s1 ⟨vs, H1, I1, r, ds, S1, r1, s2, q, fin1⟩ => ⟨I1.kIn, ?_⟩
  have hl : us.length = ps.length := by rw [← r.length, r1.length]; exact F.len _ _ _ q
  have hb' : BindsTo s1 fd ⟨us, []⟩ (ps.zip us) := by have z := hb s1 us I1.kIn (by simpa using hl); rw [List.append_nil] at z; exact z
  refine wpAny_call (codeAny_mono (F.run X.A X.stack s1 H1 ⟨us, []⟩ us vs Q hr hgd I1.env0 hb' r ⟨ds, S1, P, r1, s2, q, fin1⟩) fun r s' hq => ?_)
  cases r with
  | error e => exact False.elim hq.2
  | ok fl => cases fl with
    | ret u => exact ⟨hq.1, I1.after hq.2⟩
    | _ => exact False.elim hq.2
end
end DL
set_option Elab.async false
set_option linter.all false
set_option maxRecDepth 100000
set_option maxHeartbeats 1000000
namespace DL
open PySem PySem.Spec PyProof.Rows L2
section
variable {X : Cx} {a b : Expr} {rest : List Expr} {ta tb' : DE} {pos : Pos}
theorem k_one {op : BoolOp} (h : KE' X a ta) : KE' X (.BoolOp op [a] pos) ta := fun pins s σ H Q h0 I q => BoolOp_one (h pins s σ H Q h0 I q)
theorem k_and (h : KE' X a ta) (h2 : KE' X (.BoolOp .And (b :: rest) pos) tb') : KE' X (.BoolOp .And (a :: b :: rest) pos) (dAndV ta tb') := fun pins s σ H Q h0 I ⟨δ, S, P, rs, sr, q, fin⟩ => by
  refine BoolOp_and (thn (later h0 (h pins s σ H (fun x H1 => ∃ c, x = .bl c ∧ bif c then lE X.K tb' σ H1 Q else Q (.bl false) H1) h0 I ⟨δ, S, _, rs, sr, q, fun d S1 x H1 z r1 s1 e1 => ?_⟩)) fun x s1 ⟨ht, y, H1, I1, r1, c, ey, z⟩ => ?_)
  · obtain ⟨c, rfl, z⟩ := asB_of z
    cases c with
    | true => exact ⟨true, r1, δ, S1, P, rs.ext e1, s1, z, fin.ext e1⟩
    | false => exact ⟨false, r1, fin _ S1 _ H1 z rfl s1 e1⟩
  · subst ey
    cases r1
    refine wpAny_truthy_bool ?_
    cases c with
    | true => exact h2 pins s1 σ H1 Q ht I1 z
    | false => exact ⟨.bl false, H1, I1, rfl, z⟩
end
end DL
set_option Elab.async false
set_option linter.all false
set_option maxRecDepth 100000
set_option maxHeartbeats 1000000
namespace DL
open PySem PySem.Spec PyProof.Rows L2
/-! ### == of trees of texts, numbers, tuples: one of both -/
mutual
def pl : D → Bool
  | .str _ => true
  | .int _ => true
  | .tup xs => pls xs
  | _ => false
def pls : List D → Bool
  | [] => true
  | d :: r => pl d && pls r
end
theorem pls_mem : ∀ {ds : List D} {d : D}, pls ds = true → d ∈ ds → pl d = true
  | x :: r, d, h, m => by
    simp only [pls, Bool.and_eq_true] at h
    rcases List.mem_cons.mp m with rfl | m
    · exact h.1
    · exact pls_mem h.2 m
section
variable {X : Cx} {pins : List (Addr × Obj)} {σ : L2.St} {H : Hp} {s : Shared}
theorem pick_eq {A : Around} {s : Shared} {its its2 : Array Value} (h : ∀ j (h1 : j < its.size) (h2 : j < its2.size), ∃ b, SeqAt.EqAt A s its[j] its2[j] b) : ∃ e : Nat → Bool, ∀ j (h1 : j < its.size) (h2 : j < its2.size), SeqAt.EqAt A s its[j] its2[j] (e j) := by
  classical
  refine ⟨fun j => if z : ∃ h1 : j < its.size, ∃ h2 : j < its2.size, ∃ b, SeqAt.EqAt A s its[j] its2[j] b then z.choose_spec.choose_spec.choose else true, fun j h1 h2 => ?_⟩
  have z : ∃ h1 : j < its.size, ∃ h2 : j < its2.size, ∃ b, SeqAt.EqAt A s its[j] its2[j] b := ⟨h1, h2, h j h1 h2⟩
  dsimp only
  rw [dif_pos z]
  exact z.choose_spec.choose_spec.choose_spec
theorem any_eq (I : L2.Inv X pins σ H s) : ∀ (n : Nat) (A : Around) (d e : D) (x y : V) (v u : Value), A.units + n < cLine → dp d ≤ n → pl d = true → pl e = true → Rp X.K H d x → Rp X.K H e y → RelV x v → RelV y u → ∃ b, SeqAt.EqAt A s v u b := by
  intro n
  induction n with
  | zero =>
    intro A d e x y v u hu hd p1 p2 r1 r2 q1 q2
    cases d with
    | str z =>
      cases r1
      obtain ⟨t, rfl⟩ := q1
      cases e with
      | str z2 => cases r2; obtain ⟨t2, rfl⟩ := q2; exact ⟨_, SeqAt.EqAt.str_str _ _ _ _⟩
      | int i => cases r2; obtain ⟨t2, rfl⟩ := q2; exact ⟨_, SeqAt.EqAt.str_int _ _ _ _⟩
      | tup es => obtain ⟨c, ws, rfl, hc, r4⟩ := r2; cases q2; obtain ⟨its, w1, w2, _⟩ := I.tuple hc; exact ⟨_, SeqAt.EqAt.str_tuple _ _ w2 (by omega)⟩
      | _ => cases p2
    | int i =>
      cases r1
      obtain ⟨t, rfl⟩ := q1
      cases e with
      | str z2 => cases r2; obtain ⟨t2, rfl⟩ := q2; exact ⟨_, SeqAt.EqAt.int_str _ _ _ _⟩
      | int i => cases r2; obtain ⟨t2, rfl⟩ := q2; exact ⟨_, SeqAt.EqAt.int_int _ _ _ _⟩
      | tup es => obtain ⟨c, ws, rfl, hc, r4⟩ := r2; cases q2; obtain ⟨its, w1, w2, _⟩ := I.tuple hc; exact ⟨_, SeqAt.EqAt.int_tuple _ _ w2 (by omega)⟩
      | _ => cases p2
    | tup ds => simp only [dp] at hd; omega
    | _ => cases p1
  | succ n ih =>
    intro A d e x y v u hu hd p1 p2 r1 r2 q1 q2
    cases d with
    | str z =>
      cases r1
      obtain ⟨t, rfl⟩ := q1
      cases e with
      | str z2 => cases r2; obtain ⟨t2, rfl⟩ := q2; exact ⟨_, SeqAt.EqAt.str_str _ _ _ _⟩
      | int i => cases r2; obtain ⟨t2, rfl⟩ := q2; exact ⟨_, SeqAt.EqAt.str_int _ _ _ _⟩
      | tup es => obtain ⟨c, ws, rfl, hc, r4⟩ := r2; cases q2; obtain ⟨its, w1, w2, _⟩ := I.tuple hc; exact ⟨_, SeqAt.EqAt.str_tuple _ _ w2 (by omega)⟩
      | _ => cases p2
    | int i =>
      cases r1
      obtain ⟨t, rfl⟩ := q1
      cases e with
      | str z2 => cases r2; obtain ⟨t2, rfl⟩ := q2; exact ⟨_, SeqAt.EqAt.int_str _ _ _ _⟩
      | int i => cases r2; obtain ⟨t2, rfl⟩ := q2; exact ⟨_, SeqAt.EqAt.int_int _ _ _ _⟩
      | tup es => obtain ⟨c, ws, rfl, hc, r4⟩ := r2; cases q2; obtain ⟨its, w1, w2, _⟩ := I.tuple hc; exact ⟨_, SeqAt.EqAt.int_tuple _ _ w2 (by omega)⟩
      | _ => cases p2
    | tup ds =>
      obtain ⟨a, vs, rfl, ha, r3⟩ := r1
      cases q1
      obtain ⟨its, w1, w2, _⟩ := I.tuple ha
      cases e with
      | str z2 => cases r2; obtain ⟨t2, rfl⟩ := q2; exact ⟨_, SeqAt.EqAt.tuple_str _ _ w2 (by omega)⟩
      | int i => cases r2; obtain ⟨t2, rfl⟩ := q2; exact ⟨_, SeqAt.EqAt.tuple_int _ _ w2 (by omega)⟩
      | tup es =>
        obtain ⟨c, ws, rfl, hc, r4⟩ := r2
        cases q2
        obtain ⟨its2, w3, w4, _⟩ := I.tuple hc
        by_cases hac : a = c
        · subst hac; exact ⟨_, SeqAt.EqAt.same _⟩
        · obtain ⟨f, hf⟩ := pick_eq (A := A.in1) (s := s) (its := its.toArray) (its2 := its2.toArray) fun j h1 h2 => by
            simp only [pl] at p1 p2
            simp only [dp] at hd
            have h1' : j < its.length := by simpa using h1
            have h2' : j < its2.length := by simpa using h2
            have l1 : j < ds.length := by rw [← r3.length, w1.length]; exact h1'
            have l2 : j < es.length := by rw [← r4.length, w3.length]; exact h2'
            obtain ⟨v1, g1, g2⟩ := r3.get (List.getElem?_eq_getElem l1)
            obtain ⟨v2, g3, g4⟩ := r4.get (List.getElem?_eq_getElem l2)
            obtain ⟨u1, k1, k2⟩ := w1.get g1
            obtain ⟨u2, k3, k4⟩ := w3.get g3
            have e1 : its.toArray[j] = u1 := by
              rw [List.getElem?_eq_getElem h1'] at k1
              simpa using k1
            have e2 : its2.toArray[j] = u2 := by
              rw [List.getElem?_eq_getElem h2'] at k3
              simpa using k3
            rw [e1, e2]
            refine ih A.in1 _ _ v1 v2 u1 u2 (by show A.units + 1 + n < cLine; omega) ?_ (pls_mem p1 (List.getElem_mem l1)) (pls_mem p2 (List.getElem_mem l2)) g2 g4 k2 k4
            exact Nat.le_trans (dpA_mem (List.getElem_mem l1)) (by omega)
          exact ⟨_, SeqAt.EqAt.of_refs hac (SeqAt.RcAt.tuples (e := f) w2 w4 (by omega) hf)⟩
      | _ => cases p2
    | _ => cases p1
def eqAny : DR := fun x y S P => (∃ xs ys, x = .tup xs ∧ y = .tup ys) ∧ pl x = true ∧ pl y = true ∧ dp x ≤ 150 ∧ ∀ b, P (.bl b) S
theorem op_eqAny (hu : X.A.units + 200 < cLine) : OpD X (compareOp .Eq) eqAny := by
  intro pins s σ H x y v u Q I rx ry ⟨d, e, S, P, r1, r2, sr, ⟨⟨xs, ys, ex, ey⟩, p1, p2, hd, h⟩, fin⟩
  subst ex ey
  obtain ⟨a, vs, rfl, ha, r3⟩ := r1
  obtain ⟨c, ws, rfl, hc, r4⟩ := r2
  cases rx
  cases ry
  obtain ⟨its, w1, w2, _⟩ := I.tuple ha
  obtain ⟨its2, w3, w4, _⟩ := I.tuple hc
  obtain ⟨f, hf⟩ := pick_eq (A := X.A.in1) (s := s) (its := its.toArray) (its2 := its2.toArray) fun j h1 h2 => by
    simp only [pl] at p1 p2
    simp only [dp] at hd
    have h1' : j < its.length := by simpa using h1
    have h2' : j < its2.length := by simpa using h2
    have l1 : j < xs.length := by rw [← r3.length, w1.length]; exact h1'
    have l2 : j < ys.length := by rw [← r4.length, w3.length]; exact h2'
    obtain ⟨v1, g1, g2⟩ := r3.get (List.getElem?_eq_getElem l1)
    obtain ⟨v2, g3, g4⟩ := r4.get (List.getElem?_eq_getElem l2)
    obtain ⟨u1, k1, k2⟩ := w1.get g1
    obtain ⟨u2, k3, k4⟩ := w3.get g3
    have e1 : its.toArray[j] = u1 := by
      rw [List.getElem?_eq_getElem h1'] at k1
      simpa using k1
    have e2 : its2.toArray[j] = u2 := by
      rw [List.getElem?_eq_getElem h2'] at k3
      simpa using k3
    rw [e1, e2]
    refine any_eq I 150 X.A.in1 _ _ v1 v2 u1 u2 (by show X.A.units + 1 + 150 < cLine; omega) ?_ (pls_mem p1 (List.getElem_mem l1)) (pls_mem p2 (List.getElem_mem l2)) g2 g4 k2 k4
    exact Nat.le_trans (dpA_mem (List.getElem_mem l1)) (by omega)
  exact SeqAt.eq_tupleAt (e := f) w2 w4 (by omega) hf ⟨.bl _, H, I, rfl, fin (.bl _) S _ H (h _) rfl sr (.refl H)⟩
end
end DL
set_option Elab.async false
set_option linter.all false
set_option maxRecDepth 100000
set_option maxHeartbeats 1000000
namespace DL
open PySem PySem.Spec PyProof.Rows L2
/-! ### what a text is made of -/
section
variable {X : Cx}
def predD (g : Str → Bool) : D → List D → Sto → DK → Prop := fun x ds S P => match x, ds with
  | .str a, [] => P (.bl (g a)) S
  | _, _ => False
theorem m_pred {id : String} {g : Str → Bool} (m : MtR X id (fun x xs H Q => ∃ a, x = .str a ∧ xs = [] ∧ True ∧ Q (.bl (g a)) H)) : MtD X id (predD g) := MtR.imp m fun x xs H Q hh => by
  obtain ⟨d, ds, S, P, r1, r2, sr, h, fin⟩ := hh
  unfold predD at h
  split at h
  · cases r1
    cases r2
    exact ⟨_, rfl, rfl, trivial, fin _ S _ H h rfl sr (.refl H)⟩
  · exact h.elim
theorem m_isdigit : MtD X "str.isdigit" (predD Txt.isdigit) := m_pred mt_isdigit
theorem m_isalpha : MtD X "str.isalpha" (predD Txt.isalpha) := m_pred mt_isalpha
theorem m_isascii : MtD X "str.isascii" (predD Txt.isascii) := m_pred mt_isascii
theorem m_islower : MtD X "str.islower" (predD Txt.islower) := m_pred mt_islower
end
def notND : DR := fun x y S P => y = .non ∧ P (.bl (!isNon x)) S
theorem op_notND {X : Cx} : OpD X (compareOp .IsNot) notND := by
  intro pins s σ H x y v u Q I rx ry ⟨d, e, S, P, r1, r2, sr, ⟨ey, h⟩, fin⟩
  subst ey
  cases r2
  exact op_notN pins s σ H _ _ v u Q I rx ry ⟨rfl, fin (.bl _) S _ H (by rw [isNon_of r1]; exact h) rfl sr (.refl H)⟩
theorem notN_d {x : D} {S : Sto} {P : DK} (h : P (.bl (!isNon x)) S) : notND x .non S P := ⟨rfl, h⟩
theorem pred_s {g : Str → Bool} {a : Str} {S : Sto} {P : DK} : predD g (.str a) [] S P = P (.bl (g a)) S := rfl
theorem al_c : ∀ i : _root_.Fin 128, Unicode.isAlpha i.val = (decide (65 ≤ i.val ∧ i.val ≤ 90) || decide (97 ≤ i.val ∧ i.val ≤ 122)) := by decide +kernel
theorem lo_c : ∀ i : _root_.Fin 128, Unicode.isLower i.val = decide (97 ≤ i.val ∧ i.val ≤ 122) := by decide +kernel
theorem up_c : ∀ i : _root_.Fin 128, (Unicode.isUpper i.val || Unicode.isTitle i.val) = decide (65 ≤ i.val ∧ i.val ≤ 90) := by decide +kernel
theorem di_c : ∀ i : _root_.Fin 128, Unicode.isDigit i.val = decide (48 ≤ i.val ∧ i.val ≤ 57) := by decide +kernel
theorem asc_l (z : Str) : Txt.isascii z = z.cps.toList.all fun c => decide (c < 128) := by
  unfold Txt.isascii
  rw [← Array.all_toList]
theorem low_l : ∀ l : List Nat, (∀ c ∈ l, c < 128) → (l.all Unicode.isAlpha && !(l.any fun c => Unicode.isUpper c || Unicode.isTitle c)) = l.all fun c => decide (97 ≤ c ∧ c ≤ 122)
  | [], _ => rfl
  | c :: r, h => by
    have e := low_l r fun x m => h x (List.mem_cons_of_mem _ m)
    have hc := h c (by simp)
    rw [List.all_cons, List.any_cons, List.all_cons, ← e, al_c ⟨c, hc⟩, up_c ⟨c, hc⟩]
    by_cases p : 65 ≤ c ∧ c ≤ 90
    · have q : ¬(97 ≤ c ∧ c ≤ 122) := by omega
      simp [p, q]
    · by_cases q : 97 ≤ c ∧ c ≤ 122
      · simp [p, q]
      · simp [p, q]
/-- letters: at least one sign, each from a to z -/
theorem name_text (z : Str) : (Txt.isalpha z && (Txt.islower z && Txt.isascii z)) = (decide (1 ≤ z.length) && z.cps.toList.all fun c => decide (97 ≤ c ∧ c ≤ 122)) := by
  rw [asc_l]
  by_cases ha : ∀ c ∈ z.cps.toList, c < 128
  · rw [show (z.cps.toList.all fun c => decide (c < 128)) = true from List.all_eq_true.mpr fun c m => decide_eq_true (ha c m), Bool.and_true]
    have e := low_l _ ha
    unfold Txt.isalpha Txt.islower
    rw [← Array.all_toList, ← Array.any_toList, ← Array.any_toList]
    have len : z.length = z.cps.toList.length := by rw [Array.length_toList]; rfl
    rw [← e, len]
    cases hl : z.cps.toList with
    | nil => rfl
    | cons c r =>
      have ha' : ∀ x ∈ c :: r, x < 128 := by rw [← hl]; exact ha
      cases q : ((c :: r).all Unicode.isAlpha && !((c :: r).any fun c => Unicode.isUpper c || Unicode.isTitle c)) with
      | false =>
        rw [Bool.and_false]
        rw [Bool.eq_false_iff] at q ⊢
        intro w
        apply q
        simp only [Bool.and_eq_true] at w ⊢
        exact ⟨w.1.2, w.2.2⟩
      | true =>
        have q2 := q
        rw [low_l _ ha'] at q2
        have lo : (c :: r).any Unicode.isLower = true := by
          rw [List.any_cons, lo_c ⟨c, ha' c (by simp)⟩]
          have := of_decide_eq_true (List.all_eq_true.mp q2 c (by simp))
          rw [decide_eq_true this, Bool.true_or]
        simp only [Bool.and_eq_true] at q
        rw [lo, q.1, q.2]
        simp
  · have f1 : (z.cps.toList.all fun c => decide (c < 128)) = false := by
      rw [Bool.eq_false_iff]
      exact fun w => ha fun c m => of_decide_eq_true (List.all_eq_true.mp w c m)
    have f2 : (z.cps.toList.all fun c => decide (97 ≤ c ∧ c ≤ 122)) = false := by
      rw [Bool.eq_false_iff]
      exact fun w => ha fun c m => by have := of_decide_eq_true (List.all_eq_true.mp w c m); omega
    rw [f1, f2]
    simp
/-- figures: at least one sign, each from 0 to 9 -/
theorem fig_text (z : Str) : (Txt.isascii z && Txt.isdigit z) = (decide (1 ≤ z.length) && z.cps.toList.all fun c => decide (48 ≤ c ∧ c ≤ 57)) := by
  rw [asc_l]
  have len : z.length = z.cps.toList.length := by rw [Array.length_toList]; rfl
  unfold Txt.isdigit
  rw [← Array.all_toList, len]
  have key : ∀ l : List Nat, (l.all (fun c => decide (c < 128)) && l.all Unicode.isDigit) = l.all fun c => decide (48 ≤ c ∧ c ≤ 57) := by
    intro l
    induction l with
    | nil => rfl
    | cons c r ih =>
      rw [List.all_cons, List.all_cons, List.all_cons, ← ih]
      by_cases hc : c < 128
      · rw [di_c ⟨c, hc⟩]
        simp only [hc, decide_true, Bool.true_and]
        cases decide (48 ≤ c ∧ c ≤ 57) <;> simp
      · have q : ¬(48 ≤ c ∧ c ≤ 57) := by omega
        simp [hc, q]
  rw [← key]
  cases z.cps.toList with
  | nil => rfl
  | cons c r => simp
end DL
set_option Elab.async false
set_option linter.all false
set_option maxRecDepth 100000
set_option maxHeartbeats 1000000
namespace K01
open PySem PySem.Spec PyProof.Rows L2 DL
def top (i : Nat) : Stmt := PySem.Challenge.pw_kindsbyworth_k01_terms_of_anything.main.body.getD i (.Pass ⟨0, 0, 0, 0⟩)
abbrev az : Str := "abcdefghijklmnopqrstuvwxyz"
abbrev nums : Str := "0123456789"
abbrev co_LETTERS : D := .str az
abbrev co_FIGURES : D := .str nums
abbrev co_LONGEST_NAME : D := .int 8
abbrev co_MOST_FIGURES : D := .int 40
abbrev co_HIGHEST_WORLD : D := .int 9
abbrev co_MARKS : D := .tup [.str "run", .str "gone"]
def sg (L : Str) (c : Nat) : Bool := decide (c ∈ L.cps.toList)
/-- a text is short enough, nothing in sight changes -/
def ok1 : D → Bool
  | .str z => decide (z.length ≤ sizeLine)
  | d => flat d
theorem ok1_flat {d : D} (h : ok1 d = true) : flat d = true := by cases d <;> first | rfl | exact h
/-- one argument, a truth -/
def spB (C : D → Prop) (r : D → Bool) : DSp := fun ds S P => ∃ d, ds = [d] ∧ C d ∧ ∀ S', Step [] S S' → P (.bl (r d)) S'
theorem spB_len {C : D → Prop} {r : D → Bool} {ds : List D} {S : Sto} {P : DK} (h : spB C r ds S P) : ds.length = 1 := by obtain ⟨d, rfl, _⟩ := h; rfl
section
variable {P : Program} {w : World} {K : PySem.W.Frag} {mg : Str → Option Value} {base : Heap}

abbrev st_is_count : Stmt := top 5
theorem sc_is_count : FnScope ["thing"] ["thing"] (defScope st_is_count) := ⟨rfl, rfl, rfl, by decide +kernel, rfl, by decide +kernel, by decide +kernel⟩
def cnt : D → Bool
  | .int i => decide (0 ≤ i)
  | _ => false
def sp_is_count : DSp := spB (fun d => flat d = true) cnt
theorem len_is_count {ds : List D} {S : Sto} {P : DK} (h : sp_is_count ds S P) : ds.length = 1 := spB_len h
theorem ok_is_count {k : Nat}  (DD : Def K mg "is_count" st_is_count ["thing"]) (m_isinstance : mg "isinstance" = none) (m_bool : mg "bool" = none) (m_int : mg "int" = none) : Has P w K mg base (k + 1) "is_count" ["thing"] (sp_is_count) := by
  refine DD.has sc_is_count (fun ds S P h => len_is_count h) (fun f cdv A outer s H hr hgd => ⟨_, (ss_one (s_ret (q_and (q_callB (c_isi) rfl m_isinstance DL.bb_isi (a_cons (q_var 0) (a_cons (q_ty rfl m_int DL.bt_int) a_nil))) (q_and (q_not (q_callB (c_isi) rfl m_isinstance DL.bb_isi (a_cons (q_var 0) (a_cons (q_ty rfl m_bool DL.bt_bool) a_nil)))) (q_one (q_cmp op_geD (q_var 0) q_int)))))), fun ds S P h => ?_⟩)
  obtain ⟨d, rfl, hf, h⟩ := h
  have h := h S (.refl S)
  cases d <;> first
    | exact h
    | cases hf
abbrev st_is_figures : Stmt := top 6
theorem sc_is_figures : FnScope ["text"] ["text"] (defScope st_is_figures) := ⟨rfl, rfl, rfl, by decide +kernel, rfl, by decide +kernel, by decide +kernel⟩
def figS (z : Str) : Bool := bif decide ((1 : Int) ≤ z.length) then bif decide ((z.length : Int) ≤ 40) then bif z.cps.toList.all (sg nums) then bif z == "0" then true else (match z.cps.toList with | [] => false | c :: _ => !((⟨#[c]⟩ : Str) == "0")) else false else false else false
theorem sg_nums (c : Nat) : sg nums c = decide (48 ≤ c ∧ c ≤ 57) := by
  by_cases h : c < 128
  · exact (by decide +kernel : ∀ i : _root_.Fin 128, sg nums i.val = decide (48 ≤ i.val ∧ i.val ≤ 57)) ⟨c, h⟩
  · have a : ∀ c ∈ nums.cps.toList, c < 128 := by decide +kernel
    have q : ¬(48 ≤ c ∧ c ≤ 57) := by omega
    rw [decide_eq_false q]
    exact decide_eq_false fun m => h (a c m)
theorem sg_az (c : Nat) : sg az c = decide (97 ≤ c ∧ c ≤ 122) := by
  by_cases h : c < 128
  · exact (by decide +kernel : ∀ i : _root_.Fin 128, sg az i.val = decide (97 ≤ i.val ∧ i.val ≤ 122)) ⟨c, h⟩
  · have a : ∀ c ∈ az.cps.toList, c < 128 := by decide +kernel
    have q : ¬(97 ≤ c ∧ c ≤ 122) := by omega
    rw [decide_eq_false q]
    exact decide_eq_false fun m => h (a c m)
theorem fig_parts (z : Str) : (Txt.isascii z && Txt.isdigit z) = (decide ((1 : Int) ≤ z.length) && z.cps.toList.all (sg nums)) := by
  rw [DL.fig_text, show (sg nums) = fun c => decide (48 ≤ c ∧ c ≤ 57) from funext sg_nums]
  congr 1
  exact decide_eq_decide.mpr (by omega)
theorem name_parts (z : Str) : (Txt.isalpha z && (Txt.islower z && Txt.isascii z)) = (decide ((1 : Int) ≤ z.length) && z.cps.toList.all (sg az)) := by
  rw [DL.name_text, show (sg az) = fun c => decide (97 ≤ c ∧ c ≤ 122) from funext sg_az]
  congr 1
  exact decide_eq_decide.mpr (by omega)
def sp_is_figures : DSp := fun ds S P => ∃ z, ds = [.str z] ∧ z.length ≤ sizeLine ∧ ∀ S', Step [] S S' → P (.bl (figS z)) S'
theorem len_is_figures {ds : List D} {S : Sto} {P : DK} (h : sp_is_figures ds S P) : ds.length = 1 := by obtain ⟨z, rfl, _⟩ := h; rfl
theorem ok_is_figures {k : Nat}  (DD : Def K mg "is_figures" st_is_figures ["text"]) (m_len : mg "len" = none) (C_MOST_FIGURES : Con K mg "MOST_FIGURES" co_MOST_FIGURES) : Has P w K mg base (k + 1) "is_figures" ["text"] (sp_is_figures) := by
  refine DD.has sc_is_figures (fun ds S P h => len_is_figures h) (fun f cdv A outer s H hr hgd => ⟨_, (ss_cons (s_if (t_w (w_or (t_cmp op_gtD (q_callB (c_len) rfl m_len PySem.boot_len (a_cons (q_var 0) a_nil)) (q_con C_MOST_FIGURES)) (w_or (t_not (t_val (q_mtS0 PySem.F.slot_str_isascii PySem.F.type_str_isascii m_isascii (q_var 0)))) (w_or1 (t_not (t_val (q_mtS0 PySem.F.slot_str_isdigit PySem.F.type_str_isdigit m_isdigit (q_var 0)))))))) (ss_one (s_ret q_bl)) ss_nil)
      (ss_one (s_ret (q_or (q_cmp (op_eqD (DL.Room.un1 hr)) (q_var 0) q_str) (q_one (q_cmp (op_neD (DL.Room.un1 hr)) (q_ix ix_D (q_var 0) q_int) q_str)))))), fun ds S P h => ?_⟩)
  obtain ⟨z, rfl, hz, h⟩ := h
  simp only [dNext, dSeq, dDrop, dRet, dRetN, dIfS, dCont, dBreak, dSet, dAsg, dPar, dSetI, dFor, dVar, dC, dOp, dUn, dTest, dChain, dAnd, dOr, dNot, dAndV, dOrV, dNotV, dIf, dNil, dCons, dTup, dLst, dLstM, dNoPart, dPart, dSl, dCB, dMtL, dMt0, dMtS, dMtS0, dTru, dLc, dItS, dItStr, dRng1, dRng2, dRev, dRevM, dDic0, dstart, slot, asB_bl, asI_int, asS_str, cond_true, cond_false, List.map_cons, List.map_nil, List.length_cons, List.length_nil, List.set_cons_zero, List.set_cons_succ, Option.elim_some, Option.elim_none, List.cons_append, List.nil_append, List.replicate, Nat.sub_self, Nat.reduceSub, Nat.reduceAdd, Bool.not_true, Bool.not_false, setAll, Int.cast_ofNat_Int, Nat.zero_add, Int.reduceLT, Int.reduceLE, Int.reduceBEq, Nat.reduceBEq, decide_true, decide_false, DL.pred_s, DL.len_str, DL.len_tup, DL.len_lst, DL.le_ii, DL.le_ss, DL.cmp_ii, DL.add_ii, DL.add_ib, DL.add_bi, DL.add_ss, DL.add_tt, DL.add_ll, DL.sub_ii, DL.sub_ib, DL.sub_bi, DL.mul_ii, DL.ii_ii, DL.neg_i, DL.is_bb, DL.isn_bb, DL.all_b, DL.all_map, DL.sum_i, DL.eq_ii, DL.eq_bi, DL.eq_t0, DL.eq_l0, DL.ne_ss, DL.ne_ii, DL.ne_t0, DL.ne_l0, DL.ix_tup, DL.ix_lst, DL.ix_str, DL.in_c, DL.nin_c, DL.sl_str, DL.sl_tup, DL.sl_lst, DL.app_1, DL.pop_0, DL.ext_t, DL.tuple_l, DL.list_t, DL.list_l, DL.int_b, DL.int_i, DL.min_ii, DL.str_i, DL.str_b, DL.repr_1, DL.back_t, DL.tru_l, DL.at0, DL.at1, DL.at2, DL.at3]
  refine ⟨hz, ?_⟩
  have e := fig_parts z
  have e2 : decide ((z.length : Int) ≤ 40) = !decide ((40 : Int) < z.length) := by
    by_cases q : (40 : Int) < z.length
    · rw [decide_eq_true q, decide_eq_false (by omega)]; rfl
    · rw [decide_eq_false q, decide_eq_true (by omega)]; rfl
  have h := h S (.refl S)
  unfold figS at h
  rw [e2] at h
  cases h2 : decide ((40 : Int) < (z.length : Int)) with
  | true =>
    rw [h2] at h
    cases h1 : decide ((1 : Int) ≤ (z.length : Int)) with
    | false => rw [h1] at h; exact h
    | true => rw [h1] at h; exact h
  | false =>
    rw [h2] at h
    simp only [dNext, dSeq, dDrop, dRet, dRetN, dIfS, dCont, dBreak, dSet, dAsg, dPar, dSetI, dFor, dVar, dC, dOp, dUn, dTest, dChain, dAnd, dOr, dNot, dAndV, dOrV, dNotV, dIf, dNil, dCons, dTup, dLst, dLstM, dNoPart, dPart, dSl, dCB, dMtL, dMt0, dMtS, dMtS0, dTru, dLc, dItS, dItStr, dRng1, dRng2, dRev, dRevM, dDic0, dstart, slot, asB_bl, asI_int, asS_str, cond_true, cond_false, List.map_cons, List.map_nil, List.length_cons, List.length_nil, List.set_cons_zero, List.set_cons_succ, Option.elim_some, Option.elim_none, List.cons_append, List.nil_append, List.replicate, Nat.sub_self, Nat.reduceSub, Nat.reduceAdd, Bool.not_true, Bool.not_false, setAll, Int.cast_ofNat_Int, Nat.zero_add, Int.reduceLT, Int.reduceLE, Int.reduceBEq, Nat.reduceBEq, decide_true, decide_false, DL.pred_s, DL.len_str, DL.len_tup, DL.len_lst, DL.le_ii, DL.le_ss, DL.cmp_ii, DL.add_ii, DL.add_ib, DL.add_bi, DL.add_ss, DL.add_tt, DL.add_ll, DL.sub_ii, DL.sub_ib, DL.sub_bi, DL.mul_ii, DL.ii_ii, DL.neg_i, DL.is_bb, DL.isn_bb, DL.all_b, DL.all_map, DL.sum_i, DL.eq_ii, DL.eq_bi, DL.eq_t0, DL.eq_l0, DL.ne_ss, DL.ne_ii, DL.ne_t0, DL.ne_l0, DL.ix_tup, DL.ix_lst, DL.ix_str, DL.in_c, DL.nin_c, DL.sl_str, DL.sl_tup, DL.sl_lst, DL.app_1, DL.pop_0, DL.ext_t, DL.tuple_l, DL.list_t, DL.list_l, DL.int_b, DL.int_i, DL.min_ii, DL.str_i, DL.str_b, DL.repr_1, DL.back_t, DL.tru_l, DL.at0, DL.at1, DL.at2, DL.at3]
    cases h1 : decide ((1 : Int) ≤ (z.length : Int)) with
    | false =>
      rw [h1] at h e
      simp only [Bool.false_and] at e
      cases a : Txt.isascii z with
      | false => exact h
      | true => cases b : Txt.isdigit z with
        | false => exact h
        | true => rw [a, b] at e; cases e
    | true =>
      rw [h1] at h e
      simp only [dNext, dSeq, dDrop, dRet, dRetN, dIfS, dCont, dBreak, dSet, dAsg, dPar, dSetI, dFor, dVar, dC, dOp, dUn, dTest, dChain, dAnd, dOr, dNot, dAndV, dOrV, dNotV, dIf, dNil, dCons, dTup, dLst, dLstM, dNoPart, dPart, dSl, dCB, dMtL, dMt0, dMtS, dMtS0, dTru, dLc, dItS, dItStr, dRng1, dRng2, dRev, dRevM, dDic0, dstart, slot, asB_bl, asI_int, asS_str, cond_true, cond_false, List.map_cons, List.map_nil, List.length_cons, List.length_nil, List.set_cons_zero, List.set_cons_succ, Option.elim_some, Option.elim_none, List.cons_append, List.nil_append, List.replicate, Nat.sub_self, Nat.reduceSub, Nat.reduceAdd, Bool.not_true, Bool.not_false, setAll, Int.cast_ofNat_Int, Nat.zero_add, Int.reduceLT, Int.reduceLE, Int.reduceBEq, Nat.reduceBEq, decide_true, decide_false, DL.pred_s, DL.len_str, DL.len_tup, DL.len_lst, DL.le_ii, DL.le_ss, DL.cmp_ii, DL.add_ii, DL.add_ib, DL.add_bi, DL.add_ss, DL.add_tt, DL.add_ll, DL.sub_ii, DL.sub_ib, DL.sub_bi, DL.mul_ii, DL.ii_ii, DL.neg_i, DL.is_bb, DL.isn_bb, DL.all_b, DL.all_map, DL.sum_i, DL.eq_ii, DL.eq_bi, DL.eq_t0, DL.eq_l0, DL.ne_ss, DL.ne_ii, DL.ne_t0, DL.ne_l0, DL.ix_tup, DL.ix_lst, DL.ix_str, DL.in_c, DL.nin_c, DL.sl_str, DL.sl_tup, DL.sl_lst, DL.app_1, DL.pop_0, DL.ext_t, DL.tuple_l, DL.list_t, DL.list_l, DL.int_b, DL.int_i, DL.min_ii, DL.str_i, DL.str_b, DL.repr_1, DL.back_t, DL.tru_l, DL.at0, DL.at1, DL.at2, DL.at3] at h ⊢
      cases h3 : z.cps.toList.all (sg nums) with
      | false =>
        rw [h3] at h e
        cases a : Txt.isascii z with
        | false => exact h
        | true => cases b : Txt.isdigit z with
          | false => exact h
          | true => rw [a, b] at e; cases e
      | true =>
        rw [h3] at h e
        simp only [Bool.and_true, Bool.and_eq_true] at e
        rw [e.1, e.2]
        simp only [dNext, dSeq, dDrop, dRet, dRetN, dIfS, dCont, dBreak, dSet, dAsg, dPar, dSetI, dFor, dVar, dC, dOp, dUn, dTest, dChain, dAnd, dOr, dNot, dAndV, dOrV, dNotV, dIf, dNil, dCons, dTup, dLst, dLstM, dNoPart, dPart, dSl, dCB, dMtL, dMt0, dMtS, dMtS0, dTru, dLc, dItS, dItStr, dRng1, dRng2, dRev, dRevM, dDic0, dstart, slot, asB_bl, asI_int, asS_str, cond_true, cond_false, List.map_cons, List.map_nil, List.length_cons, List.length_nil, List.set_cons_zero, List.set_cons_succ, Option.elim_some, Option.elim_none, List.cons_append, List.nil_append, List.replicate, Nat.sub_self, Nat.reduceSub, Nat.reduceAdd, Bool.not_true, Bool.not_false, setAll, Int.cast_ofNat_Int, Nat.zero_add, Int.reduceLT, Int.reduceLE, Int.reduceBEq, Nat.reduceBEq, decide_true, decide_false, DL.pred_s, DL.len_str, DL.len_tup, DL.len_lst, DL.le_ii, DL.le_ss, DL.cmp_ii, DL.add_ii, DL.add_ib, DL.add_bi, DL.add_ss, DL.add_tt, DL.add_ll, DL.sub_ii, DL.sub_ib, DL.sub_bi, DL.mul_ii, DL.ii_ii, DL.neg_i, DL.is_bb, DL.isn_bb, DL.all_b, DL.all_map, DL.sum_i, DL.eq_ii, DL.eq_bi, DL.eq_t0, DL.eq_l0, DL.ne_ss, DL.ne_ii, DL.ne_t0, DL.ne_l0, DL.ix_tup, DL.ix_lst, DL.ix_str, DL.in_c, DL.nin_c, DL.sl_str, DL.sl_tup, DL.sl_lst, DL.app_1, DL.pop_0, DL.ext_t, DL.tuple_l, DL.list_t, DL.list_l, DL.int_b, DL.int_i, DL.min_ii, DL.str_i, DL.str_b, DL.repr_1, DL.back_t, DL.tru_l, DL.at0, DL.at1, DL.at2, DL.at3] at h ⊢
        rw [DL.eq_str' rfl]
        simp only [dNext, dSeq, dDrop, dRet, dRetN, dIfS, dCont, dBreak, dSet, dAsg, dPar, dSetI, dFor, dVar, dC, dOp, dUn, dTest, dChain, dAnd, dOr, dNot, dAndV, dOrV, dNotV, dIf, dNil, dCons, dTup, dLst, dLstM, dNoPart, dPart, dSl, dCB, dMtL, dMt0, dMtS, dMtS0, dTru, dLc, dItS, dItStr, dRng1, dRng2, dRev, dRevM, dDic0, dstart, slot, asB_bl, asI_int, asS_str, cond_true, cond_false, List.map_cons, List.map_nil, List.length_cons, List.length_nil, List.set_cons_zero, List.set_cons_succ, Option.elim_some, Option.elim_none, List.cons_append, List.nil_append, List.replicate, Nat.sub_self, Nat.reduceSub, Nat.reduceAdd, Bool.not_true, Bool.not_false, setAll, Int.cast_ofNat_Int, Nat.zero_add, Int.reduceLT, Int.reduceLE, Int.reduceBEq, Nat.reduceBEq, decide_true, decide_false, DL.pred_s, DL.len_str, DL.len_tup, DL.len_lst, DL.le_ii, DL.le_ss, DL.cmp_ii, DL.add_ii, DL.add_ib, DL.add_bi, DL.add_ss, DL.add_tt, DL.add_ll, DL.sub_ii, DL.sub_ib, DL.sub_bi, DL.mul_ii, DL.ii_ii, DL.neg_i, DL.is_bb, DL.isn_bb, DL.all_b, DL.all_map, DL.sum_i, DL.eq_ii, DL.eq_bi, DL.eq_t0, DL.eq_l0, DL.ne_ss, DL.ne_ii, DL.ne_t0, DL.ne_l0, DL.ix_tup, DL.ix_lst, DL.ix_str, DL.in_c, DL.nin_c, DL.sl_str, DL.sl_tup, DL.sl_lst, DL.app_1, DL.pop_0, DL.ext_t, DL.tuple_l, DL.list_t, DL.list_l, DL.int_b, DL.int_i, DL.min_ii, DL.str_i, DL.str_b, DL.repr_1, DL.back_t, DL.tru_l, DL.at0, DL.at1, DL.at2, DL.at3] at h ⊢
        show bif (z == ("0" : Str)) then _ else _
        cases h4 : z == ("0" : Str) with
        | true => rw [h4] at h; exact h
        | false =>
          rw [h4] at h
          simp only [dNext, dSeq, dDrop, dRet, dRetN, dIfS, dCont, dBreak, dSet, dAsg, dPar, dSetI, dFor, dVar, dC, dOp, dUn, dTest, dChain, dAnd, dOr, dNot, dAndV, dOrV, dNotV, dIf, dNil, dCons, dTup, dLst, dLstM, dNoPart, dPart, dSl, dCB, dMtL, dMt0, dMtS, dMtS0, dTru, dLc, dItS, dItStr, dRng1, dRng2, dRev, dRevM, dDic0, dstart, slot, asB_bl, asI_int, asS_str, cond_true, cond_false, List.map_cons, List.map_nil, List.length_cons, List.length_nil, List.set_cons_zero, List.set_cons_succ, Option.elim_some, Option.elim_none, List.cons_append, List.nil_append, List.replicate, Nat.sub_self, Nat.reduceSub, Nat.reduceAdd, Bool.not_true, Bool.not_false, setAll, Int.cast_ofNat_Int, Nat.zero_add, Int.reduceLT, Int.reduceLE, Int.reduceBEq, Nat.reduceBEq, decide_true, decide_false, DL.pred_s, DL.len_str, DL.len_tup, DL.len_lst, DL.le_ii, DL.le_ss, DL.cmp_ii, DL.add_ii, DL.add_ib, DL.add_bi, DL.add_ss, DL.add_tt, DL.add_ll, DL.sub_ii, DL.sub_ib, DL.sub_bi, DL.mul_ii, DL.ii_ii, DL.neg_i, DL.is_bb, DL.isn_bb, DL.all_b, DL.all_map, DL.sum_i, DL.eq_ii, DL.eq_bi, DL.eq_t0, DL.eq_l0, DL.ne_ss, DL.ne_ii, DL.ne_t0, DL.ne_l0, DL.ix_tup, DL.ix_lst, DL.ix_str, DL.in_c, DL.nin_c, DL.sl_str, DL.sl_tup, DL.sl_lst, DL.app_1, DL.pop_0, DL.ext_t, DL.tuple_l, DL.list_t, DL.list_l, DL.int_b, DL.int_i, DL.min_ii, DL.str_i, DL.str_b, DL.repr_1, DL.back_t, DL.tru_l, DL.at0, DL.at1, DL.at2, DL.at3] at h ⊢
          refine ⟨hz, ?_⟩
          cases hl : z.cps.toList with
          | nil => rw [strlen, hl] at h1; cases h1
          | cons c r =>
            rw [hl] at h
            rw [show L2.atI (c :: r) 0 = some c from L2.atI_nat (j := 0) rfl]
            exact h
abbrev st_is_name : Stmt := top 7
theorem sc_is_name : FnScope ["thing"] ["thing"] (defScope st_is_name) := ⟨rfl, rfl, rfl, by decide +kernel, rfl, by decide +kernel, by decide +kernel⟩
def nameS (z : Str) : Bool := bif decide ((1 : Int) ≤ z.length) then bif decide ((z.length : Int) ≤ 8) then z.cps.toList.all (sg az) else false else false
def nameB : D → Bool
  | .str z => nameS z
  | _ => false
def sp_is_name : DSp := spB (fun d => ok1 d = true) nameB
theorem len_is_name {ds : List D} {S : Sto} {P : DK} (h : sp_is_name ds S P) : ds.length = 1 := spB_len h
theorem ok_is_name {k : Nat}  (DD : Def K mg "is_name" st_is_name ["thing"]) (m_len : mg "len" = none) (m_isinstance : mg "isinstance" = none) (m_str : mg "str" = none) (C_LONGEST_NAME : Con K mg "LONGEST_NAME" co_LONGEST_NAME) : Has P w K mg base (k + 1) "is_name" ["thing"] (sp_is_name) := by
  refine DD.has sc_is_name (fun ds S P h => len_is_name h) (fun f cdv A outer s H hr hgd => ⟨_, (ss_cons (s_if (t_w (w_or (t_not (t_val (q_callB (c_isi) rfl m_isinstance DL.bb_isi (a_cons (q_var 0) (a_cons (q_ty rfl m_str DL.bt_str) a_nil))))) (w_or1 (t_cmp op_gtD (q_callB (c_len) rfl m_len PySem.boot_len (a_cons (q_var 0) a_nil)) (q_con C_LONGEST_NAME))))) (ss_one (s_ret q_bl)) ss_nil)
      (ss_one (s_ret (q_and (q_mtS0 PySem.F.slot_str_isalpha PySem.F.type_str_isalpha m_isalpha (q_var 0)) (q_and (q_mtS0 PySem.F.slot_str_islower PySem.F.type_str_islower m_islower (q_var 0)) (q_one (q_mtS0 PySem.F.slot_str_isascii PySem.F.type_str_isascii m_isascii (q_var 0)))))))), fun ds S P h => ?_⟩)
  obtain ⟨d, rfl, hd, h⟩ := h
  have hf := ok1_flat hd
  simp only [dNext, dSeq, dDrop, dRet, dRetN, dIfS, dCont, dBreak, dSet, dAsg, dPar, dSetI, dFor, dVar, dC, dOp, dUn, dTest, dChain, dAnd, dOr, dNot, dAndV, dOrV, dNotV, dIf, dNil, dCons, dTup, dLst, dLstM, dNoPart, dPart, dSl, dCB, dMtL, dMt0, dMtS, dMtS0, dTru, dLc, dItS, dItStr, dRng1, dRng2, dRev, dRevM, dDic0, dstart, slot, asB_bl, asI_int, asS_str, cond_true, cond_false, List.map_cons, List.map_nil, List.length_cons, List.length_nil, List.set_cons_zero, List.set_cons_succ, Option.elim_some, Option.elim_none, List.cons_append, List.nil_append, List.replicate, Nat.sub_self, Nat.reduceSub, Nat.reduceAdd, Bool.not_true, Bool.not_false, setAll, Int.cast_ofNat_Int, Nat.zero_add, Int.reduceLT, Int.reduceLE, Int.reduceBEq, Nat.reduceBEq, decide_true, decide_false, DL.pred_s, DL.len_str, DL.len_tup, DL.len_lst, DL.le_ii, DL.le_ss, DL.cmp_ii, DL.add_ii, DL.add_ib, DL.add_bi, DL.add_ss, DL.add_tt, DL.add_ll, DL.sub_ii, DL.sub_ib, DL.sub_bi, DL.mul_ii, DL.ii_ii, DL.neg_i, DL.is_bb, DL.isn_bb, DL.all_b, DL.all_map, DL.sum_i, DL.eq_ii, DL.eq_bi, DL.eq_t0, DL.eq_l0, DL.ne_ss, DL.ne_ii, DL.ne_t0, DL.ne_l0, DL.ix_tup, DL.ix_lst, DL.ix_str, DL.in_c, DL.nin_c, DL.sl_str, DL.sl_tup, DL.sl_lst, DL.app_1, DL.pop_0, DL.ext_t, DL.tuple_l, DL.list_t, DL.list_l, DL.int_b, DL.int_i, DL.min_ii, DL.str_i, DL.str_b, DL.repr_1, DL.back_t, DL.tru_l, DL.at0, DL.at1, DL.at2, DL.at3]
  rw [DL.isi_str hf]
  simp only [dNext, dSeq, dDrop, dRet, dRetN, dIfS, dCont, dBreak, dSet, dAsg, dPar, dSetI, dFor, dVar, dC, dOp, dUn, dTest, dChain, dAnd, dOr, dNot, dAndV, dOrV, dNotV, dIf, dNil, dCons, dTup, dLst, dLstM, dNoPart, dPart, dSl, dCB, dMtL, dMt0, dMtS, dMtS0, dTru, dLc, dItS, dItStr, dRng1, dRng2, dRev, dRevM, dDic0, dstart, slot, asB_bl, asI_int, asS_str, cond_true, cond_false, List.map_cons, List.map_nil, List.length_cons, List.length_nil, List.set_cons_zero, List.set_cons_succ, Option.elim_some, Option.elim_none, List.cons_append, List.nil_append, List.replicate, Nat.sub_self, Nat.reduceSub, Nat.reduceAdd, Bool.not_true, Bool.not_false, setAll, Int.cast_ofNat_Int, Nat.zero_add, Int.reduceLT, Int.reduceLE, Int.reduceBEq, Nat.reduceBEq, decide_true, decide_false, DL.pred_s, DL.len_str, DL.len_tup, DL.len_lst, DL.le_ii, DL.le_ss, DL.cmp_ii, DL.add_ii, DL.add_ib, DL.add_bi, DL.add_ss, DL.add_tt, DL.add_ll, DL.sub_ii, DL.sub_ib, DL.sub_bi, DL.mul_ii, DL.ii_ii, DL.neg_i, DL.is_bb, DL.isn_bb, DL.all_b, DL.all_map, DL.sum_i, DL.eq_ii, DL.eq_bi, DL.eq_t0, DL.eq_l0, DL.ne_ss, DL.ne_ii, DL.ne_t0, DL.ne_l0, DL.ix_tup, DL.ix_lst, DL.ix_str, DL.in_c, DL.nin_c, DL.sl_str, DL.sl_tup, DL.sl_lst, DL.app_1, DL.pop_0, DL.ext_t, DL.tuple_l, DL.list_t, DL.list_l, DL.int_b, DL.int_i, DL.min_ii, DL.str_i, DL.str_b, DL.repr_1, DL.back_t, DL.tru_l, DL.at0, DL.at1, DL.at2, DL.at3]
  cases d with
  | str z =>
    have hz : z.length ≤ sizeLine := of_decide_eq_true hd
    simp only [DL.isS]
    simp only [dNext, dSeq, dDrop, dRet, dRetN, dIfS, dCont, dBreak, dSet, dAsg, dPar, dSetI, dFor, dVar, dC, dOp, dUn, dTest, dChain, dAnd, dOr, dNot, dAndV, dOrV, dNotV, dIf, dNil, dCons, dTup, dLst, dLstM, dNoPart, dPart, dSl, dCB, dMtL, dMt0, dMtS, dMtS0, dTru, dLc, dItS, dItStr, dRng1, dRng2, dRev, dRevM, dDic0, dstart, slot, asB_bl, asI_int, asS_str, cond_true, cond_false, List.map_cons, List.map_nil, List.length_cons, List.length_nil, List.set_cons_zero, List.set_cons_succ, Option.elim_some, Option.elim_none, List.cons_append, List.nil_append, List.replicate, Nat.sub_self, Nat.reduceSub, Nat.reduceAdd, Bool.not_true, Bool.not_false, setAll, Int.cast_ofNat_Int, Nat.zero_add, Int.reduceLT, Int.reduceLE, Int.reduceBEq, Nat.reduceBEq, decide_true, decide_false, DL.pred_s, DL.len_str, DL.len_tup, DL.len_lst, DL.le_ii, DL.le_ss, DL.cmp_ii, DL.add_ii, DL.add_ib, DL.add_bi, DL.add_ss, DL.add_tt, DL.add_ll, DL.sub_ii, DL.sub_ib, DL.sub_bi, DL.mul_ii, DL.ii_ii, DL.neg_i, DL.is_bb, DL.isn_bb, DL.all_b, DL.all_map, DL.sum_i, DL.eq_ii, DL.eq_bi, DL.eq_t0, DL.eq_l0, DL.ne_ss, DL.ne_ii, DL.ne_t0, DL.ne_l0, DL.ix_tup, DL.ix_lst, DL.ix_str, DL.in_c, DL.nin_c, DL.sl_str, DL.sl_tup, DL.sl_lst, DL.app_1, DL.pop_0, DL.ext_t, DL.tuple_l, DL.list_t, DL.list_l, DL.int_b, DL.int_i, DL.min_ii, DL.str_i, DL.str_b, DL.repr_1, DL.back_t, DL.tru_l, DL.at0, DL.at1, DL.at2, DL.at3]
    refine ⟨hz, ?_⟩
    have e := name_parts z
    have e2 : decide ((z.length : Int) ≤ 8) = !decide ((8 : Int) < z.length) := by
      by_cases q : (8 : Int) < z.length
      · rw [decide_eq_true q, decide_eq_false (by omega)]; rfl
      · rw [decide_eq_false q, decide_eq_true (by omega)]; rfl
    have h := h S (.refl S)
    simp only [nameB, nameS] at h
    rw [e2] at h
    cases h2 : decide ((8 : Int) < (z.length : Int)) with
    | true =>
      rw [h2] at h
      cases h1 : decide ((1 : Int) ≤ (z.length : Int)) with
      | false => rw [h1] at h; exact h
      | true => rw [h1] at h; exact h
    | false =>
      rw [h2] at h
      simp only [dNext, dSeq, dDrop, dRet, dRetN, dIfS, dCont, dBreak, dSet, dAsg, dPar, dSetI, dFor, dVar, dC, dOp, dUn, dTest, dChain, dAnd, dOr, dNot, dAndV, dOrV, dNotV, dIf, dNil, dCons, dTup, dLst, dLstM, dNoPart, dPart, dSl, dCB, dMtL, dMt0, dMtS, dMtS0, dTru, dLc, dItS, dItStr, dRng1, dRng2, dRev, dRevM, dDic0, dstart, slot, asB_bl, asI_int, asS_str, cond_true, cond_false, List.map_cons, List.map_nil, List.length_cons, List.length_nil, List.set_cons_zero, List.set_cons_succ, Option.elim_some, Option.elim_none, List.cons_append, List.nil_append, List.replicate, Nat.sub_self, Nat.reduceSub, Nat.reduceAdd, Bool.not_true, Bool.not_false, setAll, Int.cast_ofNat_Int, Nat.zero_add, Int.reduceLT, Int.reduceLE, Int.reduceBEq, Nat.reduceBEq, decide_true, decide_false, DL.pred_s, DL.len_str, DL.len_tup, DL.len_lst, DL.le_ii, DL.le_ss, DL.cmp_ii, DL.add_ii, DL.add_ib, DL.add_bi, DL.add_ss, DL.add_tt, DL.add_ll, DL.sub_ii, DL.sub_ib, DL.sub_bi, DL.mul_ii, DL.ii_ii, DL.neg_i, DL.is_bb, DL.isn_bb, DL.all_b, DL.all_map, DL.sum_i, DL.eq_ii, DL.eq_bi, DL.eq_t0, DL.eq_l0, DL.ne_ss, DL.ne_ii, DL.ne_t0, DL.ne_l0, DL.ix_tup, DL.ix_lst, DL.ix_str, DL.in_c, DL.nin_c, DL.sl_str, DL.sl_tup, DL.sl_lst, DL.app_1, DL.pop_0, DL.ext_t, DL.tuple_l, DL.list_t, DL.list_l, DL.int_b, DL.int_i, DL.min_ii, DL.str_i, DL.str_b, DL.repr_1, DL.back_t, DL.tru_l, DL.at0, DL.at1, DL.at2, DL.at3]
      have h : P (.bl (Txt.isalpha z && (Txt.islower z && Txt.isascii z))) S := by
        rw [e]
        cases h1 : decide ((1 : Int) ≤ (z.length : Int)) with
        | false => rw [h1] at h; exact h
        | true => rw [h1] at h; exact h
      cases a : Txt.isalpha z with
      | false => rw [a] at h; exact h
      | true => cases b : Txt.islower z with
        | false => rw [a, b] at h; exact h
        | true => rw [a, b] at h; exact h
  | _ => exact h S (.refl S)
abbrev st_is_far : Stmt := top 8
theorem sc_is_far : FnScope ["thing", "words", "library", "number", "name"] ["thing"] (defScope st_is_far) := ⟨rfl, rfl, rfl, by decide +kernel, rfl, by decide +kernel, by decide +kernel⟩
abbrev dot : Str := "."
def farS (z : Str) : Bool := match Txt.split z dot with
  | [a, n, b] => bif nameS a then bif figS n then bif !(n == ("0" : Str)) then nameS b else false else false else false
  | _ => false
def farB : D → Bool
  | .str z => farS z
  | _ => false
/-- short enough for a split -/
def ok2 : D → Bool
  | .str z => decide (z.length + 2 ≤ sizeLine)
  | d => flat d
theorem ok2_flat {d : D} (h : ok2 d = true) : flat d = true := by cases d <;> first | rfl | exact h
theorem ok2_1 {d : D} (h : ok2 d = true) : ok1 d = true := by
  cases d with
  | str z => exact decide_eq_true (by have := of_decide_eq_true h; omega)
  | _ => exact h
def sp_is_far : DSp := spB (fun d => ok2 d = true) farB
theorem len_is_far {ds : List D} {S : Sto} {P : DK} (h : sp_is_far ds S P) : ds.length = 1 := spB_len h
theorem len3 {α : Type} {l : List α} (h : l.length = 3) : ∃ a b c, l = [a, b, c] := by
  match l, h with
  | [a, b, c], _ => exact ⟨a, b, c, rfl⟩
theorem ok_is_far {k : Nat}  (DD : Def K mg "is_far" st_is_far ["thing"]) (G_is_name : Has P w K mg base (k) "is_name" ["thing"] (sp_is_name)) (G_is_figures : Has P w K mg base (k) "is_figures" ["text"] (sp_is_figures)) (m_len : mg "len" = none) (m_isinstance : mg "isinstance" = none) (m_str : mg "str" = none) : Has P w K mg base (k + 1) "is_far" ["thing"] (sp_is_far) := by
  refine DD.has sc_is_far (fun ds S P h => len_is_far h) (fun f cdv A outer s H hr hgd => ⟨_, (ss_cons (s_if (t_not (t_val (q_callB (c_isi) rfl m_isinstance DL.bb_isi (a_cons (q_var 0) (a_cons (q_ty rfl m_str DL.bt_str) a_nil))))) (ss_one (s_ret q_bl)) ss_nil)
      (ss_cons (s_set 1 sc_is_far.nd (q_mtS PySem.F.slot_str_split PySem.F.type_str_split m_split (q_var 0) (a_cons q_str a_nil)))
      (ss_cons (s_if (t_cmp (op_neD (DL.Room.un1 hr)) (q_callB (c_len) rfl m_len PySem.boot_len (a_cons (q_var 1) a_nil)) q_int) (ss_one (s_ret q_bl)) ss_nil)
      (ss_cons (s_asg (q_var 1) (g_tup rfl (gs_cons 2 sc_is_far.nd (gs_cons 3 sc_is_far.nd (gs_cons 4 sc_is_far.nd gs_nil)))))
      (ss_one (s_ret (q_and (q_def G_is_name (hr.mono (by omega)) hgd (a_cons (q_var 2) a_nil)) (q_and (q_def G_is_figures (hr.mono (by omega)) hgd (a_cons (q_var 3) a_nil)) (q_and (q_cmp (op_neD (DL.Room.un1 hr)) (q_var 3) q_str) (q_one (q_def G_is_name (hr.mono (by omega)) hgd (a_cons (q_var 4) a_nil)))))))))))), fun ds S P h => ?_⟩)
  obtain ⟨d, rfl, hd, h⟩ := h
  have hf := ok2_flat hd
  simp only [dNext, dSeq, dDrop, dRet, dRetN, dIfS, dCont, dBreak, dSet, dAsg, dPar, dSetI, dFor, dVar, dC, dOp, dUn, dTest, dChain, dAnd, dOr, dNot, dAndV, dOrV, dNotV, dIf, dNil, dCons, dTup, dLst, dLstM, dNoPart, dPart, dSl, dCB, dMtL, dMt0, dMtS, dMtS0, dTru, dLc, dItS, dItStr, dRng1, dRng2, dRev, dRevM, dDic0, dstart, slot, asB_bl, asI_int, asS_str, cond_true, cond_false, List.map_cons, List.map_nil, List.length_cons, List.length_nil, List.set_cons_zero, List.set_cons_succ, Option.elim_some, Option.elim_none, List.cons_append, List.nil_append, List.replicate, Nat.sub_self, Nat.reduceSub, Nat.reduceAdd, Bool.not_true, Bool.not_false, setAll, Int.cast_ofNat_Int, Nat.zero_add, Int.reduceLT, Int.reduceLE, Int.reduceBEq, Nat.reduceBEq, decide_true, decide_false, DL.pred_s, DL.len_str, DL.len_tup, DL.len_lst, DL.le_ii, DL.le_ss, DL.cmp_ii, DL.add_ii, DL.add_ib, DL.add_bi, DL.add_ss, DL.add_tt, DL.add_ll, DL.sub_ii, DL.sub_ib, DL.sub_bi, DL.mul_ii, DL.ii_ii, DL.neg_i, DL.is_bb, DL.isn_bb, DL.all_b, DL.all_map, DL.sum_i, DL.eq_ii, DL.eq_bi, DL.eq_t0, DL.eq_l0, DL.ne_ss, DL.ne_ii, DL.ne_t0, DL.ne_l0, DL.ix_tup, DL.ix_lst, DL.ix_str, DL.in_c, DL.nin_c, DL.sl_str, DL.sl_tup, DL.sl_lst, DL.app_1, DL.pop_0, DL.ext_t, DL.tuple_l, DL.list_t, DL.list_l, DL.int_b, DL.int_i, DL.min_ii, DL.str_i, DL.str_b, DL.repr_1, DL.back_t, DL.tru_l, DL.at0, DL.at1, DL.at2, DL.at3]
  rw [DL.isi_str hf]
  simp only [dNext, dSeq, dDrop, dRet, dRetN, dIfS, dCont, dBreak, dSet, dAsg, dPar, dSetI, dFor, dVar, dC, dOp, dUn, dTest, dChain, dAnd, dOr, dNot, dAndV, dOrV, dNotV, dIf, dNil, dCons, dTup, dLst, dLstM, dNoPart, dPart, dSl, dCB, dMtL, dMt0, dMtS, dMtS0, dTru, dLc, dItS, dItStr, dRng1, dRng2, dRev, dRevM, dDic0, dstart, slot, asB_bl, asI_int, asS_str, cond_true, cond_false, List.map_cons, List.map_nil, List.length_cons, List.length_nil, List.set_cons_zero, List.set_cons_succ, Option.elim_some, Option.elim_none, List.cons_append, List.nil_append, List.replicate, Nat.sub_self, Nat.reduceSub, Nat.reduceAdd, Bool.not_true, Bool.not_false, setAll, Int.cast_ofNat_Int, Nat.zero_add, Int.reduceLT, Int.reduceLE, Int.reduceBEq, Nat.reduceBEq, decide_true, decide_false, DL.pred_s, DL.len_str, DL.len_tup, DL.len_lst, DL.le_ii, DL.le_ss, DL.cmp_ii, DL.add_ii, DL.add_ib, DL.add_bi, DL.add_ss, DL.add_tt, DL.add_ll, DL.sub_ii, DL.sub_ib, DL.sub_bi, DL.mul_ii, DL.ii_ii, DL.neg_i, DL.is_bb, DL.isn_bb, DL.all_b, DL.all_map, DL.sum_i, DL.eq_ii, DL.eq_bi, DL.eq_t0, DL.eq_l0, DL.ne_ss, DL.ne_ii, DL.ne_t0, DL.ne_l0, DL.ix_tup, DL.ix_lst, DL.ix_str, DL.in_c, DL.nin_c, DL.sl_str, DL.sl_tup, DL.sl_lst, DL.app_1, DL.pop_0, DL.ext_t, DL.tuple_l, DL.list_t, DL.list_l, DL.int_b, DL.int_i, DL.min_ii, DL.str_i, DL.str_b, DL.repr_1, DL.back_t, DL.tru_l, DL.at0, DL.at1, DL.at2, DL.at3]
  cases d with
  | str z =>
    have hz : z.length + 2 ≤ sizeLine := of_decide_eq_true hd
    simp only [DL.isS]
    simp only [dNext, dSeq, dDrop, dRet, dRetN, dIfS, dCont, dBreak, dSet, dAsg, dPar, dSetI, dFor, dVar, dC, dOp, dUn, dTest, dChain, dAnd, dOr, dNot, dAndV, dOrV, dNotV, dIf, dNil, dCons, dTup, dLst, dLstM, dNoPart, dPart, dSl, dCB, dMtL, dMt0, dMtS, dMtS0, dTru, dLc, dItS, dItStr, dRng1, dRng2, dRev, dRevM, dDic0, dstart, slot, asB_bl, asI_int, asS_str, cond_true, cond_false, List.map_cons, List.map_nil, List.length_cons, List.length_nil, List.set_cons_zero, List.set_cons_succ, Option.elim_some, Option.elim_none, List.cons_append, List.nil_append, List.replicate, Nat.sub_self, Nat.reduceSub, Nat.reduceAdd, Bool.not_true, Bool.not_false, setAll, Int.cast_ofNat_Int, Nat.zero_add, Int.reduceLT, Int.reduceLE, Int.reduceBEq, Nat.reduceBEq, decide_true, decide_false, DL.pred_s, DL.len_str, DL.len_tup, DL.len_lst, DL.le_ii, DL.le_ss, DL.cmp_ii, DL.add_ii, DL.add_ib, DL.add_bi, DL.add_ss, DL.add_tt, DL.add_ll, DL.sub_ii, DL.sub_ib, DL.sub_bi, DL.mul_ii, DL.ii_ii, DL.neg_i, DL.is_bb, DL.isn_bb, DL.all_b, DL.all_map, DL.sum_i, DL.eq_ii, DL.eq_bi, DL.eq_t0, DL.eq_l0, DL.ne_ss, DL.ne_ii, DL.ne_t0, DL.ne_l0, DL.ix_tup, DL.ix_lst, DL.ix_str, DL.in_c, DL.nin_c, DL.sl_str, DL.sl_tup, DL.sl_lst, DL.app_1, DL.pop_0, DL.ext_t, DL.tuple_l, DL.list_t, DL.list_l, DL.int_b, DL.int_i, DL.min_ii, DL.str_i, DL.str_b, DL.repr_1, DL.back_t, DL.tru_l, DL.at0, DL.at1, DL.at2, DL.at3]
    refine ⟨⟨rfl, hz⟩, ?_⟩
    simp only [dNext, dSeq, dDrop, dRet, dRetN, dIfS, dCont, dBreak, dSet, dAsg, dPar, dSetI, dFor, dVar, dC, dOp, dUn, dTest, dChain, dAnd, dOr, dNot, dAndV, dOrV, dNotV, dIf, dNil, dCons, dTup, dLst, dLstM, dNoPart, dPart, dSl, dCB, dMtL, dMt0, dMtS, dMtS0, dTru, dLc, dItS, dItStr, dRng1, dRng2, dRev, dRevM, dDic0, dstart, slot, asB_bl, asI_int, asS_str, cond_true, cond_false, List.map_cons, List.map_nil, List.length_cons, List.length_nil, List.set_cons_zero, List.set_cons_succ, Option.elim_some, Option.elim_none, List.cons_append, List.nil_append, List.replicate, Nat.sub_self, Nat.reduceSub, Nat.reduceAdd, Bool.not_true, Bool.not_false, setAll, Int.cast_ofNat_Int, Nat.zero_add, Int.reduceLT, Int.reduceLE, Int.reduceBEq, Nat.reduceBEq, decide_true, decide_false, DL.pred_s, DL.len_str, DL.len_tup, DL.len_lst, DL.le_ii, DL.le_ss, DL.cmp_ii, DL.add_ii, DL.add_ib, DL.add_bi, DL.add_ss, DL.add_tt, DL.add_ll, DL.sub_ii, DL.sub_ib, DL.sub_bi, DL.mul_ii, DL.ii_ii, DL.neg_i, DL.is_bb, DL.isn_bb, DL.all_b, DL.all_map, DL.sum_i, DL.eq_ii, DL.eq_bi, DL.eq_t0, DL.eq_l0, DL.ne_ss, DL.ne_ii, DL.ne_t0, DL.ne_l0, DL.ix_tup, DL.ix_lst, DL.ix_str, DL.in_c, DL.nin_c, DL.sl_str, DL.sl_tup, DL.sl_lst, DL.app_1, DL.pop_0, DL.ext_t, DL.tuple_l, DL.list_t, DL.list_l, DL.int_b, DL.int_i, DL.min_ii, DL.str_i, DL.str_b, DL.repr_1, DL.back_t, DL.tru_l, DL.at0, DL.at1, DL.at2, DL.at3]
    by_cases h3 : (Txt.split z dot).length = 3
    · obtain ⟨a, n, b, e⟩ := len3 h3
      have la : a.length ≤ z.length := PyProof.Rows.part_short (y := dot) (by rw [e]; simp)
      have ln : n.length ≤ z.length := PyProof.Rows.part_short (y := dot) (by rw [e]; simp)
      have lb : b.length ≤ z.length := PyProof.Rows.part_short (y := dot) (by rw [e]; simp)
      simp only [farB, farS, e] at h
      rw [e]
      simp only [dNext, dSeq, dDrop, dRet, dRetN, dIfS, dCont, dBreak, dSet, dAsg, dPar, dSetI, dFor, dVar, dC, dOp, dUn, dTest, dChain, dAnd, dOr, dNot, dAndV, dOrV, dNotV, dIf, dNil, dCons, dTup, dLst, dLstM, dNoPart, dPart, dSl, dCB, dMtL, dMt0, dMtS, dMtS0, dTru, dLc, dItS, dItStr, dRng1, dRng2, dRev, dRevM, dDic0, dstart, slot, asB_bl, asI_int, asS_str, cond_true, cond_false, List.map_cons, List.map_nil, List.length_cons, List.length_nil, List.set_cons_zero, List.set_cons_succ, Option.elim_some, Option.elim_none, List.cons_append, List.nil_append, List.replicate, Nat.sub_self, Nat.reduceSub, Nat.reduceAdd, Bool.not_true, Bool.not_false, setAll, Int.cast_ofNat_Int, Nat.zero_add, Int.reduceLT, Int.reduceLE, Int.reduceBEq, Nat.reduceBEq, decide_true, decide_false, DL.pred_s, DL.len_str, DL.len_tup, DL.len_lst, DL.le_ii, DL.le_ss, DL.cmp_ii, DL.add_ii, DL.add_ib, DL.add_bi, DL.add_ss, DL.add_tt, DL.add_ll, DL.sub_ii, DL.sub_ib, DL.sub_bi, DL.mul_ii, DL.ii_ii, DL.neg_i, DL.is_bb, DL.isn_bb, DL.all_b, DL.all_map, DL.sum_i, DL.eq_ii, DL.eq_bi, DL.eq_t0, DL.eq_l0, DL.ne_ss, DL.ne_ii, DL.ne_t0, DL.ne_l0, DL.ix_tup, DL.ix_lst, DL.ix_str, DL.in_c, DL.nin_c, DL.sl_str, DL.sl_tup, DL.sl_lst, DL.app_1, DL.pop_0, DL.ext_t, DL.tuple_l, DL.list_t, DL.list_l, DL.int_b, DL.int_i, DL.min_ii, DL.str_i, DL.str_b, DL.repr_1, DL.back_t, DL.tru_l, DL.at0, DL.at1, DL.at2, DL.at3]
      refine ⟨rfl, ?_⟩
      refine ⟨.str a, rfl, decide_eq_true (by omega), fun S1 s1 => ?_⟩
      cases h1 : nameS a with
      | false =>
        rw [h1] at h
        simp only [nameB, h1]
        simp only [dNext, dSeq, dDrop, dRet, dRetN, dIfS, dCont, dBreak, dSet, dAsg, dPar, dSetI, dFor, dVar, dC, dOp, dUn, dTest, dChain, dAnd, dOr, dNot, dAndV, dOrV, dNotV, dIf, dNil, dCons, dTup, dLst, dLstM, dNoPart, dPart, dSl, dCB, dMtL, dMt0, dMtS, dMtS0, dTru, dLc, dItS, dItStr, dRng1, dRng2, dRev, dRevM, dDic0, dstart, slot, asB_bl, asI_int, asS_str, cond_true, cond_false, List.map_cons, List.map_nil, List.length_cons, List.length_nil, List.set_cons_zero, List.set_cons_succ, Option.elim_some, Option.elim_none, List.cons_append, List.nil_append, List.replicate, Nat.sub_self, Nat.reduceSub, Nat.reduceAdd, Bool.not_true, Bool.not_false, setAll, Int.cast_ofNat_Int, Nat.zero_add, Int.reduceLT, Int.reduceLE, Int.reduceBEq, Nat.reduceBEq, decide_true, decide_false, DL.pred_s, DL.len_str, DL.len_tup, DL.len_lst, DL.le_ii, DL.le_ss, DL.cmp_ii, DL.add_ii, DL.add_ib, DL.add_bi, DL.add_ss, DL.add_tt, DL.add_ll, DL.sub_ii, DL.sub_ib, DL.sub_bi, DL.mul_ii, DL.ii_ii, DL.neg_i, DL.is_bb, DL.isn_bb, DL.all_b, DL.all_map, DL.sum_i, DL.eq_ii, DL.eq_bi, DL.eq_t0, DL.eq_l0, DL.ne_ss, DL.ne_ii, DL.ne_t0, DL.ne_l0, DL.ix_tup, DL.ix_lst, DL.ix_str, DL.in_c, DL.nin_c, DL.sl_str, DL.sl_tup, DL.sl_lst, DL.app_1, DL.pop_0, DL.ext_t, DL.tuple_l, DL.list_t, DL.list_l, DL.int_b, DL.int_i, DL.min_ii, DL.str_i, DL.str_b, DL.repr_1, DL.back_t, DL.tru_l, DL.at0, DL.at1, DL.at2, DL.at3]
        exact h S1 s1
      | true =>
        rw [h1] at h
        simp only [nameB, h1]
        simp only [dNext, dSeq, dDrop, dRet, dRetN, dIfS, dCont, dBreak, dSet, dAsg, dPar, dSetI, dFor, dVar, dC, dOp, dUn, dTest, dChain, dAnd, dOr, dNot, dAndV, dOrV, dNotV, dIf, dNil, dCons, dTup, dLst, dLstM, dNoPart, dPart, dSl, dCB, dMtL, dMt0, dMtS, dMtS0, dTru, dLc, dItS, dItStr, dRng1, dRng2, dRev, dRevM, dDic0, dstart, slot, asB_bl, asI_int, asS_str, cond_true, cond_false, List.map_cons, List.map_nil, List.length_cons, List.length_nil, List.set_cons_zero, List.set_cons_succ, Option.elim_some, Option.elim_none, List.cons_append, List.nil_append, List.replicate, Nat.sub_self, Nat.reduceSub, Nat.reduceAdd, Bool.not_true, Bool.not_false, setAll, Int.cast_ofNat_Int, Nat.zero_add, Int.reduceLT, Int.reduceLE, Int.reduceBEq, Nat.reduceBEq, decide_true, decide_false, DL.pred_s, DL.len_str, DL.len_tup, DL.len_lst, DL.le_ii, DL.le_ss, DL.cmp_ii, DL.add_ii, DL.add_ib, DL.add_bi, DL.add_ss, DL.add_tt, DL.add_ll, DL.sub_ii, DL.sub_ib, DL.sub_bi, DL.mul_ii, DL.ii_ii, DL.neg_i, DL.is_bb, DL.isn_bb, DL.all_b, DL.all_map, DL.sum_i, DL.eq_ii, DL.eq_bi, DL.eq_t0, DL.eq_l0, DL.ne_ss, DL.ne_ii, DL.ne_t0, DL.ne_l0, DL.ix_tup, DL.ix_lst, DL.ix_str, DL.in_c, DL.nin_c, DL.sl_str, DL.sl_tup, DL.sl_lst, DL.app_1, DL.pop_0, DL.ext_t, DL.tuple_l, DL.list_t, DL.list_l, DL.int_b, DL.int_i, DL.min_ii, DL.str_i, DL.str_b, DL.repr_1, DL.back_t, DL.tru_l, DL.at0, DL.at1, DL.at2, DL.at3] at h ⊢
        refine ⟨n, rfl, by omega, fun S2 s2 => ?_⟩
        cases h2 : figS n with
        | false => rw [h2] at h; exact h S2 (s1.trans s2)
        | true =>
          rw [h2] at h
          simp only [dNext, dSeq, dDrop, dRet, dRetN, dIfS, dCont, dBreak, dSet, dAsg, dPar, dSetI, dFor, dVar, dC, dOp, dUn, dTest, dChain, dAnd, dOr, dNot, dAndV, dOrV, dNotV, dIf, dNil, dCons, dTup, dLst, dLstM, dNoPart, dPart, dSl, dCB, dMtL, dMt0, dMtS, dMtS0, dTru, dLc, dItS, dItStr, dRng1, dRng2, dRev, dRevM, dDic0, dstart, slot, asB_bl, asI_int, asS_str, cond_true, cond_false, List.map_cons, List.map_nil, List.length_cons, List.length_nil, List.set_cons_zero, List.set_cons_succ, Option.elim_some, Option.elim_none, List.cons_append, List.nil_append, List.replicate, Nat.sub_self, Nat.reduceSub, Nat.reduceAdd, Bool.not_true, Bool.not_false, setAll, Int.cast_ofNat_Int, Nat.zero_add, Int.reduceLT, Int.reduceLE, Int.reduceBEq, Nat.reduceBEq, decide_true, decide_false, DL.pred_s, DL.len_str, DL.len_tup, DL.len_lst, DL.le_ii, DL.le_ss, DL.cmp_ii, DL.add_ii, DL.add_ib, DL.add_bi, DL.add_ss, DL.add_tt, DL.add_ll, DL.sub_ii, DL.sub_ib, DL.sub_bi, DL.mul_ii, DL.ii_ii, DL.neg_i, DL.is_bb, DL.isn_bb, DL.all_b, DL.all_map, DL.sum_i, DL.eq_ii, DL.eq_bi, DL.eq_t0, DL.eq_l0, DL.ne_ss, DL.ne_ii, DL.ne_t0, DL.ne_l0, DL.ix_tup, DL.ix_lst, DL.ix_str, DL.in_c, DL.nin_c, DL.sl_str, DL.sl_tup, DL.sl_lst, DL.app_1, DL.pop_0, DL.ext_t, DL.tuple_l, DL.list_t, DL.list_l, DL.int_b, DL.int_i, DL.min_ii, DL.str_i, DL.str_b, DL.repr_1, DL.back_t, DL.tru_l, DL.at0, DL.at1, DL.at2, DL.at3] at h ⊢
          cases h4 : !(n == ("0" : Str)) with
          | false => rw [h4] at h; exact h S2 (s1.trans s2)
          | true =>
            rw [h4] at h
            simp only [dNext, dSeq, dDrop, dRet, dRetN, dIfS, dCont, dBreak, dSet, dAsg, dPar, dSetI, dFor, dVar, dC, dOp, dUn, dTest, dChain, dAnd, dOr, dNot, dAndV, dOrV, dNotV, dIf, dNil, dCons, dTup, dLst, dLstM, dNoPart, dPart, dSl, dCB, dMtL, dMt0, dMtS, dMtS0, dTru, dLc, dItS, dItStr, dRng1, dRng2, dRev, dRevM, dDic0, dstart, slot, asB_bl, asI_int, asS_str, cond_true, cond_false, List.map_cons, List.map_nil, List.length_cons, List.length_nil, List.set_cons_zero, List.set_cons_succ, Option.elim_some, Option.elim_none, List.cons_append, List.nil_append, List.replicate, Nat.sub_self, Nat.reduceSub, Nat.reduceAdd, Bool.not_true, Bool.not_false, setAll, Int.cast_ofNat_Int, Nat.zero_add, Int.reduceLT, Int.reduceLE, Int.reduceBEq, Nat.reduceBEq, decide_true, decide_false, DL.pred_s, DL.len_str, DL.len_tup, DL.len_lst, DL.le_ii, DL.le_ss, DL.cmp_ii, DL.add_ii, DL.add_ib, DL.add_bi, DL.add_ss, DL.add_tt, DL.add_ll, DL.sub_ii, DL.sub_ib, DL.sub_bi, DL.mul_ii, DL.ii_ii, DL.neg_i, DL.is_bb, DL.isn_bb, DL.all_b, DL.all_map, DL.sum_i, DL.eq_ii, DL.eq_bi, DL.eq_t0, DL.eq_l0, DL.ne_ss, DL.ne_ii, DL.ne_t0, DL.ne_l0, DL.ix_tup, DL.ix_lst, DL.ix_str, DL.in_c, DL.nin_c, DL.sl_str, DL.sl_tup, DL.sl_lst, DL.app_1, DL.pop_0, DL.ext_t, DL.tuple_l, DL.list_t, DL.list_l, DL.int_b, DL.int_i, DL.min_ii, DL.str_i, DL.str_b, DL.repr_1, DL.back_t, DL.tru_l, DL.at0, DL.at1, DL.at2, DL.at3] at h ⊢
            exact ⟨.str b, rfl, decide_eq_true (by omega), fun S3 s3 => h S3 ((s1.trans s2).trans s3)⟩
    · have e0 : farS z = false := by
        unfold farS
        split
        · rename_i e; rw [e] at h3; exact absurd rfl h3
        · rfl
      simp only [farB, e0] at h
      have e1 : ((((Txt.split z dot).map DL.D.str).length : Int) == 3) = false := by
        rw [List.length_map]
        exact beq_eq_false_iff_ne.mpr (by omega)
      rw [e1]
      exact h S (.refl S)
  | _ => exact h S (.refl S)
abbrev st_is_near_or_far : Stmt := top 9
theorem sc_is_near_or_far : FnScope ["thing"] ["thing"] (defScope st_is_near_or_far) := ⟨rfl, rfl, rfl, by decide +kernel, rfl, by decide +kernel, by decide +kernel⟩
def calledB (d : D) : Bool := nameB d || farB d
def sp_is_near_or_far : DSp := spB (fun d => ok2 d = true) calledB
theorem len_is_near_or_far {ds : List D} {S : Sto} {P : DK} (h : sp_is_near_or_far ds S P) : ds.length = 1 := spB_len h
theorem ok_is_near_or_far {k : Nat}  (DD : Def K mg "is_near_or_far" st_is_near_or_far ["thing"]) (G_is_far : Has P w K mg base (k) "is_far" ["thing"] (sp_is_far)) (G_is_name : Has P w K mg base (k) "is_name" ["thing"] (sp_is_name)) : Has P w K mg base (k + 1) "is_near_or_far" ["thing"] (sp_is_near_or_far) := by
  refine DD.has sc_is_near_or_far (fun ds S P h => len_is_near_or_far h) (fun f cdv A outer s H hr hgd => ⟨_, (ss_one (s_ret (q_or (q_def G_is_name (hr.mono (by omega)) hgd (a_cons (q_var 0) a_nil)) (q_one (q_def G_is_far (hr.mono (by omega)) hgd (a_cons (q_var 0) a_nil)))))), fun ds S P h => ?_⟩)
  obtain ⟨d, rfl, hd, h⟩ := h
  simp only [dNext, dSeq, dDrop, dRet, dRetN, dIfS, dCont, dBreak, dSet, dAsg, dPar, dSetI, dFor, dVar, dC, dOp, dUn, dTest, dChain, dAnd, dOr, dNot, dAndV, dOrV, dNotV, dIf, dNil, dCons, dTup, dLst, dLstM, dNoPart, dPart, dSl, dCB, dMtL, dMt0, dMtS, dMtS0, dTru, dLc, dItS, dItStr, dRng1, dRng2, dRev, dRevM, dDic0, dstart, slot, asB_bl, asI_int, asS_str, cond_true, cond_false, List.map_cons, List.map_nil, List.length_cons, List.length_nil, List.set_cons_zero, List.set_cons_succ, Option.elim_some, Option.elim_none, List.cons_append, List.nil_append, List.replicate, Nat.sub_self, Nat.reduceSub, Nat.reduceAdd, Bool.not_true, Bool.not_false, setAll, Int.cast_ofNat_Int, Nat.zero_add, Int.reduceLT, Int.reduceLE, Int.reduceBEq, Nat.reduceBEq, decide_true, decide_false, DL.pred_s, DL.len_str, DL.len_tup, DL.len_lst, DL.le_ii, DL.le_ss, DL.cmp_ii, DL.add_ii, DL.add_ib, DL.add_bi, DL.add_ss, DL.add_tt, DL.add_ll, DL.sub_ii, DL.sub_ib, DL.sub_bi, DL.mul_ii, DL.ii_ii, DL.neg_i, DL.is_bb, DL.isn_bb, DL.all_b, DL.all_map, DL.sum_i, DL.eq_ii, DL.eq_bi, DL.eq_t0, DL.eq_l0, DL.ne_ss, DL.ne_ii, DL.ne_t0, DL.ne_l0, DL.ix_tup, DL.ix_lst, DL.ix_str, DL.in_c, DL.nin_c, DL.sl_str, DL.sl_tup, DL.sl_lst, DL.app_1, DL.pop_0, DL.ext_t, DL.tuple_l, DL.list_t, DL.list_l, DL.int_b, DL.int_i, DL.min_ii, DL.str_i, DL.str_b, DL.repr_1, DL.back_t, DL.tru_l, DL.at0, DL.at1, DL.at2, DL.at3]
  refine ⟨d, rfl, ok2_1 hd, fun S1 s1 => ?_⟩
  unfold calledB at h
  cases hn : nameB d with
  | true =>
    rw [hn] at h
    exact h S1 s1
  | false =>
    rw [hn] at h
    exact ⟨d, rfl, hd, fun S2 s2 => h S2 (s1.trans s2)⟩
abbrev st_is_mark : Stmt := top 10
theorem sc_is_mark : FnScope ["thing"] ["thing"] (defScope st_is_mark) := ⟨rfl, rfl, rfl, by decide +kernel, rfl, by decide +kernel, by decide +kernel⟩
def markB (d : D) : Bool := memS d ["run", "gone"]
def sp_is_mark : DSp := spB (fun d => flat d = true) markB
theorem len_is_mark {ds : List D} {S : Sto} {P : DK} (h : sp_is_mark ds S P) : ds.length = 1 := spB_len h
theorem ok_is_mark {k : Nat}  (DD : Def K mg "is_mark" st_is_mark ["thing"]) (C_MARKS : Con K mg "MARKS" co_MARKS) : Has P w K mg base (k + 1) "is_mark" ["thing"] (sp_is_mark) := by
  refine DD.has sc_is_mark (fun ds S P h => len_is_mark h) (fun f cdv A outer s H hr hgd => ⟨_, (ss_one (s_ret (q_cmp (op_inD (DL.Room.un0 hr)) (q_var 0) (q_con C_MARKS)))), fun ds S P h => ?_⟩)
  obtain ⟨d, rfl, hd, h⟩ := h
  simp only [dNext, dSeq, dDrop, dRet, dRetN, dIfS, dCont, dBreak, dSet, dAsg, dPar, dSetI, dFor, dVar, dC, dOp, dUn, dTest, dChain, dAnd, dOr, dNot, dAndV, dOrV, dNotV, dIf, dNil, dCons, dTup, dLst, dLstM, dNoPart, dPart, dSl, dCB, dMtL, dMt0, dMtS, dMtS0, dTru, dLc, dItS, dItStr, dRng1, dRng2, dRev, dRevM, dDic0, dstart, slot, asB_bl, asI_int, asS_str, cond_true, cond_false, List.map_cons, List.map_nil, List.length_cons, List.length_nil, List.set_cons_zero, List.set_cons_succ, Option.elim_some, Option.elim_none, List.cons_append, List.nil_append, List.replicate, Nat.sub_self, Nat.reduceSub, Nat.reduceAdd, Bool.not_true, Bool.not_false, setAll, Int.cast_ofNat_Int, Nat.zero_add, Int.reduceLT, Int.reduceLE, Int.reduceBEq, Nat.reduceBEq, decide_true, decide_false, DL.pred_s, DL.len_str, DL.len_tup, DL.len_lst, DL.le_ii, DL.le_ss, DL.cmp_ii, DL.add_ii, DL.add_ib, DL.add_bi, DL.add_ss, DL.add_tt, DL.add_ll, DL.sub_ii, DL.sub_ib, DL.sub_bi, DL.mul_ii, DL.ii_ii, DL.neg_i, DL.is_bb, DL.isn_bb, DL.all_b, DL.all_map, DL.sum_i, DL.eq_ii, DL.eq_bi, DL.eq_t0, DL.eq_l0, DL.ne_ss, DL.ne_ii, DL.ne_t0, DL.ne_l0, DL.ix_tup, DL.ix_lst, DL.ix_str, DL.in_c, DL.nin_c, DL.sl_str, DL.sl_tup, DL.sl_lst, DL.app_1, DL.pop_0, DL.ext_t, DL.tuple_l, DL.list_t, DL.list_l, DL.int_b, DL.int_i, DL.min_ii, DL.str_i, DL.str_b, DL.repr_1, DL.back_t, DL.tru_l, DL.at0, DL.at1, DL.at2, DL.at3]
  rw [DL.in_tt hd rfl]
  exact h S (.refl S)
abbrev st_is_leaf : Stmt := top 11
theorem sc_is_leaf : FnScope ["word", "told"] ["word", "told"] (defScope st_is_leaf) := ⟨rfl, rfl, rfl, by decide +kernel, rfl, by decide +kernel, by decide +kernel⟩
def le9 : D → Bool
  | .int i => decide (i ≤ 9)
  | _ => false
def hf2 (w x : D) : Bool := bif eqT w "at" then cnt x else bif eqT w "world" then (bif cnt x then le9 x else false) else bif eqT w "hole" then nameB x else false
def sp_is_leaf : DSp := fun ds S P => ∃ w x, ds = [w, x] ∧ flat w = true ∧ ok2 x = true ∧ ∀ S', Step [] S S' → P (.bl (hf2 w x)) S'
theorem len_is_leaf {ds : List D} {S : Sto} {P : DK} (h : sp_is_leaf ds S P) : ds.length = 2 := by obtain ⟨_, _, rfl, _⟩ := h; rfl
theorem ok_is_leaf {k : Nat}  (DD : Def K mg "is_leaf" st_is_leaf ["word", "told"]) (G_is_name : Has P w K mg base (k) "is_name" ["thing"] (sp_is_name)) (G_is_count : Has P w K mg base (k) "is_count" ["thing"] (sp_is_count)) (C_HIGHEST_WORLD : Con K mg "HIGHEST_WORLD" co_HIGHEST_WORLD) : Has P w K mg base (k + 1) "is_leaf" ["word", "told"] (sp_is_leaf) := by
  refine DD.has sc_is_leaf (fun ds S P h => len_is_leaf h) (fun f cdv A outer s H hr hgd => ⟨_, (ss_cons (s_if (t_cmp (op_eqD (DL.Room.un1 hr)) (q_var 0) q_str) (ss_one (s_ret (q_def G_is_count (hr.mono (by omega)) hgd (a_cons (q_var 1) a_nil)))) ss_nil)
      (ss_cons (s_if (t_cmp (op_eqD (DL.Room.un1 hr)) (q_var 0) q_str) (ss_one (s_ret (q_and (q_def G_is_count (hr.mono (by omega)) hgd (a_cons (q_var 1) a_nil)) (q_one (q_cmp op_leD (q_var 1) (q_con C_HIGHEST_WORLD)))))) ss_nil)
      (ss_one (s_ret (q_and (q_cmp (op_eqD (DL.Room.un1 hr)) (q_var 0) q_str) (q_one (q_def G_is_name (hr.mono (by omega)) hgd (a_cons (q_var 1) a_nil)))))))), fun ds S P h => ?_⟩)
  obtain ⟨w, x, rfl, fw, hx, h⟩ := h
  unfold hf2 at h
  simp only [dNext, dSeq, dDrop, dRet, dRetN, dIfS, dCont, dBreak, dSet, dAsg, dPar, dSetI, dFor, dVar, dC, dOp, dUn, dTest, dChain, dAnd, dOr, dNot, dAndV, dOrV, dNotV, dIf, dNil, dCons, dTup, dLst, dLstM, dNoPart, dPart, dSl, dCB, dMtL, dMt0, dMtS, dMtS0, dTru, dLc, dItS, dItStr, dRng1, dRng2, dRev, dRevM, dDic0, dstart, slot, asB_bl, asI_int, asS_str, cond_true, cond_false, List.map_cons, List.map_nil, List.length_cons, List.length_nil, List.set_cons_zero, List.set_cons_succ, Option.elim_some, Option.elim_none, List.cons_append, List.nil_append, List.replicate, Nat.sub_self, Nat.reduceSub, Nat.reduceAdd, Bool.not_true, Bool.not_false, setAll, Int.cast_ofNat_Int, Nat.zero_add, Int.reduceLT, Int.reduceLE, Int.reduceBEq, Nat.reduceBEq, decide_true, decide_false, DL.pred_s, DL.len_str, DL.len_tup, DL.len_lst, DL.le_ii, DL.le_ss, DL.cmp_ii, DL.add_ii, DL.add_ib, DL.add_bi, DL.add_ss, DL.add_tt, DL.add_ll, DL.sub_ii, DL.sub_ib, DL.sub_bi, DL.mul_ii, DL.ii_ii, DL.neg_i, DL.is_bb, DL.isn_bb, DL.all_b, DL.all_map, DL.sum_i, DL.eq_ii, DL.eq_bi, DL.eq_t0, DL.eq_l0, DL.ne_ss, DL.ne_ii, DL.ne_t0, DL.ne_l0, DL.ix_tup, DL.ix_lst, DL.ix_str, DL.in_c, DL.nin_c, DL.sl_str, DL.sl_tup, DL.sl_lst, DL.app_1, DL.pop_0, DL.ext_t, DL.tuple_l, DL.list_t, DL.list_l, DL.int_b, DL.int_i, DL.min_ii, DL.str_i, DL.str_b, DL.repr_1, DL.back_t, DL.tru_l, DL.at0, DL.at1, DL.at2, DL.at3]
  rw [DL.eq_str' fw]
  simp only [dNext, dSeq, dDrop, dRet, dRetN, dIfS, dCont, dBreak, dSet, dAsg, dPar, dSetI, dFor, dVar, dC, dOp, dUn, dTest, dChain, dAnd, dOr, dNot, dAndV, dOrV, dNotV, dIf, dNil, dCons, dTup, dLst, dLstM, dNoPart, dPart, dSl, dCB, dMtL, dMt0, dMtS, dMtS0, dTru, dLc, dItS, dItStr, dRng1, dRng2, dRev, dRevM, dDic0, dstart, slot, asB_bl, asI_int, asS_str, cond_true, cond_false, List.map_cons, List.map_nil, List.length_cons, List.length_nil, List.set_cons_zero, List.set_cons_succ, Option.elim_some, Option.elim_none, List.cons_append, List.nil_append, List.replicate, Nat.sub_self, Nat.reduceSub, Nat.reduceAdd, Bool.not_true, Bool.not_false, setAll, Int.cast_ofNat_Int, Nat.zero_add, Int.reduceLT, Int.reduceLE, Int.reduceBEq, Nat.reduceBEq, decide_true, decide_false, DL.pred_s, DL.len_str, DL.len_tup, DL.len_lst, DL.le_ii, DL.le_ss, DL.cmp_ii, DL.add_ii, DL.add_ib, DL.add_bi, DL.add_ss, DL.add_tt, DL.add_ll, DL.sub_ii, DL.sub_ib, DL.sub_bi, DL.mul_ii, DL.ii_ii, DL.neg_i, DL.is_bb, DL.isn_bb, DL.all_b, DL.all_map, DL.sum_i, DL.eq_ii, DL.eq_bi, DL.eq_t0, DL.eq_l0, DL.ne_ss, DL.ne_ii, DL.ne_t0, DL.ne_l0, DL.ix_tup, DL.ix_lst, DL.ix_str, DL.in_c, DL.nin_c, DL.sl_str, DL.sl_tup, DL.sl_lst, DL.app_1, DL.pop_0, DL.ext_t, DL.tuple_l, DL.list_t, DL.list_l, DL.int_b, DL.int_i, DL.min_ii, DL.str_i, DL.str_b, DL.repr_1, DL.back_t, DL.tru_l, DL.at0, DL.at1, DL.at2, DL.at3]
  cases e1 : eqT w "at" with
  | true =>
    rw [e1] at h
    simp only [dNext, dSeq, dDrop, dRet, dRetN, dIfS, dCont, dBreak, dSet, dAsg, dPar, dSetI, dFor, dVar, dC, dOp, dUn, dTest, dChain, dAnd, dOr, dNot, dAndV, dOrV, dNotV, dIf, dNil, dCons, dTup, dLst, dLstM, dNoPart, dPart, dSl, dCB, dMtL, dMt0, dMtS, dMtS0, dTru, dLc, dItS, dItStr, dRng1, dRng2, dRev, dRevM, dDic0, dstart, slot, asB_bl, asI_int, asS_str, cond_true, cond_false, List.map_cons, List.map_nil, List.length_cons, List.length_nil, List.set_cons_zero, List.set_cons_succ, Option.elim_some, Option.elim_none, List.cons_append, List.nil_append, List.replicate, Nat.sub_self, Nat.reduceSub, Nat.reduceAdd, Bool.not_true, Bool.not_false, setAll, Int.cast_ofNat_Int, Nat.zero_add, Int.reduceLT, Int.reduceLE, Int.reduceBEq, Nat.reduceBEq, decide_true, decide_false, DL.pred_s, DL.len_str, DL.len_tup, DL.len_lst, DL.le_ii, DL.le_ss, DL.cmp_ii, DL.add_ii, DL.add_ib, DL.add_bi, DL.add_ss, DL.add_tt, DL.add_ll, DL.sub_ii, DL.sub_ib, DL.sub_bi, DL.mul_ii, DL.ii_ii, DL.neg_i, DL.is_bb, DL.isn_bb, DL.all_b, DL.all_map, DL.sum_i, DL.eq_ii, DL.eq_bi, DL.eq_t0, DL.eq_l0, DL.ne_ss, DL.ne_ii, DL.ne_t0, DL.ne_l0, DL.ix_tup, DL.ix_lst, DL.ix_str, DL.in_c, DL.nin_c, DL.sl_str, DL.sl_tup, DL.sl_lst, DL.app_1, DL.pop_0, DL.ext_t, DL.tuple_l, DL.list_t, DL.list_l, DL.int_b, DL.int_i, DL.min_ii, DL.str_i, DL.str_b, DL.repr_1, DL.back_t, DL.tru_l, DL.at0, DL.at1, DL.at2, DL.at3] at h ⊢
    exact ⟨x, rfl, ok2_flat hx, h⟩
  | false =>
    rw [e1] at h
    simp only [dNext, dSeq, dDrop, dRet, dRetN, dIfS, dCont, dBreak, dSet, dAsg, dPar, dSetI, dFor, dVar, dC, dOp, dUn, dTest, dChain, dAnd, dOr, dNot, dAndV, dOrV, dNotV, dIf, dNil, dCons, dTup, dLst, dLstM, dNoPart, dPart, dSl, dCB, dMtL, dMt0, dMtS, dMtS0, dTru, dLc, dItS, dItStr, dRng1, dRng2, dRev, dRevM, dDic0, dstart, slot, asB_bl, asI_int, asS_str, cond_true, cond_false, List.map_cons, List.map_nil, List.length_cons, List.length_nil, List.set_cons_zero, List.set_cons_succ, Option.elim_some, Option.elim_none, List.cons_append, List.nil_append, List.replicate, Nat.sub_self, Nat.reduceSub, Nat.reduceAdd, Bool.not_true, Bool.not_false, setAll, Int.cast_ofNat_Int, Nat.zero_add, Int.reduceLT, Int.reduceLE, Int.reduceBEq, Nat.reduceBEq, decide_true, decide_false, DL.pred_s, DL.len_str, DL.len_tup, DL.len_lst, DL.le_ii, DL.le_ss, DL.cmp_ii, DL.add_ii, DL.add_ib, DL.add_bi, DL.add_ss, DL.add_tt, DL.add_ll, DL.sub_ii, DL.sub_ib, DL.sub_bi, DL.mul_ii, DL.ii_ii, DL.neg_i, DL.is_bb, DL.isn_bb, DL.all_b, DL.all_map, DL.sum_i, DL.eq_ii, DL.eq_bi, DL.eq_t0, DL.eq_l0, DL.ne_ss, DL.ne_ii, DL.ne_t0, DL.ne_l0, DL.ix_tup, DL.ix_lst, DL.ix_str, DL.in_c, DL.nin_c, DL.sl_str, DL.sl_tup, DL.sl_lst, DL.app_1, DL.pop_0, DL.ext_t, DL.tuple_l, DL.list_t, DL.list_l, DL.int_b, DL.int_i, DL.min_ii, DL.str_i, DL.str_b, DL.repr_1, DL.back_t, DL.tru_l, DL.at0, DL.at1, DL.at2, DL.at3] at h ⊢
    rw [DL.eq_str' fw]
    simp only [dNext, dSeq, dDrop, dRet, dRetN, dIfS, dCont, dBreak, dSet, dAsg, dPar, dSetI, dFor, dVar, dC, dOp, dUn, dTest, dChain, dAnd, dOr, dNot, dAndV, dOrV, dNotV, dIf, dNil, dCons, dTup, dLst, dLstM, dNoPart, dPart, dSl, dCB, dMtL, dMt0, dMtS, dMtS0, dTru, dLc, dItS, dItStr, dRng1, dRng2, dRev, dRevM, dDic0, dstart, slot, asB_bl, asI_int, asS_str, cond_true, cond_false, List.map_cons, List.map_nil, List.length_cons, List.length_nil, List.set_cons_zero, List.set_cons_succ, Option.elim_some, Option.elim_none, List.cons_append, List.nil_append, List.replicate, Nat.sub_self, Nat.reduceSub, Nat.reduceAdd, Bool.not_true, Bool.not_false, setAll, Int.cast_ofNat_Int, Nat.zero_add, Int.reduceLT, Int.reduceLE, Int.reduceBEq, Nat.reduceBEq, decide_true, decide_false, DL.pred_s, DL.len_str, DL.len_tup, DL.len_lst, DL.le_ii, DL.le_ss, DL.cmp_ii, DL.add_ii, DL.add_ib, DL.add_bi, DL.add_ss, DL.add_tt, DL.add_ll, DL.sub_ii, DL.sub_ib, DL.sub_bi, DL.mul_ii, DL.ii_ii, DL.neg_i, DL.is_bb, DL.isn_bb, DL.all_b, DL.all_map, DL.sum_i, DL.eq_ii, DL.eq_bi, DL.eq_t0, DL.eq_l0, DL.ne_ss, DL.ne_ii, DL.ne_t0, DL.ne_l0, DL.ix_tup, DL.ix_lst, DL.ix_str, DL.in_c, DL.nin_c, DL.sl_str, DL.sl_tup, DL.sl_lst, DL.app_1, DL.pop_0, DL.ext_t, DL.tuple_l, DL.list_t, DL.list_l, DL.int_b, DL.int_i, DL.min_ii, DL.str_i, DL.str_b, DL.repr_1, DL.back_t, DL.tru_l, DL.at0, DL.at1, DL.at2, DL.at3]
    cases e2 : eqT w "world" with
    | true =>
      rw [e2] at h
      simp only [dNext, dSeq, dDrop, dRet, dRetN, dIfS, dCont, dBreak, dSet, dAsg, dPar, dSetI, dFor, dVar, dC, dOp, dUn, dTest, dChain, dAnd, dOr, dNot, dAndV, dOrV, dNotV, dIf, dNil, dCons, dTup, dLst, dLstM, dNoPart, dPart, dSl, dCB, dMtL, dMt0, dMtS, dMtS0, dTru, dLc, dItS, dItStr, dRng1, dRng2, dRev, dRevM, dDic0, dstart, slot, asB_bl, asI_int, asS_str, cond_true, cond_false, List.map_cons, List.map_nil, List.length_cons, List.length_nil, List.set_cons_zero, List.set_cons_succ, Option.elim_some, Option.elim_none, List.cons_append, List.nil_append, List.replicate, Nat.sub_self, Nat.reduceSub, Nat.reduceAdd, Bool.not_true, Bool.not_false, setAll, Int.cast_ofNat_Int, Nat.zero_add, Int.reduceLT, Int.reduceLE, Int.reduceBEq, Nat.reduceBEq, decide_true, decide_false, DL.pred_s, DL.len_str, DL.len_tup, DL.len_lst, DL.le_ii, DL.le_ss, DL.cmp_ii, DL.add_ii, DL.add_ib, DL.add_bi, DL.add_ss, DL.add_tt, DL.add_ll, DL.sub_ii, DL.sub_ib, DL.sub_bi, DL.mul_ii, DL.ii_ii, DL.neg_i, DL.is_bb, DL.isn_bb, DL.all_b, DL.all_map, DL.sum_i, DL.eq_ii, DL.eq_bi, DL.eq_t0, DL.eq_l0, DL.ne_ss, DL.ne_ii, DL.ne_t0, DL.ne_l0, DL.ix_tup, DL.ix_lst, DL.ix_str, DL.in_c, DL.nin_c, DL.sl_str, DL.sl_tup, DL.sl_lst, DL.app_1, DL.pop_0, DL.ext_t, DL.tuple_l, DL.list_t, DL.list_l, DL.int_b, DL.int_i, DL.min_ii, DL.str_i, DL.str_b, DL.repr_1, DL.back_t, DL.tru_l, DL.at0, DL.at1, DL.at2, DL.at3] at h ⊢
      refine ⟨x, rfl, ok2_flat hx, fun S1 s1 => ?_⟩
      have h := h S1 s1
      simp only [dNext, dSeq, dDrop, dRet, dRetN, dIfS, dCont, dBreak, dSet, dAsg, dPar, dSetI, dFor, dVar, dC, dOp, dUn, dTest, dChain, dAnd, dOr, dNot, dAndV, dOrV, dNotV, dIf, dNil, dCons, dTup, dLst, dLstM, dNoPart, dPart, dSl, dCB, dMtL, dMt0, dMtS, dMtS0, dTru, dLc, dItS, dItStr, dRng1, dRng2, dRev, dRevM, dDic0, dstart, slot, asB_bl, asI_int, asS_str, cond_true, cond_false, List.map_cons, List.map_nil, List.length_cons, List.length_nil, List.set_cons_zero, List.set_cons_succ, Option.elim_some, Option.elim_none, List.cons_append, List.nil_append, List.replicate, Nat.sub_self, Nat.reduceSub, Nat.reduceAdd, Bool.not_true, Bool.not_false, setAll, Int.cast_ofNat_Int, Nat.zero_add, Int.reduceLT, Int.reduceLE, Int.reduceBEq, Nat.reduceBEq, decide_true, decide_false, DL.pred_s, DL.len_str, DL.len_tup, DL.len_lst, DL.le_ii, DL.le_ss, DL.cmp_ii, DL.add_ii, DL.add_ib, DL.add_bi, DL.add_ss, DL.add_tt, DL.add_ll, DL.sub_ii, DL.sub_ib, DL.sub_bi, DL.mul_ii, DL.ii_ii, DL.neg_i, DL.is_bb, DL.isn_bb, DL.all_b, DL.all_map, DL.sum_i, DL.eq_ii, DL.eq_bi, DL.eq_t0, DL.eq_l0, DL.ne_ss, DL.ne_ii, DL.ne_t0, DL.ne_l0, DL.ix_tup, DL.ix_lst, DL.ix_str, DL.in_c, DL.nin_c, DL.sl_str, DL.sl_tup, DL.sl_lst, DL.app_1, DL.pop_0, DL.ext_t, DL.tuple_l, DL.list_t, DL.list_l, DL.int_b, DL.int_i, DL.min_ii, DL.str_i, DL.str_b, DL.repr_1, DL.back_t, DL.tru_l, DL.at0, DL.at1, DL.at2, DL.at3]
      cases x with
      | int i =>
        cases e3 : cnt (.int i) with
        | true => rw [e3] at h; exact h
        | false => rw [e3] at h; exact h
      | _ => exact h
    | false =>
      rw [e2] at h
      simp only [dNext, dSeq, dDrop, dRet, dRetN, dIfS, dCont, dBreak, dSet, dAsg, dPar, dSetI, dFor, dVar, dC, dOp, dUn, dTest, dChain, dAnd, dOr, dNot, dAndV, dOrV, dNotV, dIf, dNil, dCons, dTup, dLst, dLstM, dNoPart, dPart, dSl, dCB, dMtL, dMt0, dMtS, dMtS0, dTru, dLc, dItS, dItStr, dRng1, dRng2, dRev, dRevM, dDic0, dstart, slot, asB_bl, asI_int, asS_str, cond_true, cond_false, List.map_cons, List.map_nil, List.length_cons, List.length_nil, List.set_cons_zero, List.set_cons_succ, Option.elim_some, Option.elim_none, List.cons_append, List.nil_append, List.replicate, Nat.sub_self, Nat.reduceSub, Nat.reduceAdd, Bool.not_true, Bool.not_false, setAll, Int.cast_ofNat_Int, Nat.zero_add, Int.reduceLT, Int.reduceLE, Int.reduceBEq, Nat.reduceBEq, decide_true, decide_false, DL.pred_s, DL.len_str, DL.len_tup, DL.len_lst, DL.le_ii, DL.le_ss, DL.cmp_ii, DL.add_ii, DL.add_ib, DL.add_bi, DL.add_ss, DL.add_tt, DL.add_ll, DL.sub_ii, DL.sub_ib, DL.sub_bi, DL.mul_ii, DL.ii_ii, DL.neg_i, DL.is_bb, DL.isn_bb, DL.all_b, DL.all_map, DL.sum_i, DL.eq_ii, DL.eq_bi, DL.eq_t0, DL.eq_l0, DL.ne_ss, DL.ne_ii, DL.ne_t0, DL.ne_l0, DL.ix_tup, DL.ix_lst, DL.ix_str, DL.in_c, DL.nin_c, DL.sl_str, DL.sl_tup, DL.sl_lst, DL.app_1, DL.pop_0, DL.ext_t, DL.tuple_l, DL.list_t, DL.list_l, DL.int_b, DL.int_i, DL.min_ii, DL.str_i, DL.str_b, DL.repr_1, DL.back_t, DL.tru_l, DL.at0, DL.at1, DL.at2, DL.at3] at h ⊢
      rw [DL.eq_str' fw]
      simp only [dNext, dSeq, dDrop, dRet, dRetN, dIfS, dCont, dBreak, dSet, dAsg, dPar, dSetI, dFor, dVar, dC, dOp, dUn, dTest, dChain, dAnd, dOr, dNot, dAndV, dOrV, dNotV, dIf, dNil, dCons, dTup, dLst, dLstM, dNoPart, dPart, dSl, dCB, dMtL, dMt0, dMtS, dMtS0, dTru, dLc, dItS, dItStr, dRng1, dRng2, dRev, dRevM, dDic0, dstart, slot, asB_bl, asI_int, asS_str, cond_true, cond_false, List.map_cons, List.map_nil, List.length_cons, List.length_nil, List.set_cons_zero, List.set_cons_succ, Option.elim_some, Option.elim_none, List.cons_append, List.nil_append, List.replicate, Nat.sub_self, Nat.reduceSub, Nat.reduceAdd, Bool.not_true, Bool.not_false, setAll, Int.cast_ofNat_Int, Nat.zero_add, Int.reduceLT, Int.reduceLE, Int.reduceBEq, Nat.reduceBEq, decide_true, decide_false, DL.pred_s, DL.len_str, DL.len_tup, DL.len_lst, DL.le_ii, DL.le_ss, DL.cmp_ii, DL.add_ii, DL.add_ib, DL.add_bi, DL.add_ss, DL.add_tt, DL.add_ll, DL.sub_ii, DL.sub_ib, DL.sub_bi, DL.mul_ii, DL.ii_ii, DL.neg_i, DL.is_bb, DL.isn_bb, DL.all_b, DL.all_map, DL.sum_i, DL.eq_ii, DL.eq_bi, DL.eq_t0, DL.eq_l0, DL.ne_ss, DL.ne_ii, DL.ne_t0, DL.ne_l0, DL.ix_tup, DL.ix_lst, DL.ix_str, DL.in_c, DL.nin_c, DL.sl_str, DL.sl_tup, DL.sl_lst, DL.app_1, DL.pop_0, DL.ext_t, DL.tuple_l, DL.list_t, DL.list_l, DL.int_b, DL.int_i, DL.min_ii, DL.str_i, DL.str_b, DL.repr_1, DL.back_t, DL.tru_l, DL.at0, DL.at1, DL.at2, DL.at3]
      cases e3 : eqT w "hole" with
      | true =>
        rw [e3] at h
        simp only [dNext, dSeq, dDrop, dRet, dRetN, dIfS, dCont, dBreak, dSet, dAsg, dPar, dSetI, dFor, dVar, dC, dOp, dUn, dTest, dChain, dAnd, dOr, dNot, dAndV, dOrV, dNotV, dIf, dNil, dCons, dTup, dLst, dLstM, dNoPart, dPart, dSl, dCB, dMtL, dMt0, dMtS, dMtS0, dTru, dLc, dItS, dItStr, dRng1, dRng2, dRev, dRevM, dDic0, dstart, slot, asB_bl, asI_int, asS_str, cond_true, cond_false, List.map_cons, List.map_nil, List.length_cons, List.length_nil, List.set_cons_zero, List.set_cons_succ, Option.elim_some, Option.elim_none, List.cons_append, List.nil_append, List.replicate, Nat.sub_self, Nat.reduceSub, Nat.reduceAdd, Bool.not_true, Bool.not_false, setAll, Int.cast_ofNat_Int, Nat.zero_add, Int.reduceLT, Int.reduceLE, Int.reduceBEq, Nat.reduceBEq, decide_true, decide_false, DL.pred_s, DL.len_str, DL.len_tup, DL.len_lst, DL.le_ii, DL.le_ss, DL.cmp_ii, DL.add_ii, DL.add_ib, DL.add_bi, DL.add_ss, DL.add_tt, DL.add_ll, DL.sub_ii, DL.sub_ib, DL.sub_bi, DL.mul_ii, DL.ii_ii, DL.neg_i, DL.is_bb, DL.isn_bb, DL.all_b, DL.all_map, DL.sum_i, DL.eq_ii, DL.eq_bi, DL.eq_t0, DL.eq_l0, DL.ne_ss, DL.ne_ii, DL.ne_t0, DL.ne_l0, DL.ix_tup, DL.ix_lst, DL.ix_str, DL.in_c, DL.nin_c, DL.sl_str, DL.sl_tup, DL.sl_lst, DL.app_1, DL.pop_0, DL.ext_t, DL.tuple_l, DL.list_t, DL.list_l, DL.int_b, DL.int_i, DL.min_ii, DL.str_i, DL.str_b, DL.repr_1, DL.back_t, DL.tru_l, DL.at0, DL.at1, DL.at2, DL.at3] at h ⊢
        exact ⟨x, rfl, ok2_1 hx, h⟩
      | false =>
        rw [e3] at h
        exact h S (.refl S)
abbrev st_formed_parts : Stmt := top 12
theorem sc_formed_parts : FnScope ["thing", "word", "fits"] ["thing"] (defScope st_formed_parts) := ⟨rfl, rfl, rfl, by decide +kernel, rfl, by decide +kernel, by decide +kernel⟩
abbrev tfg : List Str := ["to", "fun", "give"]
abbrev fc : List Str := ["family", "call"]
def hf3 (w x y : D) : Bool := bif eqT w "at" then false else bif eqT w "world" then false else bif eqT w "hole" then false else bif memS w tfg then false else bif memS w fc then (bif calledB x then isTu y else false) else false
def hf4 (w x y z : D) : Bool := bif eqT w "at" then false else bif eqT w "world" then false else bif eqT w "hole" then false else bif memS w tfg then markB x else bif memS w fc then false else bif eqT w "shape" then (bif calledB x then (bif nameB y then isTu z else false) else false) else false
def hfA : List D → Bool
  | [w, x] => hf2 w x
  | [w, x, y] => hf3 w x y
  | [w, x, y, z] => hf4 w x y z
  | _ => false
def hasForm : D → Bool
  | .tup ds => hfA ds
  | _ => false
/-- a tuple's items are short -/
def ok3 : D → Bool
  | .tup ds => ds.all ok2
  | d => flat d
theorem ok3_flat {d : D} (h : ok3 d = true) : flat d = true := by cases d <;> first | rfl | exact h
def partsD : List D → List D
  | [w, x, y, z] => bif memS w tfg then [y, z] else (match z with | .tup zs => zs | _ => [])
  | [_, _, y] => (match y with | .tup ys => ys | _ => [])
  | _ => []
theorem isTu_eq {d : D} (h : isTu d = true) : ∃ ts, d = .tup ts := by
  cases d with
  | tup ts => exact ⟨ts, rfl⟩
  | _ => cases h
theorem mem_eq2 (w : D) (a b : Str) : memS w [a, b] = (eqT w a || eqT w b) := by
  cases w with
  | str z => simp only [memS, DL.eqT, List.any_cons, List.any_nil, Bool.or_false, BEq.comm (a := z)]
  | _ => rfl
theorem mem_eq3 (w : D) (a b c : Str) : memS w [a, b, c] = (eqT w a || (eqT w b || eqT w c)) := by
  cases w with
  | str z => simp only [memS, DL.eqT, List.any_cons, List.any_nil, Bool.or_false, BEq.comm (a := z)]
  | _ => rfl
theorem hf3_eq (w x y : D) : hf3 w x y = bif (eqT w "family" || eqT w "call") then (bif calledB x then isTu y else false) else false := by
  unfold hf3
  rw [show memS w fc = (eqT w "family" || eqT w "call") from mem_eq2 w _ _]
  cases e1 : eqT w "family" with
  | true => rw [eqT_eq e1]; rfl
  | false => cases e2 : eqT w "call" with
    | true => rw [eqT_eq e2]; rfl
    | false => cases eqT w "at" <;> cases eqT w "world" <;> cases eqT w "hole" <;> cases memS w tfg <;> rfl
theorem hf4_eq (w x y z : D) : hf4 w x y z = bif eqT w "shape" then (bif calledB x then (bif nameB y then isTu z else false) else false) else bif memS w tfg then markB x else false := by
  unfold hf4
  cases e1 : eqT w "shape" with
  | true => rw [eqT_eq e1]; rfl
  | false =>
    cases e2 : memS w tfg with
    | true =>
      have q := e2
      rw [show memS w tfg = (eqT w "to" || (eqT w "fun" || eqT w "give")) from mem_eq3 w _ _ _] at q
      cases f1 : eqT w "to" with
      | true => rw [eqT_eq f1]; rfl
      | false => cases f2 : eqT w "fun" with
        | true => rw [eqT_eq f2]; rfl
        | false => cases f3 : eqT w "give" with
          | true => rw [eqT_eq f3]; rfl
          | false => rw [f1, f2, f3] at q; cases q
    | false => cases eqT w "at" <;> cases eqT w "world" <;> cases eqT w "hole" <;> cases memS w fc <;> rfl
def fpD : D → D
  | .tup ds => bif hfA ds then .tup (partsD ds) else .non
  | _ => .non
def sp_formed_parts : DSp := fun ds S P => ∃ d, ds = [d] ∧ ok3 d = true ∧ ∀ S', Step [] S S' → P (fpD d) S'
theorem len_formed_parts {ds : List D} {S : Sto} {P : DK} (h : sp_formed_parts ds S P) : ds.length = 1 := by obtain ⟨_, rfl, _⟩ := h; rfl
theorem ok_formed_parts {k : Nat}  (DD : Def K mg "formed_parts" st_formed_parts ["thing"]) (G_is_mark : Has P w K mg base (k) "is_mark" ["thing"] (sp_is_mark)) (G_is_name : Has P w K mg base (k) "is_name" ["thing"] (sp_is_name)) (G_is_near_or_far : Has P w K mg base (k) "is_near_or_far" ["thing"] (sp_is_near_or_far)) (G_is_leaf : Has P w K mg base (k) "is_leaf" ["word", "told"] (sp_is_leaf)) (m_isinstance : mg "isinstance" = none) (m_tuple : mg "tuple" = none) (m_len : mg "len" = none) : Has P w K mg base (k + 1) "formed_parts" ["thing"] (sp_formed_parts) := by
  refine DD.has sc_formed_parts (fun ds S P h => len_formed_parts h) (fun f cdv A outer s H hr hgd => ⟨_, (ss_cons (s_if (t_w (w_or (t_not (t_val (q_callB (c_isi) rfl m_isinstance DL.bb_isi (a_cons (q_var 0) (a_cons (q_ty rfl m_tuple DL.bt_tuple) a_nil))))) (w_or1 (t_not (t_chain op_leD op_leD q_int (q_callB (c_len) rfl m_len PySem.boot_len (a_cons (q_var 0) a_nil)) q_int))))) (ss_one (s_ret q_non)) ss_nil)
      (ss_cons (s_set 1 sc_formed_parts.nd (q_ix ix_D (q_var 0) q_int))
      (ss_cons (s_if (t_cmp (op_eqD (DL.Room.un1 hr)) (q_callB (c_len) rfl m_len PySem.boot_len (a_cons (q_var 0) a_nil)) q_int) (ss_one (s_ret (q_ifExp (t_val (q_def G_is_leaf (hr.mono (by omega)) hgd (a_cons (q_var 1) (a_cons (q_ix ix_D (q_var 0) q_int) a_nil)))) (q_tup a_nil) q_non))) ss_nil)
      (ss_cons (s_if (t_cmp (op_eqD (DL.Room.un1 hr)) (q_callB (c_len) rfl m_len PySem.boot_len (a_cons (q_var 0) a_nil)) q_int) (ss_cons (s_set 2 sc_formed_parts.nd (q_and (q_or (q_cmp (op_eqD (DL.Room.un1 hr)) (q_var 1) q_str) (q_one (q_cmp (op_eqD (DL.Room.un1 hr)) (q_var 1) q_str))) (q_one (q_callB (c_isi) rfl m_isinstance DL.bb_isi (a_cons (q_ix ix_D (q_var 0) q_int) (a_cons (q_ty rfl m_tuple DL.bt_tuple) a_nil))))))
      (ss_one (s_ret (q_ifExp (t_w (w_and (t_val (q_var 2)) (w_and1 (t_val (q_def G_is_near_or_far (hr.mono (by omega)) hgd (a_cons (q_ix ix_D (q_var 0) q_int) a_nil)))))) (q_ix ix_D (q_var 0) q_int) q_non)))) ss_nil)
      (ss_cons (s_if (t_cmp (op_eqD (DL.Room.un1 hr)) (q_var 1) q_str) (ss_cons (s_set 2 sc_formed_parts.nd (q_and (q_callB (c_isi) rfl m_isinstance DL.bb_isi (a_cons (q_ix ix_D (q_var 0) q_int) (a_cons (q_ty rfl m_tuple DL.bt_tuple) a_nil))) (q_and (q_def G_is_near_or_far (hr.mono (by omega)) hgd (a_cons (q_ix ix_D (q_var 0) q_int) a_nil)) (q_one (q_def G_is_name (hr.mono (by omega)) hgd (a_cons (q_ix ix_D (q_var 0) q_int) a_nil))))))
      (ss_one (s_ret (q_ifExp (t_val (q_var 2)) (q_ix ix_D (q_var 0) q_int) q_non)))) ss_nil)
      (ss_cons (s_set 2 sc_formed_parts.nd (q_and (q_or (q_cmp (op_eqD (DL.Room.un1 hr)) (q_var 1) q_str) (q_or (q_cmp (op_eqD (DL.Room.un1 hr)) (q_var 1) q_str) (q_one (q_cmp (op_eqD (DL.Room.un1 hr)) (q_var 1) q_str)))) (q_one (q_def G_is_mark (hr.mono (by omega)) hgd (a_cons (q_ix ix_D (q_var 0) q_int) a_nil)))))
      (ss_one (s_ret (q_ifExp (t_val (q_var 2)) (q_slice sl_D (q_var 0) (o_some q_int) o_none) q_non))))))))), fun ds S P h => ?_⟩)
  obtain ⟨d, rfl, hd, h⟩ := h
  have hf := ok3_flat hd
  refine seq_gen fun M hM => ?_
  refine if_gen fun M1 M2 e1 e2 => ?_
  simp only [↓DL.e_next, ↓DL.e_seq, ↓DL.e_drop, ↓DL.e_ret, ↓DL.e_retN, ↓DL.e_if, ↓DL.e_cont, ↓DL.e_break, ↓DL.e_set, ↓DL.e_asg, ↓DL.e_par, ↓DL.e_setI, ↓DL.e_for, ↓DL.e_var, ↓DL.e_c, ↓DL.e_op, ↓DL.e_un, ↓DL.e_test, ↓DL.e_chain, ↓DL.e_and, ↓DL.e_or, ↓DL.e_not, ↓DL.e_andV, ↓DL.e_orV, ↓DL.e_notV, ↓DL.e_ife, ↓DL.e_nil, ↓DL.e_cons, ↓DL.e_tup, ↓DL.e_lst, ↓DL.e_lstM, ↓DL.e_noPart, ↓DL.e_part, ↓DL.e_sl, ↓DL.e_cb, ↓DL.e_mtL, ↓DL.e_mt0, ↓DL.e_mtS, ↓DL.e_mtS0, ↓DL.e_tru, ↓DL.e_lc, ↓DL.e_itS, ↓DL.e_itStr, ↓DL.e_rng1, ↓DL.e_rev, ↓DL.e_dic0, ↓DL.e_dic1, ↓DL.e_s0, ↓DL.e_s1, ↓DL.e_ct, ↓DL.e_cf, dstart, slot, gN, ↓asB_bl, ↓asI_int, ↓asS_str, cond_true, cond_false, List.map_cons, List.map_nil, List.length_cons, List.length_nil, List.set_cons_zero, List.set_cons_succ, Option.elim_some, Option.elim_none, List.cons_append, List.nil_append, List.replicate, Nat.sub_self, Nat.reduceSub, Nat.reduceAdd, Bool.not_true, Bool.not_false, setAll, Int.cast_ofNat_Int, Int.reduceLT, Int.reduceLE, Int.reduceBEq, Nat.reduceBEq, decide_true, decide_false, ↓DL.pred_s, ↓DL.len_str, ↓DL.len_tup, ↓DL.len_lst, ↓DL.le_ii, ↓DL.le_ss, ↓DL.cmp_ii, ↓DL.add_ii, ↓DL.add_ib, ↓DL.add_bi, ↓DL.add_ss, ↓DL.add_tt, ↓DL.add_ll, ↓DL.sub_ii, ↓DL.sub_ib, ↓DL.sub_bi, ↓DL.mul_ii, ↓DL.ii_ii, ↓DL.neg_i, ↓DL.is_bb, ↓DL.isn_bb, ↓DL.all_b, ↓DL.all_map, ↓DL.sum_i, ↓DL.eq_ii, ↓DL.eq_bi, ↓DL.eq_t0, ↓DL.eq_l0, ↓DL.ne_ss, ↓DL.ne_ii, ↓DL.ne_t0, ↓DL.ne_l0, ↓DL.ix_tup, ↓DL.ix_lst, ↓DL.ix_str, ↓DL.in_c, ↓DL.nin_c, ↓DL.sl_str, ↓DL.sl_tup, ↓DL.sl_lst, ↓DL.app_1, ↓DL.pop_0, ↓DL.ext_t, ↓DL.tuple_l, ↓DL.list_t, ↓DL.list_l, ↓DL.int_b, ↓DL.int_i, ↓DL.min_ii, ↓DL.str_i, ↓DL.str_b, ↓DL.repr_1, ↓DL.back_t, ↓DL.tru_l, ↓DL.at0, ↓DL.at1, ↓DL.at2, ↓DL.at3, ↓DL.e_fs, ↓DL.e_callL, ↓DL.e_never, ↓DL.e_dicM, ↓DL.e_dicS, ↓DL.e_dget, ↓DL.e_dput, ↓DL.e_forK, ↓DL.e_isN, ↓DL.e_revI, ↓DL.e_varF, ↓DL.fs_s, ↓DL.fs_i, ↓DL.get_d, ↓DL.rev_t, ↓DL.int_e, DL.isNon]
  rw [DL.isi_tup hf]
  simp only [↓DL.e_next, ↓DL.e_seq, ↓DL.e_drop, ↓DL.e_ret, ↓DL.e_retN, ↓DL.e_if, ↓DL.e_cont, ↓DL.e_break, ↓DL.e_set, ↓DL.e_asg, ↓DL.e_par, ↓DL.e_setI, ↓DL.e_for, ↓DL.e_var, ↓DL.e_c, ↓DL.e_op, ↓DL.e_un, ↓DL.e_test, ↓DL.e_chain, ↓DL.e_and, ↓DL.e_or, ↓DL.e_not, ↓DL.e_andV, ↓DL.e_orV, ↓DL.e_notV, ↓DL.e_ife, ↓DL.e_nil, ↓DL.e_cons, ↓DL.e_tup, ↓DL.e_lst, ↓DL.e_lstM, ↓DL.e_noPart, ↓DL.e_part, ↓DL.e_sl, ↓DL.e_cb, ↓DL.e_mtL, ↓DL.e_mt0, ↓DL.e_mtS, ↓DL.e_mtS0, ↓DL.e_tru, ↓DL.e_lc, ↓DL.e_itS, ↓DL.e_itStr, ↓DL.e_rng1, ↓DL.e_rev, ↓DL.e_dic0, ↓DL.e_dic1, ↓DL.e_s0, ↓DL.e_s1, ↓DL.e_ct, ↓DL.e_cf, dstart, slot, gN, ↓asB_bl, ↓asI_int, ↓asS_str, cond_true, cond_false, List.map_cons, List.map_nil, List.length_cons, List.length_nil, List.set_cons_zero, List.set_cons_succ, Option.elim_some, Option.elim_none, List.cons_append, List.nil_append, List.replicate, Nat.sub_self, Nat.reduceSub, Nat.reduceAdd, Bool.not_true, Bool.not_false, setAll, Int.cast_ofNat_Int, Int.reduceLT, Int.reduceLE, Int.reduceBEq, Nat.reduceBEq, decide_true, decide_false, ↓DL.pred_s, ↓DL.len_str, ↓DL.len_tup, ↓DL.len_lst, ↓DL.le_ii, ↓DL.le_ss, ↓DL.cmp_ii, ↓DL.add_ii, ↓DL.add_ib, ↓DL.add_bi, ↓DL.add_ss, ↓DL.add_tt, ↓DL.add_ll, ↓DL.sub_ii, ↓DL.sub_ib, ↓DL.sub_bi, ↓DL.mul_ii, ↓DL.ii_ii, ↓DL.neg_i, ↓DL.is_bb, ↓DL.isn_bb, ↓DL.all_b, ↓DL.all_map, ↓DL.sum_i, ↓DL.eq_ii, ↓DL.eq_bi, ↓DL.eq_t0, ↓DL.eq_l0, ↓DL.ne_ss, ↓DL.ne_ii, ↓DL.ne_t0, ↓DL.ne_l0, ↓DL.ix_tup, ↓DL.ix_lst, ↓DL.ix_str, ↓DL.in_c, ↓DL.nin_c, ↓DL.sl_str, ↓DL.sl_tup, ↓DL.sl_lst, ↓DL.app_1, ↓DL.pop_0, ↓DL.ext_t, ↓DL.tuple_l, ↓DL.list_t, ↓DL.list_l, ↓DL.int_b, ↓DL.int_i, ↓DL.min_ii, ↓DL.str_i, ↓DL.str_b, ↓DL.repr_1, ↓DL.back_t, ↓DL.tru_l, ↓DL.at0, ↓DL.at1, ↓DL.at2, ↓DL.at3, ↓DL.e_fs, ↓DL.e_callL, ↓DL.e_never, ↓DL.e_dicM, ↓DL.e_dicS, ↓DL.e_dget, ↓DL.e_dput, ↓DL.e_forK, ↓DL.e_isN, ↓DL.e_revI, ↓DL.e_varF, ↓DL.fs_s, ↓DL.fs_i, ↓DL.get_d, ↓DL.rev_t, ↓DL.int_e, DL.isNon]
  have g1 : fpD d = .non → M1 S := fun e => by
    subst e1
    simp only [↓DL.e_next, ↓DL.e_seq, ↓DL.e_drop, ↓DL.e_ret, ↓DL.e_retN, ↓DL.e_if, ↓DL.e_cont, ↓DL.e_break, ↓DL.e_set, ↓DL.e_asg, ↓DL.e_par, ↓DL.e_setI, ↓DL.e_for, ↓DL.e_var, ↓DL.e_c, ↓DL.e_op, ↓DL.e_un, ↓DL.e_test, ↓DL.e_chain, ↓DL.e_and, ↓DL.e_or, ↓DL.e_not, ↓DL.e_andV, ↓DL.e_orV, ↓DL.e_notV, ↓DL.e_ife, ↓DL.e_nil, ↓DL.e_cons, ↓DL.e_tup, ↓DL.e_lst, ↓DL.e_lstM, ↓DL.e_noPart, ↓DL.e_part, ↓DL.e_sl, ↓DL.e_cb, ↓DL.e_mtL, ↓DL.e_mt0, ↓DL.e_mtS, ↓DL.e_mtS0, ↓DL.e_tru, ↓DL.e_lc, ↓DL.e_itS, ↓DL.e_itStr, ↓DL.e_rng1, ↓DL.e_rev, ↓DL.e_dic0, ↓DL.e_dic1, ↓DL.e_s0, ↓DL.e_s1, ↓DL.e_ct, ↓DL.e_cf, dstart, slot, gN, ↓asB_bl, ↓asI_int, ↓asS_str, cond_true, cond_false, List.map_cons, List.map_nil, List.length_cons, List.length_nil, List.set_cons_zero, List.set_cons_succ, Option.elim_some, Option.elim_none, List.cons_append, List.nil_append, List.replicate, Nat.sub_self, Nat.reduceSub, Nat.reduceAdd, Bool.not_true, Bool.not_false, setAll, Int.cast_ofNat_Int, Int.reduceLT, Int.reduceLE, Int.reduceBEq, Nat.reduceBEq, decide_true, decide_false, ↓DL.pred_s, ↓DL.len_str, ↓DL.len_tup, ↓DL.len_lst, ↓DL.le_ii, ↓DL.le_ss, ↓DL.cmp_ii, ↓DL.add_ii, ↓DL.add_ib, ↓DL.add_bi, ↓DL.add_ss, ↓DL.add_tt, ↓DL.add_ll, ↓DL.sub_ii, ↓DL.sub_ib, ↓DL.sub_bi, ↓DL.mul_ii, ↓DL.ii_ii, ↓DL.neg_i, ↓DL.is_bb, ↓DL.isn_bb, ↓DL.all_b, ↓DL.all_map, ↓DL.sum_i, ↓DL.eq_ii, ↓DL.eq_bi, ↓DL.eq_t0, ↓DL.eq_l0, ↓DL.ne_ss, ↓DL.ne_ii, ↓DL.ne_t0, ↓DL.ne_l0, ↓DL.ix_tup, ↓DL.ix_lst, ↓DL.ix_str, ↓DL.in_c, ↓DL.nin_c, ↓DL.sl_str, ↓DL.sl_tup, ↓DL.sl_lst, ↓DL.app_1, ↓DL.pop_0, ↓DL.ext_t, ↓DL.tuple_l, ↓DL.list_t, ↓DL.list_l, ↓DL.int_b, ↓DL.int_i, ↓DL.min_ii, ↓DL.str_i, ↓DL.str_b, ↓DL.repr_1, ↓DL.back_t, ↓DL.tru_l, ↓DL.at0, ↓DL.at1, ↓DL.at2, ↓DL.at3, ↓DL.e_fs, ↓DL.e_callL, ↓DL.e_never, ↓DL.e_dicM, ↓DL.e_dicS, ↓DL.e_dget, ↓DL.e_dput, ↓DL.e_forK, ↓DL.e_isN, ↓DL.e_revI, ↓DL.e_varF, ↓DL.fs_s, ↓DL.fs_i, ↓DL.get_d, ↓DL.rev_t, ↓DL.int_e, DL.isNon]
    have := h S (.refl S)
    rw [e] at this
    exact this
  cases d with
  | tup ds =>
    simp only [DL.isTu]
    simp only [↓DL.e_next, ↓DL.e_seq, ↓DL.e_drop, ↓DL.e_ret, ↓DL.e_retN, ↓DL.e_if, ↓DL.e_cont, ↓DL.e_break, ↓DL.e_set, ↓DL.e_asg, ↓DL.e_par, ↓DL.e_setI, ↓DL.e_for, ↓DL.e_var, ↓DL.e_c, ↓DL.e_op, ↓DL.e_un, ↓DL.e_test, ↓DL.e_chain, ↓DL.e_and, ↓DL.e_or, ↓DL.e_not, ↓DL.e_andV, ↓DL.e_orV, ↓DL.e_notV, ↓DL.e_ife, ↓DL.e_nil, ↓DL.e_cons, ↓DL.e_tup, ↓DL.e_lst, ↓DL.e_lstM, ↓DL.e_noPart, ↓DL.e_part, ↓DL.e_sl, ↓DL.e_cb, ↓DL.e_mtL, ↓DL.e_mt0, ↓DL.e_mtS, ↓DL.e_mtS0, ↓DL.e_tru, ↓DL.e_lc, ↓DL.e_itS, ↓DL.e_itStr, ↓DL.e_rng1, ↓DL.e_rev, ↓DL.e_dic0, ↓DL.e_dic1, ↓DL.e_s0, ↓DL.e_s1, ↓DL.e_ct, ↓DL.e_cf, dstart, slot, gN, ↓asB_bl, ↓asI_int, ↓asS_str, cond_true, cond_false, List.map_cons, List.map_nil, List.length_cons, List.length_nil, List.set_cons_zero, List.set_cons_succ, Option.elim_some, Option.elim_none, List.cons_append, List.nil_append, List.replicate, Nat.sub_self, Nat.reduceSub, Nat.reduceAdd, Bool.not_true, Bool.not_false, setAll, Int.cast_ofNat_Int, Int.reduceLT, Int.reduceLE, Int.reduceBEq, Nat.reduceBEq, decide_true, decide_false, ↓DL.pred_s, ↓DL.len_str, ↓DL.len_tup, ↓DL.len_lst, ↓DL.le_ii, ↓DL.le_ss, ↓DL.cmp_ii, ↓DL.add_ii, ↓DL.add_ib, ↓DL.add_bi, ↓DL.add_ss, ↓DL.add_tt, ↓DL.add_ll, ↓DL.sub_ii, ↓DL.sub_ib, ↓DL.sub_bi, ↓DL.mul_ii, ↓DL.ii_ii, ↓DL.neg_i, ↓DL.is_bb, ↓DL.isn_bb, ↓DL.all_b, ↓DL.all_map, ↓DL.sum_i, ↓DL.eq_ii, ↓DL.eq_bi, ↓DL.eq_t0, ↓DL.eq_l0, ↓DL.ne_ss, ↓DL.ne_ii, ↓DL.ne_t0, ↓DL.ne_l0, ↓DL.ix_tup, ↓DL.ix_lst, ↓DL.ix_str, ↓DL.in_c, ↓DL.nin_c, ↓DL.sl_str, ↓DL.sl_tup, ↓DL.sl_lst, ↓DL.app_1, ↓DL.pop_0, ↓DL.ext_t, ↓DL.tuple_l, ↓DL.list_t, ↓DL.list_l, ↓DL.int_b, ↓DL.int_i, ↓DL.min_ii, ↓DL.str_i, ↓DL.str_b, ↓DL.repr_1, ↓DL.back_t, ↓DL.tru_l, ↓DL.at0, ↓DL.at1, ↓DL.at2, ↓DL.at3, ↓DL.e_fs, ↓DL.e_callL, ↓DL.e_never, ↓DL.e_dicM, ↓DL.e_dicS, ↓DL.e_dget, ↓DL.e_dput, ↓DL.e_forK, ↓DL.e_isN, ↓DL.e_revI, ↓DL.e_varF, ↓DL.fs_s, ↓DL.fs_i, ↓DL.get_d, ↓DL.rev_t, ↓DL.int_e, DL.isNon]
    have hd : ds.all ok2 = true := hd
    match ds, hd, h, g1 with
    | [], _, h, g1 => exact g1 rfl
    | [_], _, h, g1 => exact g1 rfl
    | [w, x], hd, h, g1 =>
      have hw : ok2 w = true := by simp only [List.all_cons, Bool.and_eq_true] at hd; exact hd.1
      have hx : ok2 x = true := by simp only [List.all_cons, Bool.and_eq_true] at hd; exact hd.2.1
      have fw := ok2_flat hw
      show M2 S
      subst e2
      simp only [↓DL.e_next]
      subst hM
      simp only [↓DL.e_next, ↓DL.e_seq, ↓DL.e_drop, ↓DL.e_ret, ↓DL.e_retN, ↓DL.e_if, ↓DL.e_cont, ↓DL.e_break, ↓DL.e_set, ↓DL.e_asg, ↓DL.e_par, ↓DL.e_setI, ↓DL.e_for, ↓DL.e_var, ↓DL.e_c, ↓DL.e_op, ↓DL.e_un, ↓DL.e_test, ↓DL.e_chain, ↓DL.e_and, ↓DL.e_or, ↓DL.e_not, ↓DL.e_andV, ↓DL.e_orV, ↓DL.e_notV, ↓DL.e_ife, ↓DL.e_nil, ↓DL.e_cons, ↓DL.e_tup, ↓DL.e_lst, ↓DL.e_lstM, ↓DL.e_noPart, ↓DL.e_part, ↓DL.e_sl, ↓DL.e_cb, ↓DL.e_mtL, ↓DL.e_mt0, ↓DL.e_mtS, ↓DL.e_mtS0, ↓DL.e_tru, ↓DL.e_lc, ↓DL.e_itS, ↓DL.e_itStr, ↓DL.e_rng1, ↓DL.e_rev, ↓DL.e_dic0, ↓DL.e_dic1, ↓DL.e_s0, ↓DL.e_s1, ↓DL.e_ct, ↓DL.e_cf, dstart, slot, gN, ↓asB_bl, ↓asI_int, ↓asS_str, cond_true, cond_false, List.map_cons, List.map_nil, List.length_cons, List.length_nil, List.set_cons_zero, List.set_cons_succ, Option.elim_some, Option.elim_none, List.cons_append, List.nil_append, List.replicate, Nat.sub_self, Nat.reduceSub, Nat.reduceAdd, Bool.not_true, Bool.not_false, setAll, Int.cast_ofNat_Int, Int.reduceLT, Int.reduceLE, Int.reduceBEq, Nat.reduceBEq, decide_true, decide_false, ↓DL.pred_s, ↓DL.len_str, ↓DL.len_tup, ↓DL.len_lst, ↓DL.le_ii, ↓DL.le_ss, ↓DL.cmp_ii, ↓DL.add_ii, ↓DL.add_ib, ↓DL.add_bi, ↓DL.add_ss, ↓DL.add_tt, ↓DL.add_ll, ↓DL.sub_ii, ↓DL.sub_ib, ↓DL.sub_bi, ↓DL.mul_ii, ↓DL.ii_ii, ↓DL.neg_i, ↓DL.is_bb, ↓DL.isn_bb, ↓DL.all_b, ↓DL.all_map, ↓DL.sum_i, ↓DL.eq_ii, ↓DL.eq_bi, ↓DL.eq_t0, ↓DL.eq_l0, ↓DL.ne_ss, ↓DL.ne_ii, ↓DL.ne_t0, ↓DL.ne_l0, ↓DL.ix_tup, ↓DL.ix_lst, ↓DL.ix_str, ↓DL.in_c, ↓DL.nin_c, ↓DL.sl_str, ↓DL.sl_tup, ↓DL.sl_lst, ↓DL.app_1, ↓DL.pop_0, ↓DL.ext_t, ↓DL.tuple_l, ↓DL.list_t, ↓DL.list_l, ↓DL.int_b, ↓DL.int_i, ↓DL.min_ii, ↓DL.str_i, ↓DL.str_b, ↓DL.repr_1, ↓DL.back_t, ↓DL.tru_l, ↓DL.at0, ↓DL.at1, ↓DL.at2, ↓DL.at3, ↓DL.e_fs, ↓DL.e_callL, ↓DL.e_never, ↓DL.e_dicM, ↓DL.e_dicS, ↓DL.e_dget, ↓DL.e_dput, ↓DL.e_forK, ↓DL.e_isN, ↓DL.e_revI, ↓DL.e_varF, ↓DL.fs_s, ↓DL.fs_i, ↓DL.get_d, ↓DL.rev_t, ↓DL.int_e, DL.isNon]
      refine ⟨w, x, rfl, fw, hx, fun S1 s1 => ?_⟩
      have h := h S1 s1
      simp only [fpD, hfA, partsD] at h
      simp only [↓DL.e_next, ↓DL.e_seq, ↓DL.e_drop, ↓DL.e_ret, ↓DL.e_retN, ↓DL.e_if, ↓DL.e_cont, ↓DL.e_break, ↓DL.e_set, ↓DL.e_asg, ↓DL.e_par, ↓DL.e_setI, ↓DL.e_for, ↓DL.e_var, ↓DL.e_c, ↓DL.e_op, ↓DL.e_un, ↓DL.e_test, ↓DL.e_chain, ↓DL.e_and, ↓DL.e_or, ↓DL.e_not, ↓DL.e_andV, ↓DL.e_orV, ↓DL.e_notV, ↓DL.e_ife, ↓DL.e_nil, ↓DL.e_cons, ↓DL.e_tup, ↓DL.e_lst, ↓DL.e_lstM, ↓DL.e_noPart, ↓DL.e_part, ↓DL.e_sl, ↓DL.e_cb, ↓DL.e_mtL, ↓DL.e_mt0, ↓DL.e_mtS, ↓DL.e_mtS0, ↓DL.e_tru, ↓DL.e_lc, ↓DL.e_itS, ↓DL.e_itStr, ↓DL.e_rng1, ↓DL.e_rev, ↓DL.e_dic0, ↓DL.e_dic1, ↓DL.e_s0, ↓DL.e_s1, ↓DL.e_ct, ↓DL.e_cf, dstart, slot, gN, ↓asB_bl, ↓asI_int, ↓asS_str, cond_true, cond_false, List.map_cons, List.map_nil, List.length_cons, List.length_nil, List.set_cons_zero, List.set_cons_succ, Option.elim_some, Option.elim_none, List.cons_append, List.nil_append, List.replicate, Nat.sub_self, Nat.reduceSub, Nat.reduceAdd, Bool.not_true, Bool.not_false, setAll, Int.cast_ofNat_Int, Int.reduceLT, Int.reduceLE, Int.reduceBEq, Nat.reduceBEq, decide_true, decide_false, ↓DL.pred_s, ↓DL.len_str, ↓DL.len_tup, ↓DL.len_lst, ↓DL.le_ii, ↓DL.le_ss, ↓DL.cmp_ii, ↓DL.add_ii, ↓DL.add_ib, ↓DL.add_bi, ↓DL.add_ss, ↓DL.add_tt, ↓DL.add_ll, ↓DL.sub_ii, ↓DL.sub_ib, ↓DL.sub_bi, ↓DL.mul_ii, ↓DL.ii_ii, ↓DL.neg_i, ↓DL.is_bb, ↓DL.isn_bb, ↓DL.all_b, ↓DL.all_map, ↓DL.sum_i, ↓DL.eq_ii, ↓DL.eq_bi, ↓DL.eq_t0, ↓DL.eq_l0, ↓DL.ne_ss, ↓DL.ne_ii, ↓DL.ne_t0, ↓DL.ne_l0, ↓DL.ix_tup, ↓DL.ix_lst, ↓DL.ix_str, ↓DL.in_c, ↓DL.nin_c, ↓DL.sl_str, ↓DL.sl_tup, ↓DL.sl_lst, ↓DL.app_1, ↓DL.pop_0, ↓DL.ext_t, ↓DL.tuple_l, ↓DL.list_t, ↓DL.list_l, ↓DL.int_b, ↓DL.int_i, ↓DL.min_ii, ↓DL.str_i, ↓DL.str_b, ↓DL.repr_1, ↓DL.back_t, ↓DL.tru_l, ↓DL.at0, ↓DL.at1, ↓DL.at2, ↓DL.at3, ↓DL.e_fs, ↓DL.e_callL, ↓DL.e_never, ↓DL.e_dicM, ↓DL.e_dicS, ↓DL.e_dget, ↓DL.e_dput, ↓DL.e_forK, ↓DL.e_isN, ↓DL.e_revI, ↓DL.e_varF, ↓DL.fs_s, ↓DL.fs_i, ↓DL.get_d, ↓DL.rev_t, ↓DL.int_e, DL.isNon]
      cases e : hf2 w x with
      | true => rw [e] at h; exact ⟨by decide, h⟩
      | false => rw [e] at h; exact h
    | [w, x, y], hd, h, g1 =>
      have hw : ok2 w = true := by simp only [List.all_cons, Bool.and_eq_true] at hd; exact hd.1
      have hx : ok2 x = true := by simp only [List.all_cons, Bool.and_eq_true] at hd; exact hd.2.1
      have hy : ok2 y = true := by simp only [List.all_cons, Bool.and_eq_true] at hd; exact hd.2.2.1
      have fw := ok2_flat hw
      show M2 S
      subst e2
      simp only [↓DL.e_next]
      subst hM
      simp only [↓DL.e_next, ↓DL.e_seq, ↓DL.e_drop, ↓DL.e_ret, ↓DL.e_retN, ↓DL.e_if, ↓DL.e_cont, ↓DL.e_break, ↓DL.e_set, ↓DL.e_asg, ↓DL.e_par, ↓DL.e_setI, ↓DL.e_for, ↓DL.e_var, ↓DL.e_c, ↓DL.e_op, ↓DL.e_un, ↓DL.e_test, ↓DL.e_chain, ↓DL.e_and, ↓DL.e_or, ↓DL.e_not, ↓DL.e_andV, ↓DL.e_orV, ↓DL.e_notV, ↓DL.e_ife, ↓DL.e_nil, ↓DL.e_cons, ↓DL.e_tup, ↓DL.e_lst, ↓DL.e_lstM, ↓DL.e_noPart, ↓DL.e_part, ↓DL.e_sl, ↓DL.e_cb, ↓DL.e_mtL, ↓DL.e_mt0, ↓DL.e_mtS, ↓DL.e_mtS0, ↓DL.e_tru, ↓DL.e_lc, ↓DL.e_itS, ↓DL.e_itStr, ↓DL.e_rng1, ↓DL.e_rev, ↓DL.e_dic0, ↓DL.e_dic1, ↓DL.e_s0, ↓DL.e_s1, ↓DL.e_ct, ↓DL.e_cf, dstart, slot, gN, ↓asB_bl, ↓asI_int, ↓asS_str, cond_true, cond_false, List.map_cons, List.map_nil, List.length_cons, List.length_nil, List.set_cons_zero, List.set_cons_succ, Option.elim_some, Option.elim_none, List.cons_append, List.nil_append, List.replicate, Nat.sub_self, Nat.reduceSub, Nat.reduceAdd, Bool.not_true, Bool.not_false, setAll, Int.cast_ofNat_Int, Int.reduceLT, Int.reduceLE, Int.reduceBEq, Nat.reduceBEq, decide_true, decide_false, ↓DL.pred_s, ↓DL.len_str, ↓DL.len_tup, ↓DL.len_lst, ↓DL.le_ii, ↓DL.le_ss, ↓DL.cmp_ii, ↓DL.add_ii, ↓DL.add_ib, ↓DL.add_bi, ↓DL.add_ss, ↓DL.add_tt, ↓DL.add_ll, ↓DL.sub_ii, ↓DL.sub_ib, ↓DL.sub_bi, ↓DL.mul_ii, ↓DL.ii_ii, ↓DL.neg_i, ↓DL.is_bb, ↓DL.isn_bb, ↓DL.all_b, ↓DL.all_map, ↓DL.sum_i, ↓DL.eq_ii, ↓DL.eq_bi, ↓DL.eq_t0, ↓DL.eq_l0, ↓DL.ne_ss, ↓DL.ne_ii, ↓DL.ne_t0, ↓DL.ne_l0, ↓DL.ix_tup, ↓DL.ix_lst, ↓DL.ix_str, ↓DL.in_c, ↓DL.nin_c, ↓DL.sl_str, ↓DL.sl_tup, ↓DL.sl_lst, ↓DL.app_1, ↓DL.pop_0, ↓DL.ext_t, ↓DL.tuple_l, ↓DL.list_t, ↓DL.list_l, ↓DL.int_b, ↓DL.int_i, ↓DL.min_ii, ↓DL.str_i, ↓DL.str_b, ↓DL.repr_1, ↓DL.back_t, ↓DL.tru_l, ↓DL.at0, ↓DL.at1, ↓DL.at2, ↓DL.at3, ↓DL.e_fs, ↓DL.e_callL, ↓DL.e_never, ↓DL.e_dicM, ↓DL.e_dicS, ↓DL.e_dget, ↓DL.e_dput, ↓DL.e_forK, ↓DL.e_isN, ↓DL.e_revI, ↓DL.e_varF, ↓DL.fs_s, ↓DL.fs_i, ↓DL.get_d, ↓DL.rev_t, ↓DL.int_e, DL.isNon]
      simp only [fpD, hfA, partsD, hf3_eq] at h
      have fit : (DL.eqT w "family" || DL.eqT w "call") = true → isiD [y, D.ty "tuple"] S (fun d S1 => asB d fun b => bif b then sp_is_near_or_far [x] S1 (fun d S1 => asB d fun b => bif b then P y S1 else P D.non S1) else P D.non S1) := by
        intro q
        rw [q] at h
        rw [DL.isi_tup (ok2_flat hy)]
        simp only [↓asB_bl]
        cases e : isTu y with
        | false =>
          have h := h S (.refl S)
          rw [e] at h
          cases c : calledB x with
          | false => rw [c] at h; exact h
          | true => rw [c] at h; exact h
        | true =>
          obtain ⟨ts, rfl⟩ := isTu_eq e
          refine ⟨x, rfl, hx, fun S1 s1 => ?_⟩
          have h := h S1 s1
          rw [e] at h
          simp only [↓asB_bl]
          cases c : calledB x with
          | false => rw [c] at h; exact h
          | true => rw [c] at h; exact h
      rw [DL.eq_str' fw]
      simp only [↓asB_bl]
      cases f1 : DL.eqT w "family" with
      | true => exact fit (by rw [f1]; rfl)
      | false =>
        rw [cond_false, DL.eq_str' fw]
        simp only [↓asB_bl]
        cases f2 : DL.eqT w "call" with
        | true => exact fit (by rw [f2, Bool.or_true])
        | false =>
          have h := h S (.refl S)
          rw [f1, f2] at h
          exact h
    | [w, x, y, z], hd, h, g1 =>
      have hw : ok2 w = true := by simp only [List.all_cons, Bool.and_eq_true] at hd; exact hd.1
      have hx : ok2 x = true := by simp only [List.all_cons, Bool.and_eq_true] at hd; exact hd.2.1
      have hy : ok2 y = true := by simp only [List.all_cons, Bool.and_eq_true] at hd; exact hd.2.2.1
      have hz : ok2 z = true := by simp only [List.all_cons, Bool.and_eq_true] at hd; exact hd.2.2.2.1
      have fw := ok2_flat hw
      show M2 S
      subst e2
      simp only [↓DL.e_next]
      subst hM
      simp only [↓DL.e_next, ↓DL.e_seq, ↓DL.e_drop, ↓DL.e_ret, ↓DL.e_retN, ↓DL.e_if, ↓DL.e_cont, ↓DL.e_break, ↓DL.e_set, ↓DL.e_asg, ↓DL.e_par, ↓DL.e_setI, ↓DL.e_for, ↓DL.e_var, ↓DL.e_c, ↓DL.e_op, ↓DL.e_un, ↓DL.e_test, ↓DL.e_chain, ↓DL.e_and, ↓DL.e_or, ↓DL.e_not, ↓DL.e_andV, ↓DL.e_orV, ↓DL.e_notV, ↓DL.e_ife, ↓DL.e_nil, ↓DL.e_cons, ↓DL.e_tup, ↓DL.e_lst, ↓DL.e_lstM, ↓DL.e_noPart, ↓DL.e_part, ↓DL.e_sl, ↓DL.e_cb, ↓DL.e_mtL, ↓DL.e_mt0, ↓DL.e_mtS, ↓DL.e_mtS0, ↓DL.e_tru, ↓DL.e_lc, ↓DL.e_itS, ↓DL.e_itStr, ↓DL.e_rng1, ↓DL.e_rev, ↓DL.e_dic0, ↓DL.e_dic1, ↓DL.e_s0, ↓DL.e_s1, ↓DL.e_ct, ↓DL.e_cf, dstart, slot, gN, ↓asB_bl, ↓asI_int, ↓asS_str, cond_true, cond_false, List.map_cons, List.map_nil, List.length_cons, List.length_nil, List.set_cons_zero, List.set_cons_succ, Option.elim_some, Option.elim_none, List.cons_append, List.nil_append, List.replicate, Nat.sub_self, Nat.reduceSub, Nat.reduceAdd, Bool.not_true, Bool.not_false, setAll, Int.cast_ofNat_Int, Int.reduceLT, Int.reduceLE, Int.reduceBEq, Nat.reduceBEq, decide_true, decide_false, ↓DL.pred_s, ↓DL.len_str, ↓DL.len_tup, ↓DL.len_lst, ↓DL.le_ii, ↓DL.le_ss, ↓DL.cmp_ii, ↓DL.add_ii, ↓DL.add_ib, ↓DL.add_bi, ↓DL.add_ss, ↓DL.add_tt, ↓DL.add_ll, ↓DL.sub_ii, ↓DL.sub_ib, ↓DL.sub_bi, ↓DL.mul_ii, ↓DL.ii_ii, ↓DL.neg_i, ↓DL.is_bb, ↓DL.isn_bb, ↓DL.all_b, ↓DL.all_map, ↓DL.sum_i, ↓DL.eq_ii, ↓DL.eq_bi, ↓DL.eq_t0, ↓DL.eq_l0, ↓DL.ne_ss, ↓DL.ne_ii, ↓DL.ne_t0, ↓DL.ne_l0, ↓DL.ix_tup, ↓DL.ix_lst, ↓DL.ix_str, ↓DL.in_c, ↓DL.nin_c, ↓DL.sl_str, ↓DL.sl_tup, ↓DL.sl_lst, ↓DL.app_1, ↓DL.pop_0, ↓DL.ext_t, ↓DL.tuple_l, ↓DL.list_t, ↓DL.list_l, ↓DL.int_b, ↓DL.int_i, ↓DL.min_ii, ↓DL.str_i, ↓DL.str_b, ↓DL.repr_1, ↓DL.back_t, ↓DL.tru_l, ↓DL.at0, ↓DL.at1, ↓DL.at2, ↓DL.at3, ↓DL.e_fs, ↓DL.e_callL, ↓DL.e_never, ↓DL.e_dicM, ↓DL.e_dicS, ↓DL.e_dget, ↓DL.e_dput, ↓DL.e_forK, ↓DL.e_isN, ↓DL.e_revI, ↓DL.e_varF, ↓DL.fs_s, ↓DL.fs_i, ↓DL.get_d, ↓DL.rev_t, ↓DL.int_e, DL.isNon]
      simp only [fpD, hfA, hf4_eq] at h
      rw [DL.eq_str' fw]
      simp only [↓asB_bl]
      cases f0 : DL.eqT w "shape" with
      | true =>
        have ws := eqT_eq f0
        rw [f0] at h
        simp only [cond_true] at h ⊢
        rw [DL.isi_tup (ok2_flat hz)]
        simp only [↓asB_bl]
        cases e : isTu z with
        | false =>
          have h := h S (.refl S)
          rw [e] at h
          cases c : calledB x with
          | false => rw [c] at h; exact h
          | true => rw [c] at h; cases c2 : nameB y with
            | false => rw [c2] at h; exact h
            | true => rw [c2] at h; exact h
        | true =>
          obtain ⟨ts, rfl⟩ := isTu_eq e
          have pq : partsD [w, x, y, .tup ts] = ts := by rw [ws]; rfl
          rw [pq, e] at h
          refine ⟨x, rfl, hx, fun S1 s1 => ?_⟩
          simp only [↓asB_bl]
          cases c : calledB x with
          | false => have h := h S1 s1; rw [c] at h; exact h
          | true =>
            rw [c] at h
            refine ⟨y, rfl, ok2_1 hy, fun S2 s2 => ?_⟩
            have h := h S2 (s1.trans s2)
            simp only [↓asB_bl]
            cases c2 : nameB y with
            | false => rw [c2] at h; exact h
            | true => rw [c2] at h; exact h
      | false =>
        rw [f0] at h
        simp only [cond_false] at h ⊢
        rw [show DL.cutD [w, x, y, z] (some 2) none = [y, z] from DL.cut_from (n := 2) (by decide : 2 ≤ 4)]
        have m3 : memS w tfg = (DL.eqT w "to" || (DL.eqT w "fun" || DL.eqT w "give")) := mem_eq3 w _ _ _
        have fit : memS w tfg = true → sp_is_mark [x] S (fun d S1 => asB d fun b => bif b then P (D.tup [y, z]) S1 else P D.non S1) := by
          intro q
          have pq : partsD [w, x, y, z] = [y, z] := by simp only [partsD, q, cond_true]
          rw [q, pq] at h
          refine ⟨x, rfl, ok2_flat hx, fun S1 s1 => ?_⟩
          have h := h S1 s1
          simp only [↓asB_bl]
          cases c : markB x with
          | false => rw [c] at h; exact h
          | true => rw [c] at h; exact h
        rw [DL.eq_str' fw]
        simp only [↓asB_bl]
        cases f1 : DL.eqT w "give" with
        | true => exact fit (by rw [m3, f1, Bool.or_true, Bool.or_true])
        | false =>
          rw [cond_false, DL.eq_str' fw]
          simp only [↓asB_bl]
          cases f2 : DL.eqT w "fun" with
          | true => exact fit (by rw [m3, f2, Bool.true_or, Bool.or_true])
          | false =>
            rw [cond_false, DL.eq_str' fw]
            simp only [↓asB_bl]
            cases f3 : DL.eqT w "to" with
            | true => exact fit (by rw [m3, f3, Bool.true_or])
            | false =>
              have h := h S (.refl S)
              rw [m3, f1, f2, f3] at h
              exact h
    | _ :: _ :: _ :: _ :: _ :: r, hd, h, g1 =>
      have q : ∀ n : Nat, decide ((((n + 1 + 1 + 1 + 1 + 1 : Nat)) : Int) ≤ 4) = false := fun n => decide_eq_false (by omega)
      have q2 : ∀ n : Nat, decide ((2 : Int) ≤ ((n + 1 + 1 + 1 + 1 + 1 : Nat) : Int)) = true := fun n => decide_eq_true (by omega)
      rw [show ∀ (a b c d e : DL.D) (r : List DL.D), (a :: b :: c :: d :: e :: r).length = r.length + 1 + 1 + 1 + 1 + 1 from fun _ _ _ _ _ _ => rfl, q, q2]
      exact g1 rfl
  | _ => exact g1 rfl
abbrev st_told_holes : Stmt := top 13
theorem sc_told_holes : FnScope ["things", "found", "left", "here", "parts"] ["things"] (defScope st_told_holes) := ⟨rfl, rfl, rfl, by decide +kernel, rfl, by decide +kernel, by decide +kernel⟩
/-- what follows the form: the parts, by their own answers -/
def subB : List D → List (Bool × Bool) → Bool
  | [w, _, _, _], [_, _, b, c] => bif memS w tfg then b.1 && c.1 else c.2
  | [_, _, _], [_, _, b] => b.2
  | [_, _], _ => true
  | _, _ => false
mutual
/-- is a term; is a tuple of terms -/
def info : D → Bool × Bool
  | .tup ds => (hfA ds && subB ds (infoA ds), (infoA ds).all (·.1))
  | _ => (false, false)
def infoA : List D → List (Bool × Bool)
  | [] => []
  | d :: r => info d :: infoA r
end
def tB (d : D) : Bool := (info d).1
def tsB (d : D) : Bool := (info d).2
theorem infoA_all : ∀ ds : List D, (infoA ds).all (·.1) = ds.all tB
  | [] => by simp [infoA]
  | d :: r => by simp only [infoA, List.all_cons, infoA_all r]; rfl
theorem tsB_tup (ds : List D) : tsB (.tup ds) = ds.all tB := by
  show (info (.tup ds)).2 = _
  simp only [info]
  exact infoA_all ds
theorem tsB_isTu {d : D} (h : isTu d = true) : tsB d = (match d with | .tup zs => zs | _ => []).all tB := by
  obtain ⟨zs, rfl⟩ := isTu_eq h
  exact tsB_tup zs
theorem tB_tup {ds : List D} (h : hfA ds = true) : tB (.tup ds) = (partsD ds).all tB := by
  show (info (.tup ds)).1 = _
  simp only [info, h, Bool.true_and]
  match ds, h with
  | [], h => cases h
  | [_], h => cases h
  | [w, x], _ => simp only [infoA, subB, partsD, List.all_nil]
  | [w, x, y], h =>
    simp only [infoA, subB, partsD]
    have h : hf3 w x y = true := h
    have e : isTu y = true := by
      unfold hf3 at h
      revert h
      cases eqT w "at" <;> cases eqT w "world" <;> cases eqT w "hole" <;> cases memS w tfg <;> cases memS w fc <;> cases calledB x <;> simp
    exact tsB_isTu e
  | [w, x, y, z], h =>
    simp only [infoA, subB, partsD]
    have h : hf4 w x y z = true := h
    cases e4 : memS w tfg with
    | true => simp only [cond_true, List.all_cons, List.all_nil, Bool.and_true]; rfl
    | false =>
      have e : isTu z = true := by
        unfold hf4 at h
        rw [e4] at h
        revert h
        cases eqT w "at" <;> cases eqT w "world" <;> cases eqT w "hole" <;> cases memS w fc <;> cases eqT w "shape" <;> cases calledB x <;> cases nameB y <;> simp
      simp only [cond_false]
      exact tsB_isTu e
  | _ :: _ :: _ :: _ :: _ :: _, h => cases h
theorem tB_not {d : D} (h : hasForm d = false) : tB d = false := by
  cases d with
  | tup ds =>
    have h : hfA ds = false := h
    show (info (.tup ds)).1 = false
    simp only [info, h, Bool.false_and]
  | _ => rfl
theorem parts_sz {ds : List D} : szA (partsD ds) ≤ szA ds := by
  unfold partsD
  split
  · rename_i w x y z
    cases memS w tfg with
    | true => simp only [cond_true, szA]; omega
    | false =>
      simp only [cond_false]
      split
      · simp only [szA, sz]; omega
      · simp only [szA]; omega
  · split
    · simp only [szA, sz]; omega
    · simp only [szA]; omega
  · simp only [szA]; omega
theorem parts_good {k : Nat} {ds : List D} (h : goodA k ds = true) : goodA k (partsD ds) = true := by
  unfold partsD
  split
  · rename_i w x y z
    simp only [goodA, Bool.and_eq_true] at h
    cases memS w tfg with
    | true => simp only [cond_true, goodA, Bool.and_eq_true]; exact ⟨h.2.2.1, h.2.2.2.1, trivial⟩
    | false =>
      simp only [cond_false]
      split
      · simp only [good] at h; exact h.2.2.2.1
      · simp only [goodA]
  · simp only [goodA, Bool.and_eq_true] at h
    split
    · simp only [good] at h; exact h.2.2.1
    · simp only [goodA]
  · simp only [goodA]
theorem good_ok2 {k : Nat} {d : D} (hk : k ≤ 100) (h : good k d = true) : ok2 d = true := by
  cases d with
  | str z =>
    have := goodS_len (by simpa [good] using h)
    have := line_big
    exact decide_eq_true (by omega)
  | _ => first | rfl | simp [good] at h
theorem good_ok1 {k : Nat} {d : D} (hk : k ≤ 100) (h : good k d = true) : ok1 d = true := ok2_1 (good_ok2 hk h)
theorem goodA_ok2 {k : Nat} {ds : List D} (hk : k ≤ 100) (h : goodA k ds = true) : ds.all ok2 = true := List.all_eq_true.mpr fun d hd => good_ok2 hk (goodA_mem h hd)
theorem good_ok3 {k : Nat} {d : D} (hk : k ≤ 100) (h : good k d = true) : ok3 d = true := by
  cases d with
  | tup ds => exact goodA_ok2 hk (by simpa [good] using h)
  | _ => exact good_flat h
def sp_told_holes : DSp := fun ds S P => ∃ d, ds = [.lst [d]] ∧ good 9 d = true ∧ sz d ≤ 1000000 ∧ (tB d = false → ∀ S', Step [] S S' → P .non S') ∧ (tB d = true → ∀ f xs S', S' f = some (.lst xs) → Step [] S S' → P (.ref f) S')
theorem len_told_holes {ds : List D} {S : Sto} {P : DK} (h : sp_told_holes ds S P) : ds.length = 1 := by obtain ⟨_, rfl, _⟩ := h; rfl
theorem ok_told_holes {k : Nat}  (DD : Def K mg "told_holes" st_told_holes ["things"]) (G_formed_parts : Has P w K mg base (k) "formed_parts" ["thing"] (sp_formed_parts)) (m_list : mg "list" = none) : Has P w K mg base (k + 1) "told_holes" ["things"] (sp_told_holes) := by
  refine DD.has sc_told_holes (fun ds S P h => len_told_holes h) (fun f cdv A outer s H hr hgd => ⟨_, (ss_cons (s_set 1 sc_told_holes.nd (q_lstM a_nil))
      (ss_cons (s_set 2 sc_told_holes.nd (q_callTy (c_listM) rfl m_list DL.bt_list (a_cons (q_var 0) a_nil)))
      (ss_cons (s_while PassesOwn.never (t_tru (q_var 2)) (ss_cons (s_set 3 sc_told_holes.nd (q_mtL0 PySem.F.slot_list_pop PySem.F.type_list_pop m_pop (q_var 2)))
      (ss_cons (s_set 4 sc_told_holes.nd (q_def G_formed_parts (hr.mono (by omega)) hgd (a_cons (q_var 3) a_nil)))
      (ss_cons (s_if (t_isN (q_var 4)) (ss_one (s_ret q_non)) ss_nil)
      (ss_one (s_if (t_tru (q_var 4)) (ss_one (s_expr (q_mtL PySem.F.slot_list_extend PySem.F.type_list_extend m_extend (q_var 2) (a_cons (q_var 4) a_nil)))) (ss_one (s_if (t_cmp (op_eqD (DL.Room.un1 hr)) (q_ix ix_D (q_var 3) q_int) q_str) (ss_one (s_expr (q_mtL PySem.F.slot_list_append PySem.F.type_list_append m_append (q_var 1) (a_cons (q_ix ix_D (q_var 3) q_int) a_nil)))) ss_nil))))))))
      (ss_one (s_ret (q_var 1)))))), fun ds S P h => ?_⟩)
  obtain ⟨d, rfl, hg, hs, hF, hT⟩ := h
  have hline := line_big
  refine seq_gen fun M hM => ?_
  simp only [↓DL.e_next, ↓DL.e_seq, ↓DL.e_drop, ↓DL.e_ret, ↓DL.e_retN, ↓DL.e_if, ↓DL.e_cont, ↓DL.e_break, ↓DL.e_set, ↓DL.e_asg, ↓DL.e_par, ↓DL.e_setI, ↓DL.e_for, ↓DL.e_var, ↓DL.e_c, ↓DL.e_op, ↓DL.e_un, ↓DL.e_test, ↓DL.e_chain, ↓DL.e_and, ↓DL.e_or, ↓DL.e_not, ↓DL.e_andV, ↓DL.e_orV, ↓DL.e_notV, ↓DL.e_ife, ↓DL.e_nil, ↓DL.e_cons, ↓DL.e_tup, ↓DL.e_lst, ↓DL.e_lstM, ↓DL.e_noPart, ↓DL.e_part, ↓DL.e_sl, ↓DL.e_cb, ↓DL.e_mtL, ↓DL.e_mt0, ↓DL.e_mtS, ↓DL.e_mtS0, ↓DL.e_tru, ↓DL.e_lc, ↓DL.e_itS, ↓DL.e_itStr, ↓DL.e_rng1, ↓DL.e_rev, ↓DL.e_dic0, ↓DL.e_dic1, ↓DL.e_s0, ↓DL.e_s1, ↓DL.e_ct, ↓DL.e_cf, dstart, slot, gN, ↓asB_bl, ↓asI_int, ↓asS_str, cond_true, cond_false, List.map_cons, List.map_nil, List.length_cons, List.length_nil, List.set_cons_zero, List.set_cons_succ, Option.elim_some, Option.elim_none, List.cons_append, List.nil_append, List.replicate, Nat.sub_self, Nat.reduceSub, Nat.reduceAdd, Bool.not_true, Bool.not_false, setAll, Int.cast_ofNat_Int, Int.reduceLT, Int.reduceLE, Int.reduceBEq, Nat.reduceBEq, decide_true, decide_false, ↓DL.pred_s, ↓DL.len_str, ↓DL.len_tup, ↓DL.len_lst, ↓DL.le_ii, ↓DL.le_ss, ↓DL.cmp_ii, ↓DL.add_ii, ↓DL.add_ib, ↓DL.add_bi, ↓DL.add_ss, ↓DL.add_tt, ↓DL.add_ll, ↓DL.sub_ii, ↓DL.sub_ib, ↓DL.sub_bi, ↓DL.mul_ii, ↓DL.ii_ii, ↓DL.neg_i, ↓DL.is_bb, ↓DL.isn_bb, ↓DL.all_b, ↓DL.all_map, ↓DL.sum_i, ↓DL.eq_ii, ↓DL.eq_bi, ↓DL.eq_t0, ↓DL.eq_l0, ↓DL.ne_ss, ↓DL.ne_ii, ↓DL.ne_t0, ↓DL.ne_l0, ↓DL.ix_tup, ↓DL.ix_lst, ↓DL.ix_str, ↓DL.in_c, ↓DL.nin_c, ↓DL.sl_str, ↓DL.sl_tup, ↓DL.sl_lst, ↓DL.app_1, ↓DL.pop_0, ↓DL.ext_t, ↓DL.tuple_l, ↓DL.list_t, ↓DL.list_l, ↓DL.int_b, ↓DL.int_i, ↓DL.min_ii, ↓DL.str_i, ↓DL.str_b, ↓DL.repr_1, ↓DL.back_t, ↓DL.tru_l, ↓DL.at0, ↓DL.at1, ↓DL.at2, ↓DL.at3, ↓DL.e_fs, ↓DL.e_callL, ↓DL.e_never, ↓DL.e_dicM, ↓DL.e_dicS, ↓DL.e_dget, ↓DL.e_dput, ↓DL.e_forK, ↓DL.e_isN, ↓DL.e_revI, ↓DL.e_varF, ↓DL.fs_s, ↓DL.fs_i, ↓DL.get_d, ↓DL.rev_t, ↓DL.int_e, DL.isNon]
  refine ⟨by omega, fun q nq => ?_⟩
  subst hM
  refine seq_gen fun M hM => ?_
  simp only [↓DL.e_next, ↓DL.e_seq, ↓DL.e_drop, ↓DL.e_ret, ↓DL.e_retN, ↓DL.e_if, ↓DL.e_cont, ↓DL.e_break, ↓DL.e_set, ↓DL.e_asg, ↓DL.e_par, ↓DL.e_setI, ↓DL.e_for, ↓DL.e_var, ↓DL.e_c, ↓DL.e_op, ↓DL.e_un, ↓DL.e_test, ↓DL.e_chain, ↓DL.e_and, ↓DL.e_or, ↓DL.e_not, ↓DL.e_andV, ↓DL.e_orV, ↓DL.e_notV, ↓DL.e_ife, ↓DL.e_nil, ↓DL.e_cons, ↓DL.e_tup, ↓DL.e_lst, ↓DL.e_lstM, ↓DL.e_noPart, ↓DL.e_part, ↓DL.e_sl, ↓DL.e_cb, ↓DL.e_mtL, ↓DL.e_mt0, ↓DL.e_mtS, ↓DL.e_mtS0, ↓DL.e_tru, ↓DL.e_lc, ↓DL.e_itS, ↓DL.e_itStr, ↓DL.e_rng1, ↓DL.e_rev, ↓DL.e_dic0, ↓DL.e_dic1, ↓DL.e_s0, ↓DL.e_s1, ↓DL.e_ct, ↓DL.e_cf, dstart, slot, gN, ↓asB_bl, ↓asI_int, ↓asS_str, cond_true, cond_false, List.map_cons, List.map_nil, List.length_cons, List.length_nil, List.set_cons_zero, List.set_cons_succ, Option.elim_some, Option.elim_none, List.cons_append, List.nil_append, List.replicate, Nat.sub_self, Nat.reduceSub, Nat.reduceAdd, Bool.not_true, Bool.not_false, setAll, Int.cast_ofNat_Int, Int.reduceLT, Int.reduceLE, Int.reduceBEq, Nat.reduceBEq, decide_true, decide_false, ↓DL.pred_s, ↓DL.len_str, ↓DL.len_tup, ↓DL.len_lst, ↓DL.le_ii, ↓DL.le_ss, ↓DL.cmp_ii, ↓DL.add_ii, ↓DL.add_ib, ↓DL.add_bi, ↓DL.add_ss, ↓DL.add_tt, ↓DL.add_ll, ↓DL.sub_ii, ↓DL.sub_ib, ↓DL.sub_bi, ↓DL.mul_ii, ↓DL.ii_ii, ↓DL.neg_i, ↓DL.is_bb, ↓DL.isn_bb, ↓DL.all_b, ↓DL.all_map, ↓DL.sum_i, ↓DL.eq_ii, ↓DL.eq_bi, ↓DL.eq_t0, ↓DL.eq_l0, ↓DL.ne_ss, ↓DL.ne_ii, ↓DL.ne_t0, ↓DL.ne_l0, ↓DL.ix_tup, ↓DL.ix_lst, ↓DL.ix_str, ↓DL.in_c, ↓DL.nin_c, ↓DL.sl_str, ↓DL.sl_tup, ↓DL.sl_lst, ↓DL.app_1, ↓DL.pop_0, ↓DL.ext_t, ↓DL.tuple_l, ↓DL.list_t, ↓DL.list_l, ↓DL.int_b, ↓DL.int_i, ↓DL.min_ii, ↓DL.str_i, ↓DL.str_b, ↓DL.repr_1, ↓DL.back_t, ↓DL.tru_l, ↓DL.at0, ↓DL.at1, ↓DL.at2, ↓DL.at3, ↓DL.e_fs, ↓DL.e_callL, ↓DL.e_never, ↓DL.e_dicM, ↓DL.e_dicS, ↓DL.e_dget, ↓DL.e_dput, ↓DL.e_forK, ↓DL.e_isN, ↓DL.e_revI, ↓DL.e_varF, ↓DL.fs_s, ↓DL.fs_i, ↓DL.get_d, ↓DL.rev_t, ↓DL.int_e, DL.isNon]
  intro p np
  have qp : q ≠ p := fun e => by rw [← e, sup_same] at np; cases np
  subst hM
  refine seq_gen fun M hM => ?_
  have np0 : S p = none := by rw [sup_ne (Ne.symm qp)] at np; exact np
  refine ⟨fun m δ' S' => ∃ L F h3 h4, δ' = [some (.lst [d]), some (.ref q), some (.ref p), h3, h4] ∧ S' p = some (.lst L) ∧ S' q = some (.lst F) ∧ Step [] S S' ∧ goodA 9 L = true ∧ szA L = m ∧ F.length + szA L ≤ sz d ∧ L.all tB = tB d,
    ⟨sz d, [d], [], none, none, rfl, sup_same, by rw [sup_ne qp]; exact sup_same, (Step.new nq).trans (.new np), by simp [goodA, hg], by simp [szA], by simp [szA], by simp⟩, fun m δ' S' ⟨L, F, h3, h4, e0, e1, kq, s1, gL, em, eM, eT⟩ => ?_⟩
  subst e0
  simp only [↓DL.e_next, ↓DL.e_seq, ↓DL.e_drop, ↓DL.e_ret, ↓DL.e_retN, ↓DL.e_if, ↓DL.e_cont, ↓DL.e_break, ↓DL.e_set, ↓DL.e_asg, ↓DL.e_par, ↓DL.e_setI, ↓DL.e_for, ↓DL.e_var, ↓DL.e_c, ↓DL.e_op, ↓DL.e_un, ↓DL.e_test, ↓DL.e_chain, ↓DL.e_and, ↓DL.e_or, ↓DL.e_not, ↓DL.e_andV, ↓DL.e_orV, ↓DL.e_notV, ↓DL.e_ife, ↓DL.e_nil, ↓DL.e_cons, ↓DL.e_tup, ↓DL.e_lst, ↓DL.e_lstM, ↓DL.e_noPart, ↓DL.e_part, ↓DL.e_sl, ↓DL.e_cb, ↓DL.e_mtL, ↓DL.e_mt0, ↓DL.e_mtS, ↓DL.e_mtS0, ↓DL.e_tru, ↓DL.e_lc, ↓DL.e_itS, ↓DL.e_itStr, ↓DL.e_rng1, ↓DL.e_rev, ↓DL.e_dic0, ↓DL.e_dic1, ↓DL.e_s0, ↓DL.e_s1, ↓DL.e_ct, ↓DL.e_cf, dstart, slot, gN, ↓asB_bl, ↓asI_int, ↓asS_str, cond_true, cond_false, List.map_cons, List.map_nil, List.length_cons, List.length_nil, List.set_cons_zero, List.set_cons_succ, Option.elim_some, Option.elim_none, List.cons_append, List.nil_append, List.replicate, Nat.sub_self, Nat.reduceSub, Nat.reduceAdd, Bool.not_true, Bool.not_false, setAll, Int.cast_ofNat_Int, Int.reduceLT, Int.reduceLE, Int.reduceBEq, Nat.reduceBEq, decide_true, decide_false, ↓DL.pred_s, ↓DL.len_str, ↓DL.len_tup, ↓DL.len_lst, ↓DL.le_ii, ↓DL.le_ss, ↓DL.cmp_ii, ↓DL.add_ii, ↓DL.add_ib, ↓DL.add_bi, ↓DL.add_ss, ↓DL.add_tt, ↓DL.add_ll, ↓DL.sub_ii, ↓DL.sub_ib, ↓DL.sub_bi, ↓DL.mul_ii, ↓DL.ii_ii, ↓DL.neg_i, ↓DL.is_bb, ↓DL.isn_bb, ↓DL.all_b, ↓DL.all_map, ↓DL.sum_i, ↓DL.eq_ii, ↓DL.eq_bi, ↓DL.eq_t0, ↓DL.eq_l0, ↓DL.ne_ss, ↓DL.ne_ii, ↓DL.ne_t0, ↓DL.ne_l0, ↓DL.ix_tup, ↓DL.ix_lst, ↓DL.ix_str, ↓DL.in_c, ↓DL.nin_c, ↓DL.sl_str, ↓DL.sl_tup, ↓DL.sl_lst, ↓DL.app_1, ↓DL.pop_0, ↓DL.ext_t, ↓DL.tuple_l, ↓DL.list_t, ↓DL.list_l, ↓DL.int_b, ↓DL.int_i, ↓DL.min_ii, ↓DL.str_i, ↓DL.str_b, ↓DL.repr_1, ↓DL.back_t, ↓DL.tru_l, ↓DL.at0, ↓DL.at1, ↓DL.at2, ↓DL.at3, ↓DL.e_fs, ↓DL.e_callL, ↓DL.e_never, ↓DL.e_dicM, ↓DL.e_dicS, ↓DL.e_dget, ↓DL.e_dput, ↓DL.e_forK, ↓DL.e_isN, ↓DL.e_revI, ↓DL.e_varF, ↓DL.fs_s, ↓DL.fs_i, ↓DL.get_d, ↓DL.rev_t, ↓DL.int_e, DL.isNon]
  rw [DL.tru_r e1]
  cases hL : L.isEmpty with
  | true =>
    simp only [↓DL.e_next, ↓DL.e_seq, ↓DL.e_drop, ↓DL.e_ret, ↓DL.e_retN, ↓DL.e_if, ↓DL.e_cont, ↓DL.e_break, ↓DL.e_set, ↓DL.e_asg, ↓DL.e_par, ↓DL.e_setI, ↓DL.e_for, ↓DL.e_var, ↓DL.e_c, ↓DL.e_op, ↓DL.e_un, ↓DL.e_test, ↓DL.e_chain, ↓DL.e_and, ↓DL.e_or, ↓DL.e_not, ↓DL.e_andV, ↓DL.e_orV, ↓DL.e_notV, ↓DL.e_ife, ↓DL.e_nil, ↓DL.e_cons, ↓DL.e_tup, ↓DL.e_lst, ↓DL.e_lstM, ↓DL.e_noPart, ↓DL.e_part, ↓DL.e_sl, ↓DL.e_cb, ↓DL.e_mtL, ↓DL.e_mt0, ↓DL.e_mtS, ↓DL.e_mtS0, ↓DL.e_tru, ↓DL.e_lc, ↓DL.e_itS, ↓DL.e_itStr, ↓DL.e_rng1, ↓DL.e_rev, ↓DL.e_dic0, ↓DL.e_dic1, ↓DL.e_s0, ↓DL.e_s1, ↓DL.e_ct, ↓DL.e_cf, dstart, slot, gN, ↓asB_bl, ↓asI_int, ↓asS_str, cond_true, cond_false, List.map_cons, List.map_nil, List.length_cons, List.length_nil, List.set_cons_zero, List.set_cons_succ, Option.elim_some, Option.elim_none, List.cons_append, List.nil_append, List.replicate, Nat.sub_self, Nat.reduceSub, Nat.reduceAdd, Bool.not_true, Bool.not_false, setAll, Int.cast_ofNat_Int, Int.reduceLT, Int.reduceLE, Int.reduceBEq, Nat.reduceBEq, decide_true, decide_false, ↓DL.pred_s, ↓DL.len_str, ↓DL.len_tup, ↓DL.len_lst, ↓DL.le_ii, ↓DL.le_ss, ↓DL.cmp_ii, ↓DL.add_ii, ↓DL.add_ib, ↓DL.add_bi, ↓DL.add_ss, ↓DL.add_tt, ↓DL.add_ll, ↓DL.sub_ii, ↓DL.sub_ib, ↓DL.sub_bi, ↓DL.mul_ii, ↓DL.ii_ii, ↓DL.neg_i, ↓DL.is_bb, ↓DL.isn_bb, ↓DL.all_b, ↓DL.all_map, ↓DL.sum_i, ↓DL.eq_ii, ↓DL.eq_bi, ↓DL.eq_t0, ↓DL.eq_l0, ↓DL.ne_ss, ↓DL.ne_ii, ↓DL.ne_t0, ↓DL.ne_l0, ↓DL.ix_tup, ↓DL.ix_lst, ↓DL.ix_str, ↓DL.in_c, ↓DL.nin_c, ↓DL.sl_str, ↓DL.sl_tup, ↓DL.sl_lst, ↓DL.app_1, ↓DL.pop_0, ↓DL.ext_t, ↓DL.tuple_l, ↓DL.list_t, ↓DL.list_l, ↓DL.int_b, ↓DL.int_i, ↓DL.min_ii, ↓DL.str_i, ↓DL.str_b, ↓DL.repr_1, ↓DL.back_t, ↓DL.tru_l, ↓DL.at0, ↓DL.at1, ↓DL.at2, ↓DL.at3, ↓DL.e_fs, ↓DL.e_callL, ↓DL.e_never, ↓DL.e_dicM, ↓DL.e_dicS, ↓DL.e_dget, ↓DL.e_dput, ↓DL.e_forK, ↓DL.e_isN, ↓DL.e_revI, ↓DL.e_varF, ↓DL.fs_s, ↓DL.fs_i, ↓DL.get_d, ↓DL.rev_t, ↓DL.int_e, DL.isNon]
    have : L = [] := List.isEmpty_iff.mp hL
    subst this
    subst hM
    exact hT eT.symm q F S' kq s1
  | false =>
    simp only [↓DL.e_next, ↓DL.e_seq, ↓DL.e_drop, ↓DL.e_ret, ↓DL.e_retN, ↓DL.e_if, ↓DL.e_cont, ↓DL.e_break, ↓DL.e_set, ↓DL.e_asg, ↓DL.e_par, ↓DL.e_setI, ↓DL.e_for, ↓DL.e_var, ↓DL.e_c, ↓DL.e_op, ↓DL.e_un, ↓DL.e_test, ↓DL.e_chain, ↓DL.e_and, ↓DL.e_or, ↓DL.e_not, ↓DL.e_andV, ↓DL.e_orV, ↓DL.e_notV, ↓DL.e_ife, ↓DL.e_nil, ↓DL.e_cons, ↓DL.e_tup, ↓DL.e_lst, ↓DL.e_lstM, ↓DL.e_noPart, ↓DL.e_part, ↓DL.e_sl, ↓DL.e_cb, ↓DL.e_mtL, ↓DL.e_mt0, ↓DL.e_mtS, ↓DL.e_mtS0, ↓DL.e_tru, ↓DL.e_lc, ↓DL.e_itS, ↓DL.e_itStr, ↓DL.e_rng1, ↓DL.e_rev, ↓DL.e_dic0, ↓DL.e_dic1, ↓DL.e_s0, ↓DL.e_s1, ↓DL.e_ct, ↓DL.e_cf, dstart, slot, gN, ↓asB_bl, ↓asI_int, ↓asS_str, cond_true, cond_false, List.map_cons, List.map_nil, List.length_cons, List.length_nil, List.set_cons_zero, List.set_cons_succ, Option.elim_some, Option.elim_none, List.cons_append, List.nil_append, List.replicate, Nat.sub_self, Nat.reduceSub, Nat.reduceAdd, Bool.not_true, Bool.not_false, setAll, Int.cast_ofNat_Int, Int.reduceLT, Int.reduceLE, Int.reduceBEq, Nat.reduceBEq, decide_true, decide_false, ↓DL.pred_s, ↓DL.len_str, ↓DL.len_tup, ↓DL.len_lst, ↓DL.le_ii, ↓DL.le_ss, ↓DL.cmp_ii, ↓DL.add_ii, ↓DL.add_ib, ↓DL.add_bi, ↓DL.add_ss, ↓DL.add_tt, ↓DL.add_ll, ↓DL.sub_ii, ↓DL.sub_ib, ↓DL.sub_bi, ↓DL.mul_ii, ↓DL.ii_ii, ↓DL.neg_i, ↓DL.is_bb, ↓DL.isn_bb, ↓DL.all_b, ↓DL.all_map, ↓DL.sum_i, ↓DL.eq_ii, ↓DL.eq_bi, ↓DL.eq_t0, ↓DL.eq_l0, ↓DL.ne_ss, ↓DL.ne_ii, ↓DL.ne_t0, ↓DL.ne_l0, ↓DL.ix_tup, ↓DL.ix_lst, ↓DL.ix_str, ↓DL.in_c, ↓DL.nin_c, ↓DL.sl_str, ↓DL.sl_tup, ↓DL.sl_lst, ↓DL.app_1, ↓DL.pop_0, ↓DL.ext_t, ↓DL.tuple_l, ↓DL.list_t, ↓DL.list_l, ↓DL.int_b, ↓DL.int_i, ↓DL.min_ii, ↓DL.str_i, ↓DL.str_b, ↓DL.repr_1, ↓DL.back_t, ↓DL.tru_l, ↓DL.at0, ↓DL.at1, ↓DL.at2, ↓DL.at3, ↓DL.e_fs, ↓DL.e_callL, ↓DL.e_never, ↓DL.e_dicM, ↓DL.e_dicS, ↓DL.e_dget, ↓DL.e_dput, ↓DL.e_forK, ↓DL.e_isN, ↓DL.e_revI, ↓DL.e_varF, ↓DL.fs_s, ↓DL.fs_i, ↓DL.get_d, ↓DL.rev_t, ↓DL.int_e, DL.isNon]
    have hne : L ≠ [] := fun e => by rw [e] at hL; cases hL
    obtain ⟨M', x, rfl⟩ : ∃ M' x, L = M' ++ [x] := ⟨L.dropLast, L.getLast hne, (List.dropLast_concat_getLast hne).symm⟩
    have gM : goodA 9 M' = true ∧ good 9 x = true := by
      rw [goodA_append, Bool.and_eq_true] at gL
      exact ⟨gL.1, by simpa [goodA] using gL.2⟩
    have eS : szA (M' ++ [x]) = szA M' + sz x := by rw [szA_append]; simp [szA]
    refine ⟨⟨p, _, rfl, e1⟩, ?_⟩
    rw [DL.on_ref e1]
    have hx : (M' ++ [x])[(M' ++ [x]).length - 1]? = some x := by simp
    rw [hx, Option.elim_some, show (M' ++ [x]).dropLast = M' by simp]
    refine ⟨x, rfl, good_ok3 (by decide) gM.2, fun S2 s2 => ?_⟩
    have k2 : S2 p = some (.lst M') := s2.at sup_same List.not_mem_nil
    have kq2 : S2 q = some (.lst F) := s2.at (by rw [sup_ne qp]; exact kq) List.not_mem_nil
    have t2 : Step [] S S2 := fun b hb nb => by
      have hbp : b ≠ p := fun e => hb (by rw [e]; exact np0)
      have q1 : (sup S' p (.lst M')) b = S b := by rw [sup_ne hbp]; exact s1 b hb nb
      rw [s2 b (by rw [q1]; exact hb) nb, q1]
    rw [List.all_append] at eT
    cases hf : hasForm x with
    | false =>
      have e : fpD x = .non := by
        cases x with
        | tup ts => have hf : hfA ts = false := hf; simp only [fpD, hf, cond_false]
        | _ => rfl
      rw [e]
      exact hF (by rw [← eT]; simp [tB_not hf]) S2 t2
    | true =>
      cases x with
      | tup ts =>
        have gt : goodA 9 ts = true := by simpa [good] using gM.2
        have hf : hfA ts = true := hf
        have e : fpD (.tup ts) = .tup (partsD ts) := by simp only [fpD, hf, cond_true]
        rw [e]
        have l2 := parts_sz (ds := ts)
        have l4 : sz (.tup ts) = szA ts + 1 := by simp only [sz]
        have eT2 : (M' ++ partsD ts).all tB = tB d := by rw [List.all_append, ← eT, ← tB_tup hf]; simp
        show bif (!(partsD ts).isEmpty) then _ else _
        cases he : (partsD ts).isEmpty with
        | false =>
          refine ⟨⟨p, _, rfl, k2⟩, ?_⟩
          simp only [↓DL.e_next, ↓DL.e_seq, ↓DL.e_drop, ↓DL.e_ret, ↓DL.e_retN, ↓DL.e_if, ↓DL.e_cont, ↓DL.e_break, ↓DL.e_set, ↓DL.e_asg, ↓DL.e_par, ↓DL.e_setI, ↓DL.e_for, ↓DL.e_var, ↓DL.e_c, ↓DL.e_op, ↓DL.e_un, ↓DL.e_test, ↓DL.e_chain, ↓DL.e_and, ↓DL.e_or, ↓DL.e_not, ↓DL.e_andV, ↓DL.e_orV, ↓DL.e_notV, ↓DL.e_ife, ↓DL.e_nil, ↓DL.e_cons, ↓DL.e_tup, ↓DL.e_lst, ↓DL.e_lstM, ↓DL.e_noPart, ↓DL.e_part, ↓DL.e_sl, ↓DL.e_cb, ↓DL.e_mtL, ↓DL.e_mt0, ↓DL.e_mtS, ↓DL.e_mtS0, ↓DL.e_tru, ↓DL.e_lc, ↓DL.e_itS, ↓DL.e_itStr, ↓DL.e_rng1, ↓DL.e_rev, ↓DL.e_dic0, ↓DL.e_dic1, ↓DL.e_s0, ↓DL.e_s1, ↓DL.e_ct, ↓DL.e_cf, dstart, slot, gN, ↓asB_bl, ↓asI_int, ↓asS_str, cond_true, cond_false, List.map_cons, List.map_nil, List.length_cons, List.length_nil, List.set_cons_zero, List.set_cons_succ, Option.elim_some, Option.elim_none, List.cons_append, List.nil_append, List.replicate, Nat.sub_self, Nat.reduceSub, Nat.reduceAdd, Bool.not_true, Bool.not_false, setAll, Int.cast_ofNat_Int, Int.reduceLT, Int.reduceLE, Int.reduceBEq, Nat.reduceBEq, decide_true, decide_false, ↓DL.pred_s, ↓DL.len_str, ↓DL.len_tup, ↓DL.len_lst, ↓DL.le_ii, ↓DL.le_ss, ↓DL.cmp_ii, ↓DL.add_ii, ↓DL.add_ib, ↓DL.add_bi, ↓DL.add_ss, ↓DL.add_tt, ↓DL.add_ll, ↓DL.sub_ii, ↓DL.sub_ib, ↓DL.sub_bi, ↓DL.mul_ii, ↓DL.ii_ii, ↓DL.neg_i, ↓DL.is_bb, ↓DL.isn_bb, ↓DL.all_b, ↓DL.all_map, ↓DL.sum_i, ↓DL.eq_ii, ↓DL.eq_bi, ↓DL.eq_t0, ↓DL.eq_l0, ↓DL.ne_ss, ↓DL.ne_ii, ↓DL.ne_t0, ↓DL.ne_l0, ↓DL.ix_tup, ↓DL.ix_lst, ↓DL.ix_str, ↓DL.in_c, ↓DL.nin_c, ↓DL.sl_str, ↓DL.sl_tup, ↓DL.sl_lst, ↓DL.app_1, ↓DL.pop_0, ↓DL.ext_t, ↓DL.tuple_l, ↓DL.list_t, ↓DL.list_l, ↓DL.int_b, ↓DL.int_i, ↓DL.min_ii, ↓DL.str_i, ↓DL.str_b, ↓DL.repr_1, ↓DL.back_t, ↓DL.tru_l, ↓DL.at0, ↓DL.at1, ↓DL.at2, ↓DL.at3, ↓DL.e_fs, ↓DL.e_callL, ↓DL.e_never, ↓DL.e_dicM, ↓DL.e_dicS, ↓DL.e_dget, ↓DL.e_dput, ↓DL.e_forK, ↓DL.e_isN, ↓DL.e_revI, ↓DL.e_varF, ↓DL.fs_s, ↓DL.fs_i, ↓DL.get_d, ↓DL.rev_t, ↓DL.int_e, DL.isNon]
          rw [DL.on_ref k2]
          have l1 := len_szA (M' ++ partsD ts)
          have l3 : szA (M' ++ partsD ts) = szA M' + szA (partsD ts) := szA_append
          rw [List.length_append] at l1
          refine ⟨by omega, szA (M' ++ partsD ts), by omega, M' ++ partsD ts, F, some (.tup ts), some (.tup (partsD ts)), rfl, sup_same, by rw [sup_ne qp]; exact kq2, ?_, ?_, rfl, by omega, eT2⟩
          · intro b hb nb
            have hbp : b ≠ p := fun e => hb (by rw [e]; exact np0)
            rw [sup_ne hbp]
            exact t2 b hb nb
          · rw [goodA_append, gM.1, parts_good gt]; rfl
        | true =>
          have pe : partsD ts = [] := List.isEmpty_iff.mp he
          rw [pe, List.append_nil] at eT2
          obtain ⟨w, x1, r, rfl⟩ : ∃ w x1 r, ts = w :: x1 :: r := by
            match ts, hf with
            | [], hf => cases hf
            | [_], hf => cases hf
            | w :: x1 :: r, _ => exact ⟨w, x1, r, rfl⟩
          have hw : ok2 w = true := by have := goodA_ok2 (k := 9) (by decide) gt; simp only [List.all_cons, Bool.and_eq_true] at this; exact this.1
          have nx : ∀ F' S3, S3 p = some (.lst M') → S3 q = some (.lst F') → Step [] S S3 → F'.length ≤ F.length + 1 → ∃ m', m' < m ∧ ∃ L F h3 h4, [some (D.lst [d]), some (D.ref q), some (D.ref p), some (.tup (w :: x1 :: r)), some (.tup (partsD (w :: x1 :: r)))] = [some (D.lst [d]), some (D.ref q), some (D.ref p), h3, h4] ∧ S3 p = some (SO.lst L) ∧ S3 q = some (SO.lst F) ∧ DL.Step [] S S3 ∧ goodA 9 L = true ∧ szA L = m' ∧ F.length + szA L ≤ sz d ∧ L.all tB = tB d := by
            intro F' S3 k3 kq3 s3 lf
            exact ⟨szA M', by omega, M', F', _, _, rfl, k3, kq3, s3, gM.1, rfl, by omega, eT2⟩
          simp only [↓DL.e_next, ↓DL.e_seq, ↓DL.e_drop, ↓DL.e_ret, ↓DL.e_retN, ↓DL.e_if, ↓DL.e_cont, ↓DL.e_break, ↓DL.e_set, ↓DL.e_asg, ↓DL.e_par, ↓DL.e_setI, ↓DL.e_for, ↓DL.e_var, ↓DL.e_c, ↓DL.e_op, ↓DL.e_un, ↓DL.e_test, ↓DL.e_chain, ↓DL.e_and, ↓DL.e_or, ↓DL.e_not, ↓DL.e_andV, ↓DL.e_orV, ↓DL.e_notV, ↓DL.e_ife, ↓DL.e_nil, ↓DL.e_cons, ↓DL.e_tup, ↓DL.e_lst, ↓DL.e_lstM, ↓DL.e_noPart, ↓DL.e_part, ↓DL.e_sl, ↓DL.e_cb, ↓DL.e_mtL, ↓DL.e_mt0, ↓DL.e_mtS, ↓DL.e_mtS0, ↓DL.e_tru, ↓DL.e_lc, ↓DL.e_itS, ↓DL.e_itStr, ↓DL.e_rng1, ↓DL.e_rev, ↓DL.e_dic0, ↓DL.e_dic1, ↓DL.e_s0, ↓DL.e_s1, ↓DL.e_ct, ↓DL.e_cf, dstart, slot, gN, ↓asB_bl, ↓asI_int, ↓asS_str, cond_true, cond_false, List.map_cons, List.map_nil, List.length_cons, List.length_nil, List.set_cons_zero, List.set_cons_succ, Option.elim_some, Option.elim_none, List.cons_append, List.nil_append, List.replicate, Nat.sub_self, Nat.reduceSub, Nat.reduceAdd, Bool.not_true, Bool.not_false, setAll, Int.cast_ofNat_Int, Int.reduceLT, Int.reduceLE, Int.reduceBEq, Nat.reduceBEq, decide_true, decide_false, ↓DL.pred_s, ↓DL.len_str, ↓DL.len_tup, ↓DL.len_lst, ↓DL.le_ii, ↓DL.le_ss, ↓DL.cmp_ii, ↓DL.add_ii, ↓DL.add_ib, ↓DL.add_bi, ↓DL.add_ss, ↓DL.add_tt, ↓DL.add_ll, ↓DL.sub_ii, ↓DL.sub_ib, ↓DL.sub_bi, ↓DL.mul_ii, ↓DL.ii_ii, ↓DL.neg_i, ↓DL.is_bb, ↓DL.isn_bb, ↓DL.all_b, ↓DL.all_map, ↓DL.sum_i, ↓DL.eq_ii, ↓DL.eq_bi, ↓DL.eq_t0, ↓DL.eq_l0, ↓DL.ne_ss, ↓DL.ne_ii, ↓DL.ne_t0, ↓DL.ne_l0, ↓DL.ix_tup, ↓DL.ix_lst, ↓DL.ix_str, ↓DL.in_c, ↓DL.nin_c, ↓DL.sl_str, ↓DL.sl_tup, ↓DL.sl_lst, ↓DL.app_1, ↓DL.pop_0, ↓DL.ext_t, ↓DL.tuple_l, ↓DL.list_t, ↓DL.list_l, ↓DL.int_b, ↓DL.int_i, ↓DL.min_ii, ↓DL.str_i, ↓DL.str_b, ↓DL.repr_1, ↓DL.back_t, ↓DL.tru_l, ↓DL.at0, ↓DL.at1, ↓DL.at2, ↓DL.at3, ↓DL.e_fs, ↓DL.e_callL, ↓DL.e_never, ↓DL.e_dicM, ↓DL.e_dicS, ↓DL.e_dget, ↓DL.e_dput, ↓DL.e_forK, ↓DL.e_isN, ↓DL.e_revI, ↓DL.e_varF, ↓DL.fs_s, ↓DL.fs_i, ↓DL.get_d, ↓DL.rev_t, ↓DL.int_e, DL.isNon]
          show eqD w _ S2 _
          rw [DL.eq_str' (ok2_flat hw)]
          simp only [↓asB_bl]
          cases DL.eqT w "hole" with
          | true =>
            refine ⟨⟨q, _, rfl, kq2⟩, ?_⟩
            rw [DL.on_ref kq2]
            refine ⟨by omega, nx (F ++ [x1]) _ (by rw [sup_ne (Ne.symm qp)]; exact k2) sup_same (fun b hb nb => ?_) (by simp)⟩
            have hbq : b ≠ q := fun e => hb (by rw [e]; exact nq)
            rw [sup_ne hbq]
            exact t2 b hb nb
          | false => exact nx F S2 k2 kq2 t2 (by omega)
      | _ => cases hf
abbrev st_is_term : Stmt := top 14
theorem sc_is_term : FnScope ["thing"] ["thing"] (defScope st_is_term) := ⟨rfl, rfl, rfl, by decide +kernel, rfl, by decide +kernel, by decide +kernel⟩
def sp_is_term : DSp := spB (fun d => good 9 d = true ∧ sz d ≤ 1000000) tB
theorem len_is_term {ds : List D} {S : Sto} {P : DK} (h : sp_is_term ds S P) : ds.length = 1 := spB_len h
theorem ok_is_term {k : Nat}  (DD : Def K mg "is_term" st_is_term ["thing"]) (G_told_holes : Has P w K mg base (k) "told_holes" ["things"] (sp_told_holes)) : Has P w K mg base (k + 1) "is_term" ["thing"] (sp_is_term) := by
  refine DD.has sc_is_term (fun ds S P h => len_is_term h) (fun f cdv A outer s H hr hgd => ⟨_, (ss_one (s_ret (q_cmp op_notND (q_def G_told_holes (hr.mono (by omega)) hgd (a_cons (q_lst (a_cons (q_var 0) a_nil)) a_nil)) q_non))), fun ds S P h => ?_⟩)
  obtain ⟨d, rfl, ⟨hg, hs⟩, h⟩ := h
  have hline := line_big
  simp only [↓DL.e_next, ↓DL.e_seq, ↓DL.e_drop, ↓DL.e_ret, ↓DL.e_retN, ↓DL.e_if, ↓DL.e_cont, ↓DL.e_break, ↓DL.e_set, ↓DL.e_asg, ↓DL.e_par, ↓DL.e_setI, ↓DL.e_for, ↓DL.e_var, ↓DL.e_c, ↓DL.e_op, ↓DL.e_un, ↓DL.e_test, ↓DL.e_chain, ↓DL.e_and, ↓DL.e_or, ↓DL.e_not, ↓DL.e_andV, ↓DL.e_orV, ↓DL.e_notV, ↓DL.e_ife, ↓DL.e_nil, ↓DL.e_cons, ↓DL.e_tup, ↓DL.e_lst, ↓DL.e_lstM, ↓DL.e_noPart, ↓DL.e_part, ↓DL.e_sl, ↓DL.e_cb, ↓DL.e_mtL, ↓DL.e_mt0, ↓DL.e_mtS, ↓DL.e_mtS0, ↓DL.e_tru, ↓DL.e_lc, ↓DL.e_itS, ↓DL.e_itStr, ↓DL.e_rng1, ↓DL.e_rev, ↓DL.e_dic0, ↓DL.e_dic1, ↓DL.e_s0, ↓DL.e_s1, ↓DL.e_ct, ↓DL.e_cf, dstart, slot, gN, ↓asB_bl, ↓asI_int, ↓asS_str, cond_true, cond_false, List.map_cons, List.map_nil, List.length_cons, List.length_nil, List.set_cons_zero, List.set_cons_succ, Option.elim_some, Option.elim_none, List.cons_append, List.nil_append, List.replicate, Nat.sub_self, Nat.reduceSub, Nat.reduceAdd, Bool.not_true, Bool.not_false, setAll, Int.cast_ofNat_Int, Int.reduceLT, Int.reduceLE, Int.reduceBEq, Nat.reduceBEq, decide_true, decide_false, ↓DL.pred_s, ↓DL.len_str, ↓DL.len_tup, ↓DL.len_lst, ↓DL.le_ii, ↓DL.le_ss, ↓DL.cmp_ii, ↓DL.add_ii, ↓DL.add_ib, ↓DL.add_bi, ↓DL.add_ss, ↓DL.add_tt, ↓DL.add_ll, ↓DL.sub_ii, ↓DL.sub_ib, ↓DL.sub_bi, ↓DL.mul_ii, ↓DL.ii_ii, ↓DL.neg_i, ↓DL.is_bb, ↓DL.isn_bb, ↓DL.all_b, ↓DL.all_map, ↓DL.sum_i, ↓DL.eq_ii, ↓DL.eq_bi, ↓DL.eq_t0, ↓DL.eq_l0, ↓DL.ne_ss, ↓DL.ne_ii, ↓DL.ne_t0, ↓DL.ne_l0, ↓DL.ix_tup, ↓DL.ix_lst, ↓DL.ix_str, ↓DL.in_c, ↓DL.nin_c, ↓DL.sl_str, ↓DL.sl_tup, ↓DL.sl_lst, ↓DL.app_1, ↓DL.pop_0, ↓DL.ext_t, ↓DL.tuple_l, ↓DL.list_t, ↓DL.list_l, ↓DL.int_b, ↓DL.int_i, ↓DL.min_ii, ↓DL.str_i, ↓DL.str_b, ↓DL.repr_1, ↓DL.back_t, ↓DL.tru_l, ↓DL.at0, ↓DL.at1, ↓DL.at2, ↓DL.at3, ↓DL.e_fs, ↓DL.e_callL, ↓DL.e_never, ↓DL.e_dicM, ↓DL.e_dicS, ↓DL.e_dget, ↓DL.e_dput, ↓DL.e_forK, ↓DL.e_isN, ↓DL.e_revI, ↓DL.e_varF, ↓DL.fs_s, ↓DL.fs_i, ↓DL.get_d, ↓DL.rev_t, ↓DL.int_e, DL.isNon]
  refine ⟨by omega, d, rfl, hg, hs, fun e S' s => DL.notN_d ?_, fun e f xs S' _ s => DL.notN_d ?_⟩
  · have h := h S' s
    rw [e] at h
    exact h
  · have h := h S' s
    rw [e] at h
    exact h
end
end K01
set_option Elab.async false
set_option linter.all false
set_option maxRecDepth 100000
set_option maxHeartbeats 1000000
namespace K01
open PySem PySem.Spec PyProof.Rows L2 DL
/-- the deck at a, its cells at c -/
def Dk (S : Sto) (a c : Addr) : Prop := ∃ (cs : List Int) (m n : Int), a ≠ c ∧ S a = some (.lst [.ref c, .int m, .int n]) ∧ S c = some (.lst (cs.map .int)) ∧ cs.length ≤ 63
theorem Dk.of {S S' : Sto} {a c : Addr} (h : Dk S a c) (e : ∀ b ∈ [a, c], S' b = S b) : Dk S' a c := by
  obtain ⟨cs, m, n, h1, h2, h3, h4⟩ := h
  exact ⟨cs, m, n, h1, by rw [e a (by simp)]; exact h2, by rw [e c (by simp)]; exact h3, h4⟩
theorem Dk.step {S S' : Sto} {a c : Addr} {L : List Addr} (h : Dk S a c) (s : Step L S S') (na : a ∉ L) (nc : c ∉ L) : Dk S' a c := by
  obtain ⟨cs, m, n, h1, h2, h3, h4⟩ := h
  exact ⟨cs, m, n, h1, s.at h2 na, s.at h3 nc, h4⟩
theorem Dk.some {S : Sto} {a c : Addr} (h : Dk S a c) : ∀ b ∈ [a, c], S b ≠ none := by
  obtain ⟨cs, m, n, h1, h2, h3, h4⟩ := h
  intro b hb
  simp only [List.mem_cons, List.not_mem_nil, or_false] at hb
  rcases hb with rfl | rfl
  · rw [h2]; exact nofun
  · rw [h3]; exact nofun
/-- one that only the deck is handed to: what it tells is good -/
def spG (G : D → Prop) : DSp := fun ds S P => ∃ a c, ds = [.ref a] ∧ Dk S a c ∧ ∀ d S', G d → Dk S' a c → Step [a, c] S S' → P d S'
theorem spG_len {G : D → Prop} {ds : List D} {S : Sto} {P : DK} (h : spG G ds S P) : ds.length = 1 := by obtain ⟨a, c, rfl, _⟩ := h; rfl
section
variable {P : Program} {w : World} {K : PySem.W.Frag} {mg : Str → Option Value} {base : Heap}

abbrev st_l_deck : Stmt := top 16
theorem sc_l_deck : FnScope ["_law_script", "_law_cells", "_law_cell"] ["_law_script"] (defScope st_l_deck) := ⟨rfl, rfl, rfl, by decide +kernel, rfl, by decide +kernel, by decide +kernel⟩
def sp_l_deck : DSp := fun ds S P => ∃ ns : List Int, ds = [.lst (ns.map .int)] ∧ ns.length ≤ 63 ∧ ∀ a c S', Dk S' a c → Step [] S S' → P (.ref a) S'
theorem len_l_deck {ds : List D} {S : Sto} {P : DK} (h : sp_l_deck ds S P) : ds.length = 1 := by obtain ⟨a, rfl, _⟩ := h; rfl
theorem cut_map {α : Type} (f : α → D) (l : List α) (lo hi : Option Int) : ∃ m : List α, DL.cutD (l.map f) lo hi = m.map f ∧ m.length ≤ l.length := by
  refine ⟨(l.drop (HT.sIx l.length 0 lo)).take (HT.sIx l.length l.length hi - HT.sIx l.length 0 lo), ?_, ?_⟩
  · unfold DL.cutD
    rw [List.length_map, List.map_take, List.map_drop]
  · rw [List.length_take, List.length_drop]; omega
theorem pos_big : (0 : Int) < 1000033 := by decide
theorem line63' : 63 ≤ sizeLine := by rw [sizeLine_eq]; decide
theorem ok_l_deck {k : Nat}  (DD : Def K mg "_law_deck" st_l_deck ["_law_script"]) (m_sum : mg "sum" = none) (m_len : mg "len" = none) (m_list : mg "list" = none) : Has P w K mg base (k + 1) "_law_deck" ["_law_script"] (sp_l_deck) := by
  refine DD.has sc_l_deck (fun ds S P h => len_l_deck h) (fun f cdv A outer s H hr hgd => ⟨_, (ss_cons (s_set 1 sc_l_deck.nd (q_callTy (c_listF) rfl m_list DL.bt_list (a_cons (q_slice sl_D (q_var 0) o_none (o_some q_int)) a_nil)))
      (ss_one (s_ret (q_lstM (a_cons (q_revM (q_var 1)) (a_cons (q_op op_addD (q_callB (c_sum rfl) rfl m_sum DL.bb_sum (a_cons (q_lc (own := [("_law_cell", 2)]) (is := [2]) rfl lcg_name rfl sc_l_deck.nd (i_seq (q_var 1)) (blkOk_by (own := [("_law_cell", 2)]) (N := ["_law_script", "_law_cells", "_law_cell"]) (sc := defScope st_l_deck) (by decide +kernel)) (fun _ _ _ _ _ => pg_name (i := 2) sc_l_deck.nd rfl (Or.inl rfl)) (fun _ _ _ _ _ => ts_nil) (fun _ _ _ _ _ => (q_op op_modD (q_var 2) q_int))) a_nil)) (q_op op_mulD q_int (q_callB (c_len) rfl m_len PySem.boot_len (a_cons (q_var 1) a_nil)))) (a_cons q_int a_nil))))))), fun ds S P h => ?_⟩)
  obtain ⟨ns, rfl, hn, h⟩ := h
  have hl := line63'
  simp only [dNext, dSeq, dDrop, dRet, dRetN, dIfS, dCont, dBreak, dSet, dAsg, dPar, dSetI, dFor, dVar, dC, dOp, dUn, dTest, dChain, dAnd, dOr, dNot, dAndV, dOrV, dNotV, dIf, dNil, dCons, dTup, dLst, dLstM, dNoPart, dPart, dSl, dCB, dMtL, dMt0, dMtS, dMtS0, dTru, dLc, dItS, dItStr, dRng1, dRng2, dRev, dRevM, dDic0, dstart, slot, asB_bl, asI_int, asS_str, cond_true, cond_false, List.map_cons, List.map_nil, List.length_cons, List.length_nil, List.set_cons_zero, List.set_cons_succ, Option.elim_some, Option.elim_none, List.cons_append, List.nil_append, List.replicate, Nat.sub_self, Nat.reduceSub, Nat.reduceAdd, Bool.not_true, Bool.not_false, setAll, Int.cast_ofNat_Int, Nat.zero_add, Int.reduceLT, Int.reduceLE, Int.reduceBEq, Nat.reduceBEq, decide_true, decide_false, DL.pred_s, DL.len_str, DL.len_tup, DL.len_lst, DL.le_ii, DL.le_ss, DL.cmp_ii, DL.add_ii, DL.add_ib, DL.add_bi, DL.add_ss, DL.add_tt, DL.add_ll, DL.sub_ii, DL.sub_ib, DL.sub_bi, DL.mul_ii, DL.ii_ii, DL.neg_i, DL.is_bb, DL.isn_bb, DL.all_b, DL.all_map, DL.sum_i, DL.eq_ii, DL.eq_bi, DL.eq_t0, DL.eq_l0, DL.ne_ss, DL.ne_ii, DL.ne_t0, DL.ne_l0, DL.ix_tup, DL.ix_lst, DL.ix_str, DL.in_c, DL.nin_c, DL.sl_str, DL.sl_tup, DL.sl_lst, DL.app_1, DL.pop_0, DL.ext_t, DL.tuple_l, DL.list_t, DL.list_l, DL.int_b, DL.int_i, DL.min_ii, DL.str_i, DL.str_b, DL.repr_1, DL.back_t, DL.tru_l, DL.at0, DL.at1, DL.at2, DL.at3]
  obtain ⟨m, e, hm⟩ := cut_map D.int ns none (some 63)
  rw [e]
  show backM (.lst (m.map DL.D.int)) S _
  intro c nc
  refine lc_grow (fun _ => true) (fun d => match d with | .int i => .int (i % 1000033) | d => d) (by rw [List.length_map]; omega) (fun d _ S2 Q q => q S2 (.refl _)) (fun d hd _ S2 Q q => ?_) fun S' s => ?_
  · obtain ⟨i, _, rfl⟩ := List.mem_map.mp hd
    exact ⟨pos_big, q S2 (.refl _)⟩
  · rw [List.filter_eq_self.mpr (fun _ _ => rfl), List.map_map]
    have e2 : List.map ((fun d => match d with | .int i => .int (i % 1000033) | d => d) ∘ DL.D.int) m = (m.map fun i => i % 1000033).map DL.D.int := by
      rw [List.map_map]; rfl
    rw [e2]
    simp only [dNext, dSeq, dDrop, dRet, dRetN, dIfS, dCont, dBreak, dSet, dAsg, dPar, dSetI, dFor, dVar, dC, dOp, dUn, dTest, dChain, dAnd, dOr, dNot, dAndV, dOrV, dNotV, dIf, dNil, dCons, dTup, dLst, dLstM, dNoPart, dPart, dSl, dCB, dMtL, dMt0, dMtS, dMtS0, dTru, dLc, dItS, dItStr, dRng1, dRng2, dRev, dRevM, dDic0, dstart, slot, asB_bl, asI_int, asS_str, cond_true, cond_false, List.map_cons, List.map_nil, List.length_cons, List.length_nil, List.set_cons_zero, List.set_cons_succ, Option.elim_some, Option.elim_none, List.cons_append, List.nil_append, List.replicate, Nat.sub_self, Nat.reduceSub, Nat.reduceAdd, Bool.not_true, Bool.not_false, setAll, Int.cast_ofNat_Int, Nat.zero_add, Int.reduceLT, Int.reduceLE, Int.reduceBEq, Nat.reduceBEq, decide_true, decide_false, DL.pred_s, DL.len_str, DL.len_tup, DL.len_lst, DL.le_ii, DL.le_ss, DL.cmp_ii, DL.add_ii, DL.add_ib, DL.add_bi, DL.add_ss, DL.add_tt, DL.add_ll, DL.sub_ii, DL.sub_ib, DL.sub_bi, DL.mul_ii, DL.ii_ii, DL.neg_i, DL.is_bb, DL.isn_bb, DL.all_b, DL.all_map, DL.sum_i, DL.eq_ii, DL.eq_bi, DL.eq_t0, DL.eq_l0, DL.ne_ss, DL.ne_ii, DL.ne_t0, DL.ne_l0, DL.ix_tup, DL.ix_lst, DL.ix_str, DL.in_c, DL.nin_c, DL.sl_str, DL.sl_tup, DL.sl_lst, DL.app_1, DL.pop_0, DL.ext_t, DL.tuple_l, DL.list_t, DL.list_l, DL.int_b, DL.int_i, DL.min_ii, DL.str_i, DL.str_b, DL.repr_1, DL.back_t, DL.tru_l, DL.at0, DL.at1, DL.at2, DL.at3]
    refine ⟨.inl ⟨by decide, by decide⟩, ?_⟩
    have kc : S' c = some (.lst (m.map DL.D.int).reverse) := s.at sup_same List.not_mem_nil
    refine ⟨by omega, fun a na => h a c _ ⟨m.reverse, _, 0, (fun e => by rw [e, kc] at na; cases na), sup_same, ?_, by rw [List.length_reverse]; omega⟩ fun b hb nb => ?_⟩
    · rw [sup_ne (fun e => by rw [e] at kc; rw [kc] at na; cases na), kc, List.map_reverse]
    · have h1 : b ≠ c := fun e => hb (by rw [e]; exact nc)
      have h2 : S' b = S b := by rw [s b (by rw [sup_ne h1]; exact hb) nb, sup_ne h1]
      rw [sup_ne (fun e => by rw [e, na] at h2; exact hb (by rw [e]; exact h2.symm)), h2]
abbrev st_l_draw : Stmt := top 17
theorem sc_l_draw : FnScope ["_law_deck_here", "_law_ways", "_law_cell", "_law_mixed"] ["_law_deck_here", "_law_ways"] (defScope st_l_draw) := ⟨rfl, rfl, rfl, by decide +kernel, rfl, by decide +kernel, by decide +kernel⟩
def sp_l_draw : DSp := fun ds S P => ∃ (a c : Addr) (w : Int), ds = [.ref a, .int w] ∧ 0 < w ∧ w < 1073741824 ∧ Dk S a c ∧ ∀ (r : Int) S', 0 ≤ r → r < w → Dk S' a c → Step [a, c] S S' → P (.int r) S'
theorem len_l_draw {ds : List D} {S : Sto} {P : DK} (h : sp_l_draw ds S P) : ds.length = 2 := by obtain ⟨a, c, w, rfl, _⟩ := h; rfl
theorem ok_l_draw {k : Nat}  (DD : Def K mg "_law_draw" st_l_draw ["_law_deck_here", "_law_ways"]) : Has P w K mg base (k + 1) "_law_draw" ["_law_deck_here", "_law_ways"] (sp_l_draw) := by
  refine DD.has sc_l_draw (fun ds S P h => len_l_draw h) (fun f cdv A outer s H hr hgd => ⟨_, (ss_cons (s_setI (q_op op_addD (q_ix ix_D (q_var 0) q_int) q_int) (q_var 0) q_int)
      (ss_cons (s_set 2 sc_l_draw.nd (q_ix ix_D (q_var 0) q_int))
      (ss_cons (s_if (t_cmp (op_neD (DL.Room.un1 hr)) (q_ix ix_D (q_var 0) q_int) (q_lst a_nil)) (ss_cons (s_set 2 sc_l_draw.nd (q_mtL0 PySem.F.slot_list_pop PySem.F.type_list_pop m_pop (q_ix ix_D (q_var 0) q_int)))
      (ss_one (s_if (t_cmp op_geD (q_var 2) (q_op op_powD q_int q_int)) (ss_cons (s_expr (q_mtL PySem.F.slot_list_append PySem.F.type_list_append m_append (q_ix ix_D (q_var 0) q_int) (a_cons (q_op op_fdivD (q_var 2) (q_var 1)) a_nil)))
      (ss_one (s_ret (q_op op_modD (q_var 2) (q_var 1))))) ss_nil))) ss_nil)
      (ss_cons (s_set 3 sc_l_draw.nd (q_op op_modD (q_op op_mulD (q_op op_addD (q_op op_addD (q_op op_modD (q_var 2) q_int) (q_op op_mulD q_int (q_ix ix_D (q_var 0) q_int))) q_int) q_int) q_int))
      (ss_cons (s_set 3 sc_l_draw.nd (q_op op_modD (q_op op_addD (q_op op_addD (q_op op_mulD (q_var 3) (q_var 3)) (q_op op_mulD q_int (q_ix ix_D (q_var 0) q_int))) q_int) q_int))
      (ss_one (s_ret (q_op op_modD (q_op op_fdivD (q_op op_modD (q_op op_addD (q_op op_mulD (q_var 3) (q_var 3)) (q_op op_mulD q_int (q_var 3))) q_int) q_int) (q_var 1))))))))), fun ds S P h => ?_⟩)
  obtain ⟨a, c, w, rfl, w0, w1, ⟨cs, m, n, hne, ea, ec, hl⟩, h⟩ := h
  have hline := line63'
  simp only [dNext, dSeq, dDrop, dRet, dRetN, dIfS, dCont, dBreak, dSet, dAsg, dPar, dSetI, dFor, dVar, dC, dOp, dUn, dTest, dChain, dAnd, dOr, dNot, dAndV, dOrV, dNotV, dIf, dNil, dCons, dTup, dLst, dLstM, dNoPart, dPart, dSl, dCB, dMtL, dMt0, dMtS, dMtS0, dTru, dLc, dItS, dItStr, dRng1, dRng2, dRev, dRevM, dDic0, dstart, slot, asB_bl, asI_int, asS_str, cond_true, cond_false, List.map_cons, List.map_nil, List.length_cons, List.length_nil, List.set_cons_zero, List.set_cons_succ, Option.elim_some, Option.elim_none, List.cons_append, List.nil_append, List.replicate, Nat.sub_self, Nat.reduceSub, Nat.reduceAdd, Bool.not_true, Bool.not_false, setAll, Int.cast_ofNat_Int, Nat.zero_add, Int.reduceLT, Int.reduceLE, Int.reduceBEq, Nat.reduceBEq, decide_true, decide_false, DL.pred_s, DL.len_str, DL.len_tup, DL.len_lst, DL.le_ii, DL.le_ss, DL.cmp_ii, DL.add_ii, DL.add_ib, DL.add_bi, DL.add_ss, DL.add_tt, DL.add_ll, DL.sub_ii, DL.sub_ib, DL.sub_bi, DL.mul_ii, DL.ii_ii, DL.neg_i, DL.is_bb, DL.isn_bb, DL.all_b, DL.all_map, DL.sum_i, DL.eq_ii, DL.eq_bi, DL.eq_t0, DL.eq_l0, DL.ne_ss, DL.ne_ii, DL.ne_t0, DL.ne_l0, DL.ix_tup, DL.ix_lst, DL.ix_str, DL.in_c, DL.nin_c, DL.sl_str, DL.sl_tup, DL.sl_lst, DL.app_1, DL.pop_0, DL.ext_t, DL.tuple_l, DL.list_t, DL.list_l, DL.int_b, DL.int_i, DL.min_ii, DL.str_i, DL.str_b, DL.repr_1, DL.back_t, DL.tru_l, DL.at0, DL.at1, DL.at2, DL.at3]
  rw [DL.ix_ref ea]
  simp only [dNext, dSeq, dDrop, dRet, dRetN, dIfS, dCont, dBreak, dSet, dAsg, dPar, dSetI, dFor, dVar, dC, dOp, dUn, dTest, dChain, dAnd, dOr, dNot, dAndV, dOrV, dNotV, dIf, dNil, dCons, dTup, dLst, dLstM, dNoPart, dPart, dSl, dCB, dMtL, dMt0, dMtS, dMtS0, dTru, dLc, dItS, dItStr, dRng1, dRng2, dRev, dRevM, dDic0, dstart, slot, asB_bl, asI_int, asS_str, cond_true, cond_false, List.map_cons, List.map_nil, List.length_cons, List.length_nil, List.set_cons_zero, List.set_cons_succ, Option.elim_some, Option.elim_none, List.cons_append, List.nil_append, List.replicate, Nat.sub_self, Nat.reduceSub, Nat.reduceAdd, Bool.not_true, Bool.not_false, setAll, Int.cast_ofNat_Int, Nat.zero_add, Int.reduceLT, Int.reduceLE, Int.reduceBEq, Nat.reduceBEq, decide_true, decide_false, DL.pred_s, DL.len_str, DL.len_tup, DL.len_lst, DL.le_ii, DL.le_ss, DL.cmp_ii, DL.add_ii, DL.add_ib, DL.add_bi, DL.add_ss, DL.add_tt, DL.add_ll, DL.sub_ii, DL.sub_ib, DL.sub_bi, DL.mul_ii, DL.ii_ii, DL.neg_i, DL.is_bb, DL.isn_bb, DL.all_b, DL.all_map, DL.sum_i, DL.eq_ii, DL.eq_bi, DL.eq_t0, DL.eq_l0, DL.ne_ss, DL.ne_ii, DL.ne_t0, DL.ne_l0, DL.ix_tup, DL.ix_lst, DL.ix_str, DL.in_c, DL.nin_c, DL.sl_str, DL.sl_tup, DL.sl_lst, DL.app_1, DL.pop_0, DL.ext_t, DL.tuple_l, DL.list_t, DL.list_l, DL.int_b, DL.int_i, DL.min_ii, DL.str_i, DL.str_b, DL.repr_1, DL.back_t, DL.tru_l, DL.at0, DL.at1, DL.at2, DL.at3]
  rw [DL.setD_ref (n := 2) ea rfl, show ([.ref c, .int m, .int n] : List DL.D).set 2 (.int (n + 1)) = [.ref c, .int m, .int (n + 1)] from rfl]
  have eA : (sup S a (.lst [.ref c, .int m, .int (n + 1)])) a = some (.lst [.ref c, .int m, .int (n + 1)]) := sup_same
  have eC : (sup S a (.lst [.ref c, .int m, .int (n + 1)])) c = some (.lst (cs.map .int)) := by rw [sup_ne hne.symm]; exact ec
  have sA : Step [a, c] S (sup S a (.lst [.ref c, .int m, .int (n + 1)])) := .mut (by simp)
  generalize sup S a (.lst [.ref c, .int m, .int (n + 1)]) = S1 at eA eC sA ⊢
  rw [DL.ix_ref eA]
  simp only [dNext, dSeq, dDrop, dRet, dRetN, dIfS, dCont, dBreak, dSet, dAsg, dPar, dSetI, dFor, dVar, dC, dOp, dUn, dTest, dChain, dAnd, dOr, dNot, dAndV, dOrV, dNotV, dIf, dNil, dCons, dTup, dLst, dLstM, dNoPart, dPart, dSl, dCB, dMtL, dMt0, dMtS, dMtS0, dTru, dLc, dItS, dItStr, dRng1, dRng2, dRev, dRevM, dDic0, dstart, slot, asB_bl, asI_int, asS_str, cond_true, cond_false, List.map_cons, List.map_nil, List.length_cons, List.length_nil, List.set_cons_zero, List.set_cons_succ, Option.elim_some, Option.elim_none, List.cons_append, List.nil_append, List.replicate, Nat.sub_self, Nat.reduceSub, Nat.reduceAdd, Bool.not_true, Bool.not_false, setAll, Int.cast_ofNat_Int, Nat.zero_add, Int.reduceLT, Int.reduceLE, Int.reduceBEq, Nat.reduceBEq, decide_true, decide_false, DL.pred_s, DL.len_str, DL.len_tup, DL.len_lst, DL.le_ii, DL.le_ss, DL.cmp_ii, DL.add_ii, DL.add_ib, DL.add_bi, DL.add_ss, DL.add_tt, DL.add_ll, DL.sub_ii, DL.sub_ib, DL.sub_bi, DL.mul_ii, DL.ii_ii, DL.neg_i, DL.is_bb, DL.isn_bb, DL.all_b, DL.all_map, DL.sum_i, DL.eq_ii, DL.eq_bi, DL.eq_t0, DL.eq_l0, DL.ne_ss, DL.ne_ii, DL.ne_t0, DL.ne_l0, DL.ix_tup, DL.ix_lst, DL.ix_str, DL.in_c, DL.nin_c, DL.sl_str, DL.sl_tup, DL.sl_lst, DL.app_1, DL.pop_0, DL.ext_t, DL.tuple_l, DL.list_t, DL.list_l, DL.int_b, DL.int_i, DL.min_ii, DL.str_i, DL.str_b, DL.repr_1, DL.back_t, DL.tru_l, DL.at0, DL.at1, DL.at2, DL.at3]
  rw [DL.ix_ref eA]
  simp only [dNext, dSeq, dDrop, dRet, dRetN, dIfS, dCont, dBreak, dSet, dAsg, dPar, dSetI, dFor, dVar, dC, dOp, dUn, dTest, dChain, dAnd, dOr, dNot, dAndV, dOrV, dNotV, dIf, dNil, dCons, dTup, dLst, dLstM, dNoPart, dPart, dSl, dCB, dMtL, dMt0, dMtS, dMtS0, dTru, dLc, dItS, dItStr, dRng1, dRng2, dRev, dRevM, dDic0, dstart, slot, asB_bl, asI_int, asS_str, cond_true, cond_false, List.map_cons, List.map_nil, List.length_cons, List.length_nil, List.set_cons_zero, List.set_cons_succ, Option.elim_some, Option.elim_none, List.cons_append, List.nil_append, List.replicate, Nat.sub_self, Nat.reduceSub, Nat.reduceAdd, Bool.not_true, Bool.not_false, setAll, Int.cast_ofNat_Int, Nat.zero_add, Int.reduceLT, Int.reduceLE, Int.reduceBEq, Nat.reduceBEq, decide_true, decide_false, DL.pred_s, DL.len_str, DL.len_tup, DL.len_lst, DL.le_ii, DL.le_ss, DL.cmp_ii, DL.add_ii, DL.add_ib, DL.add_bi, DL.add_ss, DL.add_tt, DL.add_ll, DL.sub_ii, DL.sub_ib, DL.sub_bi, DL.mul_ii, DL.ii_ii, DL.neg_i, DL.is_bb, DL.isn_bb, DL.all_b, DL.all_map, DL.sum_i, DL.eq_ii, DL.eq_bi, DL.eq_t0, DL.eq_l0, DL.ne_ss, DL.ne_ii, DL.ne_t0, DL.ne_l0, DL.ix_tup, DL.ix_lst, DL.ix_str, DL.in_c, DL.nin_c, DL.sl_str, DL.sl_tup, DL.sl_lst, DL.app_1, DL.pop_0, DL.ext_t, DL.tuple_l, DL.list_t, DL.list_l, DL.int_b, DL.int_i, DL.min_ii, DL.str_i, DL.str_b, DL.repr_1, DL.back_t, DL.tru_l, DL.at0, DL.at1, DL.at2, DL.at3]
  rw [DL.ne_r0 eC]
  simp only [dNext, dSeq, dDrop, dRet, dRetN, dIfS, dCont, dBreak, dSet, dAsg, dPar, dSetI, dFor, dVar, dC, dOp, dUn, dTest, dChain, dAnd, dOr, dNot, dAndV, dOrV, dNotV, dIf, dNil, dCons, dTup, dLst, dLstM, dNoPart, dPart, dSl, dCB, dMtL, dMt0, dMtS, dMtS0, dTru, dLc, dItS, dItStr, dRng1, dRng2, dRev, dRevM, dDic0, dstart, slot, asB_bl, asI_int, asS_str, cond_true, cond_false, List.map_cons, List.map_nil, List.length_cons, List.length_nil, List.set_cons_zero, List.set_cons_succ, Option.elim_some, Option.elim_none, List.cons_append, List.nil_append, List.replicate, Nat.sub_self, Nat.reduceSub, Nat.reduceAdd, Bool.not_true, Bool.not_false, setAll, Int.cast_ofNat_Int, Nat.zero_add, Int.reduceLT, Int.reduceLE, Int.reduceBEq, Nat.reduceBEq, decide_true, decide_false, DL.pred_s, DL.len_str, DL.len_tup, DL.len_lst, DL.le_ii, DL.le_ss, DL.cmp_ii, DL.add_ii, DL.add_ib, DL.add_bi, DL.add_ss, DL.add_tt, DL.add_ll, DL.sub_ii, DL.sub_ib, DL.sub_bi, DL.mul_ii, DL.ii_ii, DL.neg_i, DL.is_bb, DL.isn_bb, DL.all_b, DL.all_map, DL.sum_i, DL.eq_ii, DL.eq_bi, DL.eq_t0, DL.eq_l0, DL.ne_ss, DL.ne_ii, DL.ne_t0, DL.ne_l0, DL.ix_tup, DL.ix_lst, DL.ix_str, DL.in_c, DL.nin_c, DL.sl_str, DL.sl_tup, DL.sl_lst, DL.app_1, DL.pop_0, DL.ext_t, DL.tuple_l, DL.list_t, DL.list_l, DL.int_b, DL.int_i, DL.min_ii, DL.str_i, DL.str_b, DL.repr_1, DL.back_t, DL.tru_l, DL.at0, DL.at1, DL.at2, DL.at3]
  refine ⟨by omega, ?_⟩
  by_cases hcs : cs = []
  · subst hcs
    simp only [dNext, dSeq, dDrop, dRet, dRetN, dIfS, dCont, dBreak, dSet, dAsg, dPar, dSetI, dFor, dVar, dC, dOp, dUn, dTest, dChain, dAnd, dOr, dNot, dAndV, dOrV, dNotV, dIf, dNil, dCons, dTup, dLst, dLstM, dNoPart, dPart, dSl, dCB, dMtL, dMt0, dMtS, dMtS0, dTru, dLc, dItS, dItStr, dRng1, dRng2, dRev, dRevM, dDic0, dstart, slot, asB_bl, asI_int, asS_str, cond_true, cond_false, List.map_cons, List.map_nil, List.length_cons, List.length_nil, List.set_cons_zero, List.set_cons_succ, Option.elim_some, Option.elim_none, List.cons_append, List.nil_append, List.replicate, Nat.sub_self, Nat.reduceSub, Nat.reduceAdd, Bool.not_true, Bool.not_false, setAll, Int.cast_ofNat_Int, Nat.zero_add, Int.reduceLT, Int.reduceLE, Int.reduceBEq, Nat.reduceBEq, decide_true, decide_false, DL.pred_s, DL.len_str, DL.len_tup, DL.len_lst, DL.le_ii, DL.le_ss, DL.cmp_ii, DL.add_ii, DL.add_ib, DL.add_bi, DL.add_ss, DL.add_tt, DL.add_ll, DL.sub_ii, DL.sub_ib, DL.sub_bi, DL.mul_ii, DL.ii_ii, DL.neg_i, DL.is_bb, DL.isn_bb, DL.all_b, DL.all_map, DL.sum_i, DL.eq_ii, DL.eq_bi, DL.eq_t0, DL.eq_l0, DL.ne_ss, DL.ne_ii, DL.ne_t0, DL.ne_l0, DL.ix_tup, DL.ix_lst, DL.ix_str, DL.in_c, DL.nin_c, DL.sl_str, DL.sl_tup, DL.sl_lst, DL.app_1, DL.pop_0, DL.ext_t, DL.tuple_l, DL.list_t, DL.list_l, DL.int_b, DL.int_i, DL.min_ii, DL.str_i, DL.str_b, DL.repr_1, DL.back_t, DL.tru_l, DL.at0, DL.at1, DL.at2, DL.at3]
    have hD : Dk S1 a c := ⟨[], m, n + 1, hne, eA, eC, by simp⟩
    show (_ : Prop) ∧ _
    refine ⟨by decide, ?_⟩
    simp only [DL.ix_ref eA]
    simp only [dNext, dSeq, dDrop, dRet, dRetN, dIfS, dCont, dBreak, dSet, dAsg, dPar, dSetI, dFor, dVar, dC, dOp, dUn, dTest, dChain, dAnd, dOr, dNot, dAndV, dOrV, dNotV, dIf, dNil, dCons, dTup, dLst, dLstM, dNoPart, dPart, dSl, dCB, dMtL, dMt0, dMtS, dMtS0, dTru, dLc, dItS, dItStr, dRng1, dRng2, dRev, dRevM, dDic0, dstart, slot, asB_bl, asI_int, asS_str, cond_true, cond_false, List.map_cons, List.map_nil, List.length_cons, List.length_nil, List.set_cons_zero, List.set_cons_succ, Option.elim_some, Option.elim_none, List.cons_append, List.nil_append, List.replicate, Nat.sub_self, Nat.reduceSub, Nat.reduceAdd, Bool.not_true, Bool.not_false, setAll, Int.cast_ofNat_Int, Nat.zero_add, Int.reduceLT, Int.reduceLE, Int.reduceBEq, Nat.reduceBEq, decide_true, decide_false, DL.pred_s, DL.len_str, DL.len_tup, DL.len_lst, DL.le_ii, DL.le_ss, DL.cmp_ii, DL.add_ii, DL.add_ib, DL.add_bi, DL.add_ss, DL.add_tt, DL.add_ll, DL.sub_ii, DL.sub_ib, DL.sub_bi, DL.mul_ii, DL.ii_ii, DL.neg_i, DL.is_bb, DL.isn_bb, DL.all_b, DL.all_map, DL.sum_i, DL.eq_ii, DL.eq_bi, DL.eq_t0, DL.eq_l0, DL.ne_ss, DL.ne_ii, DL.ne_t0, DL.ne_l0, DL.ix_tup, DL.ix_lst, DL.ix_str, DL.in_c, DL.nin_c, DL.sl_str, DL.sl_tup, DL.sl_lst, DL.app_1, DL.pop_0, DL.ext_t, DL.tuple_l, DL.list_t, DL.list_l, DL.int_b, DL.int_i, DL.min_ii, DL.str_i, DL.str_b, DL.repr_1, DL.back_t, DL.tru_l, DL.at0, DL.at1, DL.at2, DL.at3]
    have b1 : ∀ y : Int, CMul (y % 2147483647) (y % 2147483647) := fun y => .inl ⟨by omega, by omega⟩
    have b2 : ∀ y : Int, CMul (y % 2147483587) (y % 2147483587) := fun y => .inl ⟨by omega, by omega⟩
    refine ⟨.inl ⟨by decide, by decide⟩, .inr ⟨by decide, by decide⟩, by decide, b1 _, ?_⟩
    simp only [DL.ix_ref eA]
    simp only [dNext, dSeq, dDrop, dRet, dRetN, dIfS, dCont, dBreak, dSet, dAsg, dPar, dSetI, dFor, dVar, dC, dOp, dUn, dTest, dChain, dAnd, dOr, dNot, dAndV, dOrV, dNotV, dIf, dNil, dCons, dTup, dLst, dLstM, dNoPart, dPart, dSl, dCB, dMtL, dMt0, dMtS, dMtS0, dTru, dLc, dItS, dItStr, dRng1, dRng2, dRev, dRevM, dDic0, dstart, slot, asB_bl, asI_int, asS_str, cond_true, cond_false, List.map_cons, List.map_nil, List.length_cons, List.length_nil, List.set_cons_zero, List.set_cons_succ, Option.elim_some, Option.elim_none, List.cons_append, List.nil_append, List.replicate, Nat.sub_self, Nat.reduceSub, Nat.reduceAdd, Bool.not_true, Bool.not_false, setAll, Int.cast_ofNat_Int, Nat.zero_add, Int.reduceLT, Int.reduceLE, Int.reduceBEq, Nat.reduceBEq, decide_true, decide_false, DL.pred_s, DL.len_str, DL.len_tup, DL.len_lst, DL.le_ii, DL.le_ss, DL.cmp_ii, DL.add_ii, DL.add_ib, DL.add_bi, DL.add_ss, DL.add_tt, DL.add_ll, DL.sub_ii, DL.sub_ib, DL.sub_bi, DL.mul_ii, DL.ii_ii, DL.neg_i, DL.is_bb, DL.isn_bb, DL.all_b, DL.all_map, DL.sum_i, DL.eq_ii, DL.eq_bi, DL.eq_t0, DL.eq_l0, DL.ne_ss, DL.ne_ii, DL.ne_t0, DL.ne_l0, DL.ix_tup, DL.ix_lst, DL.ix_str, DL.in_c, DL.nin_c, DL.sl_str, DL.sl_tup, DL.sl_lst, DL.app_1, DL.pop_0, DL.ext_t, DL.tuple_l, DL.list_t, DL.list_l, DL.int_b, DL.int_i, DL.min_ii, DL.str_i, DL.str_b, DL.repr_1, DL.back_t, DL.tru_l, DL.at0, DL.at1, DL.at2, DL.at3]
    exact ⟨.inl ⟨by decide, by decide⟩, by decide, b2 _, .inl ⟨by decide, by decide⟩, by decide, ⟨by decide, by decide⟩, w0, h _ _ (Int.emod_nonneg _ (by omega)) (Int.emod_lt_of_pos _ w0) hD sA⟩
  · obtain ⟨M, x, rfl⟩ : ∃ M x, cs = M ++ [x] := ⟨cs.dropLast, cs.getLast hcs, (List.dropLast_concat_getLast hcs).symm⟩
    have e0 : (!((M ++ [x]).map DL.D.int).isEmpty) = true := by simp
    rw [e0]
    simp only [dNext, dSeq, dDrop, dRet, dRetN, dIfS, dCont, dBreak, dSet, dAsg, dPar, dSetI, dFor, dVar, dC, dOp, dUn, dTest, dChain, dAnd, dOr, dNot, dAndV, dOrV, dNotV, dIf, dNil, dCons, dTup, dLst, dLstM, dNoPart, dPart, dSl, dCB, dMtL, dMt0, dMtS, dMtS0, dTru, dLc, dItS, dItStr, dRng1, dRng2, dRev, dRevM, dDic0, dstart, slot, asB_bl, asI_int, asS_str, cond_true, cond_false, List.map_cons, List.map_nil, List.length_cons, List.length_nil, List.set_cons_zero, List.set_cons_succ, Option.elim_some, Option.elim_none, List.cons_append, List.nil_append, List.replicate, Nat.sub_self, Nat.reduceSub, Nat.reduceAdd, Bool.not_true, Bool.not_false, setAll, Int.cast_ofNat_Int, Nat.zero_add, Int.reduceLT, Int.reduceLE, Int.reduceBEq, Nat.reduceBEq, decide_true, decide_false, DL.pred_s, DL.len_str, DL.len_tup, DL.len_lst, DL.le_ii, DL.le_ss, DL.cmp_ii, DL.add_ii, DL.add_ib, DL.add_bi, DL.add_ss, DL.add_tt, DL.add_ll, DL.sub_ii, DL.sub_ib, DL.sub_bi, DL.mul_ii, DL.ii_ii, DL.neg_i, DL.is_bb, DL.isn_bb, DL.all_b, DL.all_map, DL.sum_i, DL.eq_ii, DL.eq_bi, DL.eq_t0, DL.eq_l0, DL.ne_ss, DL.ne_ii, DL.ne_t0, DL.ne_l0, DL.ix_tup, DL.ix_lst, DL.ix_str, DL.in_c, DL.nin_c, DL.sl_str, DL.sl_tup, DL.sl_lst, DL.app_1, DL.pop_0, DL.ext_t, DL.tuple_l, DL.list_t, DL.list_l, DL.int_b, DL.int_i, DL.min_ii, DL.str_i, DL.str_b, DL.repr_1, DL.back_t, DL.tru_l, DL.at0, DL.at1, DL.at2, DL.at3]
    rw [DL.ix_ref eA]
    simp only [dNext, dSeq, dDrop, dRet, dRetN, dIfS, dCont, dBreak, dSet, dAsg, dPar, dSetI, dFor, dVar, dC, dOp, dUn, dTest, dChain, dAnd, dOr, dNot, dAndV, dOrV, dNotV, dIf, dNil, dCons, dTup, dLst, dLstM, dNoPart, dPart, dSl, dCB, dMtL, dMt0, dMtS, dMtS0, dTru, dLc, dItS, dItStr, dRng1, dRng2, dRev, dRevM, dDic0, dstart, slot, asB_bl, asI_int, asS_str, cond_true, cond_false, List.map_cons, List.map_nil, List.length_cons, List.length_nil, List.set_cons_zero, List.set_cons_succ, Option.elim_some, Option.elim_none, List.cons_append, List.nil_append, List.replicate, Nat.sub_self, Nat.reduceSub, Nat.reduceAdd, Bool.not_true, Bool.not_false, setAll, Int.cast_ofNat_Int, Nat.zero_add, Int.reduceLT, Int.reduceLE, Int.reduceBEq, Nat.reduceBEq, decide_true, decide_false, DL.pred_s, DL.len_str, DL.len_tup, DL.len_lst, DL.le_ii, DL.le_ss, DL.cmp_ii, DL.add_ii, DL.add_ib, DL.add_bi, DL.add_ss, DL.add_tt, DL.add_ll, DL.sub_ii, DL.sub_ib, DL.sub_bi, DL.mul_ii, DL.ii_ii, DL.neg_i, DL.is_bb, DL.isn_bb, DL.all_b, DL.all_map, DL.sum_i, DL.eq_ii, DL.eq_bi, DL.eq_t0, DL.eq_l0, DL.ne_ss, DL.ne_ii, DL.ne_t0, DL.ne_l0, DL.ix_tup, DL.ix_lst, DL.ix_str, DL.in_c, DL.nin_c, DL.sl_str, DL.sl_tup, DL.sl_lst, DL.app_1, DL.pop_0, DL.ext_t, DL.tuple_l, DL.list_t, DL.list_l, DL.int_b, DL.int_i, DL.min_ii, DL.str_i, DL.str_b, DL.repr_1, DL.back_t, DL.tru_l, DL.at0, DL.at1, DL.at2, DL.at3]
    refine ⟨⟨c, _, rfl, eC⟩, ?_⟩
    rw [DL.on_ref eC]
    have e1 : (((M ++ [x]).map DL.D.int)[((M ++ [x]).map DL.D.int).length - 1]?) = some (.int x) := by simp
    have e2 : ((M ++ [x]).map DL.D.int).dropLast = M.map .int := by simp
    rw [e1, e2]
    simp only [dNext, dSeq, dDrop, dRet, dRetN, dIfS, dCont, dBreak, dSet, dAsg, dPar, dSetI, dFor, dVar, dC, dOp, dUn, dTest, dChain, dAnd, dOr, dNot, dAndV, dOrV, dNotV, dIf, dNil, dCons, dTup, dLst, dLstM, dNoPart, dPart, dSl, dCB, dMtL, dMt0, dMtS, dMtS0, dTru, dLc, dItS, dItStr, dRng1, dRng2, dRev, dRevM, dDic0, dstart, slot, asB_bl, asI_int, asS_str, cond_true, cond_false, List.map_cons, List.map_nil, List.length_cons, List.length_nil, List.set_cons_zero, List.set_cons_succ, Option.elim_some, Option.elim_none, List.cons_append, List.nil_append, List.replicate, Nat.sub_self, Nat.reduceSub, Nat.reduceAdd, Bool.not_true, Bool.not_false, setAll, Int.cast_ofNat_Int, Nat.zero_add, Int.reduceLT, Int.reduceLE, Int.reduceBEq, Nat.reduceBEq, decide_true, decide_false, DL.pred_s, DL.len_str, DL.len_tup, DL.len_lst, DL.le_ii, DL.le_ss, DL.cmp_ii, DL.add_ii, DL.add_ib, DL.add_bi, DL.add_ss, DL.add_tt, DL.add_ll, DL.sub_ii, DL.sub_ib, DL.sub_bi, DL.mul_ii, DL.ii_ii, DL.neg_i, DL.is_bb, DL.isn_bb, DL.all_b, DL.all_map, DL.sum_i, DL.eq_ii, DL.eq_bi, DL.eq_t0, DL.eq_l0, DL.ne_ss, DL.ne_ii, DL.ne_t0, DL.ne_l0, DL.ix_tup, DL.ix_lst, DL.ix_str, DL.in_c, DL.nin_c, DL.sl_str, DL.sl_tup, DL.sl_lst, DL.app_1, DL.pop_0, DL.ext_t, DL.tuple_l, DL.list_t, DL.list_l, DL.int_b, DL.int_i, DL.min_ii, DL.str_i, DL.str_b, DL.repr_1, DL.back_t, DL.tru_l, DL.at0, DL.at1, DL.at2, DL.at3]
    refine ⟨⟨by decide, by decide, by decide⟩, ?_⟩
    have lM : M.length ≤ 62 := by rw [List.length_append] at hl; simp at hl; omega
    have eA2 : (sup S1 c (.lst (M.map .int))) a = some (.lst [.ref c, .int m, .int (n + 1)]) := by rw [sup_ne hne]; exact eA
    have eC2 : (sup S1 c (.lst (M.map .int))) c = some (.lst (M.map .int)) := sup_same
    have sA2 : Step [a, c] S (sup S1 c (.lst (M.map .int))) := sA.trans (.mut (by simp))
    generalize sup S1 c (.lst (M.map .int)) = S2 at eA2 eC2 sA2 ⊢
    cases hb : decide ((10 : Int) ^ Int.toNat 18 ≤ x) with
    | true =>
      simp only [dNext, dSeq, dDrop, dRet, dRetN, dIfS, dCont, dBreak, dSet, dAsg, dPar, dSetI, dFor, dVar, dC, dOp, dUn, dTest, dChain, dAnd, dOr, dNot, dAndV, dOrV, dNotV, dIf, dNil, dCons, dTup, dLst, dLstM, dNoPart, dPart, dSl, dCB, dMtL, dMt0, dMtS, dMtS0, dTru, dLc, dItS, dItStr, dRng1, dRng2, dRev, dRevM, dDic0, dstart, slot, asB_bl, asI_int, asS_str, cond_true, cond_false, List.map_cons, List.map_nil, List.length_cons, List.length_nil, List.set_cons_zero, List.set_cons_succ, Option.elim_some, Option.elim_none, List.cons_append, List.nil_append, List.replicate, Nat.sub_self, Nat.reduceSub, Nat.reduceAdd, Bool.not_true, Bool.not_false, setAll, Int.cast_ofNat_Int, Nat.zero_add, Int.reduceLT, Int.reduceLE, Int.reduceBEq, Nat.reduceBEq, decide_true, decide_false, DL.pred_s, DL.len_str, DL.len_tup, DL.len_lst, DL.le_ii, DL.le_ss, DL.cmp_ii, DL.add_ii, DL.add_ib, DL.add_bi, DL.add_ss, DL.add_tt, DL.add_ll, DL.sub_ii, DL.sub_ib, DL.sub_bi, DL.mul_ii, DL.ii_ii, DL.neg_i, DL.is_bb, DL.isn_bb, DL.all_b, DL.all_map, DL.sum_i, DL.eq_ii, DL.eq_bi, DL.eq_t0, DL.eq_l0, DL.ne_ss, DL.ne_ii, DL.ne_t0, DL.ne_l0, DL.ix_tup, DL.ix_lst, DL.ix_str, DL.in_c, DL.nin_c, DL.sl_str, DL.sl_tup, DL.sl_lst, DL.app_1, DL.pop_0, DL.ext_t, DL.tuple_l, DL.list_t, DL.list_l, DL.int_b, DL.int_i, DL.min_ii, DL.str_i, DL.str_b, DL.repr_1, DL.back_t, DL.tru_l, DL.at0, DL.at1, DL.at2, DL.at3]
      rw [DL.ix_ref eA2]
      simp only [dNext, dSeq, dDrop, dRet, dRetN, dIfS, dCont, dBreak, dSet, dAsg, dPar, dSetI, dFor, dVar, dC, dOp, dUn, dTest, dChain, dAnd, dOr, dNot, dAndV, dOrV, dNotV, dIf, dNil, dCons, dTup, dLst, dLstM, dNoPart, dPart, dSl, dCB, dMtL, dMt0, dMtS, dMtS0, dTru, dLc, dItS, dItStr, dRng1, dRng2, dRev, dRevM, dDic0, dstart, slot, asB_bl, asI_int, asS_str, cond_true, cond_false, List.map_cons, List.map_nil, List.length_cons, List.length_nil, List.set_cons_zero, List.set_cons_succ, Option.elim_some, Option.elim_none, List.cons_append, List.nil_append, List.replicate, Nat.sub_self, Nat.reduceSub, Nat.reduceAdd, Bool.not_true, Bool.not_false, setAll, Int.cast_ofNat_Int, Nat.zero_add, Int.reduceLT, Int.reduceLE, Int.reduceBEq, Nat.reduceBEq, decide_true, decide_false, DL.pred_s, DL.len_str, DL.len_tup, DL.len_lst, DL.le_ii, DL.le_ss, DL.cmp_ii, DL.add_ii, DL.add_ib, DL.add_bi, DL.add_ss, DL.add_tt, DL.add_ll, DL.sub_ii, DL.sub_ib, DL.sub_bi, DL.mul_ii, DL.ii_ii, DL.neg_i, DL.is_bb, DL.isn_bb, DL.all_b, DL.all_map, DL.sum_i, DL.eq_ii, DL.eq_bi, DL.eq_t0, DL.eq_l0, DL.ne_ss, DL.ne_ii, DL.ne_t0, DL.ne_l0, DL.ix_tup, DL.ix_lst, DL.ix_str, DL.in_c, DL.nin_c, DL.sl_str, DL.sl_tup, DL.sl_lst, DL.app_1, DL.pop_0, DL.ext_t, DL.tuple_l, DL.list_t, DL.list_l, DL.int_b, DL.int_i, DL.min_ii, DL.str_i, DL.str_b, DL.repr_1, DL.back_t, DL.tru_l, DL.at0, DL.at1, DL.at2, DL.at3]
      refine ⟨⟨c, _, rfl, eC2⟩, ⟨w0, w1⟩, ?_⟩
      rw [DL.on_ref eC2]
      refine ⟨by rw [List.length_map]; omega, w0, ?_⟩
      refine h _ _ (Int.emod_nonneg _ (by omega)) (Int.emod_lt_of_pos _ w0) ⟨M ++ [x / w], m, n + 1, hne, ?_, ?_, by simp; omega⟩ (sA2.trans (.mut (by simp)))
      · rw [sup_ne hne]; exact eA2
      · rw [sup_same, List.map_append]; rfl
    | false =>
      simp only [dNext, dSeq, dDrop, dRet, dRetN, dIfS, dCont, dBreak, dSet, dAsg, dPar, dSetI, dFor, dVar, dC, dOp, dUn, dTest, dChain, dAnd, dOr, dNot, dAndV, dOrV, dNotV, dIf, dNil, dCons, dTup, dLst, dLstM, dNoPart, dPart, dSl, dCB, dMtL, dMt0, dMtS, dMtS0, dTru, dLc, dItS, dItStr, dRng1, dRng2, dRev, dRevM, dDic0, dstart, slot, asB_bl, asI_int, asS_str, cond_true, cond_false, List.map_cons, List.map_nil, List.length_cons, List.length_nil, List.set_cons_zero, List.set_cons_succ, Option.elim_some, Option.elim_none, List.cons_append, List.nil_append, List.replicate, Nat.sub_self, Nat.reduceSub, Nat.reduceAdd, Bool.not_true, Bool.not_false, setAll, Int.cast_ofNat_Int, Nat.zero_add, Int.reduceLT, Int.reduceLE, Int.reduceBEq, Nat.reduceBEq, decide_true, decide_false, DL.pred_s, DL.len_str, DL.len_tup, DL.len_lst, DL.le_ii, DL.le_ss, DL.cmp_ii, DL.add_ii, DL.add_ib, DL.add_bi, DL.add_ss, DL.add_tt, DL.add_ll, DL.sub_ii, DL.sub_ib, DL.sub_bi, DL.mul_ii, DL.ii_ii, DL.neg_i, DL.is_bb, DL.isn_bb, DL.all_b, DL.all_map, DL.sum_i, DL.eq_ii, DL.eq_bi, DL.eq_t0, DL.eq_l0, DL.ne_ss, DL.ne_ii, DL.ne_t0, DL.ne_l0, DL.ix_tup, DL.ix_lst, DL.ix_str, DL.in_c, DL.nin_c, DL.sl_str, DL.sl_tup, DL.sl_lst, DL.app_1, DL.pop_0, DL.ext_t, DL.tuple_l, DL.list_t, DL.list_l, DL.int_b, DL.int_i, DL.min_ii, DL.str_i, DL.str_b, DL.repr_1, DL.back_t, DL.tru_l, DL.at0, DL.at1, DL.at2, DL.at3]
      have hD : Dk S2 a c := ⟨M, m, n + 1, hne, eA2, eC2, by omega⟩
      have eA := eA2
      have sA := sA2
      show (_ : Prop) ∧ _
      refine ⟨by decide, ?_⟩
      simp only [DL.ix_ref eA]
      simp only [dNext, dSeq, dDrop, dRet, dRetN, dIfS, dCont, dBreak, dSet, dAsg, dPar, dSetI, dFor, dVar, dC, dOp, dUn, dTest, dChain, dAnd, dOr, dNot, dAndV, dOrV, dNotV, dIf, dNil, dCons, dTup, dLst, dLstM, dNoPart, dPart, dSl, dCB, dMtL, dMt0, dMtS, dMtS0, dTru, dLc, dItS, dItStr, dRng1, dRng2, dRev, dRevM, dDic0, dstart, slot, asB_bl, asI_int, asS_str, cond_true, cond_false, List.map_cons, List.map_nil, List.length_cons, List.length_nil, List.set_cons_zero, List.set_cons_succ, Option.elim_some, Option.elim_none, List.cons_append, List.nil_append, List.replicate, Nat.sub_self, Nat.reduceSub, Nat.reduceAdd, Bool.not_true, Bool.not_false, setAll, Int.cast_ofNat_Int, Nat.zero_add, Int.reduceLT, Int.reduceLE, Int.reduceBEq, Nat.reduceBEq, decide_true, decide_false, DL.pred_s, DL.len_str, DL.len_tup, DL.len_lst, DL.le_ii, DL.le_ss, DL.cmp_ii, DL.add_ii, DL.add_ib, DL.add_bi, DL.add_ss, DL.add_tt, DL.add_ll, DL.sub_ii, DL.sub_ib, DL.sub_bi, DL.mul_ii, DL.ii_ii, DL.neg_i, DL.is_bb, DL.isn_bb, DL.all_b, DL.all_map, DL.sum_i, DL.eq_ii, DL.eq_bi, DL.eq_t0, DL.eq_l0, DL.ne_ss, DL.ne_ii, DL.ne_t0, DL.ne_l0, DL.ix_tup, DL.ix_lst, DL.ix_str, DL.in_c, DL.nin_c, DL.sl_str, DL.sl_tup, DL.sl_lst, DL.app_1, DL.pop_0, DL.ext_t, DL.tuple_l, DL.list_t, DL.list_l, DL.int_b, DL.int_i, DL.min_ii, DL.str_i, DL.str_b, DL.repr_1, DL.back_t, DL.tru_l, DL.at0, DL.at1, DL.at2, DL.at3]
      have b1 : ∀ y : Int, CMul (y % 2147483647) (y % 2147483647) := fun y => .inl ⟨by omega, by omega⟩
      have b2 : ∀ y : Int, CMul (y % 2147483587) (y % 2147483587) := fun y => .inl ⟨by omega, by omega⟩
      refine ⟨.inl ⟨by decide, by decide⟩, .inr ⟨by decide, by decide⟩, by decide, b1 _, ?_⟩
      simp only [DL.ix_ref eA]
      simp only [dNext, dSeq, dDrop, dRet, dRetN, dIfS, dCont, dBreak, dSet, dAsg, dPar, dSetI, dFor, dVar, dC, dOp, dUn, dTest, dChain, dAnd, dOr, dNot, dAndV, dOrV, dNotV, dIf, dNil, dCons, dTup, dLst, dLstM, dNoPart, dPart, dSl, dCB, dMtL, dMt0, dMtS, dMtS0, dTru, dLc, dItS, dItStr, dRng1, dRng2, dRev, dRevM, dDic0, dstart, slot, asB_bl, asI_int, asS_str, cond_true, cond_false, List.map_cons, List.map_nil, List.length_cons, List.length_nil, List.set_cons_zero, List.set_cons_succ, Option.elim_some, Option.elim_none, List.cons_append, List.nil_append, List.replicate, Nat.sub_self, Nat.reduceSub, Nat.reduceAdd, Bool.not_true, Bool.not_false, setAll, Int.cast_ofNat_Int, Nat.zero_add, Int.reduceLT, Int.reduceLE, Int.reduceBEq, Nat.reduceBEq, decide_true, decide_false, DL.pred_s, DL.len_str, DL.len_tup, DL.len_lst, DL.le_ii, DL.le_ss, DL.cmp_ii, DL.add_ii, DL.add_ib, DL.add_bi, DL.add_ss, DL.add_tt, DL.add_ll, DL.sub_ii, DL.sub_ib, DL.sub_bi, DL.mul_ii, DL.ii_ii, DL.neg_i, DL.is_bb, DL.isn_bb, DL.all_b, DL.all_map, DL.sum_i, DL.eq_ii, DL.eq_bi, DL.eq_t0, DL.eq_l0, DL.ne_ss, DL.ne_ii, DL.ne_t0, DL.ne_l0, DL.ix_tup, DL.ix_lst, DL.ix_str, DL.in_c, DL.nin_c, DL.sl_str, DL.sl_tup, DL.sl_lst, DL.app_1, DL.pop_0, DL.ext_t, DL.tuple_l, DL.list_t, DL.list_l, DL.int_b, DL.int_i, DL.min_ii, DL.str_i, DL.str_b, DL.repr_1, DL.back_t, DL.tru_l, DL.at0, DL.at1, DL.at2, DL.at3]
      exact ⟨.inl ⟨by decide, by decide⟩, by decide, b2 _, .inl ⟨by decide, by decide⟩, by decide, ⟨by decide, by decide⟩, w0, h _ _ (Int.emod_nonneg _ (by omega)) (Int.emod_lt_of_pos _ w0) hD sA⟩
abbrev st_l_name : Stmt := top 19
theorem sc_l_name : FnScope ["_law_deck_here", "_law_letters", "_law_many", "_law_first", "_law_step", "_law_k"] ["_law_deck_here"] (defScope st_l_name) := ⟨rfl, rfl, rfl, by decide +kernel, rfl, by decide +kernel, by decide +kernel⟩
theorem az_slen : (Str.ofString "abcdefghijklmnopqrstuvwxyz").length = 26 := by decide +kernel
theorem az_len : az.cps.toList.length = 26 := by decide +kernel
theorem az_asc : ∀ c ∈ az.cps.toList, c < 128 := by decide +kernel
theorem az_nodot : 46 ∉ az.cps.toList := by decide +kernel
theorem nameS_iff {z : Str} : nameS z = true ↔ 1 ≤ z.length ∧ z.length ≤ 8 ∧ ∀ c ∈ z.cps.toList, c ∈ az.cps.toList := by
  unfold nameS
  constructor
  · intro h
    cases h1 : decide ((1 : Int) ≤ (z.length : Int)) with
    | false => rw [h1] at h; cases h
    | true =>
      cases h2 : decide ((z.length : Int) ≤ 8) with
      | false => rw [h1, h2] at h; cases h
      | true =>
        rw [h1, h2] at h
        have h1 := of_decide_eq_true h1
        have h2 := of_decide_eq_true h2
        exact ⟨by omega, by omega, fun c hc => of_decide_eq_true (List.all_eq_true.mp h c hc)⟩
  · intro ⟨h1, h2, h3⟩
    rw [decide_eq_true (show (1 : Int) ≤ (z.length : Int) by omega), decide_eq_true (show (z.length : Int) ≤ 8 by omega)]
    exact List.all_eq_true.mpr fun c hc => decide_eq_true (h3 c hc)
theorem nameS_good {z : Str} (h : nameS z = true) : goodS 0 z = true := by
  obtain ⟨h1, h2, h3⟩ := nameS_iff.mp h
  exact goodS_of (by omega) fun c hc => az_asc c (h3 c hc)
def NameD (d : D) : Prop := ∃ z, d = .str z ∧ nameS z = true
def sp_l_name : DSp := spG NameD
theorem len_l_name {ds : List D} {S : Sto} {P : DK} (h : sp_l_name ds S P) : ds.length = 1 := spG_len h
theorem small8 : 16777216 ≤ sizeLine := by rw [sizeLine_eq]; decide
theorem ok_l_name {k : Nat}  (DD : Def K mg "_law_name" st_l_name ["_law_deck_here"]) (G__law_draw : Has P w K mg base (k) "_law_draw" ["_law_deck_here", "_law_ways"] (sp_l_draw)) (m_range : mg "range" = none) : Has P w K mg base (k + 1) "_law_name" ["_law_deck_here"] (sp_l_name) := by
  refine DD.has sc_l_name (fun ds S P h => len_l_name h) (fun f cdv A outer s H hr hgd => ⟨_, (ss_cons (s_set 1 sc_l_name.nd q_str)
      (ss_cons (s_set 2 sc_l_name.nd (q_ix ix_D (q_lst (a_cons q_int (a_cons q_int (a_cons (q_op op_addD q_int (q_def G__law_draw (hr.mono (by omega)) hgd (a_cons (q_var 0) (a_cons q_int a_nil)))) (a_cons q_int a_nil))))) (q_def G__law_draw (hr.mono (by omega)) hgd (a_cons (q_var 0) (a_cons q_int a_nil)))))
      (ss_cons (s_set 3 sc_l_name.nd (q_def G__law_draw (hr.mono (by omega)) hgd (a_cons (q_var 0) (a_cons q_int a_nil))))
      (ss_cons (s_set 4 sc_l_name.nd (q_def G__law_draw (hr.mono (by omega)) hgd (a_cons (q_var 0) (a_cons q_int a_nil))))
      (ss_one (s_ret (q_mtS PySem.F.slot_str_join PySem.F.type_str_join m_join q_str (a_cons (q_lc (own := [("_law_k", 5)]) (is := [5]) rfl lcg_name rfl sc_l_name.nd (i_rng1 rfl m_range (a_cons (q_var 2) a_nil)) (blkOk_by (own := [("_law_k", 5)]) (N := ["_law_deck_here", "_law_letters", "_law_many", "_law_first", "_law_step", "_law_k"]) (sc := defScope st_l_name) (by decide +kernel)) (fun _ _ _ _ _ => pg_name (i := 5) sc_l_name.nd rfl (Or.inl rfl)) (fun _ _ _ _ _ => ts_nil) (fun _ _ _ _ _ => (q_ix ix_D (q_var 1) (q_op op_modD (q_op op_addD (q_var 3) (q_op op_mulD (q_var 4) (q_var 5))) q_int)))) a_nil)))))))), fun ds S P h => ?_⟩)
  obtain ⟨a, c, rfl, hD, h⟩ := h
  have hl := small8
  simp only [dNext, dSeq, dDrop, dRet, dRetN, dIfS, dCont, dBreak, dSet, dAsg, dPar, dSetI, dFor, dVar, dC, dOp, dUn, dTest, dChain, dAnd, dOr, dNot, dAndV, dOrV, dNotV, dIf, dNil, dCons, dTup, dLst, dLstM, dNoPart, dPart, dSl, dCB, dMtL, dMt0, dMtS, dMtS0, dTru, dLc, dItS, dItStr, dRng1, dRng2, dRev, dRevM, dDic0, dstart, slot, asB_bl, asI_int, asS_str, cond_true, cond_false, List.map_cons, List.map_nil, List.length_cons, List.length_nil, List.set_cons_zero, List.set_cons_succ, Option.elim_some, Option.elim_none, List.cons_append, List.nil_append, List.replicate, Nat.sub_self, Nat.reduceSub, Nat.reduceAdd, Bool.not_true, Bool.not_false, setAll, Int.cast_ofNat_Int, Nat.zero_add, Int.reduceLT, Int.reduceLE, Int.reduceBEq, Nat.reduceBEq, decide_true, decide_false, DL.pred_s, DL.len_str, DL.len_tup, DL.len_lst, DL.le_ii, DL.le_ss, DL.cmp_ii, DL.add_ii, DL.add_ib, DL.add_bi, DL.add_ss, DL.add_tt, DL.add_ll, DL.sub_ii, DL.sub_ib, DL.sub_bi, DL.mul_ii, DL.ii_ii, DL.neg_i, DL.is_bb, DL.isn_bb, DL.all_b, DL.all_map, DL.sum_i, DL.eq_ii, DL.eq_bi, DL.eq_t0, DL.eq_l0, DL.ne_ss, DL.ne_ii, DL.ne_t0, DL.ne_l0, DL.ix_tup, DL.ix_lst, DL.ix_str, DL.in_c, DL.nin_c, DL.sl_str, DL.sl_tup, DL.sl_lst, DL.app_1, DL.pop_0, DL.ext_t, DL.tuple_l, DL.list_t, DL.list_l, DL.int_b, DL.int_i, DL.min_ii, DL.str_i, DL.str_b, DL.repr_1, DL.back_t, DL.tru_l, DL.at0, DL.at1, DL.at2, DL.at3]
  refine ⟨a, c, 8, rfl, by decide, by decide, hD, fun r1 S1 p1 q1 hD s1 => ?_⟩
  simp only [dNext, dSeq, dDrop, dRet, dRetN, dIfS, dCont, dBreak, dSet, dAsg, dPar, dSetI, dFor, dVar, dC, dOp, dUn, dTest, dChain, dAnd, dOr, dNot, dAndV, dOrV, dNotV, dIf, dNil, dCons, dTup, dLst, dLstM, dNoPart, dPart, dSl, dCB, dMtL, dMt0, dMtS, dMtS0, dTru, dLc, dItS, dItStr, dRng1, dRng2, dRev, dRevM, dDic0, dstart, slot, asB_bl, asI_int, asS_str, cond_true, cond_false, List.map_cons, List.map_nil, List.length_cons, List.length_nil, List.set_cons_zero, List.set_cons_succ, Option.elim_some, Option.elim_none, List.cons_append, List.nil_append, List.replicate, Nat.sub_self, Nat.reduceSub, Nat.reduceAdd, Bool.not_true, Bool.not_false, setAll, Int.cast_ofNat_Int, Nat.zero_add, Int.reduceLT, Int.reduceLE, Int.reduceBEq, Nat.reduceBEq, decide_true, decide_false, DL.pred_s, DL.len_str, DL.len_tup, DL.len_lst, DL.le_ii, DL.le_ss, DL.cmp_ii, DL.add_ii, DL.add_ib, DL.add_bi, DL.add_ss, DL.add_tt, DL.add_ll, DL.sub_ii, DL.sub_ib, DL.sub_bi, DL.mul_ii, DL.ii_ii, DL.neg_i, DL.is_bb, DL.isn_bb, DL.all_b, DL.all_map, DL.sum_i, DL.eq_ii, DL.eq_bi, DL.eq_t0, DL.eq_l0, DL.ne_ss, DL.ne_ii, DL.ne_t0, DL.ne_l0, DL.ix_tup, DL.ix_lst, DL.ix_str, DL.in_c, DL.nin_c, DL.sl_str, DL.sl_tup, DL.sl_lst, DL.app_1, DL.pop_0, DL.ext_t, DL.tuple_l, DL.list_t, DL.list_l, DL.int_b, DL.int_i, DL.min_ii, DL.str_i, DL.str_b, DL.repr_1, DL.back_t, DL.tru_l, DL.at0, DL.at1, DL.at2, DL.at3]
  refine ⟨by omega, a, c, 4, rfl, by decide, by decide, hD, fun r2 S2 p2 q2 hD s2 => ?_⟩
  simp only [dNext, dSeq, dDrop, dRet, dRetN, dIfS, dCont, dBreak, dSet, dAsg, dPar, dSetI, dFor, dVar, dC, dOp, dUn, dTest, dChain, dAnd, dOr, dNot, dAndV, dOrV, dNotV, dIf, dNil, dCons, dTup, dLst, dLstM, dNoPart, dPart, dSl, dCB, dMtL, dMt0, dMtS, dMtS0, dTru, dLc, dItS, dItStr, dRng1, dRng2, dRev, dRevM, dDic0, dstart, slot, asB_bl, asI_int, asS_str, cond_true, cond_false, List.map_cons, List.map_nil, List.length_cons, List.length_nil, List.set_cons_zero, List.set_cons_succ, Option.elim_some, Option.elim_none, List.cons_append, List.nil_append, List.replicate, Nat.sub_self, Nat.reduceSub, Nat.reduceAdd, Bool.not_true, Bool.not_false, setAll, Int.cast_ofNat_Int, Nat.zero_add, Int.reduceLT, Int.reduceLE, Int.reduceBEq, Nat.reduceBEq, decide_true, decide_false, DL.pred_s, DL.len_str, DL.len_tup, DL.len_lst, DL.le_ii, DL.le_ss, DL.cmp_ii, DL.add_ii, DL.add_ib, DL.add_bi, DL.add_ss, DL.add_tt, DL.add_ll, DL.sub_ii, DL.sub_ib, DL.sub_bi, DL.mul_ii, DL.ii_ii, DL.neg_i, DL.is_bb, DL.isn_bb, DL.all_b, DL.all_map, DL.sum_i, DL.eq_ii, DL.eq_bi, DL.eq_t0, DL.eq_l0, DL.ne_ss, DL.ne_ii, DL.ne_t0, DL.ne_l0, DL.ix_tup, DL.ix_lst, DL.ix_str, DL.in_c, DL.nin_c, DL.sl_str, DL.sl_tup, DL.sl_lst, DL.app_1, DL.pop_0, DL.ext_t, DL.tuple_l, DL.list_t, DL.list_l, DL.int_b, DL.int_i, DL.min_ii, DL.str_i, DL.str_b, DL.repr_1, DL.back_t, DL.tru_l, DL.at0, DL.at1, DL.at2, DL.at3]
  obtain ⟨d, ed, hd⟩ := at_mem (xs := ([.int 1, .int 8, .int (1 + r1), .int 2] : List DL.D)) p2 q2
  obtain ⟨n, rfl, n1, n8⟩ : ∃ n : Int, d = .int n ∧ 1 ≤ n ∧ n ≤ 8 := by
    simp only [List.mem_cons, List.not_mem_nil, or_false] at hd
    rcases hd with rfl | rfl | rfl | rfl
    · exact ⟨_, rfl, by omega, by omega⟩
    · exact ⟨_, rfl, by omega, by omega⟩
    · exact ⟨_, rfl, by omega, by omega⟩
    · exact ⟨_, rfl, by omega, by omega⟩
  rw [ed]
  simp only [dNext, dSeq, dDrop, dRet, dRetN, dIfS, dCont, dBreak, dSet, dAsg, dPar, dSetI, dFor, dVar, dC, dOp, dUn, dTest, dChain, dAnd, dOr, dNot, dAndV, dOrV, dNotV, dIf, dNil, dCons, dTup, dLst, dLstM, dNoPart, dPart, dSl, dCB, dMtL, dMt0, dMtS, dMtS0, dTru, dLc, dItS, dItStr, dRng1, dRng2, dRev, dRevM, dDic0, dstart, slot, asB_bl, asI_int, asS_str, cond_true, cond_false, List.map_cons, List.map_nil, List.length_cons, List.length_nil, List.set_cons_zero, List.set_cons_succ, Option.elim_some, Option.elim_none, List.cons_append, List.nil_append, List.replicate, Nat.sub_self, Nat.reduceSub, Nat.reduceAdd, Bool.not_true, Bool.not_false, setAll, Int.cast_ofNat_Int, Nat.zero_add, Int.reduceLT, Int.reduceLE, Int.reduceBEq, Nat.reduceBEq, decide_true, decide_false, DL.pred_s, DL.len_str, DL.len_tup, DL.len_lst, DL.le_ii, DL.le_ss, DL.cmp_ii, DL.add_ii, DL.add_ib, DL.add_bi, DL.add_ss, DL.add_tt, DL.add_ll, DL.sub_ii, DL.sub_ib, DL.sub_bi, DL.mul_ii, DL.ii_ii, DL.neg_i, DL.is_bb, DL.isn_bb, DL.all_b, DL.all_map, DL.sum_i, DL.eq_ii, DL.eq_bi, DL.eq_t0, DL.eq_l0, DL.ne_ss, DL.ne_ii, DL.ne_t0, DL.ne_l0, DL.ix_tup, DL.ix_lst, DL.ix_str, DL.in_c, DL.nin_c, DL.sl_str, DL.sl_tup, DL.sl_lst, DL.app_1, DL.pop_0, DL.ext_t, DL.tuple_l, DL.list_t, DL.list_l, DL.int_b, DL.int_i, DL.min_ii, DL.str_i, DL.str_b, DL.repr_1, DL.back_t, DL.tru_l, DL.at0, DL.at1, DL.at2, DL.at3]
  refine ⟨a, c, 26, rfl, by decide, by decide, hD, fun r3 S3 p3 q3 hD s3 => ?_⟩
  refine ⟨a, c, 3, rfl, by decide, by decide, hD, fun r4 S4 p4 q4 hD s4 => ?_⟩
  simp only [dNext, dSeq, dDrop, dRet, dRetN, dIfS, dCont, dBreak, dSet, dAsg, dPar, dSetI, dFor, dVar, dC, dOp, dUn, dTest, dChain, dAnd, dOr, dNot, dAndV, dOrV, dNotV, dIf, dNil, dCons, dTup, dLst, dLstM, dNoPart, dPart, dSl, dCB, dMtL, dMt0, dMtS, dMtS0, dTru, dLc, dItS, dItStr, dRng1, dRng2, dRev, dRevM, dDic0, dstart, slot, asB_bl, asI_int, asS_str, cond_true, cond_false, List.map_cons, List.map_nil, List.length_cons, List.length_nil, List.set_cons_zero, List.set_cons_succ, Option.elim_some, Option.elim_none, List.cons_append, List.nil_append, List.replicate, Nat.sub_self, Nat.reduceSub, Nat.reduceAdd, Bool.not_true, Bool.not_false, setAll, Int.cast_ofNat_Int, Nat.zero_add, Int.reduceLT, Int.reduceLE, Int.reduceBEq, Nat.reduceBEq, decide_true, decide_false, DL.pred_s, DL.len_str, DL.len_tup, DL.len_lst, DL.le_ii, DL.le_ss, DL.cmp_ii, DL.add_ii, DL.add_ib, DL.add_bi, DL.add_ss, DL.add_tt, DL.add_ll, DL.sub_ii, DL.sub_ib, DL.sub_bi, DL.mul_ii, DL.ii_ii, DL.neg_i, DL.is_bb, DL.isn_bb, DL.all_b, DL.all_map, DL.sum_i, DL.eq_ii, DL.eq_bi, DL.eq_t0, DL.eq_l0, DL.ne_ss, DL.ne_ii, DL.ne_t0, DL.ne_l0, DL.ix_tup, DL.ix_lst, DL.ix_str, DL.in_c, DL.nin_c, DL.sl_str, DL.sl_tup, DL.sl_lst, DL.app_1, DL.pop_0, DL.ext_t, DL.tuple_l, DL.list_t, DL.list_l, DL.int_b, DL.int_i, DL.min_ii, DL.str_i, DL.str_b, DL.repr_1, DL.back_t, DL.tru_l, DL.at0, DL.at1, DL.at2, DL.at3]
  have s14 := ((s1.trans s2).trans s3).trans s4
  refine ⟨⟨by omega, by omega⟩, ?_⟩
  refine lc_step [a, c] (fun S => Dk S a c) (fun y => ∃ c, c ∈ az.cps.toList ∧ y = ch c) (by rw [iota_len]; omega) (fun _ _ e h => h.of e) hD.some hD (fun d hd S5 Q hD q => ?_) fun ys S5 hn hy hD s5 => ?_
  · obtain ⟨i, hi, rfl⟩ := iota_mem hd
    simp only [dNext, dSeq, dDrop, dRet, dRetN, dIfS, dCont, dBreak, dSet, dAsg, dPar, dSetI, dFor, dVar, dC, dOp, dUn, dTest, dChain, dAnd, dOr, dNot, dAndV, dOrV, dNotV, dIf, dNil, dCons, dTup, dLst, dLstM, dNoPart, dPart, dSl, dCB, dMtL, dMt0, dMtS, dMtS0, dTru, dLc, dItS, dItStr, dRng1, dRng2, dRev, dRevM, dDic0, dstart, slot, asB_bl, asI_int, asS_str, cond_true, cond_false, List.map_cons, List.map_nil, List.length_cons, List.length_nil, List.set_cons_zero, List.set_cons_succ, Option.elim_some, Option.elim_none, List.cons_append, List.nil_append, List.replicate, Nat.sub_self, Nat.reduceSub, Nat.reduceAdd, Bool.not_true, Bool.not_false, setAll, Int.cast_ofNat_Int, Nat.zero_add, Int.reduceLT, Int.reduceLE, Int.reduceBEq, Nat.reduceBEq, decide_true, decide_false, DL.pred_s, DL.len_str, DL.len_tup, DL.len_lst, DL.le_ii, DL.le_ss, DL.cmp_ii, DL.add_ii, DL.add_ib, DL.add_bi, DL.add_ss, DL.add_tt, DL.add_ll, DL.sub_ii, DL.sub_ib, DL.sub_bi, DL.mul_ii, DL.ii_ii, DL.neg_i, DL.is_bb, DL.isn_bb, DL.all_b, DL.all_map, DL.sum_i, DL.eq_ii, DL.eq_bi, DL.eq_t0, DL.eq_l0, DL.ne_ss, DL.ne_ii, DL.ne_t0, DL.ne_l0, DL.ix_tup, DL.ix_lst, DL.ix_str, DL.in_c, DL.nin_c, DL.sl_str, DL.sl_tup, DL.sl_lst, DL.app_1, DL.pop_0, DL.ext_t, DL.tuple_l, DL.list_t, DL.list_l, DL.int_b, DL.int_i, DL.min_ii, DL.str_i, DL.str_b, DL.repr_1, DL.back_t, DL.tru_l, DL.at0, DL.at1, DL.at2, DL.at3]
    refine ⟨.inl ⟨by omega, by omega⟩, by decide, by rw [az_slen]; omega, ?_⟩
    obtain ⟨e, ee, he⟩ := at_mem (xs := az.cps.toList) (i := (r3 + r4 * (0 + (i : Int))) % 26) (Int.emod_nonneg _ (by decide)) (by rw [az_len]; exact Int.emod_lt_of_pos _ (by decide))
    rw [show (Str.ofString "abcdefghijklmnopqrstuvwxyz").cps.toList = az.cps.toList from rfl, ee]
    exact q _ S5 ⟨e, he, rfl⟩ hD (.refl S5)
  · obtain ⟨cs, rfl, hc⟩ := all_ch hy
    rw [iota_len, List.length_map] at hn
    show (strsD (cs.map ch)).elim False _
    rw [strs_ch]
    simp only [dNext, dSeq, dDrop, dRet, dRetN, dIfS, dCont, dBreak, dSet, dAsg, dPar, dSetI, dFor, dVar, dC, dOp, dUn, dTest, dChain, dAnd, dOr, dNot, dAndV, dOrV, dNotV, dIf, dNil, dCons, dTup, dLst, dLstM, dNoPart, dPart, dSl, dCB, dMtL, dMt0, dMtS, dMtS0, dTru, dLc, dItS, dItStr, dRng1, dRng2, dRev, dRevM, dDic0, dstart, slot, asB_bl, asI_int, asS_str, cond_true, cond_false, List.map_cons, List.map_nil, List.length_cons, List.length_nil, List.set_cons_zero, List.set_cons_succ, Option.elim_some, Option.elim_none, List.cons_append, List.nil_append, List.replicate, Nat.sub_self, Nat.reduceSub, Nat.reduceAdd, Bool.not_true, Bool.not_false, setAll, Int.cast_ofNat_Int, Nat.zero_add, Int.reduceLT, Int.reduceLE, Int.reduceBEq, Nat.reduceBEq, decide_true, decide_false, DL.pred_s, DL.len_str, DL.len_tup, DL.len_lst, DL.le_ii, DL.le_ss, DL.cmp_ii, DL.add_ii, DL.add_ib, DL.add_bi, DL.add_ss, DL.add_tt, DL.add_ll, DL.sub_ii, DL.sub_ib, DL.sub_bi, DL.mul_ii, DL.ii_ii, DL.neg_i, DL.is_bb, DL.isn_bb, DL.all_b, DL.all_map, DL.sum_i, DL.eq_ii, DL.eq_bi, DL.eq_t0, DL.eq_l0, DL.ne_ss, DL.ne_ii, DL.ne_t0, DL.ne_l0, DL.ix_tup, DL.ix_lst, DL.ix_str, DL.in_c, DL.nin_c, DL.sl_str, DL.sl_tup, DL.sl_lst, DL.app_1, DL.pop_0, DL.ext_t, DL.tuple_l, DL.list_t, DL.list_l, DL.int_b, DL.int_i, DL.min_ii, DL.str_i, DL.str_b, DL.repr_1, DL.back_t, DL.tru_l, DL.at0, DL.at1, DL.at2, DL.at3]
    refine ⟨?_, h _ _ ⟨_, rfl, nameS_iff.mpr ?_⟩ hD (s14.trans s5)⟩
    · rw [List.map_map, List.length_map]
      have e1 : (cs.map ((fun x : Str => x.length) ∘ fun c => (⟨#[c]⟩ : Str))).sum = cs.length := by
        clear hn hc hy
        induction cs with
        | nil => rfl
        | cons x r ih => rw [List.map_cons, List.sum_cons, ih, List.length_cons]; show 1 + r.length = _; omega
      rw [e1]
      show cs.length + cs.length * 0 ≤ _
      omega
    · rw [strlen, join_signs]
      exact ⟨by omega, by omega, hc⟩
abbrev st_l_far : Stmt := top 20
theorem sc_l_far : FnScope ["_law_deck_here", "_law_number"] ["_law_deck_here"] (defScope st_l_far) := ⟨rfl, rfl, rfl, by decide +kernel, rfl, by decide +kernel, by decide +kernel⟩
def FarD (d : D) : Prop := ∃ z, d = .str z ∧ farS z = true ∧ z.length ≤ 60 ∧ ∀ c ∈ z.cps.toList, c < 128
def sp_l_far : DSp := spG FarD
theorem len_l_far {ds : List D} {S : Sto} {P : DK} (h : sp_l_far ds S P) : ds.length = 1 := spG_len h
/-- a number that may stand in a far name -/
def numOk (i : Int) : Bool := decide (i.natAbs.log2 < 1920) && figS (toString i) && !((toString i : Str) == "0") && decide ((toString i : Str).length ≤ 41) && (toString i : Str).cps.toList.all fun c => decide (c < 128 ∧ c ≠ 46)
theorem num_small : ∀ i : Fin 121, 1 ≤ i.val → numOk ((i.val : Nat) : Int) = true := by decide +kernel
theorem num_39 : numOk (10 ^ Int.toNat 39) = true := by decide +kernel
theorem num_small' {i : Int} (h0 : 1 ≤ i) (h1 : i ≤ 120) : numOk i = true := by
  have e := num_small ⟨i.toNat, by omega⟩ (by show 1 ≤ i.toNat; omega)
  rw [show ((i.toNat : Nat) : Int) = i by omega] at e
  exact e
theorem ok_l_far {k : Nat}  (DD : Def K mg "_law_far" st_l_far ["_law_deck_here"]) (G__law_name : Has P w K mg base (k) "_law_name" ["_law_deck_here"] (sp_l_name)) (G__law_draw : Has P w K mg base (k) "_law_draw" ["_law_deck_here", "_law_ways"] (sp_l_draw)) (m_str : mg "str" = none) : Has P w K mg base (k + 1) "_law_far" ["_law_deck_here"] (sp_l_far) := by
  refine DD.has sc_l_far (fun ds S P h => len_l_far h) (fun f cdv A outer s H hr hgd => ⟨_, (ss_cons (s_set 1 sc_l_far.nd (q_ix ix_D (q_lst (a_cons q_int (a_cons q_int (a_cons q_int (a_cons (q_op op_addD q_int (q_def G__law_draw (hr.mono (by omega)) hgd (a_cons (q_var 0) (a_cons q_int a_nil)))) (a_cons (q_op op_powD q_int q_int) a_nil)))))) (q_def G__law_draw (hr.mono (by omega)) hgd (a_cons (q_var 0) (a_cons q_int a_nil)))))
      (ss_one (s_ret (q_op op_addD (q_op op_addD (q_op op_addD (q_op op_addD (q_def G__law_name (hr.mono (by omega)) hgd (a_cons (q_var 0) a_nil)) q_str) (q_callTy (c_str) rfl m_str DL.bt_str (a_cons (q_var 1) a_nil))) q_str) (q_def G__law_name (hr.mono (by omega)) hgd (a_cons (q_var 0) a_nil)))))), fun ds S P h => ?_⟩)
  obtain ⟨a, c, rfl, hD, h⟩ := h
  have hl := small8
  simp only [dNext, dSeq, dDrop, dRet, dRetN, dIfS, dCont, dBreak, dSet, dAsg, dPar, dSetI, dFor, dVar, dC, dOp, dUn, dTest, dChain, dAnd, dOr, dNot, dAndV, dOrV, dNotV, dIf, dNil, dCons, dTup, dLst, dLstM, dNoPart, dPart, dSl, dCB, dMtL, dMt0, dMtS, dMtS0, dTru, dLc, dItS, dItStr, dRng1, dRng2, dRev, dRevM, dDic0, dstart, slot, asB_bl, asI_int, asS_str, cond_true, cond_false, List.map_cons, List.map_nil, List.length_cons, List.length_nil, List.set_cons_zero, List.set_cons_succ, Option.elim_some, Option.elim_none, List.cons_append, List.nil_append, List.replicate, Nat.sub_self, Nat.reduceSub, Nat.reduceAdd, Bool.not_true, Bool.not_false, setAll, Int.cast_ofNat_Int, Nat.zero_add, Int.reduceLT, Int.reduceLE, Int.reduceBEq, Nat.reduceBEq, decide_true, decide_false, DL.pred_s, DL.len_str, DL.len_tup, DL.len_lst, DL.le_ii, DL.le_ss, DL.cmp_ii, DL.add_ii, DL.add_ib, DL.add_bi, DL.add_ss, DL.add_tt, DL.add_ll, DL.sub_ii, DL.sub_ib, DL.sub_bi, DL.mul_ii, DL.ii_ii, DL.neg_i, DL.is_bb, DL.isn_bb, DL.all_b, DL.all_map, DL.sum_i, DL.eq_ii, DL.eq_bi, DL.eq_t0, DL.eq_l0, DL.ne_ss, DL.ne_ii, DL.ne_t0, DL.ne_l0, DL.ix_tup, DL.ix_lst, DL.ix_str, DL.in_c, DL.nin_c, DL.sl_str, DL.sl_tup, DL.sl_lst, DL.app_1, DL.pop_0, DL.ext_t, DL.tuple_l, DL.list_t, DL.list_l, DL.int_b, DL.int_i, DL.min_ii, DL.str_i, DL.str_b, DL.repr_1, DL.back_t, DL.tru_l, DL.at0, DL.at1, DL.at2, DL.at3]
  refine ⟨a, c, 120, rfl, by decide, by decide, hD, fun r1 S1 p1 q1 hD s1 => ?_⟩
  simp only [dNext, dSeq, dDrop, dRet, dRetN, dIfS, dCont, dBreak, dSet, dAsg, dPar, dSetI, dFor, dVar, dC, dOp, dUn, dTest, dChain, dAnd, dOr, dNot, dAndV, dOrV, dNotV, dIf, dNil, dCons, dTup, dLst, dLstM, dNoPart, dPart, dSl, dCB, dMtL, dMt0, dMtS, dMtS0, dTru, dLc, dItS, dItStr, dRng1, dRng2, dRev, dRevM, dDic0, dstart, slot, asB_bl, asI_int, asS_str, cond_true, cond_false, List.map_cons, List.map_nil, List.length_cons, List.length_nil, List.set_cons_zero, List.set_cons_succ, Option.elim_some, Option.elim_none, List.cons_append, List.nil_append, List.replicate, Nat.sub_self, Nat.reduceSub, Nat.reduceAdd, Bool.not_true, Bool.not_false, setAll, Int.cast_ofNat_Int, Nat.zero_add, Int.reduceLT, Int.reduceLE, Int.reduceBEq, Nat.reduceBEq, decide_true, decide_false, DL.pred_s, DL.len_str, DL.len_tup, DL.len_lst, DL.le_ii, DL.le_ss, DL.cmp_ii, DL.add_ii, DL.add_ib, DL.add_bi, DL.add_ss, DL.add_tt, DL.add_ll, DL.sub_ii, DL.sub_ib, DL.sub_bi, DL.mul_ii, DL.ii_ii, DL.neg_i, DL.is_bb, DL.isn_bb, DL.all_b, DL.all_map, DL.sum_i, DL.eq_ii, DL.eq_bi, DL.eq_t0, DL.eq_l0, DL.ne_ss, DL.ne_ii, DL.ne_t0, DL.ne_l0, DL.ix_tup, DL.ix_lst, DL.ix_str, DL.in_c, DL.nin_c, DL.sl_str, DL.sl_tup, DL.sl_lst, DL.app_1, DL.pop_0, DL.ext_t, DL.tuple_l, DL.list_t, DL.list_l, DL.int_b, DL.int_i, DL.min_ii, DL.str_i, DL.str_b, DL.repr_1, DL.back_t, DL.tru_l, DL.at0, DL.at1, DL.at2, DL.at3]
  refine ⟨⟨by decide, by decide, by decide⟩, by omega, a, c, 5, rfl, by decide, by decide, hD, fun r2 S2 p2 q2 hD s2 => ?_⟩
  obtain ⟨d, ed, hd⟩ := at_mem (xs := ([.int 1, .int 9, .int 10, .int (1 + r1), .int (10 ^ Int.toNat 39)] : List DL.D)) p2 q2
  obtain ⟨n, rfl, hn⟩ : ∃ n : Int, d = .int n ∧ numOk n = true := by
    simp only [List.mem_cons, List.not_mem_nil, or_false] at hd
    rcases hd with rfl | rfl | rfl | rfl | rfl
    · exact ⟨_, rfl, num_small' (by decide) (by decide)⟩
    · exact ⟨_, rfl, num_small' (by decide) (by decide)⟩
    · exact ⟨_, rfl, num_small' (by decide) (by decide)⟩
    · exact ⟨_, rfl, num_small' (by omega) (by omega)⟩
    · exact ⟨_, rfl, num_39⟩
  simp only [dNext, dSeq, dDrop, dRet, dRetN, dIfS, dCont, dBreak, dSet, dAsg, dPar, dSetI, dFor, dVar, dC, dOp, dUn, dTest, dChain, dAnd, dOr, dNot, dAndV, dOrV, dNotV, dIf, dNil, dCons, dTup, dLst, dLstM, dNoPart, dPart, dSl, dCB, dMtL, dMt0, dMtS, dMtS0, dTru, dLc, dItS, dItStr, dRng1, dRng2, dRev, dRevM, dDic0, dstart, slot, asB_bl, asI_int, asS_str, cond_true, cond_false, List.map_cons, List.map_nil, List.length_cons, List.length_nil, List.set_cons_zero, List.set_cons_succ, Option.elim_some, Option.elim_none, List.cons_append, List.nil_append, List.replicate, Nat.sub_self, Nat.reduceSub, Nat.reduceAdd, Bool.not_true, Bool.not_false, setAll, Int.cast_ofNat_Int, Nat.zero_add, Int.reduceLT, Int.reduceLE, Int.reduceBEq, Nat.reduceBEq, decide_true, decide_false, DL.pred_s, DL.len_str, DL.len_tup, DL.len_lst, DL.le_ii, DL.le_ss, DL.cmp_ii, DL.add_ii, DL.add_ib, DL.add_bi, DL.add_ss, DL.add_tt, DL.add_ll, DL.sub_ii, DL.sub_ib, DL.sub_bi, DL.mul_ii, DL.ii_ii, DL.neg_i, DL.is_bb, DL.isn_bb, DL.all_b, DL.all_map, DL.sum_i, DL.eq_ii, DL.eq_bi, DL.eq_t0, DL.eq_l0, DL.ne_ss, DL.ne_ii, DL.ne_t0, DL.ne_l0, DL.ix_tup, DL.ix_lst, DL.ix_str, DL.in_c, DL.nin_c, DL.sl_str, DL.sl_tup, DL.sl_lst, DL.app_1, DL.pop_0, DL.ext_t, DL.tuple_l, DL.list_t, DL.list_l, DL.int_b, DL.int_i, DL.min_ii, DL.str_i, DL.str_b, DL.repr_1, DL.back_t, DL.tru_l, DL.at0, DL.at1, DL.at2, DL.at3]
  rw [ed]
  simp only [dNext, dSeq, dDrop, dRet, dRetN, dIfS, dCont, dBreak, dSet, dAsg, dPar, dSetI, dFor, dVar, dC, dOp, dUn, dTest, dChain, dAnd, dOr, dNot, dAndV, dOrV, dNotV, dIf, dNil, dCons, dTup, dLst, dLstM, dNoPart, dPart, dSl, dCB, dMtL, dMt0, dMtS, dMtS0, dTru, dLc, dItS, dItStr, dRng1, dRng2, dRev, dRevM, dDic0, dstart, slot, asB_bl, asI_int, asS_str, cond_true, cond_false, List.map_cons, List.map_nil, List.length_cons, List.length_nil, List.set_cons_zero, List.set_cons_succ, Option.elim_some, Option.elim_none, List.cons_append, List.nil_append, List.replicate, Nat.sub_self, Nat.reduceSub, Nat.reduceAdd, Bool.not_true, Bool.not_false, setAll, Int.cast_ofNat_Int, Nat.zero_add, Int.reduceLT, Int.reduceLE, Int.reduceBEq, Nat.reduceBEq, decide_true, decide_false, DL.pred_s, DL.len_str, DL.len_tup, DL.len_lst, DL.le_ii, DL.le_ss, DL.cmp_ii, DL.add_ii, DL.add_ib, DL.add_bi, DL.add_ss, DL.add_tt, DL.add_ll, DL.sub_ii, DL.sub_ib, DL.sub_bi, DL.mul_ii, DL.ii_ii, DL.neg_i, DL.is_bb, DL.isn_bb, DL.all_b, DL.all_map, DL.sum_i, DL.eq_ii, DL.eq_bi, DL.eq_t0, DL.eq_l0, DL.ne_ss, DL.ne_ii, DL.ne_t0, DL.ne_l0, DL.ix_tup, DL.ix_lst, DL.ix_str, DL.in_c, DL.nin_c, DL.sl_str, DL.sl_tup, DL.sl_lst, DL.app_1, DL.pop_0, DL.ext_t, DL.tuple_l, DL.list_t, DL.list_l, DL.int_b, DL.int_i, DL.min_ii, DL.str_i, DL.str_b, DL.repr_1, DL.back_t, DL.tru_l, DL.at0, DL.at1, DL.at2, DL.at3]
  unfold numOk at hn
  simp only [Bool.and_eq_true] at hn
  obtain ⟨⟨⟨⟨n1, n2⟩, n3⟩, n4⟩, n5⟩ := hn
  have n1 := of_decide_eq_true n1
  have n4 := of_decide_eq_true n4
  refine ⟨a, c, rfl, hD, fun d1 S3 ⟨z1, e1, g1⟩ hD s3 => ?_⟩
  subst e1
  simp only [dNext, dSeq, dDrop, dRet, dRetN, dIfS, dCont, dBreak, dSet, dAsg, dPar, dSetI, dFor, dVar, dC, dOp, dUn, dTest, dChain, dAnd, dOr, dNot, dAndV, dOrV, dNotV, dIf, dNil, dCons, dTup, dLst, dLstM, dNoPart, dPart, dSl, dCB, dMtL, dMt0, dMtS, dMtS0, dTru, dLc, dItS, dItStr, dRng1, dRng2, dRev, dRevM, dDic0, dstart, slot, asB_bl, asI_int, asS_str, cond_true, cond_false, List.map_cons, List.map_nil, List.length_cons, List.length_nil, List.set_cons_zero, List.set_cons_succ, Option.elim_some, Option.elim_none, List.cons_append, List.nil_append, List.replicate, Nat.sub_self, Nat.reduceSub, Nat.reduceAdd, Bool.not_true, Bool.not_false, setAll, Int.cast_ofNat_Int, Nat.zero_add, Int.reduceLT, Int.reduceLE, Int.reduceBEq, Nat.reduceBEq, decide_true, decide_false, DL.pred_s, DL.len_str, DL.len_tup, DL.len_lst, DL.le_ii, DL.le_ss, DL.cmp_ii, DL.add_ii, DL.add_ib, DL.add_bi, DL.add_ss, DL.add_tt, DL.add_ll, DL.sub_ii, DL.sub_ib, DL.sub_bi, DL.mul_ii, DL.ii_ii, DL.neg_i, DL.is_bb, DL.isn_bb, DL.all_b, DL.all_map, DL.sum_i, DL.eq_ii, DL.eq_bi, DL.eq_t0, DL.eq_l0, DL.ne_ss, DL.ne_ii, DL.ne_t0, DL.ne_l0, DL.ix_tup, DL.ix_lst, DL.ix_str, DL.in_c, DL.nin_c, DL.sl_str, DL.sl_tup, DL.sl_lst, DL.app_1, DL.pop_0, DL.ext_t, DL.tuple_l, DL.list_t, DL.list_l, DL.int_b, DL.int_i, DL.min_ii, DL.str_i, DL.str_b, DL.repr_1, DL.back_t, DL.tru_l, DL.at0, DL.at1, DL.at2, DL.at3]
  have l0 : (Str.ofString ".").length = 1 := by decide +kernel
  have L1 := nameS_iff.mp g1
  refine ⟨by rw [l0]; omega, n1, ?_⟩
  have l1 : (z1 ++ Str.ofString ".").length = z1.length + 1 := by rw [strLen_append, l0]
  have l2 : (z1 ++ Str.ofString "." ++ (toString n : Str)).length = z1.length + 1 + (toString n : Str).length := by rw [strLen_append, l1]
  have l3 : (z1 ++ Str.ofString "." ++ (toString n : Str) ++ Str.ofString ".").length = z1.length + 1 + (toString n : Str).length + 1 := by rw [strLen_append, l2, l0]
  refine ⟨by rw [l1]; omega, by rw [l2, l0]; omega, ?_⟩
  refine ⟨a, c, rfl, hD, fun d2 S4 ⟨z2, e2, g2⟩ hD s4 => ?_⟩
  subst e2
  have L2' := nameS_iff.mp g2
  simp only [dNext, dSeq, dDrop, dRet, dRetN, dIfS, dCont, dBreak, dSet, dAsg, dPar, dSetI, dFor, dVar, dC, dOp, dUn, dTest, dChain, dAnd, dOr, dNot, dAndV, dOrV, dNotV, dIf, dNil, dCons, dTup, dLst, dLstM, dNoPart, dPart, dSl, dCB, dMtL, dMt0, dMtS, dMtS0, dTru, dLc, dItS, dItStr, dRng1, dRng2, dRev, dRevM, dDic0, dstart, slot, asB_bl, asI_int, asS_str, cond_true, cond_false, List.map_cons, List.map_nil, List.length_cons, List.length_nil, List.set_cons_zero, List.set_cons_succ, Option.elim_some, Option.elim_none, List.cons_append, List.nil_append, List.replicate, Nat.sub_self, Nat.reduceSub, Nat.reduceAdd, Bool.not_true, Bool.not_false, setAll, Int.cast_ofNat_Int, Nat.zero_add, Int.reduceLT, Int.reduceLE, Int.reduceBEq, Nat.reduceBEq, decide_true, decide_false, DL.pred_s, DL.len_str, DL.len_tup, DL.len_lst, DL.le_ii, DL.le_ss, DL.cmp_ii, DL.add_ii, DL.add_ib, DL.add_bi, DL.add_ss, DL.add_tt, DL.add_ll, DL.sub_ii, DL.sub_ib, DL.sub_bi, DL.mul_ii, DL.ii_ii, DL.neg_i, DL.is_bb, DL.isn_bb, DL.all_b, DL.all_map, DL.sum_i, DL.eq_ii, DL.eq_bi, DL.eq_t0, DL.eq_l0, DL.ne_ss, DL.ne_ii, DL.ne_t0, DL.ne_l0, DL.ix_tup, DL.ix_lst, DL.ix_str, DL.in_c, DL.nin_c, DL.sl_str, DL.sl_tup, DL.sl_lst, DL.app_1, DL.pop_0, DL.ext_t, DL.tuple_l, DL.list_t, DL.list_l, DL.int_b, DL.int_i, DL.min_ii, DL.str_i, DL.str_b, DL.repr_1, DL.back_t, DL.tru_l, DL.at0, DL.at1, DL.at2, DL.at3]
  refine ⟨by rw [l3]; omega, h _ _ ⟨_, rfl, ?_, by rw [strLen_append, l3]; omega, ?_⟩ hD (((s1.trans s2).trans s3).trans s4)⟩
  · have nd : ∀ p ∈ ([z1, (toString n : Str), z2] : List Str), 46 ∉ p.cps.toList := by
      intro p hp
      simp only [List.mem_cons, List.not_mem_nil, or_false] at hp
      rcases hp with rfl | rfl | rfl
      · exact fun m => az_nodot (L1.2.2 46 m)
      · exact fun m => (of_decide_eq_true (List.all_eq_true.mp n5 46 m)).2 rfl
      · exact fun m => az_nodot (L2'.2.2 46 m)
    have ej : z1 ++ Str.ofString "." ++ (toString n : Str) ++ Str.ofString "." ++ z2 = Str.join ⟨#[46]⟩ [z1, (toString n : Str), z2] := by
      apply str_ext
      show _ = (z1 ++ (⟨#[46]⟩ : Str) ++ ((toString n : Str) ++ (⟨#[46]⟩ : Str) ++ z2)).cps.toList
      simp only [cps_app, List.append_assoc]
      rfl
    have es : Txt.split (z1 ++ Str.ofString "." ++ (toString n : Str) ++ Str.ofString "." ++ z2) dot = [z1, (toString n : Str), z2] := split_is (by simp) nd ej
    unfold farS
    rw [es]
    show (bif nameS z1 then bif figS (toString n) then bif !((toString n : Str) == ("0" : Str)) then nameS z2 else false else false else false) = true
    rw [g1, n2, n3, g2]
    rfl
  · intro x hx
    simp only [cps_app, List.mem_append] at hx
    rcases hx with (((hx | hx) | hx) | hx) | hx
    · exact az_asc x (L1.2.2 x hx)
    · have e : (Str.ofString ".").cps.toList = [46] := by decide +kernel
      rw [e] at hx; simp at hx; omega
    · exact (of_decide_eq_true (List.all_eq_true.mp n5 x hx)).1
    · have e : (Str.ofString ".").cps.toList = [46] := by decide +kernel
      rw [e] at hx; simp at hx; omega
    · exact az_asc x (L2'.2.2 x hx)
abbrev st_l_called : Stmt := top 21
theorem sc_l_called : FnScope ["_law_deck_here"] ["_law_deck_here"] (defScope st_l_called) := ⟨rfl, rfl, rfl, by decide +kernel, rfl, by decide +kernel, by decide +kernel⟩
def CalledD (d : D) : Prop := ∃ z, d = .str z ∧ (nameS z || farS z) = true ∧ goodS 0 z = true ∧ z.length ≤ 60
def sp_l_called : DSp := spG CalledD
theorem len_l_called {ds : List D} {S : Sto} {P : DK} (h : sp_l_called ds S P) : ds.length = 1 := spG_len h
theorem far_good {z : Str} (h1 : z.length ≤ 60) (h2 : ∀ c ∈ z.cps.toList, c < 128) : goodS 0 z = true := by
  exact goodS_of (by omega) h2
theorem ok_l_called {k : Nat}  (DD : Def K mg "_law_called" st_l_called ["_law_deck_here"]) (G__law_draw : Has P w K mg base (k) "_law_draw" ["_law_deck_here", "_law_ways"] (sp_l_draw)) (G__law_far : Has P w K mg base (k) "_law_far" ["_law_deck_here"] (sp_l_far)) (G__law_name : Has P w K mg base (k) "_law_name" ["_law_deck_here"] (sp_l_name)) : Has P w K mg base (k + 1) "_law_called" ["_law_deck_here"] (sp_l_called) := by
  refine DD.has sc_l_called (fun ds S P h => len_l_called h) (fun f cdv A outer s H hr hgd => ⟨_, (ss_one (s_ret (q_ifExp (t_cmp (op_eqD (DL.Room.un1 hr)) (q_def G__law_draw (hr.mono (by omega)) hgd (a_cons (q_var 0) (a_cons q_int a_nil))) q_int) (q_def G__law_far (hr.mono (by omega)) hgd (a_cons (q_var 0) a_nil)) (q_def G__law_name (hr.mono (by omega)) hgd (a_cons (q_var 0) a_nil))))), fun ds S P h => ?_⟩)
  obtain ⟨a, c, rfl, hD, h⟩ := h
  simp only [dNext, dSeq, dDrop, dRet, dRetN, dIfS, dCont, dBreak, dSet, dAsg, dPar, dSetI, dFor, dVar, dC, dOp, dUn, dTest, dChain, dAnd, dOr, dNot, dAndV, dOrV, dNotV, dIf, dNil, dCons, dTup, dLst, dLstM, dNoPart, dPart, dSl, dCB, dMtL, dMt0, dMtS, dMtS0, dTru, dLc, dItS, dItStr, dRng1, dRng2, dRev, dRevM, dDic0, dstart, slot, asB_bl, asI_int, asS_str, cond_true, cond_false, List.map_cons, List.map_nil, List.length_cons, List.length_nil, List.set_cons_zero, List.set_cons_succ, Option.elim_some, Option.elim_none, List.cons_append, List.nil_append, List.replicate, Nat.sub_self, Nat.reduceSub, Nat.reduceAdd, Bool.not_true, Bool.not_false, setAll, Int.cast_ofNat_Int, Nat.zero_add, Int.reduceLT, Int.reduceLE, Int.reduceBEq, Nat.reduceBEq, decide_true, decide_false, DL.pred_s, DL.len_str, DL.len_tup, DL.len_lst, DL.le_ii, DL.le_ss, DL.cmp_ii, DL.add_ii, DL.add_ib, DL.add_bi, DL.add_ss, DL.add_tt, DL.add_ll, DL.sub_ii, DL.sub_ib, DL.sub_bi, DL.mul_ii, DL.ii_ii, DL.neg_i, DL.is_bb, DL.isn_bb, DL.all_b, DL.all_map, DL.sum_i, DL.eq_ii, DL.eq_bi, DL.eq_t0, DL.eq_l0, DL.ne_ss, DL.ne_ii, DL.ne_t0, DL.ne_l0, DL.ix_tup, DL.ix_lst, DL.ix_str, DL.in_c, DL.nin_c, DL.sl_str, DL.sl_tup, DL.sl_lst, DL.app_1, DL.pop_0, DL.ext_t, DL.tuple_l, DL.list_t, DL.list_l, DL.int_b, DL.int_i, DL.min_ii, DL.str_i, DL.str_b, DL.repr_1, DL.back_t, DL.tru_l, DL.at0, DL.at1, DL.at2, DL.at3]
  refine ⟨a, c, 3, rfl, by decide, by decide, hD, fun r S1 p1 q1 hD s1 => ?_⟩
  simp only [dNext, dSeq, dDrop, dRet, dRetN, dIfS, dCont, dBreak, dSet, dAsg, dPar, dSetI, dFor, dVar, dC, dOp, dUn, dTest, dChain, dAnd, dOr, dNot, dAndV, dOrV, dNotV, dIf, dNil, dCons, dTup, dLst, dLstM, dNoPart, dPart, dSl, dCB, dMtL, dMt0, dMtS, dMtS0, dTru, dLc, dItS, dItStr, dRng1, dRng2, dRev, dRevM, dDic0, dstart, slot, asB_bl, asI_int, asS_str, cond_true, cond_false, List.map_cons, List.map_nil, List.length_cons, List.length_nil, List.set_cons_zero, List.set_cons_succ, Option.elim_some, Option.elim_none, List.cons_append, List.nil_append, List.replicate, Nat.sub_self, Nat.reduceSub, Nat.reduceAdd, Bool.not_true, Bool.not_false, setAll, Int.cast_ofNat_Int, Nat.zero_add, Int.reduceLT, Int.reduceLE, Int.reduceBEq, Nat.reduceBEq, decide_true, decide_false, DL.pred_s, DL.len_str, DL.len_tup, DL.len_lst, DL.le_ii, DL.le_ss, DL.cmp_ii, DL.add_ii, DL.add_ib, DL.add_bi, DL.add_ss, DL.add_tt, DL.add_ll, DL.sub_ii, DL.sub_ib, DL.sub_bi, DL.mul_ii, DL.ii_ii, DL.neg_i, DL.is_bb, DL.isn_bb, DL.all_b, DL.all_map, DL.sum_i, DL.eq_ii, DL.eq_bi, DL.eq_t0, DL.eq_l0, DL.ne_ss, DL.ne_ii, DL.ne_t0, DL.ne_l0, DL.ix_tup, DL.ix_lst, DL.ix_str, DL.in_c, DL.nin_c, DL.sl_str, DL.sl_tup, DL.sl_lst, DL.app_1, DL.pop_0, DL.ext_t, DL.tuple_l, DL.list_t, DL.list_l, DL.int_b, DL.int_i, DL.min_ii, DL.str_i, DL.str_b, DL.repr_1, DL.back_t, DL.tru_l, DL.at0, DL.at1, DL.at2, DL.at3]
  cases r == 0 with
  | true => exact ⟨a, c, rfl, hD, fun d S2 ⟨z, e, h1, h2, h3⟩ hD s2 => h _ _ ⟨z, e, by rw [h1]; simp, far_good h2 h3, h2⟩ hD (s1.trans s2)⟩
  | false => exact ⟨a, c, rfl, hD, fun d S2 ⟨z, e, h1⟩ hD s2 => h _ _ ⟨z, e, by rw [h1]; simp, nameS_good h1, by have := nameS_iff.mp h1; omega⟩ hD (s1.trans s2)⟩
/-- a term that was made: small, not deep -/
def MadeD (n k : Nat) (d : D) : Prop := good 0 d = true ∧ tB d = true ∧ sz d ≤ n ∧ dp d ≤ k ∧ isTu d = true
theorem made_at {n : Int} (h0 : 0 ≤ n) (h1 : n.natAbs ≤ 10 ^ 50) : MadeD 3 1 (.tup [.str "at", .int n]) := by
  have hf : hfA [.str "at", .int n] = true := by
    show hf2 _ _ = true
    unfold hf2
    rw [show eqT (.str "at") "at" = true by decide +kernel]
    exact decide_eq_true h0
  have g1 : good 0 (.str "at") = true := by decide +kernel
  refine ⟨?_, by rw [tB_tup hf]; rfl, by simp only [sz, szA]; omega, by simp only [dp, dpA]; omega, rfl⟩
  simp only [good, goodA, Bool.and_eq_true]
  exact ⟨by simpa only [good] using g1, decide_eq_true h1, trivial⟩
theorem made_world {n : Int} (h0 : 0 ≤ n) (h1 : n < 10) : MadeD 3 1 (.tup [.str "world", .int n]) := by
  have hf : hfA [.str "world", .int n] = true := by
    show hf2 _ _ = true
    unfold hf2
    rw [show eqT (.str "world") "at" = false by decide +kernel, show eqT (.str "world") "world" = true by decide +kernel, show cnt (.int n) = true from decide_eq_true h0]
    exact decide_eq_true (show n ≤ 9 by omega)
  have g1 : good 0 (.str "world") = true := by decide +kernel
  refine ⟨?_, by rw [tB_tup hf]; rfl, by simp only [sz, szA]; omega, by simp only [dp, dpA]; omega, rfl⟩
  simp only [good, goodA, Bool.and_eq_true]
  exact ⟨by simpa only [good] using g1, decide_eq_true (by omega), trivial⟩
theorem made_hole {z : Str} (h : nameS z = true) : MadeD 3 1 (.tup [.str "hole", .str z]) := by
  have hf : hfA [.str "hole", .str z] = true := by
    show hf2 _ _ = true
    unfold hf2
    rw [show eqT (.str "hole") "at" = false by decide +kernel, show eqT (.str "hole") "world" = false by decide +kernel, show eqT (.str "hole") "hole" = true by decide +kernel]
    exact h
  have g1 : good 0 (.str "hole") = true := by decide +kernel
  refine ⟨?_, by rw [tB_tup hf]; rfl, by simp only [sz, szA]; omega, by simp only [dp, dpA]; omega, rfl⟩
  simp only [good, goodA, Bool.and_eq_true]
  exact ⟨by simpa only [good] using g1, nameS_good h, trivial⟩

abbrev st_l_leaf : Stmt := top 22
theorem sc_l_leaf : FnScope ["_law_deck_here", "_law_way", "_law_number"] ["_law_deck_here"] (defScope st_l_leaf) := ⟨rfl, rfl, rfl, by decide +kernel, rfl, by decide +kernel, by decide +kernel⟩
def sp_l_leaf : DSp := spG (MadeD 3 1)
theorem len_l_leaf {ds : List D} {S : Sto} {P : DK} (h : sp_l_leaf ds S P) : ds.length = 1 := spG_len h
theorem ok_l_leaf {k : Nat}  (DD : Def K mg "_law_leaf" st_l_leaf ["_law_deck_here"]) (G__law_name : Has P w K mg base (k) "_law_name" ["_law_deck_here"] (sp_l_name)) (G__law_draw : Has P w K mg base (k) "_law_draw" ["_law_deck_here", "_law_ways"] (sp_l_draw)) : Has P w K mg base (k + 1) "_law_leaf" ["_law_deck_here"] (sp_l_leaf) := by
  refine DD.has sc_l_leaf (fun ds S P h => len_l_leaf h) (fun f cdv A outer s H hr hgd => ⟨_, (ss_cons (s_set 1 sc_l_leaf.nd (q_def G__law_draw (hr.mono (by omega)) hgd (a_cons (q_var 0) (a_cons q_int a_nil))))
      (ss_cons (s_set 2 sc_l_leaf.nd (q_ix ix_D (q_lst (a_cons (q_def G__law_draw (hr.mono (by omega)) hgd (a_cons (q_var 0) (a_cons q_int a_nil))) (a_cons (q_def G__law_draw (hr.mono (by omega)) hgd (a_cons (q_var 0) (a_cons q_int a_nil))) (a_cons (q_op op_powD q_int q_int) a_nil)))) (q_def G__law_draw (hr.mono (by omega)) hgd (a_cons (q_var 0) (a_cons q_int a_nil)))))
      (ss_one (s_ret (q_ix ix_D (q_lst (a_cons (q_tup (a_cons q_str (a_cons (q_var 2) a_nil))) (a_cons (q_tup (a_cons q_str (a_cons (q_def G__law_draw (hr.mono (by omega)) hgd (a_cons (q_var 0) (a_cons q_int a_nil))) a_nil))) (a_cons (q_tup (a_cons q_str (a_cons (q_def G__law_name (hr.mono (by omega)) hgd (a_cons (q_var 0) a_nil)) a_nil))) a_nil)))) (q_var 1)))))), fun ds S P h => ?_⟩)
  obtain ⟨a, c, rfl, hD, h⟩ := h
  have hl := small8
  simp only [dNext, dSeq, dDrop, dRet, dRetN, dIfS, dCont, dBreak, dSet, dAsg, dPar, dSetI, dFor, dVar, dC, dOp, dUn, dTest, dChain, dAnd, dOr, dNot, dAndV, dOrV, dNotV, dIf, dNil, dCons, dTup, dLst, dLstM, dNoPart, dPart, dSl, dCB, dMtL, dMt0, dMtS, dMtS0, dTru, dLc, dItS, dItStr, dRng1, dRng2, dRev, dRevM, dDic0, dstart, slot, asB_bl, asI_int, asS_str, cond_true, cond_false, List.map_cons, List.map_nil, List.length_cons, List.length_nil, List.set_cons_zero, List.set_cons_succ, Option.elim_some, Option.elim_none, List.cons_append, List.nil_append, List.replicate, Nat.sub_self, Nat.reduceSub, Nat.reduceAdd, Bool.not_true, Bool.not_false, setAll, Int.cast_ofNat_Int, Nat.zero_add, Int.reduceLT, Int.reduceLE, Int.reduceBEq, Nat.reduceBEq, decide_true, decide_false, DL.pred_s, DL.len_str, DL.len_tup, DL.len_lst, DL.le_ii, DL.le_ss, DL.cmp_ii, DL.add_ii, DL.add_ib, DL.add_bi, DL.add_ss, DL.add_tt, DL.add_ll, DL.sub_ii, DL.sub_ib, DL.sub_bi, DL.mul_ii, DL.ii_ii, DL.neg_i, DL.is_bb, DL.isn_bb, DL.all_b, DL.all_map, DL.sum_i, DL.eq_ii, DL.eq_bi, DL.eq_t0, DL.eq_l0, DL.ne_ss, DL.ne_ii, DL.ne_t0, DL.ne_l0, DL.ix_tup, DL.ix_lst, DL.ix_str, DL.in_c, DL.nin_c, DL.sl_str, DL.sl_tup, DL.sl_lst, DL.app_1, DL.pop_0, DL.ext_t, DL.tuple_l, DL.list_t, DL.list_l, DL.int_b, DL.int_i, DL.min_ii, DL.str_i, DL.str_b, DL.repr_1, DL.back_t, DL.tru_l, DL.at0, DL.at1, DL.at2, DL.at3]
  refine ⟨a, c, 3, rfl, by decide, by decide, hD, fun r1 S1 p1 q1 hD s1 => ?_⟩
  refine ⟨a, c, 3, rfl, by decide, by decide, hD, fun r2 S2 p2 q2 hD s2 => ?_⟩
  refine ⟨a, c, 14, rfl, by decide, by decide, hD, fun r3 S3 p3 q3 hD s3 => ?_⟩
  simp only [dNext, dSeq, dDrop, dRet, dRetN, dIfS, dCont, dBreak, dSet, dAsg, dPar, dSetI, dFor, dVar, dC, dOp, dUn, dTest, dChain, dAnd, dOr, dNot, dAndV, dOrV, dNotV, dIf, dNil, dCons, dTup, dLst, dLstM, dNoPart, dPart, dSl, dCB, dMtL, dMt0, dMtS, dMtS0, dTru, dLc, dItS, dItStr, dRng1, dRng2, dRev, dRevM, dDic0, dstart, slot, asB_bl, asI_int, asS_str, cond_true, cond_false, List.map_cons, List.map_nil, List.length_cons, List.length_nil, List.set_cons_zero, List.set_cons_succ, Option.elim_some, Option.elim_none, List.cons_append, List.nil_append, List.replicate, Nat.sub_self, Nat.reduceSub, Nat.reduceAdd, Bool.not_true, Bool.not_false, setAll, Int.cast_ofNat_Int, Nat.zero_add, Int.reduceLT, Int.reduceLE, Int.reduceBEq, Nat.reduceBEq, decide_true, decide_false, DL.pred_s, DL.len_str, DL.len_tup, DL.len_lst, DL.le_ii, DL.le_ss, DL.cmp_ii, DL.add_ii, DL.add_ib, DL.add_bi, DL.add_ss, DL.add_tt, DL.add_ll, DL.sub_ii, DL.sub_ib, DL.sub_bi, DL.mul_ii, DL.ii_ii, DL.neg_i, DL.is_bb, DL.isn_bb, DL.all_b, DL.all_map, DL.sum_i, DL.eq_ii, DL.eq_bi, DL.eq_t0, DL.eq_l0, DL.ne_ss, DL.ne_ii, DL.ne_t0, DL.ne_l0, DL.ix_tup, DL.ix_lst, DL.ix_str, DL.in_c, DL.nin_c, DL.sl_str, DL.sl_tup, DL.sl_lst, DL.app_1, DL.pop_0, DL.ext_t, DL.tuple_l, DL.list_t, DL.list_l, DL.int_b, DL.int_i, DL.min_ii, DL.str_i, DL.str_b, DL.repr_1, DL.back_t, DL.tru_l, DL.at0, DL.at1, DL.at2, DL.at3]
  refine ⟨⟨by decide, by decide, by decide⟩, by omega, a, c, 3, rfl, by decide, by decide, hD, fun r4 S4 p4 q4 hD s4 => ?_⟩
  simp only [dNext, dSeq, dDrop, dRet, dRetN, dIfS, dCont, dBreak, dSet, dAsg, dPar, dSetI, dFor, dVar, dC, dOp, dUn, dTest, dChain, dAnd, dOr, dNot, dAndV, dOrV, dNotV, dIf, dNil, dCons, dTup, dLst, dLstM, dNoPart, dPart, dSl, dCB, dMtL, dMt0, dMtS, dMtS0, dTru, dLc, dItS, dItStr, dRng1, dRng2, dRev, dRevM, dDic0, dstart, slot, asB_bl, asI_int, asS_str, cond_true, cond_false, List.map_cons, List.map_nil, List.length_cons, List.length_nil, List.set_cons_zero, List.set_cons_succ, Option.elim_some, Option.elim_none, List.cons_append, List.nil_append, List.replicate, Nat.sub_self, Nat.reduceSub, Nat.reduceAdd, Bool.not_true, Bool.not_false, setAll, Int.cast_ofNat_Int, Nat.zero_add, Int.reduceLT, Int.reduceLE, Int.reduceBEq, Nat.reduceBEq, decide_true, decide_false, DL.pred_s, DL.len_str, DL.len_tup, DL.len_lst, DL.le_ii, DL.le_ss, DL.cmp_ii, DL.add_ii, DL.add_ib, DL.add_bi, DL.add_ss, DL.add_tt, DL.add_ll, DL.sub_ii, DL.sub_ib, DL.sub_bi, DL.mul_ii, DL.ii_ii, DL.neg_i, DL.is_bb, DL.isn_bb, DL.all_b, DL.all_map, DL.sum_i, DL.eq_ii, DL.eq_bi, DL.eq_t0, DL.eq_l0, DL.ne_ss, DL.ne_ii, DL.ne_t0, DL.ne_l0, DL.ix_tup, DL.ix_lst, DL.ix_str, DL.in_c, DL.nin_c, DL.sl_str, DL.sl_tup, DL.sl_lst, DL.app_1, DL.pop_0, DL.ext_t, DL.tuple_l, DL.list_t, DL.list_l, DL.int_b, DL.int_i, DL.min_ii, DL.str_i, DL.str_b, DL.repr_1, DL.back_t, DL.tru_l, DL.at0, DL.at1, DL.at2, DL.at3]
  obtain ⟨d, ed, hd⟩ := at_mem (xs := ([.int r2, .int r3, .int (10 ^ Int.toNat 39)] : List DL.D)) p4 q4
  obtain ⟨n, rfl, n0, n1⟩ : ∃ n : Int, d = .int n ∧ 0 ≤ n ∧ n.natAbs ≤ 10 ^ 50 := by
    simp only [List.mem_cons, List.not_mem_nil, or_false] at hd
    rcases hd with rfl | rfl | rfl
    · exact ⟨_, rfl, by omega, by omega⟩
    · exact ⟨_, rfl, by omega, by omega⟩
    · exact ⟨_, rfl, by decide, by decide⟩
  rw [ed]
  simp only [Option.elim_some]
  refine ⟨by omega, a, c, 10, rfl, by decide, by decide, hD, fun r5 S5 p5 q5 hD s5 => ?_⟩
  simp only [dNext, dSeq, dDrop, dRet, dRetN, dIfS, dCont, dBreak, dSet, dAsg, dPar, dSetI, dFor, dVar, dC, dOp, dUn, dTest, dChain, dAnd, dOr, dNot, dAndV, dOrV, dNotV, dIf, dNil, dCons, dTup, dLst, dLstM, dNoPart, dPart, dSl, dCB, dMtL, dMt0, dMtS, dMtS0, dTru, dLc, dItS, dItStr, dRng1, dRng2, dRev, dRevM, dDic0, dstart, slot, asB_bl, asI_int, asS_str, cond_true, cond_false, List.map_cons, List.map_nil, List.length_cons, List.length_nil, List.set_cons_zero, List.set_cons_succ, Option.elim_some, Option.elim_none, List.cons_append, List.nil_append, List.replicate, Nat.sub_self, Nat.reduceSub, Nat.reduceAdd, Bool.not_true, Bool.not_false, setAll, Int.cast_ofNat_Int, Nat.zero_add, Int.reduceLT, Int.reduceLE, Int.reduceBEq, Nat.reduceBEq, decide_true, decide_false, DL.pred_s, DL.len_str, DL.len_tup, DL.len_lst, DL.le_ii, DL.le_ss, DL.cmp_ii, DL.add_ii, DL.add_ib, DL.add_bi, DL.add_ss, DL.add_tt, DL.add_ll, DL.sub_ii, DL.sub_ib, DL.sub_bi, DL.mul_ii, DL.ii_ii, DL.neg_i, DL.is_bb, DL.isn_bb, DL.all_b, DL.all_map, DL.sum_i, DL.eq_ii, DL.eq_bi, DL.eq_t0, DL.eq_l0, DL.ne_ss, DL.ne_ii, DL.ne_t0, DL.ne_l0, DL.ix_tup, DL.ix_lst, DL.ix_str, DL.in_c, DL.nin_c, DL.sl_str, DL.sl_tup, DL.sl_lst, DL.app_1, DL.pop_0, DL.ext_t, DL.tuple_l, DL.list_t, DL.list_l, DL.int_b, DL.int_i, DL.min_ii, DL.str_i, DL.str_b, DL.repr_1, DL.back_t, DL.tru_l, DL.at0, DL.at1, DL.at2, DL.at3]
  refine ⟨by omega, a, c, rfl, hD, fun d6 S6 ⟨z, e6, h6⟩ hD s6 => ?_⟩
  subst e6
  refine ⟨by omega, by omega, ?_⟩
  obtain ⟨d, ed, hd⟩ := at_mem (xs := ([.tup [.str "at", .int n], .tup [.str "world", .int r5], .tup [.str "hole", .str z]] : List DL.D)) p1 q1
  rw [ed]
  refine h d S6 ?_ hD (((((s1.trans s2).trans s3).trans s4).trans s5).trans s6)
  simp only [List.mem_cons, List.not_mem_nil, or_false] at hd
  rcases hd with rfl | rfl | rfl
  · exact made_at n0 n1
  · exact made_world p5 (by omega)
  · exact made_hole h6
theorem made_two {w mk : Str} {ys : List D} (hw : w ∈ tfg) (hm : mk ∈ (["run", "gone"] : List Str)) (hl : ys.length = 2) (g : goodA 0 ys = true) (t : ys.all tB = true) :
    good 0 (.tup (.str w :: .str mk :: ys)) = true ∧ tB (.tup (.str w :: .str mk :: ys)) = true ∧ isTu (.tup (.str w :: .str mk :: ys)) = true ∧ sz (.tup (.str w :: .str mk :: ys)) = 3 + szA ys ∧ dp (.tup (.str w :: .str mk :: ys)) = 1 + dpA ys := by
  obtain ⟨y1, y2, rfl⟩ : ∃ y1 y2, ys = [y1, y2] := by
    match ys, hl with
    | [y1, y2], _ => exact ⟨y1, y2, rfl⟩
  have gw : goodS 0 w = true := by
    simp only [tfg, List.mem_cons, List.not_mem_nil, or_false] at hw
    rcases hw with rfl | rfl | rfl <;> decide +kernel
  have gm : goodS 0 mk = true := by
    simp only [List.mem_cons, List.not_mem_nil, or_false] at hm
    rcases hm with rfl | rfl <;> decide +kernel
  have e4 : memS (.str w) tfg = true := by
    simp only [tfg, List.mem_cons, List.not_mem_nil, or_false] at hw
    rcases hw with rfl | rfl | rfl <;> decide +kernel
  have em : markB (.str mk) = true := by
    simp only [List.mem_cons, List.not_mem_nil, or_false] at hm
    rcases hm with rfl | rfl <;> decide +kernel
  have hf : hfA [.str w, .str mk, y1, y2] = true := by
    show hf4 _ _ _ _ = true
    unfold hf4
    have e1 : eqT (.str w) "at" = false ∧ eqT (.str w) "world" = false ∧ eqT (.str w) "hole" = false := by
      simp only [tfg, List.mem_cons, List.not_mem_nil, or_false] at hw
      rcases hw with rfl | rfl | rfl <;> decide +kernel
    rw [e1.1, e1.2.1, e1.2.2, e4]
    exact em
  refine ⟨?_, ?_, rfl, by simp only [List.cons_append, List.nil_append, sz, szA]; omega, by simp only [List.cons_append, List.nil_append, dp, dpA]; omega⟩
  · simp only [List.cons_append, List.nil_append, good, goodA_cons, Bool.and_eq_true] at g ⊢
    exact ⟨gw, gm, g⟩
  · rw [tB_tup hf]
    show ((bif memS (.str w) tfg then [y1, y2] else _) : List D).all tB = true
    rw [e4]
    exact t
theorem made_shape {z1 z2 : Str} {ys : List D} (h1 : (nameS z1 || farS z1) = true) (g1 : goodS 0 z1 = true) (h2 : nameS z2 = true) (g : goodA 0 ys = true) (t : ys.all tB = true) :
    good 0 (.tup [.str "shape", .str z1, .str z2, .tup ys]) = true ∧ tB (.tup [.str "shape", .str z1, .str z2, .tup ys]) = true ∧ isTu (.tup [.str "shape", .str z1, .str z2, .tup ys]) = true ∧ sz (.tup [.str "shape", .str z1, .str z2, .tup ys]) = 5 + szA ys ∧ dp (.tup [.str "shape", .str z1, .str z2, .tup ys]) = 2 + dpA ys := by
  have gw : goodS 0 "shape" = true := by decide +kernel
  have e4 : memS (.str "shape") tfg = false := by decide +kernel
  have hf : hfA [.str "shape", .str z1, .str z2, .tup ys] = true := by
    show hf4 _ _ _ _ = true
    unfold hf4
    rw [show eqT (.str "shape") "at" = false by decide +kernel, show eqT (.str "shape") "world" = false by decide +kernel, show eqT (.str "shape") "hole" = false by decide +kernel, e4, show memS (.str "shape") fc = false by decide +kernel, show eqT (.str "shape") "shape" = true by decide +kernel,
      show calledB (.str z1) = true from h1, show nameB (.str z2) = true from h2]
    rfl
  refine ⟨?_, ?_, rfl, by simp only [sz, szA]; omega, by simp only [dp, dpA]; omega⟩
  · simp only [good, goodA_cons, Bool.and_eq_true]
    exact ⟨gw, g1, nameS_good h2, g, by simp only [goodA]⟩
  · rw [tB_tup hf]
    show ((bif memS (.str "shape") tfg then [.str z2, .tup ys] else ys) : List D).all tB = true
    rw [e4]
    exact t
theorem made_fc {w z1 : Str} {ys : List D} (hw : w ∈ fc) (h1 : (nameS z1 || farS z1) = true) (g1 : goodS 0 z1 = true) (g : goodA 0 ys = true) (t : ys.all tB = true) :
    good 0 (.tup [.str w, .str z1, .tup ys]) = true ∧ tB (.tup [.str w, .str z1, .tup ys]) = true ∧ isTu (.tup [.str w, .str z1, .tup ys]) = true ∧ sz (.tup [.str w, .str z1, .tup ys]) = 4 + szA ys ∧ dp (.tup [.str w, .str z1, .tup ys]) = 2 + dpA ys := by
  have e1 : goodS 0 w = true ∧ eqT (.str w) "at" = false ∧ eqT (.str w) "world" = false ∧ eqT (.str w) "hole" = false ∧ memS (.str w) tfg = false ∧ memS (.str w) fc = true := by
    simp only [fc, List.mem_cons, List.not_mem_nil, or_false] at hw
    rcases hw with rfl | rfl <;> decide +kernel
  obtain ⟨gw, e1, e2, e3, e4, e5⟩ := e1
  have hf : hfA [.str w, .str z1, .tup ys] = true := by
    show hf3 _ _ _ = true
    unfold hf3
    rw [e1, e2, e3, e4, e5, show calledB (.str z1) = true from h1]
    rfl
  refine ⟨?_, ?_, rfl, by simp only [sz, szA]; omega, by simp only [dp, dpA]; omega⟩
  · simp only [good, goodA_cons, Bool.and_eq_true]
    exact ⟨gw, g1, g, by simp only [goodA]⟩
  · rw [tB_tup hf]
    exact t

abbrev st_l_term : Stmt := top 23
theorem sc_l_term : FnScope ["_law_deck_here", "_law_deep", "_law_left", "_law_way", "_law_wanted", "_law_many", "_law_parts", "_law_k"] ["_law_deck_here", "_law_deep", "_law_left"] (defScope st_l_term) := ⟨rfl, rfl, rfl, by decide +kernel, rfl, by decide +kernel, by decide +kernel⟩
def sp_l_term (n : Nat) : DSp := fun ds S P => ∃ (a c l : Addr) (deep m : Int), ds = [.ref a, .int deep, .ref l] ∧ 0 ≤ deep ∧ deep < n ∧ Dk S a c ∧ l ≠ a ∧ l ≠ c ∧ S l = some (.lst [.int m]) ∧ 0 ≤ m ∧ m ≤ 1000 ∧
  ∀ (d : D) (m' : Int) (S' : Sto), good 0 d = true → tB d = true → isTu d = true → (sz d : Int) ≤ 5 + 5 * (m - m') → (dp d : Int) ≤ 2 * deep + 1 → 0 ≤ m' → m' ≤ m → Dk S' a c → S' l = some (.lst [.int m']) → Step [a, c, l] S S' → P d S'
theorem len_l_term {n : Nat} {ds : List D} {S : Sto} {P : DK} (h : sp_l_term n ds S P) : ds.length = 3 := by obtain ⟨_, _, _, _, _, rfl, _⟩ := h; rfl
theorem more3 {a c l : Addr} {S S' : Sto} (h : Step [a, c] S S') : Step [a, c, l] S S' := h.mono fun x hx => by
  simp only [List.mem_cons, List.not_mem_nil, or_false] at hx ⊢
  rcases hx with rfl | rfl
  · exact .inl rfl
  · exact .inr (.inl rfl)
theorem ok_l_term {k : Nat} {n:Nat} (DD : Def K mg "_law_term" st_l_term ["_law_deck_here", "_law_deep", "_law_left"]) (G__law_called : Has P w K mg base (k) "_law_called" ["_law_deck_here"] (sp_l_called)) (G__law_name : Has P w K mg base (k) "_law_name" ["_law_deck_here"] (sp_l_name)) (G__law_draw : Has P w K mg base (k) "_law_draw" ["_law_deck_here", "_law_ways"] (sp_l_draw)) (G__law_term : Has P w K mg base (k) "_law_term" ["_law_deck_here", "_law_deep", "_law_left"] (sp_l_term n)) (G__law_leaf : Has P w K mg base (k) "_law_leaf" ["_law_deck_here"] (sp_l_leaf)) (m_tuple : mg "tuple" = none) (m_range : mg "range" = none) (m_min : mg "min" = none) : Has P w K mg base (k + 1) "_law_term" ["_law_deck_here", "_law_deep", "_law_left"] (sp_l_term (n+1)) := by
  refine DD.has sc_l_term (fun ds S P h => len_l_term h) (fun f cdv A outer s H hr hgd => ⟨_, (ss_cons (s_par 3 4 rfl sc_l_term.nd (a_cons (q_def G__law_draw (hr.mono (by omega)) hgd (a_cons (q_var 0) (a_cons q_int a_nil))) (a_cons (q_def G__law_draw (hr.mono (by omega)) hgd (a_cons (q_var 0) (a_cons q_int a_nil))) a_nil)))
      (ss_cons (s_if (t_w (w_or (t_cmp (op_eqD (DL.Room.un1 hr)) (q_var 1) q_int) (w_or (t_cmp op_ltD (q_var 3) q_int) (w_or1 (t_cmp op_ltD (q_ix ix_D (q_var 2) q_int) q_int))))) (ss_one (s_ret (q_def G__law_leaf (hr.mono (by omega)) hgd (a_cons (q_var 0) a_nil)))) ss_nil)
      (ss_cons (s_set 5 sc_l_term.nd (q_ifExp (t_cmp op_ltD (q_var 3) q_int) q_int (q_callB (c_min rfl) rfl m_min DL.bb_min (a_cons (q_var 4) (a_cons (q_ix ix_D (q_var 2) q_int) a_nil)))))
      (ss_cons (s_setI (q_op op_subD (q_ix ix_D (q_var 2) q_int) (q_var 5)) (q_var 2) q_int)
      (ss_cons (s_set 6 sc_l_term.nd (q_callTy (c_tuple) rfl m_tuple DL.bt_tuple (a_cons (q_lc (own := [("_law_k", 7)]) (is := [7]) rfl lcg_name rfl sc_l_term.nd (i_rng1 rfl m_range (a_cons (q_var 5) a_nil)) (blkOk_by (own := [("_law_k", 7)]) (N := ["_law_deck_here", "_law_deep", "_law_left", "_law_way", "_law_wanted", "_law_many", "_law_parts", "_law_k"]) (sc := defScope st_l_term) (by decide +kernel)) (fun _ _ _ _ _ => pg_name (i := 7) sc_l_term.nd rfl (Or.inl rfl)) (fun _ _ _ _ _ => ts_nil) (fun _ _ _ _ _ => (q_def G__law_term (hr.mono (by omega)) hgd (a_cons (q_var 0) (a_cons (q_op op_subD (q_var 1) q_int) (a_cons (q_var 2) a_nil)))))) a_nil)))
      (ss_cons (s_if (t_cmp op_ltD (q_var 3) q_int) (ss_one (s_ret (q_op op_addD (q_tup (a_cons (q_ix ix_D (q_lst (a_cons q_str (a_cons q_str (a_cons q_str (a_cons q_str a_nil))))) (q_op op_subD (q_var 3) q_int)) (a_cons (q_ix ix_D (q_lst (a_cons q_str (a_cons q_str a_nil))) (q_def G__law_draw (hr.mono (by omega)) hgd (a_cons (q_var 0) (a_cons q_int a_nil)))) a_nil))) (q_var 6)))) ss_nil)
      (ss_cons (s_if (t_cmp (op_eqD (DL.Room.un1 hr)) (q_var 3) q_int) (ss_one (s_ret (q_tup (a_cons q_str (a_cons (q_def G__law_called (hr.mono (by omega)) hgd (a_cons (q_var 0) a_nil)) (a_cons (q_def G__law_name (hr.mono (by omega)) hgd (a_cons (q_var 0) a_nil)) (a_cons (q_var 6) a_nil))))))) ss_nil)
      (ss_one (s_ret (q_tup (a_cons (q_ix ix_D (q_lst (a_cons q_str (a_cons q_str a_nil))) (q_op op_subD (q_var 3) q_int)) (a_cons (q_def G__law_called (hr.mono (by omega)) hgd (a_cons (q_var 0) a_nil)) (a_cons (q_var 6) a_nil))))))))))))), fun ds S P h => ?_⟩)
  obtain ⟨a, c, l, deep, m, rfl, d0, d1, hD, la, lc, el, m0, m1, h⟩ := h
  have hl := small8
  have nl : l ∉ [a, c] := by simp [la, lc]
  simp only [dNext, dSeq, dDrop, dRet, dRetN, dIfS, dCont, dBreak, dSet, dAsg, dPar, dSetI, dFor, dVar, dC, dOp, dUn, dTest, dChain, dAnd, dOr, dNot, dAndV, dOrV, dNotV, dIf, dNil, dCons, dTup, dLst, dLstM, dNoPart, dPart, dSl, dCB, dMtL, dMt0, dMtS, dMtS0, dTru, dLc, dItS, dItStr, dRng1, dRng2, dRev, dRevM, dDic0, dstart, slot, asB_bl, asI_int, asS_str, cond_true, cond_false, List.map_cons, List.map_nil, List.length_cons, List.length_nil, List.set_cons_zero, List.set_cons_succ, Option.elim_some, Option.elim_none, List.cons_append, List.nil_append, List.replicate, Nat.sub_self, Nat.reduceSub, Nat.reduceAdd, Bool.not_true, Bool.not_false, setAll, Int.cast_ofNat_Int, Nat.zero_add, Int.reduceLT, Int.reduceLE, Int.reduceBEq, Nat.reduceBEq, decide_true, decide_false, DL.pred_s, DL.len_str, DL.len_tup, DL.len_lst, DL.le_ii, DL.le_ss, DL.cmp_ii, DL.add_ii, DL.add_ib, DL.add_bi, DL.add_ss, DL.add_tt, DL.add_ll, DL.sub_ii, DL.sub_ib, DL.sub_bi, DL.mul_ii, DL.ii_ii, DL.neg_i, DL.is_bb, DL.isn_bb, DL.all_b, DL.all_map, DL.sum_i, DL.eq_ii, DL.eq_bi, DL.eq_t0, DL.eq_l0, DL.ne_ss, DL.ne_ii, DL.ne_t0, DL.ne_l0, DL.ix_tup, DL.ix_lst, DL.ix_str, DL.in_c, DL.nin_c, DL.sl_str, DL.sl_tup, DL.sl_lst, DL.app_1, DL.pop_0, DL.ext_t, DL.tuple_l, DL.list_t, DL.list_l, DL.int_b, DL.int_i, DL.min_ii, DL.str_i, DL.str_b, DL.repr_1, DL.back_t, DL.tru_l, DL.at0, DL.at1, DL.at2, DL.at3]
  refine ⟨a, c, 9, rfl, by decide, by decide, hD, fun way S1 p1 q1 hD s1 => ?_⟩
  refine ⟨a, c, 5, rfl, by decide, by decide, hD, fun wanted S2 p2 q2 hD s2 => ?_⟩
  have s2 := s1.trans s2
  have el := s2.at el nl
  simp only [dNext, dSeq, dDrop, dRet, dRetN, dIfS, dCont, dBreak, dSet, dAsg, dPar, dSetI, dFor, dVar, dC, dOp, dUn, dTest, dChain, dAnd, dOr, dNot, dAndV, dOrV, dNotV, dIf, dNil, dCons, dTup, dLst, dLstM, dNoPart, dPart, dSl, dCB, dMtL, dMt0, dMtS, dMtS0, dTru, dLc, dItS, dItStr, dRng1, dRng2, dRev, dRevM, dDic0, dstart, slot, asB_bl, asI_int, asS_str, cond_true, cond_false, List.map_cons, List.map_nil, List.length_cons, List.length_nil, List.set_cons_zero, List.set_cons_succ, Option.elim_some, Option.elim_none, List.cons_append, List.nil_append, List.replicate, Nat.sub_self, Nat.reduceSub, Nat.reduceAdd, Bool.not_true, Bool.not_false, setAll, Int.cast_ofNat_Int, Nat.zero_add, Int.reduceLT, Int.reduceLE, Int.reduceBEq, Nat.reduceBEq, decide_true, decide_false, DL.pred_s, DL.len_str, DL.len_tup, DL.len_lst, DL.le_ii, DL.le_ss, DL.cmp_ii, DL.add_ii, DL.add_ib, DL.add_bi, DL.add_ss, DL.add_tt, DL.add_ll, DL.sub_ii, DL.sub_ib, DL.sub_bi, DL.mul_ii, DL.ii_ii, DL.neg_i, DL.is_bb, DL.isn_bb, DL.all_b, DL.all_map, DL.sum_i, DL.eq_ii, DL.eq_bi, DL.eq_t0, DL.eq_l0, DL.ne_ss, DL.ne_ii, DL.ne_t0, DL.ne_l0, DL.ix_tup, DL.ix_lst, DL.ix_str, DL.in_c, DL.nin_c, DL.sl_str, DL.sl_tup, DL.sl_lst, DL.app_1, DL.pop_0, DL.ext_t, DL.tuple_l, DL.list_t, DL.list_l, DL.int_b, DL.int_i, DL.min_ii, DL.str_i, DL.str_b, DL.repr_1, DL.back_t, DL.tru_l, DL.at0, DL.at1, DL.at2, DL.at3]
  have leaf : sp_l_leaf [.ref a] S2 P := ⟨a, c, rfl, hD, fun d S3 ⟨g, t, z, e, u⟩ hD s3 => h d m S3 g t u (by omega) (by omega) m0 (Int.le_refl _) hD (s3.at el nl) (more3 (s2.trans s3))⟩
  cases hd : deep == 0 with
  | true => exact leaf
  | false =>
    have hd : deep ≠ 0 := by simpa using hd
    simp only [dNext, dSeq, dDrop, dRet, dRetN, dIfS, dCont, dBreak, dSet, dAsg, dPar, dSetI, dFor, dVar, dC, dOp, dUn, dTest, dChain, dAnd, dOr, dNot, dAndV, dOrV, dNotV, dIf, dNil, dCons, dTup, dLst, dLstM, dNoPart, dPart, dSl, dCB, dMtL, dMt0, dMtS, dMtS0, dTru, dLc, dItS, dItStr, dRng1, dRng2, dRev, dRevM, dDic0, dstart, slot, asB_bl, asI_int, asS_str, cond_true, cond_false, List.map_cons, List.map_nil, List.length_cons, List.length_nil, List.set_cons_zero, List.set_cons_succ, Option.elim_some, Option.elim_none, List.cons_append, List.nil_append, List.replicate, Nat.sub_self, Nat.reduceSub, Nat.reduceAdd, Bool.not_true, Bool.not_false, setAll, Int.cast_ofNat_Int, Nat.zero_add, Int.reduceLT, Int.reduceLE, Int.reduceBEq, Nat.reduceBEq, decide_true, decide_false, DL.pred_s, DL.len_str, DL.len_tup, DL.len_lst, DL.le_ii, DL.le_ss, DL.cmp_ii, DL.add_ii, DL.add_ib, DL.add_bi, DL.add_ss, DL.add_tt, DL.add_ll, DL.sub_ii, DL.sub_ib, DL.sub_bi, DL.mul_ii, DL.ii_ii, DL.neg_i, DL.is_bb, DL.isn_bb, DL.all_b, DL.all_map, DL.sum_i, DL.eq_ii, DL.eq_bi, DL.eq_t0, DL.eq_l0, DL.ne_ss, DL.ne_ii, DL.ne_t0, DL.ne_l0, DL.ix_tup, DL.ix_lst, DL.ix_str, DL.in_c, DL.nin_c, DL.sl_str, DL.sl_tup, DL.sl_lst, DL.app_1, DL.pop_0, DL.ext_t, DL.tuple_l, DL.list_t, DL.list_l, DL.int_b, DL.int_i, DL.min_ii, DL.str_i, DL.str_b, DL.repr_1, DL.back_t, DL.tru_l, DL.at0, DL.at1, DL.at2, DL.at3]
    cases hw : decide (way < 2) with
    | true => exact leaf
    | false =>
      have hw := of_decide_eq_false hw
      simp only [dNext, dSeq, dDrop, dRet, dRetN, dIfS, dCont, dBreak, dSet, dAsg, dPar, dSetI, dFor, dVar, dC, dOp, dUn, dTest, dChain, dAnd, dOr, dNot, dAndV, dOrV, dNotV, dIf, dNil, dCons, dTup, dLst, dLstM, dNoPart, dPart, dSl, dCB, dMtL, dMt0, dMtS, dMtS0, dTru, dLc, dItS, dItStr, dRng1, dRng2, dRev, dRevM, dDic0, dstart, slot, asB_bl, asI_int, asS_str, cond_true, cond_false, List.map_cons, List.map_nil, List.length_cons, List.length_nil, List.set_cons_zero, List.set_cons_succ, Option.elim_some, Option.elim_none, List.cons_append, List.nil_append, List.replicate, Nat.sub_self, Nat.reduceSub, Nat.reduceAdd, Bool.not_true, Bool.not_false, setAll, Int.cast_ofNat_Int, Nat.zero_add, Int.reduceLT, Int.reduceLE, Int.reduceBEq, Nat.reduceBEq, decide_true, decide_false, DL.pred_s, DL.len_str, DL.len_tup, DL.len_lst, DL.le_ii, DL.le_ss, DL.cmp_ii, DL.add_ii, DL.add_ib, DL.add_bi, DL.add_ss, DL.add_tt, DL.add_ll, DL.sub_ii, DL.sub_ib, DL.sub_bi, DL.mul_ii, DL.ii_ii, DL.neg_i, DL.is_bb, DL.isn_bb, DL.all_b, DL.all_map, DL.sum_i, DL.eq_ii, DL.eq_bi, DL.eq_t0, DL.eq_l0, DL.ne_ss, DL.ne_ii, DL.ne_t0, DL.ne_l0, DL.ix_tup, DL.ix_lst, DL.ix_str, DL.in_c, DL.nin_c, DL.sl_str, DL.sl_tup, DL.sl_lst, DL.app_1, DL.pop_0, DL.ext_t, DL.tuple_l, DL.list_t, DL.list_l, DL.int_b, DL.int_i, DL.min_ii, DL.str_i, DL.str_b, DL.repr_1, DL.back_t, DL.tru_l, DL.at0, DL.at1, DL.at2, DL.at3]
      simp only [DL.ix_ref el]
      simp only [dNext, dSeq, dDrop, dRet, dRetN, dIfS, dCont, dBreak, dSet, dAsg, dPar, dSetI, dFor, dVar, dC, dOp, dUn, dTest, dChain, dAnd, dOr, dNot, dAndV, dOrV, dNotV, dIf, dNil, dCons, dTup, dLst, dLstM, dNoPart, dPart, dSl, dCB, dMtL, dMt0, dMtS, dMtS0, dTru, dLc, dItS, dItStr, dRng1, dRng2, dRev, dRevM, dDic0, dstart, slot, asB_bl, asI_int, asS_str, cond_true, cond_false, List.map_cons, List.map_nil, List.length_cons, List.length_nil, List.set_cons_zero, List.set_cons_succ, Option.elim_some, Option.elim_none, List.cons_append, List.nil_append, List.replicate, Nat.sub_self, Nat.reduceSub, Nat.reduceAdd, Bool.not_true, Bool.not_false, setAll, Int.cast_ofNat_Int, Nat.zero_add, Int.reduceLT, Int.reduceLE, Int.reduceBEq, Nat.reduceBEq, decide_true, decide_false, DL.pred_s, DL.len_str, DL.len_tup, DL.len_lst, DL.le_ii, DL.le_ss, DL.cmp_ii, DL.add_ii, DL.add_ib, DL.add_bi, DL.add_ss, DL.add_tt, DL.add_ll, DL.sub_ii, DL.sub_ib, DL.sub_bi, DL.mul_ii, DL.ii_ii, DL.neg_i, DL.is_bb, DL.isn_bb, DL.all_b, DL.all_map, DL.sum_i, DL.eq_ii, DL.eq_bi, DL.eq_t0, DL.eq_l0, DL.ne_ss, DL.ne_ii, DL.ne_t0, DL.ne_l0, DL.ix_tup, DL.ix_lst, DL.ix_str, DL.in_c, DL.nin_c, DL.sl_str, DL.sl_tup, DL.sl_lst, DL.app_1, DL.pop_0, DL.ext_t, DL.tuple_l, DL.list_t, DL.list_l, DL.int_b, DL.int_i, DL.min_ii, DL.str_i, DL.str_b, DL.repr_1, DL.back_t, DL.tru_l, DL.at0, DL.at1, DL.at2, DL.at3]
      cases hm : decide (m < 2) with
      | true => exact leaf
      | false =>
        have hm := of_decide_eq_false hm
        simp only [dNext, dSeq, dDrop, dRet, dRetN, dIfS, dCont, dBreak, dSet, dAsg, dPar, dSetI, dFor, dVar, dC, dOp, dUn, dTest, dChain, dAnd, dOr, dNot, dAndV, dOrV, dNotV, dIf, dNil, dCons, dTup, dLst, dLstM, dNoPart, dPart, dSl, dCB, dMtL, dMt0, dMtS, dMtS0, dTru, dLc, dItS, dItStr, dRng1, dRng2, dRev, dRevM, dDic0, dstart, slot, asB_bl, asI_int, asS_str, cond_true, cond_false, List.map_cons, List.map_nil, List.length_cons, List.length_nil, List.set_cons_zero, List.set_cons_succ, Option.elim_some, Option.elim_none, List.cons_append, List.nil_append, List.replicate, Nat.sub_self, Nat.reduceSub, Nat.reduceAdd, Bool.not_true, Bool.not_false, setAll, Int.cast_ofNat_Int, Nat.zero_add, Int.reduceLT, Int.reduceLE, Int.reduceBEq, Nat.reduceBEq, decide_true, decide_false, DL.pred_s, DL.len_str, DL.len_tup, DL.len_lst, DL.le_ii, DL.le_ss, DL.cmp_ii, DL.add_ii, DL.add_ib, DL.add_bi, DL.add_ss, DL.add_tt, DL.add_ll, DL.sub_ii, DL.sub_ib, DL.sub_bi, DL.mul_ii, DL.ii_ii, DL.neg_i, DL.is_bb, DL.isn_bb, DL.all_b, DL.all_map, DL.sum_i, DL.eq_ii, DL.eq_bi, DL.eq_t0, DL.eq_l0, DL.ne_ss, DL.ne_ii, DL.ne_t0, DL.ne_l0, DL.ix_tup, DL.ix_lst, DL.ix_str, DL.in_c, DL.nin_c, DL.sl_str, DL.sl_tup, DL.sl_lst, DL.app_1, DL.pop_0, DL.ext_t, DL.tuple_l, DL.list_t, DL.list_l, DL.int_b, DL.int_i, DL.min_ii, DL.str_i, DL.str_b, DL.repr_1, DL.back_t, DL.tru_l, DL.at0, DL.at1, DL.at2, DL.at3]
        cases h6 : decide (way < 6) with
        | true =>
          have h6 := of_decide_eq_true h6
          simp only [dNext, dSeq, dDrop, dRet, dRetN, dIfS, dCont, dBreak, dSet, dAsg, dPar, dSetI, dFor, dVar, dC, dOp, dUn, dTest, dChain, dAnd, dOr, dNot, dAndV, dOrV, dNotV, dIf, dNil, dCons, dTup, dLst, dLstM, dNoPart, dPart, dSl, dCB, dMtL, dMt0, dMtS, dMtS0, dTru, dLc, dItS, dItStr, dRng1, dRng2, dRev, dRevM, dDic0, dstart, slot, asB_bl, asI_int, asS_str, cond_true, cond_false, List.map_cons, List.map_nil, List.length_cons, List.length_nil, List.set_cons_zero, List.set_cons_succ, Option.elim_some, Option.elim_none, List.cons_append, List.nil_append, List.replicate, Nat.sub_self, Nat.reduceSub, Nat.reduceAdd, Bool.not_true, Bool.not_false, setAll, Int.cast_ofNat_Int, Nat.zero_add, Int.reduceLT, Int.reduceLE, Int.reduceBEq, Nat.reduceBEq, decide_true, decide_false, DL.pred_s, DL.len_str, DL.len_tup, DL.len_lst, DL.le_ii, DL.le_ss, DL.cmp_ii, DL.add_ii, DL.add_ib, DL.add_bi, DL.add_ss, DL.add_tt, DL.add_ll, DL.sub_ii, DL.sub_ib, DL.sub_bi, DL.mul_ii, DL.ii_ii, DL.neg_i, DL.is_bb, DL.isn_bb, DL.all_b, DL.all_map, DL.sum_i, DL.eq_ii, DL.eq_bi, DL.eq_t0, DL.eq_l0, DL.ne_ss, DL.ne_ii, DL.ne_t0, DL.ne_l0, DL.ix_tup, DL.ix_lst, DL.ix_str, DL.in_c, DL.nin_c, DL.sl_str, DL.sl_tup, DL.sl_lst, DL.app_1, DL.pop_0, DL.ext_t, DL.tuple_l, DL.list_t, DL.list_l, DL.int_b, DL.int_i, DL.min_ii, DL.str_i, DL.str_b, DL.repr_1, DL.back_t, DL.tru_l, DL.at0, DL.at1, DL.at2, DL.at3]
          simp only [DL.ix_ref el]
          simp only [dNext, dSeq, dDrop, dRet, dRetN, dIfS, dCont, dBreak, dSet, dAsg, dPar, dSetI, dFor, dVar, dC, dOp, dUn, dTest, dChain, dAnd, dOr, dNot, dAndV, dOrV, dNotV, dIf, dNil, dCons, dTup, dLst, dLstM, dNoPart, dPart, dSl, dCB, dMtL, dMt0, dMtS, dMtS0, dTru, dLc, dItS, dItStr, dRng1, dRng2, dRev, dRevM, dDic0, dstart, slot, asB_bl, asI_int, asS_str, cond_true, cond_false, List.map_cons, List.map_nil, List.length_cons, List.length_nil, List.set_cons_zero, List.set_cons_succ, Option.elim_some, Option.elim_none, List.cons_append, List.nil_append, List.replicate, Nat.sub_self, Nat.reduceSub, Nat.reduceAdd, Bool.not_true, Bool.not_false, setAll, Int.cast_ofNat_Int, Nat.zero_add, Int.reduceLT, Int.reduceLE, Int.reduceBEq, Nat.reduceBEq, decide_true, decide_false, DL.pred_s, DL.len_str, DL.len_tup, DL.len_lst, DL.le_ii, DL.le_ss, DL.cmp_ii, DL.add_ii, DL.add_ib, DL.add_bi, DL.add_ss, DL.add_tt, DL.add_ll, DL.sub_ii, DL.sub_ib, DL.sub_bi, DL.mul_ii, DL.ii_ii, DL.neg_i, DL.is_bb, DL.isn_bb, DL.all_b, DL.all_map, DL.sum_i, DL.eq_ii, DL.eq_bi, DL.eq_t0, DL.eq_l0, DL.ne_ss, DL.ne_ii, DL.ne_t0, DL.ne_l0, DL.ix_tup, DL.ix_lst, DL.ix_str, DL.in_c, DL.nin_c, DL.sl_str, DL.sl_tup, DL.sl_lst, DL.app_1, DL.pop_0, DL.ext_t, DL.tuple_l, DL.list_t, DL.list_l, DL.int_b, DL.int_i, DL.min_ii, DL.str_i, DL.str_b, DL.repr_1, DL.back_t, DL.tru_l, DL.at0, DL.at1, DL.at2, DL.at3]
          rw [DL.setD_ref (n := 0) el rfl, show ([.int m] : List DL.D).set 0 (.int (m - 2)) = [.int (m - 2)] from rfl]
          refine ⟨⟨by decide, by decide⟩, ?_⟩
          have hM : 0 ≤ m - 2 := by omega
          generalize eM : m - 2 = M at hM ⊢
          have s4 : Step [a, c, l] S2 (sup S2 l (.lst [.int M])) := .mut (by simp)
          have el4 : (sup S2 l (.lst [.int M])) l = some (.lst [.int M]) := sup_same
          have hD4 : Dk (sup S2 l (.lst [.int M])) a c := hD.of fun b hb => sup_ne fun e => nl (by rw [← e]; exact hb)
          generalize sup S2 l (.lst [.int M]) = S4 at s4 el4 hD4 ⊢
          have some4 : ∀ b ∈ [a, c, l], S4 b ≠ none := fun b hb => by
            simp only [List.mem_cons, List.not_mem_nil, or_false] at hb
            rcases hb with rfl | rfl | rfl
            · exact hD4.some _ (by simp)
            · exact hD4.some _ (by simp)
            · rw [el4]; exact nofun
          refine lc_acc [a, c, l] (fun i acc S => Dk S a c ∧ ∃ m' : Int, S l = some (.lst [.int m']) ∧ 0 ≤ m' ∧ m' ≤ M ∧ goodA 0 acc = true ∧ acc.all tB = true ∧ (szA acc : Int) ≤ 5 * i + 5 * (M - m') ∧ (dpA acc : Int) ≤ 2 * deep - 1) (by rw [iota_len]; omega)
            (fun i acc S1 S2 e ⟨x1, m', x2, x3⟩ => ⟨x1.of fun b hb => e b (by simp only [List.mem_cons, List.not_mem_nil, or_false] at hb ⊢; rcases hb with rfl | rfl <;> simp), m', by rw [e l (by simp)]; exact x2, x3⟩) some4
            ⟨hD4, M, el4, hM, Int.le_refl _, by simp only [goodA], by simp, by simp only [szA]; omega, by simp only [dpA]; omega⟩ (fun i d acc hd hi S5 Q ⟨hD, m', el, x0, x1, g, t, z, e⟩ q => ?_) fun ys S5 hn ⟨hD5, m5, el5, l5, u5, g5, t5, z5, e5⟩ s5 => ?_
          · simp only [dNext, dSeq, dDrop, dRet, dRetN, dIfS, dCont, dBreak, dSet, dAsg, dPar, dSetI, dFor, dVar, dC, dOp, dUn, dTest, dChain, dAnd, dOr, dNot, dAndV, dOrV, dNotV, dIf, dNil, dCons, dTup, dLst, dLstM, dNoPart, dPart, dSl, dCB, dMtL, dMt0, dMtS, dMtS0, dTru, dLc, dItS, dItStr, dRng1, dRng2, dRev, dRevM, dDic0, dstart, slot, asB_bl, asI_int, asS_str, cond_true, cond_false, List.map_cons, List.map_nil, List.length_cons, List.length_nil, List.set_cons_zero, List.set_cons_succ, Option.elim_some, Option.elim_none, List.cons_append, List.nil_append, List.replicate, Nat.sub_self, Nat.reduceSub, Nat.reduceAdd, Bool.not_true, Bool.not_false, setAll, Int.cast_ofNat_Int, Nat.zero_add, Int.reduceLT, Int.reduceLE, Int.reduceBEq, Nat.reduceBEq, decide_true, decide_false, DL.pred_s, DL.len_str, DL.len_tup, DL.len_lst, DL.le_ii, DL.le_ss, DL.cmp_ii, DL.add_ii, DL.add_ib, DL.add_bi, DL.add_ss, DL.add_tt, DL.add_ll, DL.sub_ii, DL.sub_ib, DL.sub_bi, DL.mul_ii, DL.ii_ii, DL.neg_i, DL.is_bb, DL.isn_bb, DL.all_b, DL.all_map, DL.sum_i, DL.eq_ii, DL.eq_bi, DL.eq_t0, DL.eq_l0, DL.ne_ss, DL.ne_ii, DL.ne_t0, DL.ne_l0, DL.ix_tup, DL.ix_lst, DL.ix_str, DL.in_c, DL.nin_c, DL.sl_str, DL.sl_tup, DL.sl_lst, DL.app_1, DL.pop_0, DL.ext_t, DL.tuple_l, DL.list_t, DL.list_l, DL.int_b, DL.int_i, DL.min_ii, DL.str_i, DL.str_b, DL.repr_1, DL.back_t, DL.tru_l, DL.at0, DL.at1, DL.at2, DL.at3]
            refine ⟨a, c, l, deep - 1, m', rfl, by omega, by omega, hD, la, lc, el, x0, by omega, fun d m'' S6 gd td _ zd ed lo hi' hD6 el6 s6 => q d S6 ⟨hD6, m'', el6, lo, by omega, ?_, ?_, ?_, ?_⟩ s6⟩
            · rw [goodA_append, g, goodA_cons, gd]; simp only [goodA, Bool.and_self]
            · rw [List.all_append, t]; simp [td]
            · rw [szA_append]; simp only [szA]; omega
            · rw [dpA_append]; simp only [dpA]; omega
          rw [iota_len] at z5
          simp only [dNext, dSeq, dDrop, dRet, dRetN, dIfS, dCont, dBreak, dSet, dAsg, dPar, dSetI, dFor, dVar, dC, dOp, dUn, dTest, dChain, dAnd, dOr, dNot, dAndV, dOrV, dNotV, dIf, dNil, dCons, dTup, dLst, dLstM, dNoPart, dPart, dSl, dCB, dMtL, dMt0, dMtS, dMtS0, dTru, dLc, dItS, dItStr, dRng1, dRng2, dRev, dRevM, dDic0, dstart, slot, asB_bl, asI_int, asS_str, cond_true, cond_false, List.map_cons, List.map_nil, List.length_cons, List.length_nil, List.set_cons_zero, List.set_cons_succ, Option.elim_some, Option.elim_none, List.cons_append, List.nil_append, List.replicate, Nat.sub_self, Nat.reduceSub, Nat.reduceAdd, Bool.not_true, Bool.not_false, setAll, Int.cast_ofNat_Int, Nat.zero_add, Int.reduceLT, Int.reduceLE, Int.reduceBEq, Nat.reduceBEq, decide_true, decide_false, DL.pred_s, DL.len_str, DL.len_tup, DL.len_lst, DL.le_ii, DL.le_ss, DL.cmp_ii, DL.add_ii, DL.add_ib, DL.add_bi, DL.add_ss, DL.add_tt, DL.add_ll, DL.sub_ii, DL.sub_ib, DL.sub_bi, DL.mul_ii, DL.ii_ii, DL.neg_i, DL.is_bb, DL.isn_bb, DL.all_b, DL.all_map, DL.sum_i, DL.eq_ii, DL.eq_bi, DL.eq_t0, DL.eq_l0, DL.ne_ss, DL.ne_ii, DL.ne_t0, DL.ne_l0, DL.ix_tup, DL.ix_lst, DL.ix_str, DL.in_c, DL.nin_c, DL.sl_str, DL.sl_tup, DL.sl_lst, DL.app_1, DL.pop_0, DL.ext_t, DL.tuple_l, DL.list_t, DL.list_l, DL.int_b, DL.int_i, DL.min_ii, DL.str_i, DL.str_b, DL.repr_1, DL.back_t, DL.tru_l, DL.at0, DL.at1, DL.at2, DL.at3]
          rw [iota_len] at hn
          show (_ : Prop) ∧ _
          refine ⟨by omega, ?_⟩
          obtain ⟨d1, ed, hd1⟩ := at_mem (xs := ([.str "to", .str "fun", .str "give", .str "give"] : List DL.D)) (i := way - 2) (by omega) (by simp; omega)
          obtain ⟨wd, rfl, hwd⟩ : ∃ z : Str, d1 = .str z ∧ z ∈ tfg := by
            simp only [List.mem_cons, List.not_mem_nil, or_false] at hd1
            rcases hd1 with rfl | rfl | rfl | rfl
            · exact ⟨_, rfl, by simp [tfg]⟩
            · exact ⟨_, rfl, by simp [tfg]⟩
            · exact ⟨_, rfl, by simp [tfg]⟩
            · exact ⟨_, rfl, by simp [tfg]⟩
          rw [ed]
          simp only [dNext, dSeq, dDrop, dRet, dRetN, dIfS, dCont, dBreak, dSet, dAsg, dPar, dSetI, dFor, dVar, dC, dOp, dUn, dTest, dChain, dAnd, dOr, dNot, dAndV, dOrV, dNotV, dIf, dNil, dCons, dTup, dLst, dLstM, dNoPart, dPart, dSl, dCB, dMtL, dMt0, dMtS, dMtS0, dTru, dLc, dItS, dItStr, dRng1, dRng2, dRev, dRevM, dDic0, dstart, slot, asB_bl, asI_int, asS_str, cond_true, cond_false, List.map_cons, List.map_nil, List.length_cons, List.length_nil, List.set_cons_zero, List.set_cons_succ, Option.elim_some, Option.elim_none, List.cons_append, List.nil_append, List.replicate, Nat.sub_self, Nat.reduceSub, Nat.reduceAdd, Bool.not_true, Bool.not_false, setAll, Int.cast_ofNat_Int, Nat.zero_add, Int.reduceLT, Int.reduceLE, Int.reduceBEq, Nat.reduceBEq, decide_true, decide_false, DL.pred_s, DL.len_str, DL.len_tup, DL.len_lst, DL.le_ii, DL.le_ss, DL.cmp_ii, DL.add_ii, DL.add_ib, DL.add_bi, DL.add_ss, DL.add_tt, DL.add_ll, DL.sub_ii, DL.sub_ib, DL.sub_bi, DL.mul_ii, DL.ii_ii, DL.neg_i, DL.is_bb, DL.isn_bb, DL.all_b, DL.all_map, DL.sum_i, DL.eq_ii, DL.eq_bi, DL.eq_t0, DL.eq_l0, DL.ne_ss, DL.ne_ii, DL.ne_t0, DL.ne_l0, DL.ix_tup, DL.ix_lst, DL.ix_str, DL.in_c, DL.nin_c, DL.sl_str, DL.sl_tup, DL.sl_lst, DL.app_1, DL.pop_0, DL.ext_t, DL.tuple_l, DL.list_t, DL.list_l, DL.int_b, DL.int_i, DL.min_ii, DL.str_i, DL.str_b, DL.repr_1, DL.back_t, DL.tru_l, DL.at0, DL.at1, DL.at2, DL.at3]
          refine ⟨by omega, a, c, 2, rfl, by decide, by decide, hD5, fun r S6 p6 q6 hD6 s6 => ?_⟩
          obtain ⟨d2, ed2, hd2⟩ := at_mem (xs := ([.str "run", .str "gone"] : List DL.D)) (i := r) p6 q6
          obtain ⟨mk, rfl, hmk⟩ : ∃ z : Str, d2 = .str z ∧ z ∈ (["run", "gone"] : List Str) := by
            simp only [List.mem_cons, List.not_mem_nil, or_false] at hd2
            rcases hd2 with rfl | rfl
            · exact ⟨_, rfl, by simp⟩
            · exact ⟨_, rfl, by simp⟩
          simp only [dNext, dSeq, dDrop, dRet, dRetN, dIfS, dCont, dBreak, dSet, dAsg, dPar, dSetI, dFor, dVar, dC, dOp, dUn, dTest, dChain, dAnd, dOr, dNot, dAndV, dOrV, dNotV, dIf, dNil, dCons, dTup, dLst, dLstM, dNoPart, dPart, dSl, dCB, dMtL, dMt0, dMtS, dMtS0, dTru, dLc, dItS, dItStr, dRng1, dRng2, dRev, dRevM, dDic0, dstart, slot, asB_bl, asI_int, asS_str, cond_true, cond_false, List.map_cons, List.map_nil, List.length_cons, List.length_nil, List.set_cons_zero, List.set_cons_succ, Option.elim_some, Option.elim_none, List.cons_append, List.nil_append, List.replicate, Nat.sub_self, Nat.reduceSub, Nat.reduceAdd, Bool.not_true, Bool.not_false, setAll, Int.cast_ofNat_Int, Nat.zero_add, Int.reduceLT, Int.reduceLE, Int.reduceBEq, Nat.reduceBEq, decide_true, decide_false, DL.pred_s, DL.len_str, DL.len_tup, DL.len_lst, DL.le_ii, DL.le_ss, DL.cmp_ii, DL.add_ii, DL.add_ib, DL.add_bi, DL.add_ss, DL.add_tt, DL.add_ll, DL.sub_ii, DL.sub_ib, DL.sub_bi, DL.mul_ii, DL.ii_ii, DL.neg_i, DL.is_bb, DL.isn_bb, DL.all_b, DL.all_map, DL.sum_i, DL.eq_ii, DL.eq_bi, DL.eq_t0, DL.eq_l0, DL.ne_ss, DL.ne_ii, DL.ne_t0, DL.ne_l0, DL.ix_tup, DL.ix_lst, DL.ix_str, DL.in_c, DL.nin_c, DL.sl_str, DL.sl_tup, DL.sl_lst, DL.app_1, DL.pop_0, DL.ext_t, DL.tuple_l, DL.list_t, DL.list_l, DL.int_b, DL.int_i, DL.min_ii, DL.str_i, DL.str_b, DL.repr_1, DL.back_t, DL.tru_l, DL.at0, DL.at1, DL.at2, DL.at3]
          rw [ed2]
          simp only [dNext, dSeq, dDrop, dRet, dRetN, dIfS, dCont, dBreak, dSet, dAsg, dPar, dSetI, dFor, dVar, dC, dOp, dUn, dTest, dChain, dAnd, dOr, dNot, dAndV, dOrV, dNotV, dIf, dNil, dCons, dTup, dLst, dLstM, dNoPart, dPart, dSl, dCB, dMtL, dMt0, dMtS, dMtS0, dTru, dLc, dItS, dItStr, dRng1, dRng2, dRev, dRevM, dDic0, dstart, slot, asB_bl, asI_int, asS_str, cond_true, cond_false, List.map_cons, List.map_nil, List.length_cons, List.length_nil, List.set_cons_zero, List.set_cons_succ, Option.elim_some, Option.elim_none, List.cons_append, List.nil_append, List.replicate, Nat.sub_self, Nat.reduceSub, Nat.reduceAdd, Bool.not_true, Bool.not_false, setAll, Int.cast_ofNat_Int, Nat.zero_add, Int.reduceLT, Int.reduceLE, Int.reduceBEq, Nat.reduceBEq, decide_true, decide_false, DL.pred_s, DL.len_str, DL.len_tup, DL.len_lst, DL.le_ii, DL.le_ss, DL.cmp_ii, DL.add_ii, DL.add_ib, DL.add_bi, DL.add_ss, DL.add_tt, DL.add_ll, DL.sub_ii, DL.sub_ib, DL.sub_bi, DL.mul_ii, DL.ii_ii, DL.neg_i, DL.is_bb, DL.isn_bb, DL.all_b, DL.all_map, DL.sum_i, DL.eq_ii, DL.eq_bi, DL.eq_t0, DL.eq_l0, DL.ne_ss, DL.ne_ii, DL.ne_t0, DL.ne_l0, DL.ix_tup, DL.ix_lst, DL.ix_str, DL.in_c, DL.nin_c, DL.sl_str, DL.sl_tup, DL.sl_lst, DL.app_1, DL.pop_0, DL.ext_t, DL.tuple_l, DL.list_t, DL.list_l, DL.int_b, DL.int_i, DL.min_ii, DL.str_i, DL.str_b, DL.repr_1, DL.back_t, DL.tru_l, DL.at0, DL.at1, DL.at2, DL.at3]
          obtain ⟨a1, a2, a3, a4, a5⟩ := made_two hwd hmk hn g5 t5
          refine ⟨by omega, by omega, ?_⟩
          exact h _ m5 S6 a1 a2 a3 (by rw [a4]; simp only [Int.toNat] at z5; omega) (by rw [a5]; omega) l5 (by omega) hD6 (s6.at el5 nl) ((((more3 s2).trans s4).trans s5).trans (more3 s6))
        | false =>
          have h6 := of_decide_eq_false h6
          simp only [dNext, dSeq, dDrop, dRet, dRetN, dIfS, dCont, dBreak, dSet, dAsg, dPar, dSetI, dFor, dVar, dC, dOp, dUn, dTest, dChain, dAnd, dOr, dNot, dAndV, dOrV, dNotV, dIf, dNil, dCons, dTup, dLst, dLstM, dNoPart, dPart, dSl, dCB, dMtL, dMt0, dMtS, dMtS0, dTru, dLc, dItS, dItStr, dRng1, dRng2, dRev, dRevM, dDic0, dstart, slot, asB_bl, asI_int, asS_str, cond_true, cond_false, List.map_cons, List.map_nil, List.length_cons, List.length_nil, List.set_cons_zero, List.set_cons_succ, Option.elim_some, Option.elim_none, List.cons_append, List.nil_append, List.replicate, Nat.sub_self, Nat.reduceSub, Nat.reduceAdd, Bool.not_true, Bool.not_false, setAll, Int.cast_ofNat_Int, Nat.zero_add, Int.reduceLT, Int.reduceLE, Int.reduceBEq, Nat.reduceBEq, decide_true, decide_false, DL.pred_s, DL.len_str, DL.len_tup, DL.len_lst, DL.le_ii, DL.le_ss, DL.cmp_ii, DL.add_ii, DL.add_ib, DL.add_bi, DL.add_ss, DL.add_tt, DL.add_ll, DL.sub_ii, DL.sub_ib, DL.sub_bi, DL.mul_ii, DL.ii_ii, DL.neg_i, DL.is_bb, DL.isn_bb, DL.all_b, DL.all_map, DL.sum_i, DL.eq_ii, DL.eq_bi, DL.eq_t0, DL.eq_l0, DL.ne_ss, DL.ne_ii, DL.ne_t0, DL.ne_l0, DL.ix_tup, DL.ix_lst, DL.ix_str, DL.in_c, DL.nin_c, DL.sl_str, DL.sl_tup, DL.sl_lst, DL.app_1, DL.pop_0, DL.ext_t, DL.tuple_l, DL.list_t, DL.list_l, DL.int_b, DL.int_i, DL.min_ii, DL.str_i, DL.str_b, DL.repr_1, DL.back_t, DL.tru_l, DL.at0, DL.at1, DL.at2, DL.at3]
          simp only [DL.ix_ref el]
          simp only [dNext, dSeq, dDrop, dRet, dRetN, dIfS, dCont, dBreak, dSet, dAsg, dPar, dSetI, dFor, dVar, dC, dOp, dUn, dTest, dChain, dAnd, dOr, dNot, dAndV, dOrV, dNotV, dIf, dNil, dCons, dTup, dLst, dLstM, dNoPart, dPart, dSl, dCB, dMtL, dMt0, dMtS, dMtS0, dTru, dLc, dItS, dItStr, dRng1, dRng2, dRev, dRevM, dDic0, dstart, slot, asB_bl, asI_int, asS_str, cond_true, cond_false, List.map_cons, List.map_nil, List.length_cons, List.length_nil, List.set_cons_zero, List.set_cons_succ, Option.elim_some, Option.elim_none, List.cons_append, List.nil_append, List.replicate, Nat.sub_self, Nat.reduceSub, Nat.reduceAdd, Bool.not_true, Bool.not_false, setAll, Int.cast_ofNat_Int, Nat.zero_add, Int.reduceLT, Int.reduceLE, Int.reduceBEq, Nat.reduceBEq, decide_true, decide_false, DL.pred_s, DL.len_str, DL.len_tup, DL.len_lst, DL.le_ii, DL.le_ss, DL.cmp_ii, DL.add_ii, DL.add_ib, DL.add_bi, DL.add_ss, DL.add_tt, DL.add_ll, DL.sub_ii, DL.sub_ib, DL.sub_bi, DL.mul_ii, DL.ii_ii, DL.neg_i, DL.is_bb, DL.isn_bb, DL.all_b, DL.all_map, DL.sum_i, DL.eq_ii, DL.eq_bi, DL.eq_t0, DL.eq_l0, DL.ne_ss, DL.ne_ii, DL.ne_t0, DL.ne_l0, DL.ix_tup, DL.ix_lst, DL.ix_str, DL.in_c, DL.nin_c, DL.sl_str, DL.sl_tup, DL.sl_lst, DL.app_1, DL.pop_0, DL.ext_t, DL.tuple_l, DL.list_t, DL.list_l, DL.int_b, DL.int_i, DL.min_ii, DL.str_i, DL.str_b, DL.repr_1, DL.back_t, DL.tru_l, DL.at0, DL.at1, DL.at2, DL.at3]
          simp only [DL.ix_ref el]
          simp only [dNext, dSeq, dDrop, dRet, dRetN, dIfS, dCont, dBreak, dSet, dAsg, dPar, dSetI, dFor, dVar, dC, dOp, dUn, dTest, dChain, dAnd, dOr, dNot, dAndV, dOrV, dNotV, dIf, dNil, dCons, dTup, dLst, dLstM, dNoPart, dPart, dSl, dCB, dMtL, dMt0, dMtS, dMtS0, dTru, dLc, dItS, dItStr, dRng1, dRng2, dRev, dRevM, dDic0, dstart, slot, asB_bl, asI_int, asS_str, cond_true, cond_false, List.map_cons, List.map_nil, List.length_cons, List.length_nil, List.set_cons_zero, List.set_cons_succ, Option.elim_some, Option.elim_none, List.cons_append, List.nil_append, List.replicate, Nat.sub_self, Nat.reduceSub, Nat.reduceAdd, Bool.not_true, Bool.not_false, setAll, Int.cast_ofNat_Int, Nat.zero_add, Int.reduceLT, Int.reduceLE, Int.reduceBEq, Nat.reduceBEq, decide_true, decide_false, DL.pred_s, DL.len_str, DL.len_tup, DL.len_lst, DL.le_ii, DL.le_ss, DL.cmp_ii, DL.add_ii, DL.add_ib, DL.add_bi, DL.add_ss, DL.add_tt, DL.add_ll, DL.sub_ii, DL.sub_ib, DL.sub_bi, DL.mul_ii, DL.ii_ii, DL.neg_i, DL.is_bb, DL.isn_bb, DL.all_b, DL.all_map, DL.sum_i, DL.eq_ii, DL.eq_bi, DL.eq_t0, DL.eq_l0, DL.ne_ss, DL.ne_ii, DL.ne_t0, DL.ne_l0, DL.ix_tup, DL.ix_lst, DL.ix_str, DL.in_c, DL.nin_c, DL.sl_str, DL.sl_tup, DL.sl_lst, DL.app_1, DL.pop_0, DL.ext_t, DL.tuple_l, DL.list_t, DL.list_l, DL.int_b, DL.int_i, DL.min_ii, DL.str_i, DL.str_b, DL.repr_1, DL.back_t, DL.tru_l, DL.at0, DL.at1, DL.at2, DL.at3]
          obtain ⟨many, hmany, k0, k1, k2⟩ : ∃ k : Int, (if m < wanted then m else wanted) = k ∧ 0 ≤ k ∧ k ≤ m ∧ k ≤ 4 := ⟨_, rfl, by split <;> omega, by split <;> omega, by split <;> omega⟩
          rw [hmany]
          rw [DL.setD_ref (n := 0) el rfl, show ([.int m] : List DL.D).set 0 (.int (m - many)) = [.int (m - many)] from rfl]
          refine ⟨⟨by omega, by omega⟩, ?_⟩
          have hM : 0 ≤ m - many := by omega
          generalize eM : m - many = M at hM ⊢
          have s4 : Step [a, c, l] S2 (sup S2 l (.lst [.int M])) := .mut (by simp)
          have el4 : (sup S2 l (.lst [.int M])) l = some (.lst [.int M]) := sup_same
          have hD4 : Dk (sup S2 l (.lst [.int M])) a c := hD.of fun b hb => sup_ne fun e => nl (by rw [← e]; exact hb)
          generalize sup S2 l (.lst [.int M]) = S4 at s4 el4 hD4 ⊢
          have some4 : ∀ b ∈ [a, c, l], S4 b ≠ none := fun b hb => by
            simp only [List.mem_cons, List.not_mem_nil, or_false] at hb
            rcases hb with rfl | rfl | rfl
            · exact hD4.some _ (by simp)
            · exact hD4.some _ (by simp)
            · rw [el4]; exact nofun
          refine lc_acc [a, c, l] (fun i acc S => Dk S a c ∧ ∃ m' : Int, S l = some (.lst [.int m']) ∧ 0 ≤ m' ∧ m' ≤ M ∧ goodA 0 acc = true ∧ acc.all tB = true ∧ (szA acc : Int) ≤ 5 * i + 5 * (M - m') ∧ (dpA acc : Int) ≤ 2 * deep - 1) (by rw [iota_len]; omega)
            (fun i acc S1 S2 e ⟨x1, m', x2, x3⟩ => ⟨x1.of fun b hb => e b (by simp only [List.mem_cons, List.not_mem_nil, or_false] at hb ⊢; rcases hb with rfl | rfl <;> simp), m', by rw [e l (by simp)]; exact x2, x3⟩) some4
            ⟨hD4, M, el4, hM, Int.le_refl _, by simp only [goodA], by simp, by simp only [szA]; omega, by simp only [dpA]; omega⟩ (fun i d acc hd hi S5 Q ⟨hD, m', el, x0, x1, g, t, z, e⟩ q => ?_) fun ys S5 hn ⟨hD5, m5, el5, l5, u5, g5, t5, z5, e5⟩ s5 => ?_
          · simp only [dNext, dSeq, dDrop, dRet, dRetN, dIfS, dCont, dBreak, dSet, dAsg, dPar, dSetI, dFor, dVar, dC, dOp, dUn, dTest, dChain, dAnd, dOr, dNot, dAndV, dOrV, dNotV, dIf, dNil, dCons, dTup, dLst, dLstM, dNoPart, dPart, dSl, dCB, dMtL, dMt0, dMtS, dMtS0, dTru, dLc, dItS, dItStr, dRng1, dRng2, dRev, dRevM, dDic0, dstart, slot, asB_bl, asI_int, asS_str, cond_true, cond_false, List.map_cons, List.map_nil, List.length_cons, List.length_nil, List.set_cons_zero, List.set_cons_succ, Option.elim_some, Option.elim_none, List.cons_append, List.nil_append, List.replicate, Nat.sub_self, Nat.reduceSub, Nat.reduceAdd, Bool.not_true, Bool.not_false, setAll, Int.cast_ofNat_Int, Nat.zero_add, Int.reduceLT, Int.reduceLE, Int.reduceBEq, Nat.reduceBEq, decide_true, decide_false, DL.pred_s, DL.len_str, DL.len_tup, DL.len_lst, DL.le_ii, DL.le_ss, DL.cmp_ii, DL.add_ii, DL.add_ib, DL.add_bi, DL.add_ss, DL.add_tt, DL.add_ll, DL.sub_ii, DL.sub_ib, DL.sub_bi, DL.mul_ii, DL.ii_ii, DL.neg_i, DL.is_bb, DL.isn_bb, DL.all_b, DL.all_map, DL.sum_i, DL.eq_ii, DL.eq_bi, DL.eq_t0, DL.eq_l0, DL.ne_ss, DL.ne_ii, DL.ne_t0, DL.ne_l0, DL.ix_tup, DL.ix_lst, DL.ix_str, DL.in_c, DL.nin_c, DL.sl_str, DL.sl_tup, DL.sl_lst, DL.app_1, DL.pop_0, DL.ext_t, DL.tuple_l, DL.list_t, DL.list_l, DL.int_b, DL.int_i, DL.min_ii, DL.str_i, DL.str_b, DL.repr_1, DL.back_t, DL.tru_l, DL.at0, DL.at1, DL.at2, DL.at3]
            refine ⟨a, c, l, deep - 1, m', rfl, by omega, by omega, hD, la, lc, el, x0, by omega, fun d m'' S6 gd td _ zd ed lo hi' hD6 el6 s6 => q d S6 ⟨hD6, m'', el6, lo, by omega, ?_, ?_, ?_, ?_⟩ s6⟩
            · rw [goodA_append, g, goodA_cons, gd]; simp only [goodA, Bool.and_self]
            · rw [List.all_append, t]; simp [td]
            · rw [szA_append]; simp only [szA]; omega
            · rw [dpA_append]; simp only [dpA]; omega
          rw [iota_len] at z5
          simp only [dNext, dSeq, dDrop, dRet, dRetN, dIfS, dCont, dBreak, dSet, dAsg, dPar, dSetI, dFor, dVar, dC, dOp, dUn, dTest, dChain, dAnd, dOr, dNot, dAndV, dOrV, dNotV, dIf, dNil, dCons, dTup, dLst, dLstM, dNoPart, dPart, dSl, dCB, dMtL, dMt0, dMtS, dMtS0, dTru, dLc, dItS, dItStr, dRng1, dRng2, dRev, dRevM, dDic0, dstart, slot, asB_bl, asI_int, asS_str, cond_true, cond_false, List.map_cons, List.map_nil, List.length_cons, List.length_nil, List.set_cons_zero, List.set_cons_succ, Option.elim_some, Option.elim_none, List.cons_append, List.nil_append, List.replicate, Nat.sub_self, Nat.reduceSub, Nat.reduceAdd, Bool.not_true, Bool.not_false, setAll, Int.cast_ofNat_Int, Nat.zero_add, Int.reduceLT, Int.reduceLE, Int.reduceBEq, Nat.reduceBEq, decide_true, decide_false, DL.pred_s, DL.len_str, DL.len_tup, DL.len_lst, DL.le_ii, DL.le_ss, DL.cmp_ii, DL.add_ii, DL.add_ib, DL.add_bi, DL.add_ss, DL.add_tt, DL.add_ll, DL.sub_ii, DL.sub_ib, DL.sub_bi, DL.mul_ii, DL.ii_ii, DL.neg_i, DL.is_bb, DL.isn_bb, DL.all_b, DL.all_map, DL.sum_i, DL.eq_ii, DL.eq_bi, DL.eq_t0, DL.eq_l0, DL.ne_ss, DL.ne_ii, DL.ne_t0, DL.ne_l0, DL.ix_tup, DL.ix_lst, DL.ix_str, DL.in_c, DL.nin_c, DL.sl_str, DL.sl_tup, DL.sl_lst, DL.app_1, DL.pop_0, DL.ext_t, DL.tuple_l, DL.list_t, DL.list_l, DL.int_b, DL.int_i, DL.min_ii, DL.str_i, DL.str_b, DL.repr_1, DL.back_t, DL.tru_l, DL.at0, DL.at1, DL.at2, DL.at3]
          rw [iota_len] at hn
          cases h8 : way == 8 with
          | true =>
            simp only [dNext, dSeq, dDrop, dRet, dRetN, dIfS, dCont, dBreak, dSet, dAsg, dPar, dSetI, dFor, dVar, dC, dOp, dUn, dTest, dChain, dAnd, dOr, dNot, dAndV, dOrV, dNotV, dIf, dNil, dCons, dTup, dLst, dLstM, dNoPart, dPart, dSl, dCB, dMtL, dMt0, dMtS, dMtS0, dTru, dLc, dItS, dItStr, dRng1, dRng2, dRev, dRevM, dDic0, dstart, slot, asB_bl, asI_int, asS_str, cond_true, cond_false, List.map_cons, List.map_nil, List.length_cons, List.length_nil, List.set_cons_zero, List.set_cons_succ, Option.elim_some, Option.elim_none, List.cons_append, List.nil_append, List.replicate, Nat.sub_self, Nat.reduceSub, Nat.reduceAdd, Bool.not_true, Bool.not_false, setAll, Int.cast_ofNat_Int, Nat.zero_add, Int.reduceLT, Int.reduceLE, Int.reduceBEq, Nat.reduceBEq, decide_true, decide_false, DL.pred_s, DL.len_str, DL.len_tup, DL.len_lst, DL.le_ii, DL.le_ss, DL.cmp_ii, DL.add_ii, DL.add_ib, DL.add_bi, DL.add_ss, DL.add_tt, DL.add_ll, DL.sub_ii, DL.sub_ib, DL.sub_bi, DL.mul_ii, DL.ii_ii, DL.neg_i, DL.is_bb, DL.isn_bb, DL.all_b, DL.all_map, DL.sum_i, DL.eq_ii, DL.eq_bi, DL.eq_t0, DL.eq_l0, DL.ne_ss, DL.ne_ii, DL.ne_t0, DL.ne_l0, DL.ix_tup, DL.ix_lst, DL.ix_str, DL.in_c, DL.nin_c, DL.sl_str, DL.sl_tup, DL.sl_lst, DL.app_1, DL.pop_0, DL.ext_t, DL.tuple_l, DL.list_t, DL.list_l, DL.int_b, DL.int_i, DL.min_ii, DL.str_i, DL.str_b, DL.repr_1, DL.back_t, DL.tru_l, DL.at0, DL.at1, DL.at2, DL.at3]
            refine ⟨a, c, rfl, hD5, fun dd S6 ⟨z1, e1, b1, b2, _⟩ hD6 s6 => ?_⟩
            subst e1
            refine ⟨a, c, rfl, hD6, fun dd S7 ⟨z2, e2, b3⟩ hD7 s7 => ?_⟩
            subst e2
            obtain ⟨a1, a2, a3, a4, a5⟩ := made_shape b1 b2 b3 g5 t5
            exact ⟨by omega, h _ m5 S7 a1 a2 a3 (by rw [a4]; omega) (by rw [a5]; omega) l5 (by omega) hD7 ((s6.trans s7).at el5 nl) ((((more3 s2).trans s4).trans s5).trans (more3 (s6.trans s7)))⟩
          | false =>
            have h8 : way ≠ 8 := by simpa using h8
            simp only [dNext, dSeq, dDrop, dRet, dRetN, dIfS, dCont, dBreak, dSet, dAsg, dPar, dSetI, dFor, dVar, dC, dOp, dUn, dTest, dChain, dAnd, dOr, dNot, dAndV, dOrV, dNotV, dIf, dNil, dCons, dTup, dLst, dLstM, dNoPart, dPart, dSl, dCB, dMtL, dMt0, dMtS, dMtS0, dTru, dLc, dItS, dItStr, dRng1, dRng2, dRev, dRevM, dDic0, dstart, slot, asB_bl, asI_int, asS_str, cond_true, cond_false, List.map_cons, List.map_nil, List.length_cons, List.length_nil, List.set_cons_zero, List.set_cons_succ, Option.elim_some, Option.elim_none, List.cons_append, List.nil_append, List.replicate, Nat.sub_self, Nat.reduceSub, Nat.reduceAdd, Bool.not_true, Bool.not_false, setAll, Int.cast_ofNat_Int, Nat.zero_add, Int.reduceLT, Int.reduceLE, Int.reduceBEq, Nat.reduceBEq, decide_true, decide_false, DL.pred_s, DL.len_str, DL.len_tup, DL.len_lst, DL.le_ii, DL.le_ss, DL.cmp_ii, DL.add_ii, DL.add_ib, DL.add_bi, DL.add_ss, DL.add_tt, DL.add_ll, DL.sub_ii, DL.sub_ib, DL.sub_bi, DL.mul_ii, DL.ii_ii, DL.neg_i, DL.is_bb, DL.isn_bb, DL.all_b, DL.all_map, DL.sum_i, DL.eq_ii, DL.eq_bi, DL.eq_t0, DL.eq_l0, DL.ne_ss, DL.ne_ii, DL.ne_t0, DL.ne_l0, DL.ix_tup, DL.ix_lst, DL.ix_str, DL.in_c, DL.nin_c, DL.sl_str, DL.sl_tup, DL.sl_lst, DL.app_1, DL.pop_0, DL.ext_t, DL.tuple_l, DL.list_t, DL.list_l, DL.int_b, DL.int_i, DL.min_ii, DL.str_i, DL.str_b, DL.repr_1, DL.back_t, DL.tru_l, DL.at0, DL.at1, DL.at2, DL.at3]
            obtain ⟨d1, ed, hd1⟩ := at_mem (xs := ([.str "family", .str "call"] : List DL.D)) (i := way - 6) (by omega) (by simp; omega)
            obtain ⟨wd, rfl, hwd⟩ : ∃ z : Str, d1 = .str z ∧ z ∈ fc := by
              simp only [List.mem_cons, List.not_mem_nil, or_false] at hd1
              rcases hd1 with rfl | rfl
              · exact ⟨_, rfl, by simp [fc]⟩
              · exact ⟨_, rfl, by simp [fc]⟩
            rw [ed]
            simp only [dNext, dSeq, dDrop, dRet, dRetN, dIfS, dCont, dBreak, dSet, dAsg, dPar, dSetI, dFor, dVar, dC, dOp, dUn, dTest, dChain, dAnd, dOr, dNot, dAndV, dOrV, dNotV, dIf, dNil, dCons, dTup, dLst, dLstM, dNoPart, dPart, dSl, dCB, dMtL, dMt0, dMtS, dMtS0, dTru, dLc, dItS, dItStr, dRng1, dRng2, dRev, dRevM, dDic0, dstart, slot, asB_bl, asI_int, asS_str, cond_true, cond_false, List.map_cons, List.map_nil, List.length_cons, List.length_nil, List.set_cons_zero, List.set_cons_succ, Option.elim_some, Option.elim_none, List.cons_append, List.nil_append, List.replicate, Nat.sub_self, Nat.reduceSub, Nat.reduceAdd, Bool.not_true, Bool.not_false, setAll, Int.cast_ofNat_Int, Nat.zero_add, Int.reduceLT, Int.reduceLE, Int.reduceBEq, Nat.reduceBEq, decide_true, decide_false, DL.pred_s, DL.len_str, DL.len_tup, DL.len_lst, DL.le_ii, DL.le_ss, DL.cmp_ii, DL.add_ii, DL.add_ib, DL.add_bi, DL.add_ss, DL.add_tt, DL.add_ll, DL.sub_ii, DL.sub_ib, DL.sub_bi, DL.mul_ii, DL.ii_ii, DL.neg_i, DL.is_bb, DL.isn_bb, DL.all_b, DL.all_map, DL.sum_i, DL.eq_ii, DL.eq_bi, DL.eq_t0, DL.eq_l0, DL.ne_ss, DL.ne_ii, DL.ne_t0, DL.ne_l0, DL.ix_tup, DL.ix_lst, DL.ix_str, DL.in_c, DL.nin_c, DL.sl_str, DL.sl_tup, DL.sl_lst, DL.app_1, DL.pop_0, DL.ext_t, DL.tuple_l, DL.list_t, DL.list_l, DL.int_b, DL.int_i, DL.min_ii, DL.str_i, DL.str_b, DL.repr_1, DL.back_t, DL.tru_l, DL.at0, DL.at1, DL.at2, DL.at3]
            refine ⟨by omega, a, c, rfl, hD5, fun dd S6 ⟨z1, e1, b1, b2, _⟩ hD6 s6 => ?_⟩
            subst e1
            obtain ⟨a1, a2, a3, a4, a5⟩ := made_fc hwd b1 b2 g5 t5
            exact ⟨by omega, h _ m5 S6 a1 a2 a3 (by rw [a4]; omega) (by rw [a5]; omega) l5 (by omega) hD6 (s6.at el5 nl) ((((more3 s2).trans s4).trans s5).trans (more3 s6))⟩
end
end K01
set_option Elab.async false
set_option linter.all false
set_option maxRecDepth 100000
set_option maxHeartbeats 1000000
namespace K01
open PySem PySem.Spec PyProof.Rows L2 DL
/-- near a thing: a little greater -/
def Near (k : Nat) (d y : D) : Prop := good (k + 1) y = true ∧ sz y ≤ 2 * sz d + 8 ∧ dp y ≤ dp d + 1
theorem near_str {k : Nat} {d : D} {z : Str} (h : goodS (k + 1) z = true) : Near k d (.str z) := ⟨by simpa only [good] using h, by simp only [sz]; omega, by simp only [dp]; omega⟩
theorem near_int {k : Nat} {d : D} {i : Int} (h : goodI (k + 1) i = true) : Near k d (.int i) := ⟨by simpa only [good] using h, by simp only [sz]; omega, by simp only [dp]; omega⟩
theorem near_bl {k : Nat} {d : D} {b : Bool} : Near k d (.bl b) := ⟨by simp only [good], by simp only [sz]; omega, by simp only [dp]; omega⟩
theorem near_non {k : Nat} {d : D} : Near k d .non := ⟨by simp only [good], by simp only [sz]; omega, by simp only [dp]; omega⟩
theorem near_l1 {k : Nat} {d : D} (h : good k d = true) : Near k d (.lst [d]) := ⟨by simp only [good, goodA, Bool.and_true]; exact good_mono (by omega) h, by simp only [sz, szA]; omega, by simp only [dp, dpA]; omega⟩
theorem near_t1 {k : Nat} {d : D} (h : good k d = true) : Near k d (.tup [d]) := ⟨by simp only [good, goodA, Bool.and_true]; exact good_mono (by omega) h, by simp only [sz, szA]; omega, by simp only [dp, dpA]; omega⟩
theorem near_d1 {k : Nat} {d : D} (h : good k d = true) : Near k d (.dic [(.inl 0, d)]) := ⟨by simp only [good, goodK, Bool.and_true, Bool.and_eq_true]; exact ⟨decide_eq_true (by simp), good_mono (by omega) h⟩, by simp only [sz, szK]; omega, by simp only [dp, dpK]; omega⟩
def some15 : List D := [.non, .bl true, .bl false, .int 0, .int (-1), .str "", .str "at", .tup [], .lst [], .dic [], .tup [.str "at"], .tup [.str "at", .int 0], .lst [.str "at", .int 0], .str "run", .int 10]
theorem some15_ok : (some15.all fun d => good 0 d && decide (sz d ≤ 3) && decide (dp d ≤ 1)) = true := by decide +kernel
theorem near_some {k : Nat} {d y : D} (h : y ∈ some15) : Near k d y := by
  have q := List.all_eq_true.mp some15_ok y h
  simp only [Bool.and_eq_true] at q
  have h2 := of_decide_eq_true q.1.2
  have h3 := of_decide_eq_true q.2
  exact ⟨good_mono (by omega) q.1.1, by omega, by omega⟩
/-- a tuple's items, some of them twice -/
theorem near_tup {k : Nat} {xs ys : List D} (g : goodA k xs = true) (m : ∀ y ∈ ys, y ∈ xs) (z : szA ys ≤ 2 * szA xs) : Near k (.tup xs) (.tup ys) := by
  obtain ⟨a, b⟩ := sub_facts (n := 0) m g
  exact ⟨by simp only [good]; exact goodA_mono (by omega) a, by simp only [sz]; omega, by simp only [dp]; omega⟩
theorem near_lst {k : Nat} {xs : List D} (g : goodA k xs = true) : Near k (.tup xs) (.lst xs) := ⟨by simp only [good]; exact goodA_mono (by omega) g, by simp only [sz]; omega, by simp only [dp]; omega⟩
theorem near_more {k : Nat} {xs : List D} {y : D} (g : goodA k xs = true) (h : good 0 y = true) (z : sz y ≤ 3) (e : dp y ≤ 1) : Near k (.tup xs) (.tup (xs ++ [y])) := by
  refine ⟨?_, ?_, ?_⟩
  · simp only [good, goodA_append, goodA_cons, Bool.and_eq_true]
    exact ⟨goodA_mono (by omega) g, good_mono (by omega) h, by simp only [goodA]⟩
  · simp only [sz, szA_append, szA]; omega
  · simp only [dp, dpA_append, dpA]; omega
section
variable {P : Program} {w : World} {K : PySem.W.Frag} {mg : Str → Option Value} {base : Heap}

abbrev st_l_odd : Stmt := top 24
theorem sc_l_odd : FnScope ["_law_deck_here", "_law_thing", "_law_way", "_law_some", "_law_near", "_law_at"] ["_law_deck_here", "_law_thing"] (defScope st_l_odd) := ⟨rfl, rfl, rfl, by decide +kernel, rfl, by decide +kernel, by decide +kernel⟩
def sp_l_odd : DSp := fun ds S P => ∃ (a c : Addr) (d : D) (k : Nat), ds = [.ref a, d] ∧ Dk S a c ∧ k ≤ 8 ∧ good k d = true ∧ sz d ≤ 100000 ∧ ∀ y S', Near k d y → Dk S' a c → Step [a, c] S S' → P y S'
theorem len_l_odd {ds : List D} {S : Sto} {P : DK} (h : sp_l_odd ds S P) : ds.length = 2 := by obtain ⟨_, _, _, _, rfl, _⟩ := h; rfl
theorem ok_l_odd {k : Nat}  (DD : Def K mg "_law_odd" st_l_odd ["_law_deck_here", "_law_thing"]) (G__law_draw : Has P w K mg base (k) "_law_draw" ["_law_deck_here", "_law_ways"] (sp_l_draw)) (m_list : mg "list" = none) (m_len : mg "len" = none) (m_isinstance : mg "isinstance" = none) (m_tuple : mg "tuple" = none) (m_int : mg "int" = none) (m_str : mg "str" = none) : Has P w K mg base (k + 1) "_law_odd" ["_law_deck_here", "_law_thing"] (sp_l_odd) := by
  refine DD.has sc_l_odd (fun ds S P h => len_l_odd h) (fun f cdv A outer s H hr hgd => ⟨_, (ss_cons (s_set 2 sc_l_odd.nd (q_def G__law_draw (hr.mono (by omega)) hgd (a_cons (q_var 0) (a_cons q_int a_nil))))
      (ss_cons (s_set 3 sc_l_odd.nd (q_lst (a_cons q_non (a_cons q_bl (a_cons q_bl (a_cons q_int (a_cons (q_un un_negD q_int) (a_cons q_str (a_cons q_str (a_cons (q_tup a_nil) (a_cons (q_lst a_nil) (a_cons q_dic0 (a_cons (q_tup (a_cons q_str a_nil)) (a_cons (q_tup (a_cons q_str (a_cons q_int a_nil))) (a_cons (q_lst (a_cons q_str (a_cons q_int a_nil))) (a_cons q_str (a_cons q_int a_nil)))))))))))))))))
      (ss_cons (s_if (t_cmp (op_eqD (DL.Room.un1 hr)) (q_def G__law_draw (hr.mono (by omega)) hgd (a_cons (q_var 0) (a_cons q_int a_nil))) q_int) (ss_one (s_ret (q_ix ix_D (q_var 3) (q_def G__law_draw (hr.mono (by omega)) hgd (a_cons (q_var 0) (a_cons q_int a_nil)))))) ss_nil)
      (ss_cons (s_if (t_val (q_callB (c_isi) rfl m_isinstance DL.bb_isi (a_cons (q_var 1) (a_cons (q_ty rfl m_str DL.bt_str) a_nil)))) (ss_cons (s_set 4 sc_l_odd.nd (q_lst (a_cons (q_op op_addD (q_var 1) q_str) (a_cons (q_slice sl_D (q_var 1) o_none (o_some (q_un un_negD q_int))) (a_cons (q_mtS0 PySem.F.slot_str_upper PySem.F.type_str_upper m_upper (q_var 1)) (a_cons (q_op op_addD (q_var 1) q_str) (a_cons q_str (a_cons q_str (a_cons (q_lst (a_cons (q_var 1) a_nil)) (a_cons (q_tup (a_cons (q_var 1) a_nil)) (a_cons q_str a_nil)))))))))))
      (ss_one (s_ret (q_ix ix_D (q_var 4) (q_var 2))))) ss_nil)
      (ss_cons (s_if (t_val (q_callB (c_isi) rfl m_isinstance DL.bb_isi (a_cons (q_var 1) (a_cons (q_ty rfl m_int DL.bt_int) a_nil)))) (ss_cons (s_set 4 sc_l_odd.nd (q_lst (a_cons (q_op op_addD (q_var 1) q_int) (a_cons (q_op op_subD (q_var 1) q_int) (a_cons (q_op op_subD (q_un un_negD q_int) (q_var 1)) (a_cons (q_cmp (op_eqD (DL.Room.un1 hr)) (q_var 1) q_int) (a_cons (q_callTy (c_str) rfl m_str DL.bt_str (a_cons (q_var 1) a_nil)) (a_cons (q_lst (a_cons (q_var 1) a_nil)) (a_cons q_non (a_cons (q_op op_addD (q_var 1) q_int) (a_cons (q_tup (a_cons (q_var 1) a_nil)) a_nil)))))))))))
      (ss_one (s_ret (q_ix ix_D (q_var 4) (q_var 2))))) ss_nil)
      (ss_cons (s_if (t_w (w_or (t_not (t_val (q_callB (c_isi) rfl m_isinstance DL.bb_isi (a_cons (q_var 1) (a_cons (q_ty rfl m_tuple DL.bt_tuple) a_nil))))) (w_or1 (t_cmp (op_eqD (DL.Room.un1 hr)) (q_var 1) (q_tup a_nil))))) (ss_one (s_ret (q_ix ix_D (q_var 3) (q_var 2)))) ss_nil)
      (ss_cons (s_set 5 sc_l_odd.nd (q_def G__law_draw (hr.mono (by omega)) hgd (a_cons (q_var 0) (a_cons (q_callB (c_len) rfl m_len PySem.boot_len (a_cons (q_var 1) a_nil)) a_nil))))
      (ss_cons (s_set 4 sc_l_odd.nd (q_lst (a_cons (q_op op_addD (q_slice sl_D (q_var 1) o_none (o_some (q_var 5))) (q_slice sl_D (q_var 1) (o_some (q_op op_addD (q_var 5) q_int)) o_none)) (a_cons (q_op op_addD (q_slice sl_D (q_var 1) o_none (o_some (q_op op_addD (q_var 5) q_int))) (q_slice sl_D (q_var 1) (o_some (q_var 5)) o_none)) (a_cons (q_rev (q_var 1)) (a_cons (q_callTy (c_listF) rfl m_list DL.bt_list (a_cons (q_var 1) a_nil)) (a_cons (q_op op_addD (q_var 1) (q_tup (a_cons (q_tup (a_cons q_str (a_cons q_int a_nil))) a_nil))) a_nil)))))))
      (ss_one (s_ret (q_ix ix_D (q_op op_addD (q_var 4) (q_lst (a_cons (q_slice sl_D (q_var 1) o_none (o_some (q_un un_negD q_int))) (a_cons (q_tup (a_cons (q_var 1) a_nil)) (a_cons (q_op op_addD (q_var 1) (q_tup (a_cons q_int a_nil))) (a_cons (q_dicI 1) a_nil)))))) (q_var 2)))))))))))), fun ds S P h => ?_⟩)
  obtain ⟨a, c, d, k', rfl, hD, hk, hg, hs, h⟩ := h
  have hl := small8
  have fl := good_flat hg
  refine seq_gen fun M hM => ?_
  simp only [↓DL.e_next, ↓DL.e_seq, ↓DL.e_drop, ↓DL.e_ret, ↓DL.e_retN, ↓DL.e_if, ↓DL.e_cont, ↓DL.e_break, ↓DL.e_set, ↓DL.e_asg, ↓DL.e_par, ↓DL.e_setI, ↓DL.e_for, ↓DL.e_var, ↓DL.e_c, ↓DL.e_op, ↓DL.e_un, ↓DL.e_test, ↓DL.e_chain, ↓DL.e_and, ↓DL.e_or, ↓DL.e_not, ↓DL.e_andV, ↓DL.e_orV, ↓DL.e_notV, ↓DL.e_ife, ↓DL.e_nil, ↓DL.e_cons, ↓DL.e_tup, ↓DL.e_lst, ↓DL.e_lstM, ↓DL.e_noPart, ↓DL.e_part, ↓DL.e_sl, ↓DL.e_cb, ↓DL.e_mtL, ↓DL.e_mt0, ↓DL.e_mtS, ↓DL.e_mtS0, ↓DL.e_tru, ↓DL.e_lc, ↓DL.e_itS, ↓DL.e_itStr, ↓DL.e_rng1, ↓DL.e_rev, ↓DL.e_dic0, ↓DL.e_dic1, ↓DL.e_s0, ↓DL.e_s1, ↓DL.e_ct, ↓DL.e_cf, dstart, slot, gN, ↓asB_bl, ↓asI_int, ↓asS_str, cond_true, cond_false, List.map_cons, List.map_nil, List.length_cons, List.length_nil, List.set_cons_zero, List.set_cons_succ, Option.elim_some, Option.elim_none, List.cons_append, List.nil_append, List.replicate, Nat.sub_self, Nat.reduceSub, Nat.reduceAdd, Bool.not_true, Bool.not_false, setAll, Int.cast_ofNat_Int, Int.reduceLT, Int.reduceLE, Int.reduceBEq, Nat.reduceBEq, decide_true, decide_false, ↓DL.pred_s, ↓DL.len_str, ↓DL.len_tup, ↓DL.len_lst, ↓DL.le_ii, ↓DL.le_ss, ↓DL.cmp_ii, ↓DL.add_ii, ↓DL.add_ib, ↓DL.add_bi, ↓DL.add_ss, ↓DL.add_tt, ↓DL.add_ll, ↓DL.sub_ii, ↓DL.sub_ib, ↓DL.sub_bi, ↓DL.mul_ii, ↓DL.ii_ii, ↓DL.neg_i, ↓DL.is_bb, ↓DL.isn_bb, ↓DL.all_b, ↓DL.all_map, ↓DL.sum_i, ↓DL.eq_ii, ↓DL.eq_bi, ↓DL.eq_t0, ↓DL.eq_l0, ↓DL.ne_ss, ↓DL.ne_ii, ↓DL.ne_t0, ↓DL.ne_l0, ↓DL.ix_tup, ↓DL.ix_lst, ↓DL.ix_str, ↓DL.in_c, ↓DL.nin_c, ↓DL.sl_str, ↓DL.sl_tup, ↓DL.sl_lst, ↓DL.app_1, ↓DL.pop_0, ↓DL.ext_t, ↓DL.tuple_l, ↓DL.list_t, ↓DL.list_l, ↓DL.int_b, ↓DL.int_i, ↓DL.min_ii, ↓DL.str_i, ↓DL.str_b, ↓DL.repr_1, ↓DL.back_t, ↓DL.tru_l, ↓DL.at0, ↓DL.at1, ↓DL.at2, ↓DL.at3]
  refine ⟨a, c, 9, rfl, by decide, by decide, hD, fun way S1 p1 q1 hD s1 => ?_⟩
  subst hM
  refine seq_gen fun M hM => ?_
  simp only [↓DL.e_next, ↓DL.e_seq, ↓DL.e_drop, ↓DL.e_ret, ↓DL.e_retN, ↓DL.e_if, ↓DL.e_cont, ↓DL.e_break, ↓DL.e_set, ↓DL.e_asg, ↓DL.e_par, ↓DL.e_setI, ↓DL.e_for, ↓DL.e_var, ↓DL.e_c, ↓DL.e_op, ↓DL.e_un, ↓DL.e_test, ↓DL.e_chain, ↓DL.e_and, ↓DL.e_or, ↓DL.e_not, ↓DL.e_andV, ↓DL.e_orV, ↓DL.e_notV, ↓DL.e_ife, ↓DL.e_nil, ↓DL.e_cons, ↓DL.e_tup, ↓DL.e_lst, ↓DL.e_lstM, ↓DL.e_noPart, ↓DL.e_part, ↓DL.e_sl, ↓DL.e_cb, ↓DL.e_mtL, ↓DL.e_mt0, ↓DL.e_mtS, ↓DL.e_mtS0, ↓DL.e_tru, ↓DL.e_lc, ↓DL.e_itS, ↓DL.e_itStr, ↓DL.e_rng1, ↓DL.e_rev, ↓DL.e_dic0, ↓DL.e_dic1, ↓DL.e_s0, ↓DL.e_s1, ↓DL.e_ct, ↓DL.e_cf, dstart, slot, gN, ↓asB_bl, ↓asI_int, ↓asS_str, cond_true, cond_false, List.map_cons, List.map_nil, List.length_cons, List.length_nil, List.set_cons_zero, List.set_cons_succ, Option.elim_some, Option.elim_none, List.cons_append, List.nil_append, List.replicate, Nat.sub_self, Nat.reduceSub, Nat.reduceAdd, Bool.not_true, Bool.not_false, setAll, Int.cast_ofNat_Int, Int.reduceLT, Int.reduceLE, Int.reduceBEq, Nat.reduceBEq, decide_true, decide_false, ↓DL.pred_s, ↓DL.len_str, ↓DL.len_tup, ↓DL.len_lst, ↓DL.le_ii, ↓DL.le_ss, ↓DL.cmp_ii, ↓DL.add_ii, ↓DL.add_ib, ↓DL.add_bi, ↓DL.add_ss, ↓DL.add_tt, ↓DL.add_ll, ↓DL.sub_ii, ↓DL.sub_ib, ↓DL.sub_bi, ↓DL.mul_ii, ↓DL.ii_ii, ↓DL.neg_i, ↓DL.is_bb, ↓DL.isn_bb, ↓DL.all_b, ↓DL.all_map, ↓DL.sum_i, ↓DL.eq_ii, ↓DL.eq_bi, ↓DL.eq_t0, ↓DL.eq_l0, ↓DL.ne_ss, ↓DL.ne_ii, ↓DL.ne_t0, ↓DL.ne_l0, ↓DL.ix_tup, ↓DL.ix_lst, ↓DL.ix_str, ↓DL.in_c, ↓DL.nin_c, ↓DL.sl_str, ↓DL.sl_tup, ↓DL.sl_lst, ↓DL.app_1, ↓DL.pop_0, ↓DL.ext_t, ↓DL.tuple_l, ↓DL.list_t, ↓DL.list_l, ↓DL.int_b, ↓DL.int_i, ↓DL.min_ii, ↓DL.str_i, ↓DL.str_b, ↓DL.repr_1, ↓DL.back_t, ↓DL.tru_l, ↓DL.at0, ↓DL.at1, ↓DL.at2, ↓DL.at3]
  refine ⟨by omega, by omega, by omega, by omega, by omega, by omega, ?_⟩
  subst hM
  refine seq_gen fun M hM => ?_
  refine if_gen fun M1 M2 e1 e2 => ?_
  simp only [↓DL.e_next, ↓DL.e_seq, ↓DL.e_drop, ↓DL.e_ret, ↓DL.e_retN, ↓DL.e_if, ↓DL.e_cont, ↓DL.e_break, ↓DL.e_set, ↓DL.e_asg, ↓DL.e_par, ↓DL.e_setI, ↓DL.e_for, ↓DL.e_var, ↓DL.e_c, ↓DL.e_op, ↓DL.e_un, ↓DL.e_test, ↓DL.e_chain, ↓DL.e_and, ↓DL.e_or, ↓DL.e_not, ↓DL.e_andV, ↓DL.e_orV, ↓DL.e_notV, ↓DL.e_ife, ↓DL.e_nil, ↓DL.e_cons, ↓DL.e_tup, ↓DL.e_lst, ↓DL.e_lstM, ↓DL.e_noPart, ↓DL.e_part, ↓DL.e_sl, ↓DL.e_cb, ↓DL.e_mtL, ↓DL.e_mt0, ↓DL.e_mtS, ↓DL.e_mtS0, ↓DL.e_tru, ↓DL.e_lc, ↓DL.e_itS, ↓DL.e_itStr, ↓DL.e_rng1, ↓DL.e_rev, ↓DL.e_dic0, ↓DL.e_dic1, ↓DL.e_s0, ↓DL.e_s1, ↓DL.e_ct, ↓DL.e_cf, dstart, slot, gN, ↓asB_bl, ↓asI_int, ↓asS_str, cond_true, cond_false, List.map_cons, List.map_nil, List.length_cons, List.length_nil, List.set_cons_zero, List.set_cons_succ, Option.elim_some, Option.elim_none, List.cons_append, List.nil_append, List.replicate, Nat.sub_self, Nat.reduceSub, Nat.reduceAdd, Bool.not_true, Bool.not_false, setAll, Int.cast_ofNat_Int, Int.reduceLT, Int.reduceLE, Int.reduceBEq, Nat.reduceBEq, decide_true, decide_false, ↓DL.pred_s, ↓DL.len_str, ↓DL.len_tup, ↓DL.len_lst, ↓DL.le_ii, ↓DL.le_ss, ↓DL.cmp_ii, ↓DL.add_ii, ↓DL.add_ib, ↓DL.add_bi, ↓DL.add_ss, ↓DL.add_tt, ↓DL.add_ll, ↓DL.sub_ii, ↓DL.sub_ib, ↓DL.sub_bi, ↓DL.mul_ii, ↓DL.ii_ii, ↓DL.neg_i, ↓DL.is_bb, ↓DL.isn_bb, ↓DL.all_b, ↓DL.all_map, ↓DL.sum_i, ↓DL.eq_ii, ↓DL.eq_bi, ↓DL.eq_t0, ↓DL.eq_l0, ↓DL.ne_ss, ↓DL.ne_ii, ↓DL.ne_t0, ↓DL.ne_l0, ↓DL.ix_tup, ↓DL.ix_lst, ↓DL.ix_str, ↓DL.in_c, ↓DL.nin_c, ↓DL.sl_str, ↓DL.sl_tup, ↓DL.sl_lst, ↓DL.app_1, ↓DL.pop_0, ↓DL.ext_t, ↓DL.tuple_l, ↓DL.list_t, ↓DL.list_l, ↓DL.int_b, ↓DL.int_i, ↓DL.min_ii, ↓DL.str_i, ↓DL.str_b, ↓DL.repr_1, ↓DL.back_t, ↓DL.tru_l, ↓DL.at0, ↓DL.at1, ↓DL.at2, ↓DL.at3]
  refine ⟨a, c, 4, rfl, by decide, by decide, hD, fun r2 S2 p2 q2 hD s2 => ?_⟩
  have s2 := s1.trans s2
  simp only [↓DL.e_next, ↓DL.e_seq, ↓DL.e_drop, ↓DL.e_ret, ↓DL.e_retN, ↓DL.e_if, ↓DL.e_cont, ↓DL.e_break, ↓DL.e_set, ↓DL.e_asg, ↓DL.e_par, ↓DL.e_setI, ↓DL.e_for, ↓DL.e_var, ↓DL.e_c, ↓DL.e_op, ↓DL.e_un, ↓DL.e_test, ↓DL.e_chain, ↓DL.e_and, ↓DL.e_or, ↓DL.e_not, ↓DL.e_andV, ↓DL.e_orV, ↓DL.e_notV, ↓DL.e_ife, ↓DL.e_nil, ↓DL.e_cons, ↓DL.e_tup, ↓DL.e_lst, ↓DL.e_lstM, ↓DL.e_noPart, ↓DL.e_part, ↓DL.e_sl, ↓DL.e_cb, ↓DL.e_mtL, ↓DL.e_mt0, ↓DL.e_mtS, ↓DL.e_mtS0, ↓DL.e_tru, ↓DL.e_lc, ↓DL.e_itS, ↓DL.e_itStr, ↓DL.e_rng1, ↓DL.e_rev, ↓DL.e_dic0, ↓DL.e_dic1, ↓DL.e_s0, ↓DL.e_s1, ↓DL.e_ct, ↓DL.e_cf, dstart, slot, gN, ↓asB_bl, ↓asI_int, ↓asS_str, cond_true, cond_false, List.map_cons, List.map_nil, List.length_cons, List.length_nil, List.set_cons_zero, List.set_cons_succ, Option.elim_some, Option.elim_none, List.cons_append, List.nil_append, List.replicate, Nat.sub_self, Nat.reduceSub, Nat.reduceAdd, Bool.not_true, Bool.not_false, setAll, Int.cast_ofNat_Int, Int.reduceLT, Int.reduceLE, Int.reduceBEq, Nat.reduceBEq, decide_true, decide_false, ↓DL.pred_s, ↓DL.len_str, ↓DL.len_tup, ↓DL.len_lst, ↓DL.le_ii, ↓DL.le_ss, ↓DL.cmp_ii, ↓DL.add_ii, ↓DL.add_ib, ↓DL.add_bi, ↓DL.add_ss, ↓DL.add_tt, ↓DL.add_ll, ↓DL.sub_ii, ↓DL.sub_ib, ↓DL.sub_bi, ↓DL.mul_ii, ↓DL.ii_ii, ↓DL.neg_i, ↓DL.is_bb, ↓DL.isn_bb, ↓DL.all_b, ↓DL.all_map, ↓DL.sum_i, ↓DL.eq_ii, ↓DL.eq_bi, ↓DL.eq_t0, ↓DL.eq_l0, ↓DL.ne_ss, ↓DL.ne_ii, ↓DL.ne_t0, ↓DL.ne_l0, ↓DL.ix_tup, ↓DL.ix_lst, ↓DL.ix_str, ↓DL.in_c, ↓DL.nin_c, ↓DL.sl_str, ↓DL.sl_tup, ↓DL.sl_lst, ↓DL.app_1, ↓DL.pop_0, ↓DL.ext_t, ↓DL.tuple_l, ↓DL.list_t, ↓DL.list_l, ↓DL.int_b, ↓DL.int_i, ↓DL.min_ii, ↓DL.str_i, ↓DL.str_b, ↓DL.repr_1, ↓DL.back_t, ↓DL.tru_l, ↓DL.at0, ↓DL.at1, ↓DL.at2, ↓DL.at3]
  cases h2 : r2 == 0 with
  | true =>
    subst e1
    simp only [↓DL.e_next, ↓DL.e_seq, ↓DL.e_drop, ↓DL.e_ret, ↓DL.e_retN, ↓DL.e_if, ↓DL.e_cont, ↓DL.e_break, ↓DL.e_set, ↓DL.e_asg, ↓DL.e_par, ↓DL.e_setI, ↓DL.e_for, ↓DL.e_var, ↓DL.e_c, ↓DL.e_op, ↓DL.e_un, ↓DL.e_test, ↓DL.e_chain, ↓DL.e_and, ↓DL.e_or, ↓DL.e_not, ↓DL.e_andV, ↓DL.e_orV, ↓DL.e_notV, ↓DL.e_ife, ↓DL.e_nil, ↓DL.e_cons, ↓DL.e_tup, ↓DL.e_lst, ↓DL.e_lstM, ↓DL.e_noPart, ↓DL.e_part, ↓DL.e_sl, ↓DL.e_cb, ↓DL.e_mtL, ↓DL.e_mt0, ↓DL.e_mtS, ↓DL.e_mtS0, ↓DL.e_tru, ↓DL.e_lc, ↓DL.e_itS, ↓DL.e_itStr, ↓DL.e_rng1, ↓DL.e_rev, ↓DL.e_dic0, ↓DL.e_dic1, ↓DL.e_s0, ↓DL.e_s1, ↓DL.e_ct, ↓DL.e_cf, dstart, slot, gN, ↓asB_bl, ↓asI_int, ↓asS_str, cond_true, cond_false, List.map_cons, List.map_nil, List.length_cons, List.length_nil, List.set_cons_zero, List.set_cons_succ, Option.elim_some, Option.elim_none, List.cons_append, List.nil_append, List.replicate, Nat.sub_self, Nat.reduceSub, Nat.reduceAdd, Bool.not_true, Bool.not_false, setAll, Int.cast_ofNat_Int, Int.reduceLT, Int.reduceLE, Int.reduceBEq, Nat.reduceBEq, decide_true, decide_false, ↓DL.pred_s, ↓DL.len_str, ↓DL.len_tup, ↓DL.len_lst, ↓DL.le_ii, ↓DL.le_ss, ↓DL.cmp_ii, ↓DL.add_ii, ↓DL.add_ib, ↓DL.add_bi, ↓DL.add_ss, ↓DL.add_tt, ↓DL.add_ll, ↓DL.sub_ii, ↓DL.sub_ib, ↓DL.sub_bi, ↓DL.mul_ii, ↓DL.ii_ii, ↓DL.neg_i, ↓DL.is_bb, ↓DL.isn_bb, ↓DL.all_b, ↓DL.all_map, ↓DL.sum_i, ↓DL.eq_ii, ↓DL.eq_bi, ↓DL.eq_t0, ↓DL.eq_l0, ↓DL.ne_ss, ↓DL.ne_ii, ↓DL.ne_t0, ↓DL.ne_l0, ↓DL.ix_tup, ↓DL.ix_lst, ↓DL.ix_str, ↓DL.in_c, ↓DL.nin_c, ↓DL.sl_str, ↓DL.sl_tup, ↓DL.sl_lst, ↓DL.app_1, ↓DL.pop_0, ↓DL.ext_t, ↓DL.tuple_l, ↓DL.list_t, ↓DL.list_l, ↓DL.int_b, ↓DL.int_i, ↓DL.min_ii, ↓DL.str_i, ↓DL.str_b, ↓DL.repr_1, ↓DL.back_t, ↓DL.tru_l, ↓DL.at0, ↓DL.at1, ↓DL.at2, ↓DL.at3]
    refine ⟨a, c, 15, rfl, by decide, by decide, hD, fun r3 S3 p3 q3 hD s3 => ?_⟩
    simp only [↓DL.e_next, ↓DL.e_seq, ↓DL.e_drop, ↓DL.e_ret, ↓DL.e_retN, ↓DL.e_if, ↓DL.e_cont, ↓DL.e_break, ↓DL.e_set, ↓DL.e_asg, ↓DL.e_par, ↓DL.e_setI, ↓DL.e_for, ↓DL.e_var, ↓DL.e_c, ↓DL.e_op, ↓DL.e_un, ↓DL.e_test, ↓DL.e_chain, ↓DL.e_and, ↓DL.e_or, ↓DL.e_not, ↓DL.e_andV, ↓DL.e_orV, ↓DL.e_notV, ↓DL.e_ife, ↓DL.e_nil, ↓DL.e_cons, ↓DL.e_tup, ↓DL.e_lst, ↓DL.e_lstM, ↓DL.e_noPart, ↓DL.e_part, ↓DL.e_sl, ↓DL.e_cb, ↓DL.e_mtL, ↓DL.e_mt0, ↓DL.e_mtS, ↓DL.e_mtS0, ↓DL.e_tru, ↓DL.e_lc, ↓DL.e_itS, ↓DL.e_itStr, ↓DL.e_rng1, ↓DL.e_rev, ↓DL.e_dic0, ↓DL.e_dic1, ↓DL.e_s0, ↓DL.e_s1, ↓DL.e_ct, ↓DL.e_cf, dstart, slot, gN, ↓asB_bl, ↓asI_int, ↓asS_str, cond_true, cond_false, List.map_cons, List.map_nil, List.length_cons, List.length_nil, List.set_cons_zero, List.set_cons_succ, Option.elim_some, Option.elim_none, List.cons_append, List.nil_append, List.replicate, Nat.sub_self, Nat.reduceSub, Nat.reduceAdd, Bool.not_true, Bool.not_false, setAll, Int.cast_ofNat_Int, Int.reduceLT, Int.reduceLE, Int.reduceBEq, Nat.reduceBEq, decide_true, decide_false, ↓DL.pred_s, ↓DL.len_str, ↓DL.len_tup, ↓DL.len_lst, ↓DL.le_ii, ↓DL.le_ss, ↓DL.cmp_ii, ↓DL.add_ii, ↓DL.add_ib, ↓DL.add_bi, ↓DL.add_ss, ↓DL.add_tt, ↓DL.add_ll, ↓DL.sub_ii, ↓DL.sub_ib, ↓DL.sub_bi, ↓DL.mul_ii, ↓DL.ii_ii, ↓DL.neg_i, ↓DL.is_bb, ↓DL.isn_bb, ↓DL.all_b, ↓DL.all_map, ↓DL.sum_i, ↓DL.eq_ii, ↓DL.eq_bi, ↓DL.eq_t0, ↓DL.eq_l0, ↓DL.ne_ss, ↓DL.ne_ii, ↓DL.ne_t0, ↓DL.ne_l0, ↓DL.ix_tup, ↓DL.ix_lst, ↓DL.ix_str, ↓DL.in_c, ↓DL.nin_c, ↓DL.sl_str, ↓DL.sl_tup, ↓DL.sl_lst, ↓DL.app_1, ↓DL.pop_0, ↓DL.ext_t, ↓DL.tuple_l, ↓DL.list_t, ↓DL.list_l, ↓DL.int_b, ↓DL.int_i, ↓DL.min_ii, ↓DL.str_i, ↓DL.str_b, ↓DL.repr_1, ↓DL.back_t, ↓DL.tru_l, ↓DL.at0, ↓DL.at1, ↓DL.at2, ↓DL.at3]
    obtain ⟨y, ey, hy⟩ := at_mem (xs := some15) (i := r3) p3 q3
    show (L2.atI some15 r3).elim False _
    rw [ey]
    exact h y S3 (near_some hy) hD (s2.trans s3)
  | false =>
    subst e2
    simp only [↓DL.e_next, ↓DL.e_seq, ↓DL.e_drop, ↓DL.e_ret, ↓DL.e_retN, ↓DL.e_if, ↓DL.e_cont, ↓DL.e_break, ↓DL.e_set, ↓DL.e_asg, ↓DL.e_par, ↓DL.e_setI, ↓DL.e_for, ↓DL.e_var, ↓DL.e_c, ↓DL.e_op, ↓DL.e_un, ↓DL.e_test, ↓DL.e_chain, ↓DL.e_and, ↓DL.e_or, ↓DL.e_not, ↓DL.e_andV, ↓DL.e_orV, ↓DL.e_notV, ↓DL.e_ife, ↓DL.e_nil, ↓DL.e_cons, ↓DL.e_tup, ↓DL.e_lst, ↓DL.e_lstM, ↓DL.e_noPart, ↓DL.e_part, ↓DL.e_sl, ↓DL.e_cb, ↓DL.e_mtL, ↓DL.e_mt0, ↓DL.e_mtS, ↓DL.e_mtS0, ↓DL.e_tru, ↓DL.e_lc, ↓DL.e_itS, ↓DL.e_itStr, ↓DL.e_rng1, ↓DL.e_rev, ↓DL.e_dic0, ↓DL.e_dic1, ↓DL.e_s0, ↓DL.e_s1, ↓DL.e_ct, ↓DL.e_cf, dstart, slot, gN, ↓asB_bl, ↓asI_int, ↓asS_str, cond_true, cond_false, List.map_cons, List.map_nil, List.length_cons, List.length_nil, List.set_cons_zero, List.set_cons_succ, Option.elim_some, Option.elim_none, List.cons_append, List.nil_append, List.replicate, Nat.sub_self, Nat.reduceSub, Nat.reduceAdd, Bool.not_true, Bool.not_false, setAll, Int.cast_ofNat_Int, Int.reduceLT, Int.reduceLE, Int.reduceBEq, Nat.reduceBEq, decide_true, decide_false, ↓DL.pred_s, ↓DL.len_str, ↓DL.len_tup, ↓DL.len_lst, ↓DL.le_ii, ↓DL.le_ss, ↓DL.cmp_ii, ↓DL.add_ii, ↓DL.add_ib, ↓DL.add_bi, ↓DL.add_ss, ↓DL.add_tt, ↓DL.add_ll, ↓DL.sub_ii, ↓DL.sub_ib, ↓DL.sub_bi, ↓DL.mul_ii, ↓DL.ii_ii, ↓DL.neg_i, ↓DL.is_bb, ↓DL.isn_bb, ↓DL.all_b, ↓DL.all_map, ↓DL.sum_i, ↓DL.eq_ii, ↓DL.eq_bi, ↓DL.eq_t0, ↓DL.eq_l0, ↓DL.ne_ss, ↓DL.ne_ii, ↓DL.ne_t0, ↓DL.ne_l0, ↓DL.ix_tup, ↓DL.ix_lst, ↓DL.ix_str, ↓DL.in_c, ↓DL.nin_c, ↓DL.sl_str, ↓DL.sl_tup, ↓DL.sl_lst, ↓DL.app_1, ↓DL.pop_0, ↓DL.ext_t, ↓DL.tuple_l, ↓DL.list_t, ↓DL.list_l, ↓DL.int_b, ↓DL.int_i, ↓DL.min_ii, ↓DL.str_i, ↓DL.str_b, ↓DL.repr_1, ↓DL.back_t, ↓DL.tru_l, ↓DL.at0, ↓DL.at1, ↓DL.at2, ↓DL.at3]
    clear e1
    subst hM
    refine seq_gen fun M hM => ?_
    refine if_gen fun M1 M2 e1 e2 => ?_
    simp only [↓DL.e_next, ↓DL.e_seq, ↓DL.e_drop, ↓DL.e_ret, ↓DL.e_retN, ↓DL.e_if, ↓DL.e_cont, ↓DL.e_break, ↓DL.e_set, ↓DL.e_asg, ↓DL.e_par, ↓DL.e_setI, ↓DL.e_for, ↓DL.e_var, ↓DL.e_c, ↓DL.e_op, ↓DL.e_un, ↓DL.e_test, ↓DL.e_chain, ↓DL.e_and, ↓DL.e_or, ↓DL.e_not, ↓DL.e_andV, ↓DL.e_orV, ↓DL.e_notV, ↓DL.e_ife, ↓DL.e_nil, ↓DL.e_cons, ↓DL.e_tup, ↓DL.e_lst, ↓DL.e_lstM, ↓DL.e_noPart, ↓DL.e_part, ↓DL.e_sl, ↓DL.e_cb, ↓DL.e_mtL, ↓DL.e_mt0, ↓DL.e_mtS, ↓DL.e_mtS0, ↓DL.e_tru, ↓DL.e_lc, ↓DL.e_itS, ↓DL.e_itStr, ↓DL.e_rng1, ↓DL.e_rev, ↓DL.e_dic0, ↓DL.e_dic1, ↓DL.e_s0, ↓DL.e_s1, ↓DL.e_ct, ↓DL.e_cf, dstart, slot, gN, ↓asB_bl, ↓asI_int, ↓asS_str, cond_true, cond_false, List.map_cons, List.map_nil, List.length_cons, List.length_nil, List.set_cons_zero, List.set_cons_succ, Option.elim_some, Option.elim_none, List.cons_append, List.nil_append, List.replicate, Nat.sub_self, Nat.reduceSub, Nat.reduceAdd, Bool.not_true, Bool.not_false, setAll, Int.cast_ofNat_Int, Int.reduceLT, Int.reduceLE, Int.reduceBEq, Nat.reduceBEq, decide_true, decide_false, ↓DL.pred_s, ↓DL.len_str, ↓DL.len_tup, ↓DL.len_lst, ↓DL.le_ii, ↓DL.le_ss, ↓DL.cmp_ii, ↓DL.add_ii, ↓DL.add_ib, ↓DL.add_bi, ↓DL.add_ss, ↓DL.add_tt, ↓DL.add_ll, ↓DL.sub_ii, ↓DL.sub_ib, ↓DL.sub_bi, ↓DL.mul_ii, ↓DL.ii_ii, ↓DL.neg_i, ↓DL.is_bb, ↓DL.isn_bb, ↓DL.all_b, ↓DL.all_map, ↓DL.sum_i, ↓DL.eq_ii, ↓DL.eq_bi, ↓DL.eq_t0, ↓DL.eq_l0, ↓DL.ne_ss, ↓DL.ne_ii, ↓DL.ne_t0, ↓DL.ne_l0, ↓DL.ix_tup, ↓DL.ix_lst, ↓DL.ix_str, ↓DL.in_c, ↓DL.nin_c, ↓DL.sl_str, ↓DL.sl_tup, ↓DL.sl_lst, ↓DL.app_1, ↓DL.pop_0, ↓DL.ext_t, ↓DL.tuple_l, ↓DL.list_t, ↓DL.list_l, ↓DL.int_b, ↓DL.int_i, ↓DL.min_ii, ↓DL.str_i, ↓DL.str_b, ↓DL.repr_1, ↓DL.back_t, ↓DL.tru_l, ↓DL.at0, ↓DL.at1, ↓DL.at2, ↓DL.at3]
    rw [DL.isi_str fl]
    simp only [↓DL.e_next, ↓DL.e_seq, ↓DL.e_drop, ↓DL.e_ret, ↓DL.e_retN, ↓DL.e_if, ↓DL.e_cont, ↓DL.e_break, ↓DL.e_set, ↓DL.e_asg, ↓DL.e_par, ↓DL.e_setI, ↓DL.e_for, ↓DL.e_var, ↓DL.e_c, ↓DL.e_op, ↓DL.e_un, ↓DL.e_test, ↓DL.e_chain, ↓DL.e_and, ↓DL.e_or, ↓DL.e_not, ↓DL.e_andV, ↓DL.e_orV, ↓DL.e_notV, ↓DL.e_ife, ↓DL.e_nil, ↓DL.e_cons, ↓DL.e_tup, ↓DL.e_lst, ↓DL.e_lstM, ↓DL.e_noPart, ↓DL.e_part, ↓DL.e_sl, ↓DL.e_cb, ↓DL.e_mtL, ↓DL.e_mt0, ↓DL.e_mtS, ↓DL.e_mtS0, ↓DL.e_tru, ↓DL.e_lc, ↓DL.e_itS, ↓DL.e_itStr, ↓DL.e_rng1, ↓DL.e_rev, ↓DL.e_dic0, ↓DL.e_dic1, ↓DL.e_s0, ↓DL.e_s1, ↓DL.e_ct, ↓DL.e_cf, dstart, slot, gN, ↓asB_bl, ↓asI_int, ↓asS_str, cond_true, cond_false, List.map_cons, List.map_nil, List.length_cons, List.length_nil, List.set_cons_zero, List.set_cons_succ, Option.elim_some, Option.elim_none, List.cons_append, List.nil_append, List.replicate, Nat.sub_self, Nat.reduceSub, Nat.reduceAdd, Bool.not_true, Bool.not_false, setAll, Int.cast_ofNat_Int, Int.reduceLT, Int.reduceLE, Int.reduceBEq, Nat.reduceBEq, decide_true, decide_false, ↓DL.pred_s, ↓DL.len_str, ↓DL.len_tup, ↓DL.len_lst, ↓DL.le_ii, ↓DL.le_ss, ↓DL.cmp_ii, ↓DL.add_ii, ↓DL.add_ib, ↓DL.add_bi, ↓DL.add_ss, ↓DL.add_tt, ↓DL.add_ll, ↓DL.sub_ii, ↓DL.sub_ib, ↓DL.sub_bi, ↓DL.mul_ii, ↓DL.ii_ii, ↓DL.neg_i, ↓DL.is_bb, ↓DL.isn_bb, ↓DL.all_b, ↓DL.all_map, ↓DL.sum_i, ↓DL.eq_ii, ↓DL.eq_bi, ↓DL.eq_t0, ↓DL.eq_l0, ↓DL.ne_ss, ↓DL.ne_ii, ↓DL.ne_t0, ↓DL.ne_l0, ↓DL.ix_tup, ↓DL.ix_lst, ↓DL.ix_str, ↓DL.in_c, ↓DL.nin_c, ↓DL.sl_str, ↓DL.sl_tup, ↓DL.sl_lst, ↓DL.app_1, ↓DL.pop_0, ↓DL.ext_t, ↓DL.tuple_l, ↓DL.list_t, ↓DL.list_l, ↓DL.int_b, ↓DL.int_i, ↓DL.min_ii, ↓DL.str_i, ↓DL.str_b, ↓DL.repr_1, ↓DL.back_t, ↓DL.tru_l, ↓DL.at0, ↓DL.at1, ↓DL.at2, ↓DL.at3]
    cases hS : isS d with
    | true =>
      obtain ⟨z, rfl⟩ : ∃ z, d = .str z := by
        cases d with
        | str z => exact ⟨z, rfl⟩
        | _ => cases hS
      have gz : goodS k' z = true := by simpa only [good] using hg
      have lz := goodS_len gz
      clear e2
      subst e1
      simp only [↓DL.e_next, ↓DL.e_seq, ↓DL.e_drop, ↓DL.e_ret, ↓DL.e_retN, ↓DL.e_if, ↓DL.e_cont, ↓DL.e_break, ↓DL.e_set, ↓DL.e_asg, ↓DL.e_par, ↓DL.e_setI, ↓DL.e_for, ↓DL.e_var, ↓DL.e_c, ↓DL.e_op, ↓DL.e_un, ↓DL.e_test, ↓DL.e_chain, ↓DL.e_and, ↓DL.e_or, ↓DL.e_not, ↓DL.e_andV, ↓DL.e_orV, ↓DL.e_notV, ↓DL.e_ife, ↓DL.e_nil, ↓DL.e_cons, ↓DL.e_tup, ↓DL.e_lst, ↓DL.e_lstM, ↓DL.e_noPart, ↓DL.e_part, ↓DL.e_sl, ↓DL.e_cb, ↓DL.e_mtL, ↓DL.e_mt0, ↓DL.e_mtS, ↓DL.e_mtS0, ↓DL.e_tru, ↓DL.e_lc, ↓DL.e_itS, ↓DL.e_itStr, ↓DL.e_rng1, ↓DL.e_rev, ↓DL.e_dic0, ↓DL.e_dic1, ↓DL.e_s0, ↓DL.e_s1, ↓DL.e_ct, ↓DL.e_cf, dstart, slot, gN, ↓asB_bl, ↓asI_int, ↓asS_str, cond_true, cond_false, List.map_cons, List.map_nil, List.length_cons, List.length_nil, List.set_cons_zero, List.set_cons_succ, Option.elim_some, Option.elim_none, List.cons_append, List.nil_append, List.replicate, Nat.sub_self, Nat.reduceSub, Nat.reduceAdd, Bool.not_true, Bool.not_false, setAll, Int.cast_ofNat_Int, Int.reduceLT, Int.reduceLE, Int.reduceBEq, Nat.reduceBEq, decide_true, decide_false, ↓DL.pred_s, ↓DL.len_str, ↓DL.len_tup, ↓DL.len_lst, ↓DL.le_ii, ↓DL.le_ss, ↓DL.cmp_ii, ↓DL.add_ii, ↓DL.add_ib, ↓DL.add_bi, ↓DL.add_ss, ↓DL.add_tt, ↓DL.add_ll, ↓DL.sub_ii, ↓DL.sub_ib, ↓DL.sub_bi, ↓DL.mul_ii, ↓DL.ii_ii, ↓DL.neg_i, ↓DL.is_bb, ↓DL.isn_bb, ↓DL.all_b, ↓DL.all_map, ↓DL.sum_i, ↓DL.eq_ii, ↓DL.eq_bi, ↓DL.eq_t0, ↓DL.eq_l0, ↓DL.ne_ss, ↓DL.ne_ii, ↓DL.ne_t0, ↓DL.ne_l0, ↓DL.ix_tup, ↓DL.ix_lst, ↓DL.ix_str, ↓DL.in_c, ↓DL.nin_c, ↓DL.sl_str, ↓DL.sl_tup, ↓DL.sl_lst, ↓DL.app_1, ↓DL.pop_0, ↓DL.ext_t, ↓DL.tuple_l, ↓DL.list_t, ↓DL.list_l, ↓DL.int_b, ↓DL.int_i, ↓DL.min_ii, ↓DL.str_i, ↓DL.str_b, ↓DL.repr_1, ↓DL.back_t, ↓DL.tru_l, ↓DL.at0, ↓DL.at1, ↓DL.at2, ↓DL.at3]
      have l1 : (Str.ofString "a").length = 1 := by decide +kernel
      have l2 : (Str.ofString ".1.a").length = 4 := by decide +kernel
      refine ⟨by omega, by omega, ?_⟩
      show _ ∧ _
      refine ⟨by omega, by omega, by omega, by omega, by omega, ?_⟩
      obtain ⟨y, ey, hy⟩ := at_mem (xs := ([.str (z ++ Str.ofString "a"), .str (cutS z none (some (-1))), .str (Txt.upper z), .str (z ++ Str.ofString ".1.a"), .str (Str.ofString "a.01.b"), .str (Str.ofString "a.0.b"), .lst [.str z], .tup [.str z], .str (Str.ofString "a.1.")] : List DL.D)) (i := way) p1 q1
      rw [ey]
      refine h y S2 ?_ hD s2
      simp only [List.mem_cons, List.not_mem_nil, or_false] at hy
      rcases hy with rfl | rfl | rfl | rfl | rfl | rfl | rfl | rfl | rfl
      · exact near_str (goodS_app gz (by decide +kernel) (by omega))
      · exact near_str (goodS_mono (goodS_cut gz) (by omega))
      · exact near_str (goodS_mono (goodS_upper gz) (by omega))
      · exact near_str (goodS_app gz (by decide +kernel) (by omega))
      · exact near_str (goodS_mono (k := 0) (by decide +kernel) (by omega))
      · exact near_str (goodS_mono (k := 0) (by decide +kernel) (by omega))
      · exact near_l1 hg
      · exact near_t1 hg
      · exact near_str (goodS_mono (k := 0) (by decide +kernel) (by omega))
    | false =>
      clear e1
      subst e2
      simp only [↓DL.e_next, ↓DL.e_seq, ↓DL.e_drop, ↓DL.e_ret, ↓DL.e_retN, ↓DL.e_if, ↓DL.e_cont, ↓DL.e_break, ↓DL.e_set, ↓DL.e_asg, ↓DL.e_par, ↓DL.e_setI, ↓DL.e_for, ↓DL.e_var, ↓DL.e_c, ↓DL.e_op, ↓DL.e_un, ↓DL.e_test, ↓DL.e_chain, ↓DL.e_and, ↓DL.e_or, ↓DL.e_not, ↓DL.e_andV, ↓DL.e_orV, ↓DL.e_notV, ↓DL.e_ife, ↓DL.e_nil, ↓DL.e_cons, ↓DL.e_tup, ↓DL.e_lst, ↓DL.e_lstM, ↓DL.e_noPart, ↓DL.e_part, ↓DL.e_sl, ↓DL.e_cb, ↓DL.e_mtL, ↓DL.e_mt0, ↓DL.e_mtS, ↓DL.e_mtS0, ↓DL.e_tru, ↓DL.e_lc, ↓DL.e_itS, ↓DL.e_itStr, ↓DL.e_rng1, ↓DL.e_rev, ↓DL.e_dic0, ↓DL.e_dic1, ↓DL.e_s0, ↓DL.e_s1, ↓DL.e_ct, ↓DL.e_cf, dstart, slot, gN, ↓asB_bl, ↓asI_int, ↓asS_str, cond_true, cond_false, List.map_cons, List.map_nil, List.length_cons, List.length_nil, List.set_cons_zero, List.set_cons_succ, Option.elim_some, Option.elim_none, List.cons_append, List.nil_append, List.replicate, Nat.sub_self, Nat.reduceSub, Nat.reduceAdd, Bool.not_true, Bool.not_false, setAll, Int.cast_ofNat_Int, Int.reduceLT, Int.reduceLE, Int.reduceBEq, Nat.reduceBEq, decide_true, decide_false, ↓DL.pred_s, ↓DL.len_str, ↓DL.len_tup, ↓DL.len_lst, ↓DL.le_ii, ↓DL.le_ss, ↓DL.cmp_ii, ↓DL.add_ii, ↓DL.add_ib, ↓DL.add_bi, ↓DL.add_ss, ↓DL.add_tt, ↓DL.add_ll, ↓DL.sub_ii, ↓DL.sub_ib, ↓DL.sub_bi, ↓DL.mul_ii, ↓DL.ii_ii, ↓DL.neg_i, ↓DL.is_bb, ↓DL.isn_bb, ↓DL.all_b, ↓DL.all_map, ↓DL.sum_i, ↓DL.eq_ii, ↓DL.eq_bi, ↓DL.eq_t0, ↓DL.eq_l0, ↓DL.ne_ss, ↓DL.ne_ii, ↓DL.ne_t0, ↓DL.ne_l0, ↓DL.ix_tup, ↓DL.ix_lst, ↓DL.ix_str, ↓DL.in_c, ↓DL.nin_c, ↓DL.sl_str, ↓DL.sl_tup, ↓DL.sl_lst, ↓DL.app_1, ↓DL.pop_0, ↓DL.ext_t, ↓DL.tuple_l, ↓DL.list_t, ↓DL.list_l, ↓DL.int_b, ↓DL.int_i, ↓DL.min_ii, ↓DL.str_i, ↓DL.str_b, ↓DL.repr_1, ↓DL.back_t, ↓DL.tru_l, ↓DL.at0, ↓DL.at1, ↓DL.at2, ↓DL.at3]
      subst hM
      refine seq_gen fun M hM => ?_
      refine if_gen fun M1 M2 e1 e2 => ?_
      simp only [↓DL.e_next, ↓DL.e_seq, ↓DL.e_drop, ↓DL.e_ret, ↓DL.e_retN, ↓DL.e_if, ↓DL.e_cont, ↓DL.e_break, ↓DL.e_set, ↓DL.e_asg, ↓DL.e_par, ↓DL.e_setI, ↓DL.e_for, ↓DL.e_var, ↓DL.e_c, ↓DL.e_op, ↓DL.e_un, ↓DL.e_test, ↓DL.e_chain, ↓DL.e_and, ↓DL.e_or, ↓DL.e_not, ↓DL.e_andV, ↓DL.e_orV, ↓DL.e_notV, ↓DL.e_ife, ↓DL.e_nil, ↓DL.e_cons, ↓DL.e_tup, ↓DL.e_lst, ↓DL.e_lstM, ↓DL.e_noPart, ↓DL.e_part, ↓DL.e_sl, ↓DL.e_cb, ↓DL.e_mtL, ↓DL.e_mt0, ↓DL.e_mtS, ↓DL.e_mtS0, ↓DL.e_tru, ↓DL.e_lc, ↓DL.e_itS, ↓DL.e_itStr, ↓DL.e_rng1, ↓DL.e_rev, ↓DL.e_dic0, ↓DL.e_dic1, ↓DL.e_s0, ↓DL.e_s1, ↓DL.e_ct, ↓DL.e_cf, dstart, slot, gN, ↓asB_bl, ↓asI_int, ↓asS_str, cond_true, cond_false, List.map_cons, List.map_nil, List.length_cons, List.length_nil, List.set_cons_zero, List.set_cons_succ, Option.elim_some, Option.elim_none, List.cons_append, List.nil_append, List.replicate, Nat.sub_self, Nat.reduceSub, Nat.reduceAdd, Bool.not_true, Bool.not_false, setAll, Int.cast_ofNat_Int, Int.reduceLT, Int.reduceLE, Int.reduceBEq, Nat.reduceBEq, decide_true, decide_false, ↓DL.pred_s, ↓DL.len_str, ↓DL.len_tup, ↓DL.len_lst, ↓DL.le_ii, ↓DL.le_ss, ↓DL.cmp_ii, ↓DL.add_ii, ↓DL.add_ib, ↓DL.add_bi, ↓DL.add_ss, ↓DL.add_tt, ↓DL.add_ll, ↓DL.sub_ii, ↓DL.sub_ib, ↓DL.sub_bi, ↓DL.mul_ii, ↓DL.ii_ii, ↓DL.neg_i, ↓DL.is_bb, ↓DL.isn_bb, ↓DL.all_b, ↓DL.all_map, ↓DL.sum_i, ↓DL.eq_ii, ↓DL.eq_bi, ↓DL.eq_t0, ↓DL.eq_l0, ↓DL.ne_ss, ↓DL.ne_ii, ↓DL.ne_t0, ↓DL.ne_l0, ↓DL.ix_tup, ↓DL.ix_lst, ↓DL.ix_str, ↓DL.in_c, ↓DL.nin_c, ↓DL.sl_str, ↓DL.sl_tup, ↓DL.sl_lst, ↓DL.app_1, ↓DL.pop_0, ↓DL.ext_t, ↓DL.tuple_l, ↓DL.list_t, ↓DL.list_l, ↓DL.int_b, ↓DL.int_i, ↓DL.min_ii, ↓DL.str_i, ↓DL.str_b, ↓DL.repr_1, ↓DL.back_t, ↓DL.tru_l, ↓DL.at0, ↓DL.at1, ↓DL.at2, ↓DL.at3]
      rw [DL.isi_int fl]
      simp only [↓DL.e_next, ↓DL.e_seq, ↓DL.e_drop, ↓DL.e_ret, ↓DL.e_retN, ↓DL.e_if, ↓DL.e_cont, ↓DL.e_break, ↓DL.e_set, ↓DL.e_asg, ↓DL.e_par, ↓DL.e_setI, ↓DL.e_for, ↓DL.e_var, ↓DL.e_c, ↓DL.e_op, ↓DL.e_un, ↓DL.e_test, ↓DL.e_chain, ↓DL.e_and, ↓DL.e_or, ↓DL.e_not, ↓DL.e_andV, ↓DL.e_orV, ↓DL.e_notV, ↓DL.e_ife, ↓DL.e_nil, ↓DL.e_cons, ↓DL.e_tup, ↓DL.e_lst, ↓DL.e_lstM, ↓DL.e_noPart, ↓DL.e_part, ↓DL.e_sl, ↓DL.e_cb, ↓DL.e_mtL, ↓DL.e_mt0, ↓DL.e_mtS, ↓DL.e_mtS0, ↓DL.e_tru, ↓DL.e_lc, ↓DL.e_itS, ↓DL.e_itStr, ↓DL.e_rng1, ↓DL.e_rev, ↓DL.e_dic0, ↓DL.e_dic1, ↓DL.e_s0, ↓DL.e_s1, ↓DL.e_ct, ↓DL.e_cf, dstart, slot, gN, ↓asB_bl, ↓asI_int, ↓asS_str, cond_true, cond_false, List.map_cons, List.map_nil, List.length_cons, List.length_nil, List.set_cons_zero, List.set_cons_succ, Option.elim_some, Option.elim_none, List.cons_append, List.nil_append, List.replicate, Nat.sub_self, Nat.reduceSub, Nat.reduceAdd, Bool.not_true, Bool.not_false, setAll, Int.cast_ofNat_Int, Int.reduceLT, Int.reduceLE, Int.reduceBEq, Nat.reduceBEq, decide_true, decide_false, ↓DL.pred_s, ↓DL.len_str, ↓DL.len_tup, ↓DL.len_lst, ↓DL.le_ii, ↓DL.le_ss, ↓DL.cmp_ii, ↓DL.add_ii, ↓DL.add_ib, ↓DL.add_bi, ↓DL.add_ss, ↓DL.add_tt, ↓DL.add_ll, ↓DL.sub_ii, ↓DL.sub_ib, ↓DL.sub_bi, ↓DL.mul_ii, ↓DL.ii_ii, ↓DL.neg_i, ↓DL.is_bb, ↓DL.isn_bb, ↓DL.all_b, ↓DL.all_map, ↓DL.sum_i, ↓DL.eq_ii, ↓DL.eq_bi, ↓DL.eq_t0, ↓DL.eq_l0, ↓DL.ne_ss, ↓DL.ne_ii, ↓DL.ne_t0, ↓DL.ne_l0, ↓DL.ix_tup, ↓DL.ix_lst, ↓DL.ix_str, ↓DL.in_c, ↓DL.nin_c, ↓DL.sl_str, ↓DL.sl_tup, ↓DL.sl_lst, ↓DL.app_1, ↓DL.pop_0, ↓DL.ext_t, ↓DL.tuple_l, ↓DL.list_t, ↓DL.list_l, ↓DL.int_b, ↓DL.int_i, ↓DL.min_ii, ↓DL.str_i, ↓DL.str_b, ↓DL.repr_1, ↓DL.back_t, ↓DL.tru_l, ↓DL.at0, ↓DL.at1, ↓DL.at2, ↓DL.at3]
      cases hI : isI d with
      | true =>
        clear e2
        subst e1
        cases d with
        | int i =>
          have gi : goodI k' i = true := by simpa only [good] using hg
          have li := goodI_le gi
          simp only [↓DL.e_ct, ↓DL.e_cf, ↓DL.e_seq, ↓DL.e_set, ↓DL.e_lst, ↓DL.e_cons, ↓DL.e_nil, ↓DL.e_op, ↓DL.e_un, ↓DL.e_var, ↓DL.e_s0, ↓DL.e_s1, ↓DL.e_c, ↓DL.e_cb, ↓DL.e_tup, ↓DL.e_ret, Option.elim_some, ↓DL.add_ii, ↓DL.sub_ii, ↓DL.neg_i, ↓DL.eq_ii, ↓DL.str_i, ↓DL.add_bi, ↓DL.sub_bi, ↓DL.sub_ib, ↓DL.eq_bi, ↓DL.str_b, List.set_cons_zero, List.set_cons_succ, ↓DL.ix_lst, List.length_cons, List.length_nil, ↓DL.e_sl, ↓DL.e_part, ↓DL.e_noPart, ↓DL.sl_tup, ↓DL.add_tt, ↓DL.add_ll, ↓asI_int, ↓DL.e_rev, ↓DL.back_t, ↓DL.list_t, ↓DL.e_dic1, ↓DL.e_par, ↓DL.cmp_ii, ↓DL.int_b, ↓DL.len_tup, ↓DL.ix_tup, List.cons_append, List.nil_append]
          refine ⟨goodI_log (by omega) gi, by omega, by omega, by omega, ?_⟩
          obtain ⟨y, ey, hy⟩ := at_mem (xs := ([.int (i + 1), .int (i - 1), .int (-1 - i), .bl (i == 1), .str (toString i), .lst [.int i], .non, .int (i + 10), .tup [.int i]] : List DL.D)) (i := way) p1 q1
          rw [ey]
          refine h y S2 ?_ hD s2
          simp only [List.mem_cons, List.not_mem_nil, or_false] at hy
          rcases hy with rfl | rfl | rfl | rfl | rfl | rfl | rfl | rfl | rfl
          · exact near_int (decide_eq_true (by omega))
          · exact near_int (decide_eq_true (by omega))
          · exact near_int (decide_eq_true (by omega))
          · exact near_bl
          · exact near_str (goodS_int (by omega) gi)
          · exact near_l1 hg
          · exact near_non
          · exact near_int (decide_eq_true (by omega))
          · exact near_t1 hg
        | bl b =>
          simp only [↓DL.e_ct, ↓DL.e_cf, ↓DL.e_seq, ↓DL.e_set, ↓DL.e_lst, ↓DL.e_cons, ↓DL.e_nil, ↓DL.e_op, ↓DL.e_un, ↓DL.e_var, ↓DL.e_s0, ↓DL.e_s1, ↓DL.e_c, ↓DL.e_cb, ↓DL.e_tup, ↓DL.e_ret, Option.elim_some, ↓DL.add_ii, ↓DL.sub_ii, ↓DL.neg_i, ↓DL.eq_ii, ↓DL.str_i, ↓DL.add_bi, ↓DL.sub_bi, ↓DL.sub_ib, ↓DL.eq_bi, ↓DL.str_b, List.set_cons_zero, List.set_cons_succ, ↓DL.ix_lst, List.length_cons, List.length_nil, ↓DL.e_sl, ↓DL.e_part, ↓DL.e_noPart, ↓DL.sl_tup, ↓DL.add_tt, ↓DL.add_ll, ↓asI_int, ↓DL.e_rev, ↓DL.back_t, ↓DL.list_t, ↓DL.e_dic1, ↓DL.e_par, ↓DL.cmp_ii, ↓DL.int_b, ↓DL.len_tup, ↓DL.ix_tup, List.cons_append, List.nil_append]
          refine ⟨by omega, by omega, by omega, ?_⟩
          obtain ⟨y, ey, hy⟩ := at_mem (xs := ([.int (DL.b2i b + 1), .int (DL.b2i b - 1), .int (-1 - DL.b2i b), .bl (DL.b2i b == 1), .str (if b then "True" else "False"), .lst [.bl b], .non, .int (DL.b2i b + 10), .tup [.bl b]] : List DL.D)) (i := way) p1 q1
          rw [ey]
          refine h y S2 ?_ hD s2
          have hb : DL.b2i b = 0 ∨ DL.b2i b = 1 := by cases b <;> simp [DL.b2i]
          simp only [List.mem_cons, List.not_mem_nil, or_false] at hy
          rcases hy with rfl | rfl | rfl | rfl | rfl | rfl | rfl | rfl | rfl
          · exact near_int (decide_eq_true (by omega))
          · exact near_int (decide_eq_true (by omega))
          · exact near_int (decide_eq_true (by omega))
          · exact near_bl
          · exact near_str (goodS_mono (k := 0) (by cases b <;> decide +kernel) (by omega))
          · exact near_l1 hg
          · exact near_non
          · exact near_int (decide_eq_true (by omega))
          · exact near_t1 hg
        | _ => cases hI
      | false =>
        clear e1
        subst e2
        simp only [↓DL.e_next, ↓DL.e_seq, ↓DL.e_drop, ↓DL.e_ret, ↓DL.e_retN, ↓DL.e_if, ↓DL.e_cont, ↓DL.e_break, ↓DL.e_set, ↓DL.e_asg, ↓DL.e_par, ↓DL.e_setI, ↓DL.e_for, ↓DL.e_var, ↓DL.e_c, ↓DL.e_op, ↓DL.e_un, ↓DL.e_test, ↓DL.e_chain, ↓DL.e_and, ↓DL.e_or, ↓DL.e_not, ↓DL.e_andV, ↓DL.e_orV, ↓DL.e_notV, ↓DL.e_ife, ↓DL.e_nil, ↓DL.e_cons, ↓DL.e_tup, ↓DL.e_lst, ↓DL.e_lstM, ↓DL.e_noPart, ↓DL.e_part, ↓DL.e_sl, ↓DL.e_cb, ↓DL.e_mtL, ↓DL.e_mt0, ↓DL.e_mtS, ↓DL.e_mtS0, ↓DL.e_tru, ↓DL.e_lc, ↓DL.e_itS, ↓DL.e_itStr, ↓DL.e_rng1, ↓DL.e_rev, ↓DL.e_dic0, ↓DL.e_dic1, ↓DL.e_s0, ↓DL.e_s1, ↓DL.e_ct, ↓DL.e_cf, dstart, slot, gN, ↓asB_bl, ↓asI_int, ↓asS_str, cond_true, cond_false, List.map_cons, List.map_nil, List.length_cons, List.length_nil, List.set_cons_zero, List.set_cons_succ, Option.elim_some, Option.elim_none, List.cons_append, List.nil_append, List.replicate, Nat.sub_self, Nat.reduceSub, Nat.reduceAdd, Bool.not_true, Bool.not_false, setAll, Int.cast_ofNat_Int, Int.reduceLT, Int.reduceLE, Int.reduceBEq, Nat.reduceBEq, decide_true, decide_false, ↓DL.pred_s, ↓DL.len_str, ↓DL.len_tup, ↓DL.len_lst, ↓DL.le_ii, ↓DL.le_ss, ↓DL.cmp_ii, ↓DL.add_ii, ↓DL.add_ib, ↓DL.add_bi, ↓DL.add_ss, ↓DL.add_tt, ↓DL.add_ll, ↓DL.sub_ii, ↓DL.sub_ib, ↓DL.sub_bi, ↓DL.mul_ii, ↓DL.ii_ii, ↓DL.neg_i, ↓DL.is_bb, ↓DL.isn_bb, ↓DL.all_b, ↓DL.all_map, ↓DL.sum_i, ↓DL.eq_ii, ↓DL.eq_bi, ↓DL.eq_t0, ↓DL.eq_l0, ↓DL.ne_ss, ↓DL.ne_ii, ↓DL.ne_t0, ↓DL.ne_l0, ↓DL.ix_tup, ↓DL.ix_lst, ↓DL.ix_str, ↓DL.in_c, ↓DL.nin_c, ↓DL.sl_str, ↓DL.sl_tup, ↓DL.sl_lst, ↓DL.app_1, ↓DL.pop_0, ↓DL.ext_t, ↓DL.tuple_l, ↓DL.list_t, ↓DL.list_l, ↓DL.int_b, ↓DL.int_i, ↓DL.min_ii, ↓DL.str_i, ↓DL.str_b, ↓DL.repr_1, ↓DL.back_t, ↓DL.tru_l, ↓DL.at0, ↓DL.at1, ↓DL.at2, ↓DL.at3]
        subst hM
        refine seq_gen fun M hM => ?_
        refine if_gen fun M1 M2 e1 e2 => ?_
        simp only [↓DL.e_next, ↓DL.e_seq, ↓DL.e_drop, ↓DL.e_ret, ↓DL.e_retN, ↓DL.e_if, ↓DL.e_cont, ↓DL.e_break, ↓DL.e_set, ↓DL.e_asg, ↓DL.e_par, ↓DL.e_setI, ↓DL.e_for, ↓DL.e_var, ↓DL.e_c, ↓DL.e_op, ↓DL.e_un, ↓DL.e_test, ↓DL.e_chain, ↓DL.e_and, ↓DL.e_or, ↓DL.e_not, ↓DL.e_andV, ↓DL.e_orV, ↓DL.e_notV, ↓DL.e_ife, ↓DL.e_nil, ↓DL.e_cons, ↓DL.e_tup, ↓DL.e_lst, ↓DL.e_lstM, ↓DL.e_noPart, ↓DL.e_part, ↓DL.e_sl, ↓DL.e_cb, ↓DL.e_mtL, ↓DL.e_mt0, ↓DL.e_mtS, ↓DL.e_mtS0, ↓DL.e_tru, ↓DL.e_lc, ↓DL.e_itS, ↓DL.e_itStr, ↓DL.e_rng1, ↓DL.e_rev, ↓DL.e_dic0, ↓DL.e_dic1, ↓DL.e_s0, ↓DL.e_s1, ↓DL.e_ct, ↓DL.e_cf, dstart, slot, gN, ↓asB_bl, ↓asI_int, ↓asS_str, cond_true, cond_false, List.map_cons, List.map_nil, List.length_cons, List.length_nil, List.set_cons_zero, List.set_cons_succ, Option.elim_some, Option.elim_none, List.cons_append, List.nil_append, List.replicate, Nat.sub_self, Nat.reduceSub, Nat.reduceAdd, Bool.not_true, Bool.not_false, setAll, Int.cast_ofNat_Int, Int.reduceLT, Int.reduceLE, Int.reduceBEq, Nat.reduceBEq, decide_true, decide_false, ↓DL.pred_s, ↓DL.len_str, ↓DL.len_tup, ↓DL.len_lst, ↓DL.le_ii, ↓DL.le_ss, ↓DL.cmp_ii, ↓DL.add_ii, ↓DL.add_ib, ↓DL.add_bi, ↓DL.add_ss, ↓DL.add_tt, ↓DL.add_ll, ↓DL.sub_ii, ↓DL.sub_ib, ↓DL.sub_bi, ↓DL.mul_ii, ↓DL.ii_ii, ↓DL.neg_i, ↓DL.is_bb, ↓DL.isn_bb, ↓DL.all_b, ↓DL.all_map, ↓DL.sum_i, ↓DL.eq_ii, ↓DL.eq_bi, ↓DL.eq_t0, ↓DL.eq_l0, ↓DL.ne_ss, ↓DL.ne_ii, ↓DL.ne_t0, ↓DL.ne_l0, ↓DL.ix_tup, ↓DL.ix_lst, ↓DL.ix_str, ↓DL.in_c, ↓DL.nin_c, ↓DL.sl_str, ↓DL.sl_tup, ↓DL.sl_lst, ↓DL.app_1, ↓DL.pop_0, ↓DL.ext_t, ↓DL.tuple_l, ↓DL.list_t, ↓DL.list_l, ↓DL.int_b, ↓DL.int_i, ↓DL.min_ii, ↓DL.str_i, ↓DL.str_b, ↓DL.repr_1, ↓DL.back_t, ↓DL.tru_l, ↓DL.at0, ↓DL.at1, ↓DL.at2, ↓DL.at3]
        rw [DL.isi_tup fl]
        simp only [↓DL.e_next, ↓DL.e_seq, ↓DL.e_drop, ↓DL.e_ret, ↓DL.e_retN, ↓DL.e_if, ↓DL.e_cont, ↓DL.e_break, ↓DL.e_set, ↓DL.e_asg, ↓DL.e_par, ↓DL.e_setI, ↓DL.e_for, ↓DL.e_var, ↓DL.e_c, ↓DL.e_op, ↓DL.e_un, ↓DL.e_test, ↓DL.e_chain, ↓DL.e_and, ↓DL.e_or, ↓DL.e_not, ↓DL.e_andV, ↓DL.e_orV, ↓DL.e_notV, ↓DL.e_ife, ↓DL.e_nil, ↓DL.e_cons, ↓DL.e_tup, ↓DL.e_lst, ↓DL.e_lstM, ↓DL.e_noPart, ↓DL.e_part, ↓DL.e_sl, ↓DL.e_cb, ↓DL.e_mtL, ↓DL.e_mt0, ↓DL.e_mtS, ↓DL.e_mtS0, ↓DL.e_tru, ↓DL.e_lc, ↓DL.e_itS, ↓DL.e_itStr, ↓DL.e_rng1, ↓DL.e_rev, ↓DL.e_dic0, ↓DL.e_dic1, ↓DL.e_s0, ↓DL.e_s1, ↓DL.e_ct, ↓DL.e_cf, dstart, slot, gN, ↓asB_bl, ↓asI_int, ↓asS_str, cond_true, cond_false, List.map_cons, List.map_nil, List.length_cons, List.length_nil, List.set_cons_zero, List.set_cons_succ, Option.elim_some, Option.elim_none, List.cons_append, List.nil_append, List.replicate, Nat.sub_self, Nat.reduceSub, Nat.reduceAdd, Bool.not_true, Bool.not_false, setAll, Int.cast_ofNat_Int, Int.reduceLT, Int.reduceLE, Int.reduceBEq, Nat.reduceBEq, decide_true, decide_false, ↓DL.pred_s, ↓DL.len_str, ↓DL.len_tup, ↓DL.len_lst, ↓DL.le_ii, ↓DL.le_ss, ↓DL.cmp_ii, ↓DL.add_ii, ↓DL.add_ib, ↓DL.add_bi, ↓DL.add_ss, ↓DL.add_tt, ↓DL.add_ll, ↓DL.sub_ii, ↓DL.sub_ib, ↓DL.sub_bi, ↓DL.mul_ii, ↓DL.ii_ii, ↓DL.neg_i, ↓DL.is_bb, ↓DL.isn_bb, ↓DL.all_b, ↓DL.all_map, ↓DL.sum_i, ↓DL.eq_ii, ↓DL.eq_bi, ↓DL.eq_t0, ↓DL.eq_l0, ↓DL.ne_ss, ↓DL.ne_ii, ↓DL.ne_t0, ↓DL.ne_l0, ↓DL.ix_tup, ↓DL.ix_lst, ↓DL.ix_str, ↓DL.in_c, ↓DL.nin_c, ↓DL.sl_str, ↓DL.sl_tup, ↓DL.sl_lst, ↓DL.app_1, ↓DL.pop_0, ↓DL.ext_t, ↓DL.tuple_l, ↓DL.list_t, ↓DL.list_l, ↓DL.int_b, ↓DL.int_i, ↓DL.min_ii, ↓DL.str_i, ↓DL.str_b, ↓DL.repr_1, ↓DL.back_t, ↓DL.tru_l, ↓DL.at0, ↓DL.at1, ↓DL.at2, ↓DL.at3]
        have again : M1 S2 := by
          subst e1
          simp only [↓DL.e_next, ↓DL.e_seq, ↓DL.e_drop, ↓DL.e_ret, ↓DL.e_retN, ↓DL.e_if, ↓DL.e_cont, ↓DL.e_break, ↓DL.e_set, ↓DL.e_asg, ↓DL.e_par, ↓DL.e_setI, ↓DL.e_for, ↓DL.e_var, ↓DL.e_c, ↓DL.e_op, ↓DL.e_un, ↓DL.e_test, ↓DL.e_chain, ↓DL.e_and, ↓DL.e_or, ↓DL.e_not, ↓DL.e_andV, ↓DL.e_orV, ↓DL.e_notV, ↓DL.e_ife, ↓DL.e_nil, ↓DL.e_cons, ↓DL.e_tup, ↓DL.e_lst, ↓DL.e_lstM, ↓DL.e_noPart, ↓DL.e_part, ↓DL.e_sl, ↓DL.e_cb, ↓DL.e_mtL, ↓DL.e_mt0, ↓DL.e_mtS, ↓DL.e_mtS0, ↓DL.e_tru, ↓DL.e_lc, ↓DL.e_itS, ↓DL.e_itStr, ↓DL.e_rng1, ↓DL.e_rev, ↓DL.e_dic0, ↓DL.e_dic1, ↓DL.e_s0, ↓DL.e_s1, ↓DL.e_ct, ↓DL.e_cf, dstart, slot, gN, ↓asB_bl, ↓asI_int, ↓asS_str, cond_true, cond_false, List.map_cons, List.map_nil, List.length_cons, List.length_nil, List.set_cons_zero, List.set_cons_succ, Option.elim_some, Option.elim_none, List.cons_append, List.nil_append, List.replicate, Nat.sub_self, Nat.reduceSub, Nat.reduceAdd, Bool.not_true, Bool.not_false, setAll, Int.cast_ofNat_Int, Int.reduceLT, Int.reduceLE, Int.reduceBEq, Nat.reduceBEq, decide_true, decide_false, ↓DL.pred_s, ↓DL.len_str, ↓DL.len_tup, ↓DL.len_lst, ↓DL.le_ii, ↓DL.le_ss, ↓DL.cmp_ii, ↓DL.add_ii, ↓DL.add_ib, ↓DL.add_bi, ↓DL.add_ss, ↓DL.add_tt, ↓DL.add_ll, ↓DL.sub_ii, ↓DL.sub_ib, ↓DL.sub_bi, ↓DL.mul_ii, ↓DL.ii_ii, ↓DL.neg_i, ↓DL.is_bb, ↓DL.isn_bb, ↓DL.all_b, ↓DL.all_map, ↓DL.sum_i, ↓DL.eq_ii, ↓DL.eq_bi, ↓DL.eq_t0, ↓DL.eq_l0, ↓DL.ne_ss, ↓DL.ne_ii, ↓DL.ne_t0, ↓DL.ne_l0, ↓DL.ix_tup, ↓DL.ix_lst, ↓DL.ix_str, ↓DL.in_c, ↓DL.nin_c, ↓DL.sl_str, ↓DL.sl_tup, ↓DL.sl_lst, ↓DL.app_1, ↓DL.pop_0, ↓DL.ext_t, ↓DL.tuple_l, ↓DL.list_t, ↓DL.list_l, ↓DL.int_b, ↓DL.int_i, ↓DL.min_ii, ↓DL.str_i, ↓DL.str_b, ↓DL.repr_1, ↓DL.back_t, ↓DL.tru_l, ↓DL.at0, ↓DL.at1, ↓DL.at2, ↓DL.at3]
          obtain ⟨y, ey, hy⟩ := at_mem (xs := some15) (i := way) p1 (by show way < 15; omega)
          show (L2.atI some15 way).elim False _
          rw [ey]
          exact h y S2 (near_some hy) hD s2
        cases hT : isTu d with
        | false => exact again
        | true =>
          obtain ⟨xs, rfl⟩ := isTu_eq hT
          simp only [↓DL.e_next, ↓DL.e_seq, ↓DL.e_drop, ↓DL.e_ret, ↓DL.e_retN, ↓DL.e_if, ↓DL.e_cont, ↓DL.e_break, ↓DL.e_set, ↓DL.e_asg, ↓DL.e_par, ↓DL.e_setI, ↓DL.e_for, ↓DL.e_var, ↓DL.e_c, ↓DL.e_op, ↓DL.e_un, ↓DL.e_test, ↓DL.e_chain, ↓DL.e_and, ↓DL.e_or, ↓DL.e_not, ↓DL.e_andV, ↓DL.e_orV, ↓DL.e_notV, ↓DL.e_ife, ↓DL.e_nil, ↓DL.e_cons, ↓DL.e_tup, ↓DL.e_lst, ↓DL.e_lstM, ↓DL.e_noPart, ↓DL.e_part, ↓DL.e_sl, ↓DL.e_cb, ↓DL.e_mtL, ↓DL.e_mt0, ↓DL.e_mtS, ↓DL.e_mtS0, ↓DL.e_tru, ↓DL.e_lc, ↓DL.e_itS, ↓DL.e_itStr, ↓DL.e_rng1, ↓DL.e_rev, ↓DL.e_dic0, ↓DL.e_dic1, ↓DL.e_s0, ↓DL.e_s1, ↓DL.e_ct, ↓DL.e_cf, dstart, slot, gN, ↓asB_bl, ↓asI_int, ↓asS_str, cond_true, cond_false, List.map_cons, List.map_nil, List.length_cons, List.length_nil, List.set_cons_zero, List.set_cons_succ, Option.elim_some, Option.elim_none, List.cons_append, List.nil_append, List.replicate, Nat.sub_self, Nat.reduceSub, Nat.reduceAdd, Bool.not_true, Bool.not_false, setAll, Int.cast_ofNat_Int, Int.reduceLT, Int.reduceLE, Int.reduceBEq, Nat.reduceBEq, decide_true, decide_false, ↓DL.pred_s, ↓DL.len_str, ↓DL.len_tup, ↓DL.len_lst, ↓DL.le_ii, ↓DL.le_ss, ↓DL.cmp_ii, ↓DL.add_ii, ↓DL.add_ib, ↓DL.add_bi, ↓DL.add_ss, ↓DL.add_tt, ↓DL.add_ll, ↓DL.sub_ii, ↓DL.sub_ib, ↓DL.sub_bi, ↓DL.mul_ii, ↓DL.ii_ii, ↓DL.neg_i, ↓DL.is_bb, ↓DL.isn_bb, ↓DL.all_b, ↓DL.all_map, ↓DL.sum_i, ↓DL.eq_ii, ↓DL.eq_bi, ↓DL.eq_t0, ↓DL.eq_l0, ↓DL.ne_ss, ↓DL.ne_ii, ↓DL.ne_t0, ↓DL.ne_l0, ↓DL.ix_tup, ↓DL.ix_lst, ↓DL.ix_str, ↓DL.in_c, ↓DL.nin_c, ↓DL.sl_str, ↓DL.sl_tup, ↓DL.sl_lst, ↓DL.app_1, ↓DL.pop_0, ↓DL.ext_t, ↓DL.tuple_l, ↓DL.list_t, ↓DL.list_l, ↓DL.int_b, ↓DL.int_i, ↓DL.min_ii, ↓DL.str_i, ↓DL.str_b, ↓DL.repr_1, ↓DL.back_t, ↓DL.tru_l, ↓DL.at0, ↓DL.at1, ↓DL.at2, ↓DL.at3]
          refine ⟨by omega, ?_⟩
          cases he : xs.isEmpty with
          | true => exact again
          | false =>
            clear again e1
            subst e2
            simp only [↓DL.e_next, ↓DL.e_seq, ↓DL.e_drop, ↓DL.e_ret, ↓DL.e_retN, ↓DL.e_if, ↓DL.e_cont, ↓DL.e_break, ↓DL.e_set, ↓DL.e_asg, ↓DL.e_par, ↓DL.e_setI, ↓DL.e_for, ↓DL.e_var, ↓DL.e_c, ↓DL.e_op, ↓DL.e_un, ↓DL.e_test, ↓DL.e_chain, ↓DL.e_and, ↓DL.e_or, ↓DL.e_not, ↓DL.e_andV, ↓DL.e_orV, ↓DL.e_notV, ↓DL.e_ife, ↓DL.e_nil, ↓DL.e_cons, ↓DL.e_tup, ↓DL.e_lst, ↓DL.e_lstM, ↓DL.e_noPart, ↓DL.e_part, ↓DL.e_sl, ↓DL.e_cb, ↓DL.e_mtL, ↓DL.e_mt0, ↓DL.e_mtS, ↓DL.e_mtS0, ↓DL.e_tru, ↓DL.e_lc, ↓DL.e_itS, ↓DL.e_itStr, ↓DL.e_rng1, ↓DL.e_rev, ↓DL.e_dic0, ↓DL.e_dic1, ↓DL.e_s0, ↓DL.e_s1, ↓DL.e_ct, ↓DL.e_cf, dstart, slot, gN, ↓asB_bl, ↓asI_int, ↓asS_str, cond_true, cond_false, List.map_cons, List.map_nil, List.length_cons, List.length_nil, List.set_cons_zero, List.set_cons_succ, Option.elim_some, Option.elim_none, List.cons_append, List.nil_append, List.replicate, Nat.sub_self, Nat.reduceSub, Nat.reduceAdd, Bool.not_true, Bool.not_false, setAll, Int.cast_ofNat_Int, Int.reduceLT, Int.reduceLE, Int.reduceBEq, Nat.reduceBEq, decide_true, decide_false, ↓DL.pred_s, ↓DL.len_str, ↓DL.len_tup, ↓DL.len_lst, ↓DL.le_ii, ↓DL.le_ss, ↓DL.cmp_ii, ↓DL.add_ii, ↓DL.add_ib, ↓DL.add_bi, ↓DL.add_ss, ↓DL.add_tt, ↓DL.add_ll, ↓DL.sub_ii, ↓DL.sub_ib, ↓DL.sub_bi, ↓DL.mul_ii, ↓DL.ii_ii, ↓DL.neg_i, ↓DL.is_bb, ↓DL.isn_bb, ↓DL.all_b, ↓DL.all_map, ↓DL.sum_i, ↓DL.eq_ii, ↓DL.eq_bi, ↓DL.eq_t0, ↓DL.eq_l0, ↓DL.ne_ss, ↓DL.ne_ii, ↓DL.ne_t0, ↓DL.ne_l0, ↓DL.ix_tup, ↓DL.ix_lst, ↓DL.ix_str, ↓DL.in_c, ↓DL.nin_c, ↓DL.sl_str, ↓DL.sl_tup, ↓DL.sl_lst, ↓DL.app_1, ↓DL.pop_0, ↓DL.ext_t, ↓DL.tuple_l, ↓DL.list_t, ↓DL.list_l, ↓DL.int_b, ↓DL.int_i, ↓DL.min_ii, ↓DL.str_i, ↓DL.str_b, ↓DL.repr_1, ↓DL.back_t, ↓DL.tru_l, ↓DL.at0, ↓DL.at1, ↓DL.at2, ↓DL.at3]
            subst hM
            have gx : goodA k' xs = true := by simpa only [good] using hg
            have sx : szA xs + 1 ≤ 100000 := by simpa only [sz] using hs
            have lx := len_szA xs
            have px : 0 < xs.length := by
              cases xs with
              | nil => cases he
              | cons x r => simp
            refine seq_gen fun M hM => ?_
            simp only [↓DL.e_next, ↓DL.e_seq, ↓DL.e_drop, ↓DL.e_ret, ↓DL.e_retN, ↓DL.e_if, ↓DL.e_cont, ↓DL.e_break, ↓DL.e_set, ↓DL.e_asg, ↓DL.e_par, ↓DL.e_setI, ↓DL.e_for, ↓DL.e_var, ↓DL.e_c, ↓DL.e_op, ↓DL.e_un, ↓DL.e_test, ↓DL.e_chain, ↓DL.e_and, ↓DL.e_or, ↓DL.e_not, ↓DL.e_andV, ↓DL.e_orV, ↓DL.e_notV, ↓DL.e_ife, ↓DL.e_nil, ↓DL.e_cons, ↓DL.e_tup, ↓DL.e_lst, ↓DL.e_lstM, ↓DL.e_noPart, ↓DL.e_part, ↓DL.e_sl, ↓DL.e_cb, ↓DL.e_mtL, ↓DL.e_mt0, ↓DL.e_mtS, ↓DL.e_mtS0, ↓DL.e_tru, ↓DL.e_lc, ↓DL.e_itS, ↓DL.e_itStr, ↓DL.e_rng1, ↓DL.e_rev, ↓DL.e_dic0, ↓DL.e_dic1, ↓DL.e_s0, ↓DL.e_s1, ↓DL.e_ct, ↓DL.e_cf, dstart, slot, gN, ↓asB_bl, ↓asI_int, ↓asS_str, cond_true, cond_false, List.map_cons, List.map_nil, List.length_cons, List.length_nil, List.set_cons_zero, List.set_cons_succ, Option.elim_some, Option.elim_none, List.cons_append, List.nil_append, List.replicate, Nat.sub_self, Nat.reduceSub, Nat.reduceAdd, Bool.not_true, Bool.not_false, setAll, Int.cast_ofNat_Int, Int.reduceLT, Int.reduceLE, Int.reduceBEq, Nat.reduceBEq, decide_true, decide_false, ↓DL.pred_s, ↓DL.len_str, ↓DL.len_tup, ↓DL.len_lst, ↓DL.le_ii, ↓DL.le_ss, ↓DL.cmp_ii, ↓DL.add_ii, ↓DL.add_ib, ↓DL.add_bi, ↓DL.add_ss, ↓DL.add_tt, ↓DL.add_ll, ↓DL.sub_ii, ↓DL.sub_ib, ↓DL.sub_bi, ↓DL.mul_ii, ↓DL.ii_ii, ↓DL.neg_i, ↓DL.is_bb, ↓DL.isn_bb, ↓DL.all_b, ↓DL.all_map, ↓DL.sum_i, ↓DL.eq_ii, ↓DL.eq_bi, ↓DL.eq_t0, ↓DL.eq_l0, ↓DL.ne_ss, ↓DL.ne_ii, ↓DL.ne_t0, ↓DL.ne_l0, ↓DL.ix_tup, ↓DL.ix_lst, ↓DL.ix_str, ↓DL.in_c, ↓DL.nin_c, ↓DL.sl_str, ↓DL.sl_tup, ↓DL.sl_lst, ↓DL.app_1, ↓DL.pop_0, ↓DL.ext_t, ↓DL.tuple_l, ↓DL.list_t, ↓DL.list_l, ↓DL.int_b, ↓DL.int_i, ↓DL.min_ii, ↓DL.str_i, ↓DL.str_b, ↓DL.repr_1, ↓DL.back_t, ↓DL.tru_l, ↓DL.at0, ↓DL.at1, ↓DL.at2, ↓DL.at3]
            refine ⟨a, c, xs.length, rfl, by omega, by omega, hD, fun pl S3 p3 q3 hD s3 => ?_⟩
            obtain ⟨n, rfl⟩ : ∃ n : Nat, pl = (n : Int) := ⟨pl.toNat, by omega⟩
            subst hM
            have cl : ∀ lo hi, (DL.cutD xs lo hi).length ≤ xs.length := fun _ _ => cutD_len
            have c1 := cl none (some (n : Int))
            have c2 := cl (some ((n : Int) + 1)) none
            have c3 := cl none (some ((n : Int) + 1))
            have c4 := cl (some (n : Int)) none
            refine seq_gen fun M hM => ?_
            simp only [↓DL.e_ct, ↓DL.e_cf, ↓DL.e_seq, ↓DL.e_set, ↓DL.e_lst, ↓DL.e_cons, ↓DL.e_nil, ↓DL.e_op, ↓DL.e_un, ↓DL.e_var, ↓DL.e_s0, ↓DL.e_s1, ↓DL.e_c, ↓DL.e_cb, ↓DL.e_tup, ↓DL.e_ret, Option.elim_some, ↓DL.add_ii, ↓DL.sub_ii, ↓DL.neg_i, ↓DL.eq_ii, ↓DL.str_i, ↓DL.add_bi, ↓DL.sub_bi, ↓DL.sub_ib, ↓DL.eq_bi, ↓DL.str_b, List.set_cons_zero, List.set_cons_succ, ↓DL.ix_lst, List.length_cons, List.length_nil, ↓DL.e_sl, ↓DL.e_part, ↓DL.e_noPart, ↓DL.sl_tup, ↓DL.add_tt, ↓DL.add_ll, ↓asI_int, ↓DL.e_rev, ↓DL.back_t, ↓DL.list_t, ↓DL.e_dic1, ↓DL.e_par, ↓DL.cmp_ii, ↓DL.int_b, ↓DL.len_tup, ↓DL.ix_tup, List.cons_append, List.nil_append]
            refine ⟨by omega, by omega, by omega, by omega, by omega, by omega, ?_⟩
            subst hM
            have c5 := cl none (some (-1))
            simp only [↓DL.e_ct, ↓DL.e_cf, ↓DL.e_seq, ↓DL.e_set, ↓DL.e_lst, ↓DL.e_cons, ↓DL.e_nil, ↓DL.e_op, ↓DL.e_un, ↓DL.e_var, ↓DL.e_s0, ↓DL.e_s1, ↓DL.e_c, ↓DL.e_cb, ↓DL.e_tup, ↓DL.e_ret, Option.elim_some, ↓DL.add_ii, ↓DL.sub_ii, ↓DL.neg_i, ↓DL.eq_ii, ↓DL.str_i, ↓DL.add_bi, ↓DL.sub_bi, ↓DL.sub_ib, ↓DL.eq_bi, ↓DL.str_b, List.set_cons_zero, List.set_cons_succ, ↓DL.ix_lst, List.length_cons, List.length_nil, ↓DL.e_sl, ↓DL.e_part, ↓DL.e_noPart, ↓DL.sl_tup, ↓DL.add_tt, ↓DL.add_ll, ↓asI_int, ↓DL.e_rev, ↓DL.back_t, ↓DL.list_t, ↓DL.e_dic1, ↓DL.e_par, ↓DL.cmp_ii, ↓DL.int_b, ↓DL.len_tup, ↓DL.ix_tup, List.cons_append, List.nil_append]
            refine ⟨by omega, by omega, by omega, by omega, by omega, ?_⟩
            obtain ⟨y, ey, hy⟩ := at_mem (xs := ([.tup (DL.cutD xs none (some (n : Int)) ++ DL.cutD xs (some ((n : Int) + 1)) none), .tup (DL.cutD xs none (some ((n : Int) + 1)) ++ DL.cutD xs (some (n : Int)) none), .tup xs.reverse, .lst xs, .tup (xs ++ [.tup [.str "at", .int 0]]),
              .tup (DL.cutD xs none (some (-1))), .tup [.tup xs], .tup (xs ++ [.int 0]), .dic [(.inl 0, .tup xs)]] : List DL.D)) (i := way) p1 q1
            rw [ey]
            refine h y S3 ?_ hD (s2.trans s3)
            have hn : n < xs.length := by omega
            have e1 : DL.cutD xs none (some (n : Int)) = xs.take n := cut_to (by omega)
            have e2 : DL.cutD xs (some ((n : Int) + 1)) none = xs.drop (n + 1) := cut_from (n := n + 1) (by omega)
            have e3 : DL.cutD xs none (some ((n : Int) + 1)) = xs.take (n + 1) := cut_to (n := n + 1) (by omega)
            have e4 : DL.cutD xs (some (n : Int)) none = xs.drop n := cut_from (by omega)
            rw [e1, e2, e3, e4] at hy
            simp only [List.mem_cons, List.not_mem_nil, or_false] at hy
            have t1 := szA_take n xs
            have t2 := szA_take (n + 1) xs
            have t3 := szA_drop n xs
            have t4 := szA_drop (n + 1) xs
            rcases hy with rfl | rfl | rfl | rfl | rfl | rfl | rfl | rfl | rfl
            · exact near_tup gx (fun z hz => (List.mem_append.mp hz).elim List.mem_of_mem_take List.mem_of_mem_drop) (by rw [szA_append]; omega)
            · exact near_tup gx (fun z hz => (List.mem_append.mp hz).elim List.mem_of_mem_take List.mem_of_mem_drop) (by rw [szA_append]; omega)
            · exact near_tup gx (fun z hz => List.mem_reverse.mp hz) (by rw [szA_rev]; omega)
            · exact near_lst gx
            · exact near_more gx (by decide +kernel) (by decide +kernel) (by decide +kernel)
            · exact near_tup gx cutD_mem (by have := cutD_sz (xs := xs) (lo := none) (hi := some (-1)); omega)
            · exact near_t1 hg
            · exact near_more gx (by decide +kernel) (by decide +kernel) (by decide +kernel)
            · exact near_d1 hg
abbrev st_l_bent : Stmt := top 25
theorem sc_l_bent : FnScope ["_law_deck_here", "_law_thing", "_law_way", "_law_last", "_law_at"] ["_law_deck_here", "_law_thing"] (defScope st_l_bent) := ⟨rfl, rfl, rfl, by decide +kernel, rfl, by decide +kernel, by decide +kernel⟩
def sp_l_bent (n : Nat) : DSp := fun ds S P => ∃ (a c : Addr) (d : D) (k : Nat), ds = [.ref a, d] ∧ Dk S a c ∧ k ≤ 8 ∧ good k d = true ∧ sz d ≤ 100000 ∧ dp d < n ∧ ∀ y S', Near k d y → Dk S' a c → Step [a, c] S S' → P y S'
theorem len_l_bent {n : Nat} {ds : List D} {S : Sto} {P : DK} (h : sp_l_bent n ds S P) : ds.length = 2 := by obtain ⟨_, _, _, _, rfl, _⟩ := h; rfl
theorem ok_l_bent {k : Nat} {n:Nat} (DD : Def K mg "_law_bent" st_l_bent ["_law_deck_here", "_law_thing"]) (G__law_odd : Has P w K mg base (k) "_law_odd" ["_law_deck_here", "_law_thing"] (sp_l_odd)) (G__law_bent : Has P w K mg base (k) "_law_bent" ["_law_deck_here", "_law_thing"] (sp_l_bent n)) (G__law_draw : Has P w K mg base (k) "_law_draw" ["_law_deck_here", "_law_ways"] (sp_l_draw)) (m_isinstance : mg "isinstance" = none) (m_tuple : mg "tuple" = none) (m_len : mg "len" = none) (m_int : mg "int" = none) : Has P w K mg base (k + 1) "_law_bent" ["_law_deck_here", "_law_thing"] (sp_l_bent (n+1)) := by
  refine DD.has sc_l_bent (fun ds S P h => len_l_bent h) (fun f cdv A outer s H hr hgd => ⟨_, (ss_cons (s_par 2 3 rfl sc_l_bent.nd (a_cons (q_def G__law_draw (hr.mono (by omega)) hgd (a_cons (q_var 0) (a_cons q_int a_nil))) (a_cons (q_cmp (op_eqD (DL.Room.un1 hr)) (q_def G__law_draw (hr.mono (by omega)) hgd (a_cons (q_var 0) (a_cons q_int a_nil))) q_int) a_nil)))
      (ss_cons (s_if (t_w (w_and (t_val (q_callB (c_isi) rfl m_isinstance DL.bb_isi (a_cons (q_var 1) (a_cons (q_ty rfl m_tuple DL.bt_tuple) a_nil)))) (w_and (t_cmp (op_neD (DL.Room.un1 hr)) (q_var 1) (q_tup a_nil)) (w_and1 (t_cmp op_ltD (q_var 2) q_int))))) (ss_cons (s_set 4 sc_l_bent.nd (q_ix ix_D (q_lst (a_cons (q_def G__law_draw (hr.mono (by omega)) hgd (a_cons (q_var 0) (a_cons (q_callB (c_len) rfl m_len PySem.boot_len (a_cons (q_var 1) a_nil)) a_nil))) (a_cons (q_op op_subD (q_callB (c_len) rfl m_len PySem.boot_len (a_cons (q_var 1) a_nil)) q_int) a_nil))) (q_callTy (c_int) rfl m_int DL.bt_int (a_cons (q_var 3) a_nil))))
      (ss_one (s_ret (q_op op_addD (q_op op_addD (q_slice sl_D (q_var 1) o_none (o_some (q_var 4))) (q_tup (a_cons (q_def G__law_bent (hr.mono (by omega)) hgd (a_cons (q_var 0) (a_cons (q_ix ix_D (q_var 1) (q_var 4)) a_nil))) a_nil))) (q_slice sl_D (q_var 1) (o_some (q_op op_addD (q_var 4) q_int)) o_none))))) ss_nil)
      (ss_one (s_ret (q_def G__law_odd (hr.mono (by omega)) hgd (a_cons (q_var 0) (a_cons (q_var 1) a_nil))))))), fun ds S P h => ?_⟩)
  obtain ⟨a, c, d, k', rfl, hD, hk, hg, hs, hdp, h⟩ := h
  have hl := small8
  have fl := good_flat hg
  refine seq_gen fun M hM => ?_
  simp only [↓DL.e_ct, ↓DL.e_cf, ↓DL.e_seq, ↓DL.e_set, ↓DL.e_lst, ↓DL.e_cons, ↓DL.e_nil, ↓DL.e_op, ↓DL.e_un, ↓DL.e_var, ↓DL.e_s0, ↓DL.e_s1, ↓DL.e_c, ↓DL.e_cb, ↓DL.e_tup, ↓DL.e_ret, Option.elim_some, ↓DL.add_ii, ↓DL.sub_ii, ↓DL.neg_i, ↓DL.eq_ii, ↓DL.str_i, ↓DL.add_bi, ↓DL.sub_bi, ↓DL.sub_ib, ↓DL.eq_bi, ↓DL.str_b, List.set_cons_zero, List.set_cons_succ, ↓DL.ix_lst, List.length_cons, List.length_nil, ↓DL.e_sl, ↓DL.e_part, ↓DL.e_noPart, ↓DL.sl_tup, ↓DL.add_tt, ↓DL.add_ll, ↓asI_int, ↓DL.e_rev, ↓DL.back_t, ↓DL.list_t, ↓DL.e_dic1, ↓DL.e_par, ↓DL.cmp_ii, ↓DL.int_b, ↓DL.len_tup, ↓DL.ix_tup, List.cons_append, List.nil_append]
  refine ⟨a, c, 7, rfl, by decide, by decide, hD, fun way S1 p1 q1 hD s1 => ?_⟩
  refine ⟨a, c, 4, rfl, by decide, by decide, hD, fun r2 S2 p2 q2 hD s2 => ?_⟩
  have s2 := s1.trans s2
  simp only [↓DL.e_ct, ↓DL.e_cf, ↓DL.e_seq, ↓DL.e_set, ↓DL.e_lst, ↓DL.e_cons, ↓DL.e_nil, ↓DL.e_op, ↓DL.e_un, ↓DL.e_var, ↓DL.e_s0, ↓DL.e_s1, ↓DL.e_c, ↓DL.e_cb, ↓DL.e_tup, ↓DL.e_ret, Option.elim_some, ↓DL.add_ii, ↓DL.sub_ii, ↓DL.neg_i, ↓DL.eq_ii, ↓DL.str_i, ↓DL.add_bi, ↓DL.sub_bi, ↓DL.sub_ib, ↓DL.eq_bi, ↓DL.str_b, List.set_cons_zero, List.set_cons_succ, ↓DL.ix_lst, List.length_cons, List.length_nil, ↓DL.e_sl, ↓DL.e_part, ↓DL.e_noPart, ↓DL.sl_tup, ↓DL.add_tt, ↓DL.add_ll, ↓asI_int, ↓DL.e_rev, ↓DL.back_t, ↓DL.list_t, ↓DL.e_dic1, ↓DL.e_par, ↓DL.cmp_ii, ↓DL.int_b, ↓DL.len_tup, ↓DL.ix_tup, List.cons_append, List.nil_append]
  subst hM
  have odd : sp_l_odd [.ref a, d] S2 P := ⟨a, c, d, k', rfl, hD, hk, hg, hs, fun y S3 ny hD s3 => h y S3 ny hD (s2.trans s3)⟩
  refine seq_gen fun M hM => ?_
  refine if_gen fun M1 M2 e1 e2 => ?_
  have other : M2 S2 := by
    subst e2
    subst hM
    exact odd
  simp only [↓DL.e_next, ↓DL.e_seq, ↓DL.e_drop, ↓DL.e_ret, ↓DL.e_retN, ↓DL.e_if, ↓DL.e_cont, ↓DL.e_break, ↓DL.e_set, ↓DL.e_asg, ↓DL.e_par, ↓DL.e_setI, ↓DL.e_for, ↓DL.e_var, ↓DL.e_c, ↓DL.e_op, ↓DL.e_un, ↓DL.e_test, ↓DL.e_chain, ↓DL.e_and, ↓DL.e_or, ↓DL.e_not, ↓DL.e_andV, ↓DL.e_orV, ↓DL.e_notV, ↓DL.e_ife, ↓DL.e_nil, ↓DL.e_cons, ↓DL.e_tup, ↓DL.e_lst, ↓DL.e_lstM, ↓DL.e_noPart, ↓DL.e_part, ↓DL.e_sl, ↓DL.e_cb, ↓DL.e_mtL, ↓DL.e_mt0, ↓DL.e_mtS, ↓DL.e_mtS0, ↓DL.e_tru, ↓DL.e_lc, ↓DL.e_itS, ↓DL.e_itStr, ↓DL.e_rng1, ↓DL.e_rev, ↓DL.e_dic0, ↓DL.e_dic1, ↓DL.e_s0, ↓DL.e_s1, ↓DL.e_ct, ↓DL.e_cf, dstart, slot, gN, ↓asB_bl, ↓asI_int, ↓asS_str, cond_true, cond_false, List.map_cons, List.map_nil, List.length_cons, List.length_nil, List.set_cons_zero, List.set_cons_succ, Option.elim_some, Option.elim_none, List.cons_append, List.nil_append, List.replicate, Nat.sub_self, Nat.reduceSub, Nat.reduceAdd, Bool.not_true, Bool.not_false, setAll, Int.cast_ofNat_Int, Int.reduceLT, Int.reduceLE, Int.reduceBEq, Nat.reduceBEq, decide_true, decide_false, ↓DL.pred_s, ↓DL.len_str, ↓DL.len_tup, ↓DL.len_lst, ↓DL.le_ii, ↓DL.le_ss, ↓DL.cmp_ii, ↓DL.add_ii, ↓DL.add_ib, ↓DL.add_bi, ↓DL.add_ss, ↓DL.add_tt, ↓DL.add_ll, ↓DL.sub_ii, ↓DL.sub_ib, ↓DL.sub_bi, ↓DL.mul_ii, ↓DL.ii_ii, ↓DL.neg_i, ↓DL.is_bb, ↓DL.isn_bb, ↓DL.all_b, ↓DL.all_map, ↓DL.sum_i, ↓DL.eq_ii, ↓DL.eq_bi, ↓DL.eq_t0, ↓DL.eq_l0, ↓DL.ne_ss, ↓DL.ne_ii, ↓DL.ne_t0, ↓DL.ne_l0, ↓DL.ix_tup, ↓DL.ix_lst, ↓DL.ix_str, ↓DL.in_c, ↓DL.nin_c, ↓DL.sl_str, ↓DL.sl_tup, ↓DL.sl_lst, ↓DL.app_1, ↓DL.pop_0, ↓DL.ext_t, ↓DL.tuple_l, ↓DL.list_t, ↓DL.list_l, ↓DL.int_b, ↓DL.int_i, ↓DL.min_ii, ↓DL.str_i, ↓DL.str_b, ↓DL.repr_1, ↓DL.back_t, ↓DL.tru_l, ↓DL.at0, ↓DL.at1, ↓DL.at2, ↓DL.at3]
  rw [DL.isi_tup fl]
  simp only [↓DL.e_next, ↓DL.e_seq, ↓DL.e_drop, ↓DL.e_ret, ↓DL.e_retN, ↓DL.e_if, ↓DL.e_cont, ↓DL.e_break, ↓DL.e_set, ↓DL.e_asg, ↓DL.e_par, ↓DL.e_setI, ↓DL.e_for, ↓DL.e_var, ↓DL.e_c, ↓DL.e_op, ↓DL.e_un, ↓DL.e_test, ↓DL.e_chain, ↓DL.e_and, ↓DL.e_or, ↓DL.e_not, ↓DL.e_andV, ↓DL.e_orV, ↓DL.e_notV, ↓DL.e_ife, ↓DL.e_nil, ↓DL.e_cons, ↓DL.e_tup, ↓DL.e_lst, ↓DL.e_lstM, ↓DL.e_noPart, ↓DL.e_part, ↓DL.e_sl, ↓DL.e_cb, ↓DL.e_mtL, ↓DL.e_mt0, ↓DL.e_mtS, ↓DL.e_mtS0, ↓DL.e_tru, ↓DL.e_lc, ↓DL.e_itS, ↓DL.e_itStr, ↓DL.e_rng1, ↓DL.e_rev, ↓DL.e_dic0, ↓DL.e_dic1, ↓DL.e_s0, ↓DL.e_s1, ↓DL.e_ct, ↓DL.e_cf, dstart, slot, gN, ↓asB_bl, ↓asI_int, ↓asS_str, cond_true, cond_false, List.map_cons, List.map_nil, List.length_cons, List.length_nil, List.set_cons_zero, List.set_cons_succ, Option.elim_some, Option.elim_none, List.cons_append, List.nil_append, List.replicate, Nat.sub_self, Nat.reduceSub, Nat.reduceAdd, Bool.not_true, Bool.not_false, setAll, Int.cast_ofNat_Int, Int.reduceLT, Int.reduceLE, Int.reduceBEq, Nat.reduceBEq, decide_true, decide_false, ↓DL.pred_s, ↓DL.len_str, ↓DL.len_tup, ↓DL.len_lst, ↓DL.le_ii, ↓DL.le_ss, ↓DL.cmp_ii, ↓DL.add_ii, ↓DL.add_ib, ↓DL.add_bi, ↓DL.add_ss, ↓DL.add_tt, ↓DL.add_ll, ↓DL.sub_ii, ↓DL.sub_ib, ↓DL.sub_bi, ↓DL.mul_ii, ↓DL.ii_ii, ↓DL.neg_i, ↓DL.is_bb, ↓DL.isn_bb, ↓DL.all_b, ↓DL.all_map, ↓DL.sum_i, ↓DL.eq_ii, ↓DL.eq_bi, ↓DL.eq_t0, ↓DL.eq_l0, ↓DL.ne_ss, ↓DL.ne_ii, ↓DL.ne_t0, ↓DL.ne_l0, ↓DL.ix_tup, ↓DL.ix_lst, ↓DL.ix_str, ↓DL.in_c, ↓DL.nin_c, ↓DL.sl_str, ↓DL.sl_tup, ↓DL.sl_lst, ↓DL.app_1, ↓DL.pop_0, ↓DL.ext_t, ↓DL.tuple_l, ↓DL.list_t, ↓DL.list_l, ↓DL.int_b, ↓DL.int_i, ↓DL.min_ii, ↓DL.str_i, ↓DL.str_b, ↓DL.repr_1, ↓DL.back_t, ↓DL.tru_l, ↓DL.at0, ↓DL.at1, ↓DL.at2, ↓DL.at3]
  cases hT : isTu d with
  | false => exact other
  | true =>
    obtain ⟨xs, rfl⟩ := isTu_eq hT
    simp only [↓DL.e_next, ↓DL.e_seq, ↓DL.e_drop, ↓DL.e_ret, ↓DL.e_retN, ↓DL.e_if, ↓DL.e_cont, ↓DL.e_break, ↓DL.e_set, ↓DL.e_asg, ↓DL.e_par, ↓DL.e_setI, ↓DL.e_for, ↓DL.e_var, ↓DL.e_c, ↓DL.e_op, ↓DL.e_un, ↓DL.e_test, ↓DL.e_chain, ↓DL.e_and, ↓DL.e_or, ↓DL.e_not, ↓DL.e_andV, ↓DL.e_orV, ↓DL.e_notV, ↓DL.e_ife, ↓DL.e_nil, ↓DL.e_cons, ↓DL.e_tup, ↓DL.e_lst, ↓DL.e_lstM, ↓DL.e_noPart, ↓DL.e_part, ↓DL.e_sl, ↓DL.e_cb, ↓DL.e_mtL, ↓DL.e_mt0, ↓DL.e_mtS, ↓DL.e_mtS0, ↓DL.e_tru, ↓DL.e_lc, ↓DL.e_itS, ↓DL.e_itStr, ↓DL.e_rng1, ↓DL.e_rev, ↓DL.e_dic0, ↓DL.e_dic1, ↓DL.e_s0, ↓DL.e_s1, ↓DL.e_ct, ↓DL.e_cf, dstart, slot, gN, ↓asB_bl, ↓asI_int, ↓asS_str, cond_true, cond_false, List.map_cons, List.map_nil, List.length_cons, List.length_nil, List.set_cons_zero, List.set_cons_succ, Option.elim_some, Option.elim_none, List.cons_append, List.nil_append, List.replicate, Nat.sub_self, Nat.reduceSub, Nat.reduceAdd, Bool.not_true, Bool.not_false, setAll, Int.cast_ofNat_Int, Int.reduceLT, Int.reduceLE, Int.reduceBEq, Nat.reduceBEq, decide_true, decide_false, ↓DL.pred_s, ↓DL.len_str, ↓DL.len_tup, ↓DL.len_lst, ↓DL.le_ii, ↓DL.le_ss, ↓DL.cmp_ii, ↓DL.add_ii, ↓DL.add_ib, ↓DL.add_bi, ↓DL.add_ss, ↓DL.add_tt, ↓DL.add_ll, ↓DL.sub_ii, ↓DL.sub_ib, ↓DL.sub_bi, ↓DL.mul_ii, ↓DL.ii_ii, ↓DL.neg_i, ↓DL.is_bb, ↓DL.isn_bb, ↓DL.all_b, ↓DL.all_map, ↓DL.sum_i, ↓DL.eq_ii, ↓DL.eq_bi, ↓DL.eq_t0, ↓DL.eq_l0, ↓DL.ne_ss, ↓DL.ne_ii, ↓DL.ne_t0, ↓DL.ne_l0, ↓DL.ix_tup, ↓DL.ix_lst, ↓DL.ix_str, ↓DL.in_c, ↓DL.nin_c, ↓DL.sl_str, ↓DL.sl_tup, ↓DL.sl_lst, ↓DL.app_1, ↓DL.pop_0, ↓DL.ext_t, ↓DL.tuple_l, ↓DL.list_t, ↓DL.list_l, ↓DL.int_b, ↓DL.int_i, ↓DL.min_ii, ↓DL.str_i, ↓DL.str_b, ↓DL.repr_1, ↓DL.back_t, ↓DL.tru_l, ↓DL.at0, ↓DL.at1, ↓DL.at2, ↓DL.at3]
    refine ⟨by omega, ?_⟩
    cases he : xs.isEmpty with
    | true => exact other
    | false =>
      simp only [↓DL.e_next, ↓DL.e_seq, ↓DL.e_drop, ↓DL.e_ret, ↓DL.e_retN, ↓DL.e_if, ↓DL.e_cont, ↓DL.e_break, ↓DL.e_set, ↓DL.e_asg, ↓DL.e_par, ↓DL.e_setI, ↓DL.e_for, ↓DL.e_var, ↓DL.e_c, ↓DL.e_op, ↓DL.e_un, ↓DL.e_test, ↓DL.e_chain, ↓DL.e_and, ↓DL.e_or, ↓DL.e_not, ↓DL.e_andV, ↓DL.e_orV, ↓DL.e_notV, ↓DL.e_ife, ↓DL.e_nil, ↓DL.e_cons, ↓DL.e_tup, ↓DL.e_lst, ↓DL.e_lstM, ↓DL.e_noPart, ↓DL.e_part, ↓DL.e_sl, ↓DL.e_cb, ↓DL.e_mtL, ↓DL.e_mt0, ↓DL.e_mtS, ↓DL.e_mtS0, ↓DL.e_tru, ↓DL.e_lc, ↓DL.e_itS, ↓DL.e_itStr, ↓DL.e_rng1, ↓DL.e_rev, ↓DL.e_dic0, ↓DL.e_dic1, ↓DL.e_s0, ↓DL.e_s1, ↓DL.e_ct, ↓DL.e_cf, dstart, slot, gN, ↓asB_bl, ↓asI_int, ↓asS_str, cond_true, cond_false, List.map_cons, List.map_nil, List.length_cons, List.length_nil, List.set_cons_zero, List.set_cons_succ, Option.elim_some, Option.elim_none, List.cons_append, List.nil_append, List.replicate, Nat.sub_self, Nat.reduceSub, Nat.reduceAdd, Bool.not_true, Bool.not_false, setAll, Int.cast_ofNat_Int, Int.reduceLT, Int.reduceLE, Int.reduceBEq, Nat.reduceBEq, decide_true, decide_false, ↓DL.pred_s, ↓DL.len_str, ↓DL.len_tup, ↓DL.len_lst, ↓DL.le_ii, ↓DL.le_ss, ↓DL.cmp_ii, ↓DL.add_ii, ↓DL.add_ib, ↓DL.add_bi, ↓DL.add_ss, ↓DL.add_tt, ↓DL.add_ll, ↓DL.sub_ii, ↓DL.sub_ib, ↓DL.sub_bi, ↓DL.mul_ii, ↓DL.ii_ii, ↓DL.neg_i, ↓DL.is_bb, ↓DL.isn_bb, ↓DL.all_b, ↓DL.all_map, ↓DL.sum_i, ↓DL.eq_ii, ↓DL.eq_bi, ↓DL.eq_t0, ↓DL.eq_l0, ↓DL.ne_ss, ↓DL.ne_ii, ↓DL.ne_t0, ↓DL.ne_l0, ↓DL.ix_tup, ↓DL.ix_lst, ↓DL.ix_str, ↓DL.in_c, ↓DL.nin_c, ↓DL.sl_str, ↓DL.sl_tup, ↓DL.sl_lst, ↓DL.app_1, ↓DL.pop_0, ↓DL.ext_t, ↓DL.tuple_l, ↓DL.list_t, ↓DL.list_l, ↓DL.int_b, ↓DL.int_i, ↓DL.min_ii, ↓DL.str_i, ↓DL.str_b, ↓DL.repr_1, ↓DL.back_t, ↓DL.tru_l, ↓DL.at0, ↓DL.at1, ↓DL.at2, ↓DL.at3]
      cases hw : decide (way < 5) with
      | false => exact other
      | true =>
        clear other odd e2 hM
        subst e1
        simp only [↓DL.e_next, ↓DL.e_seq, ↓DL.e_drop, ↓DL.e_ret, ↓DL.e_retN, ↓DL.e_if, ↓DL.e_cont, ↓DL.e_break, ↓DL.e_set, ↓DL.e_asg, ↓DL.e_par, ↓DL.e_setI, ↓DL.e_for, ↓DL.e_var, ↓DL.e_c, ↓DL.e_op, ↓DL.e_un, ↓DL.e_test, ↓DL.e_chain, ↓DL.e_and, ↓DL.e_or, ↓DL.e_not, ↓DL.e_andV, ↓DL.e_orV, ↓DL.e_notV, ↓DL.e_ife, ↓DL.e_nil, ↓DL.e_cons, ↓DL.e_tup, ↓DL.e_lst, ↓DL.e_lstM, ↓DL.e_noPart, ↓DL.e_part, ↓DL.e_sl, ↓DL.e_cb, ↓DL.e_mtL, ↓DL.e_mt0, ↓DL.e_mtS, ↓DL.e_mtS0, ↓DL.e_tru, ↓DL.e_lc, ↓DL.e_itS, ↓DL.e_itStr, ↓DL.e_rng1, ↓DL.e_rev, ↓DL.e_dic0, ↓DL.e_dic1, ↓DL.e_s0, ↓DL.e_s1, ↓DL.e_ct, ↓DL.e_cf, dstart, slot, gN, ↓asB_bl, ↓asI_int, ↓asS_str, cond_true, cond_false, List.map_cons, List.map_nil, List.length_cons, List.length_nil, List.set_cons_zero, List.set_cons_succ, Option.elim_some, Option.elim_none, List.cons_append, List.nil_append, List.replicate, Nat.sub_self, Nat.reduceSub, Nat.reduceAdd, Bool.not_true, Bool.not_false, setAll, Int.cast_ofNat_Int, Int.reduceLT, Int.reduceLE, Int.reduceBEq, Nat.reduceBEq, decide_true, decide_false, ↓DL.pred_s, ↓DL.len_str, ↓DL.len_tup, ↓DL.len_lst, ↓DL.le_ii, ↓DL.le_ss, ↓DL.cmp_ii, ↓DL.add_ii, ↓DL.add_ib, ↓DL.add_bi, ↓DL.add_ss, ↓DL.add_tt, ↓DL.add_ll, ↓DL.sub_ii, ↓DL.sub_ib, ↓DL.sub_bi, ↓DL.mul_ii, ↓DL.ii_ii, ↓DL.neg_i, ↓DL.is_bb, ↓DL.isn_bb, ↓DL.all_b, ↓DL.all_map, ↓DL.sum_i, ↓DL.eq_ii, ↓DL.eq_bi, ↓DL.eq_t0, ↓DL.eq_l0, ↓DL.ne_ss, ↓DL.ne_ii, ↓DL.ne_t0, ↓DL.ne_l0, ↓DL.ix_tup, ↓DL.ix_lst, ↓DL.ix_str, ↓DL.in_c, ↓DL.nin_c, ↓DL.sl_str, ↓DL.sl_tup, ↓DL.sl_lst, ↓DL.app_1, ↓DL.pop_0, ↓DL.ext_t, ↓DL.tuple_l, ↓DL.list_t, ↓DL.list_l, ↓DL.int_b, ↓DL.int_i, ↓DL.min_ii, ↓DL.str_i, ↓DL.str_b, ↓DL.repr_1, ↓DL.back_t, ↓DL.tru_l, ↓DL.at0, ↓DL.at1, ↓DL.at2, ↓DL.at3]
        have gx : goodA k' xs = true := by simpa only [good] using hg
        have sx : szA xs + 1 ≤ 100000 := by simpa only [sz] using hs
        have lx := len_szA xs
        have px : 0 < xs.length := by
          cases xs with
          | nil => cases he
          | cons x r => simp
        refine ⟨a, c, xs.length, rfl, by omega, by omega, hD, fun r3 S3 p3 q3 hD s3 => ?_⟩
        refine ⟨by omega, ?_⟩
        obtain ⟨pl, ep, hp⟩ : ∃ pl : Nat, L2.atI ([.int r3, .int ((xs.length : Int) - 1)] : List DL.D) (if (r2 == 1) = true then 1 else 0) = some (.int (pl : Int)) ∧ pl < xs.length := by
          by_cases q : (r2 == 1) = true
          · rw [if_pos q]
            exact ⟨xs.length - 1, by rw [DL.at1]; congr 2; omega, by omega⟩
          · rw [if_neg q]
            exact ⟨r3.toNat, by rw [DL.at0]; congr 2; omega, by omega⟩
        rw [ep]
        simp only [↓DL.e_ct, ↓DL.e_cf, ↓DL.e_seq, ↓DL.e_set, ↓DL.e_lst, ↓DL.e_cons, ↓DL.e_nil, ↓DL.e_op, ↓DL.e_un, ↓DL.e_var, ↓DL.e_s0, ↓DL.e_s1, ↓DL.e_c, ↓DL.e_cb, ↓DL.e_tup, ↓DL.e_ret, Option.elim_some, ↓DL.add_ii, ↓DL.sub_ii, ↓DL.neg_i, ↓DL.eq_ii, ↓DL.str_i, ↓DL.add_bi, ↓DL.sub_bi, ↓DL.sub_ib, ↓DL.eq_bi, ↓DL.str_b, List.set_cons_zero, List.set_cons_succ, ↓DL.ix_lst, List.length_cons, List.length_nil, ↓DL.e_sl, ↓DL.e_part, ↓DL.e_noPart, ↓DL.sl_tup, ↓DL.add_tt, ↓DL.add_ll, ↓asI_int, ↓DL.e_rev, ↓DL.back_t, ↓DL.list_t, ↓DL.e_dic1, ↓DL.e_par, ↓DL.cmp_ii, ↓DL.int_b, ↓DL.len_tup, ↓DL.ix_tup, List.cons_append, List.nil_append]
        obtain ⟨x, ex⟩ : ∃ x, xs[pl]? = some x := ⟨_, List.getElem?_eq_getElem hp⟩
        have hx : x ∈ xs := List.mem_of_getElem? ex
        rw [show L2.atI xs (pl : Int) = some x from L2.atI_nat ex]
        simp only [↓DL.e_ct, ↓DL.e_cf, ↓DL.e_seq, ↓DL.e_set, ↓DL.e_lst, ↓DL.e_cons, ↓DL.e_nil, ↓DL.e_op, ↓DL.e_un, ↓DL.e_var, ↓DL.e_s0, ↓DL.e_s1, ↓DL.e_c, ↓DL.e_cb, ↓DL.e_tup, ↓DL.e_ret, Option.elim_some, ↓DL.add_ii, ↓DL.sub_ii, ↓DL.neg_i, ↓DL.eq_ii, ↓DL.str_i, ↓DL.add_bi, ↓DL.sub_bi, ↓DL.sub_ib, ↓DL.eq_bi, ↓DL.str_b, List.set_cons_zero, List.set_cons_succ, ↓DL.ix_lst, List.length_cons, List.length_nil, ↓DL.e_sl, ↓DL.e_part, ↓DL.e_noPart, ↓DL.sl_tup, ↓DL.add_tt, ↓DL.add_ll, ↓asI_int, ↓DL.e_rev, ↓DL.back_t, ↓DL.list_t, ↓DL.e_dic1, ↓DL.e_par, ↓DL.cmp_ii, ↓DL.int_b, ↓DL.len_tup, ↓DL.ix_tup, List.cons_append, List.nil_append]
        have dx : dp x ≤ dpA xs := dpA_mem hx
        have zx : sz x ≤ szA xs := szA_mem hx
        have dd : dp (.tup xs) = dpA xs + 1 := by simp only [dp]
        have cl : ∀ lo hi, (DL.cutD xs lo hi).length ≤ xs.length := fun _ _ => cutD_len
        have c1 := cl none (some (pl : Int))
        have c2 := cl (some ((pl : Int) + 1)) none
        refine ⟨a, c, x, k', rfl, hD, hk, goodA_mem gx hx, by omega, by omega, fun y S4 ⟨gy, zy, dy⟩ hD s4 => ?_⟩
        refine ⟨by omega, by omega, ?_⟩
        have e1 : DL.cutD xs none (some (pl : Int)) = xs.take pl := cut_to (by omega)
        have e2 : DL.cutD xs (some ((pl : Int) + 1)) none = xs.drop (pl + 1) := cut_from (n := pl + 1) (by omega)
        refine ⟨by rw [List.length_append, List.length_singleton]; omega, ?_⟩
        rw [e1, e2]
        refine h _ S4 ⟨?_, ?_, ?_⟩ hD ((s2.trans s3).trans s4)
        · simp only [good, goodA_append, goodA_cons, Bool.and_eq_true]
          exact ⟨⟨goodA_mono (by omega) (sub_facts (n := 0) (fun z hz => List.mem_of_mem_take hz) gx).1, gy, by simp only [goodA]⟩, goodA_mono (by omega) (sub_facts (n := 0) (fun z hz => List.mem_of_mem_drop hz) gx).1⟩
        · have e3 : szA xs = szA (xs.take pl) + (sz x + szA (xs.drop (pl + 1))) := by
            have q1 := szA_take_drop pl xs
            have q2 : xs.drop pl = x :: xs.drop (pl + 1) := by
              have := List.getElem?_eq_some_iff.mp ex
              obtain ⟨h1, h2⟩ := this
              rw [← h2]
              exact List.drop_eq_getElem_cons h1
            rw [q2] at q1
            simp only [szA] at q1
            omega
          simp only [sz, szA_append, szA]
          omega
        · have q1 : dpA (xs.take pl) ≤ dpA xs := dpA_le fun z hz => dpA_mem (List.mem_of_mem_take hz)
          have q2 : dpA (xs.drop (pl + 1)) ≤ dpA xs := dpA_le fun z hz => dpA_mem (List.mem_of_mem_drop hz)
          simp only [dp, dpA_append, dpA]
          omega
abbrev st_l_is_whole : Stmt := top 26
theorem sc_l_is_whole : FnScope ["_law_thing"] ["_law_thing"] (defScope st_l_is_whole) := ⟨rfl, rfl, rfl, by decide +kernel, rfl, by decide +kernel, by decide +kernel⟩
def wholeB : D → Bool
  | .int _ => true
  | _ => false
def sp_l_is_whole : DSp := spB (fun d => flat d = true) wholeB
theorem len_l_is_whole {ds : List D} {S : Sto} {P : DK} (h : sp_l_is_whole ds S P) : ds.length = 1 := spB_len h
theorem ok_l_is_whole {k : Nat}  (DD : Def K mg "_law_is_whole" st_l_is_whole ["_law_thing"]) (m_isinstance : mg "isinstance" = none) (m_bool : mg "bool" = none) (m_int : mg "int" = none) : Has P w K mg base (k + 1) "_law_is_whole" ["_law_thing"] (sp_l_is_whole) := by
  refine DD.has sc_l_is_whole (fun ds S P h => len_l_is_whole h) (fun f cdv A outer s H hr hgd => ⟨_, (ss_one (s_ret (q_and (q_callB (c_isi) rfl m_isinstance DL.bb_isi (a_cons (q_var 0) (a_cons (q_ty rfl m_int DL.bt_int) a_nil))) (q_one (q_not (q_callB (c_isi) rfl m_isinstance DL.bb_isi (a_cons (q_var 0) (a_cons (q_ty rfl m_bool DL.bt_bool) a_nil)))))))), fun ds S P h => ?_⟩)
  obtain ⟨d, rfl, hf, h⟩ := h
  have h := h S (.refl S)
  cases d <;> first
    | exact h
    | cases hf
abbrev st_l_is_name : Stmt := top 27
theorem sc_l_is_name : FnScope ["_law_thing", "_law_sign"] ["_law_thing"] (defScope st_l_is_name) := ⟨rfl, rfl, rfl, by decide +kernel, rfl, by decide +kernel, by decide +kernel⟩
def sp_l_is_name : DSp := spB (fun d => good 9 d = true) nameB
theorem len_l_is_name {ds : List D} {S : Sto} {P : DK} (h : sp_l_is_name ds S P) : ds.length = 1 := spB_len h
theorem az_between : ∀ c : _root_.Fin 128, (decide (c.val ∈ az.cps.toList)) = (decide (97 ≤ c.val) && decide (c.val ≤ 122)) := by decide +kernel
theorem empty_iff {z : Str} : (z == ("" : Str)) = decide (z.length = 0) := by
  rw [Bool.eq_iff_iff, beq_iff_eq, decide_eq_true_iff]
  constructor
  · rintro rfl; rfl
  · intro h
    apply str_ext
    rw [strlen] at h
    rw [List.eq_nil_of_length_eq_zero h]
    rfl
theorem ok_l_is_name {k : Nat}  (DD : Def K mg "_law_is_name" st_l_is_name ["_law_thing"]) (m_len : mg "len" = none) (m_isinstance : mg "isinstance" = none) (m_str : mg "str" = none) : Has P w K mg base (k + 1) "_law_is_name" ["_law_thing"] (sp_l_is_name) := by
  refine DD.has sc_l_is_name (fun ds S P h => len_l_is_name h) (fun f cdv A outer s H hr hgd => ⟨_, (ss_cons (s_if (t_w (w_or (t_not (t_val (q_callB (c_isi) rfl m_isinstance DL.bb_isi (a_cons (q_var 0) (a_cons (q_ty rfl m_str DL.bt_str) a_nil))))) (w_or (t_cmp (op_eqD (DL.Room.un1 hr)) (q_var 0) q_str) (w_or1 (t_cmp op_gtD (q_callB (c_len) rfl m_len PySem.boot_len (a_cons (q_var 0) a_nil)) q_int))))) (ss_one (s_ret q_bl)) ss_nil)
      (ss_one (s_ret (q_cmp (op_eqD (DL.Room.un1 hr)) (q_lc (own := [("_law_sign", 1)]) (is := [1]) rfl lcg_name rfl sc_l_is_name.nd (i_str (q_var 0)) (blkOk_by (own := [("_law_sign", 1)]) (N := ["_law_thing", "_law_sign"]) (sc := defScope st_l_is_name) (by decide +kernel)) (fun _ _ _ _ _ => pg_name (i := 1) sc_l_is_name.nd rfl (Or.inl rfl)) (fun _ _ _ _ _ => (ts_one (t_not (t_chain op_leD op_leD q_str (q_var 1) q_str)))) (fun _ _ _ _ _ => (q_var 1))) (q_lst a_nil))))), fun ds S P h => ?_⟩)
  obtain ⟨d, rfl, hg, h⟩ := h
  have hf := good_flat hg
  refine seq_gen fun M hM => ?_
  refine if_gen fun M1 M2 e1 e2 => ?_
  simp only [↓DL.e_next, ↓DL.e_seq, ↓DL.e_drop, ↓DL.e_ret, ↓DL.e_retN, ↓DL.e_if, ↓DL.e_cont, ↓DL.e_break, ↓DL.e_set, ↓DL.e_asg, ↓DL.e_par, ↓DL.e_setI, ↓DL.e_for, ↓DL.e_var, ↓DL.e_c, ↓DL.e_op, ↓DL.e_un, ↓DL.e_test, ↓DL.e_chain, ↓DL.e_and, ↓DL.e_or, ↓DL.e_not, ↓DL.e_andV, ↓DL.e_orV, ↓DL.e_notV, ↓DL.e_ife, ↓DL.e_nil, ↓DL.e_cons, ↓DL.e_tup, ↓DL.e_lst, ↓DL.e_lstM, ↓DL.e_noPart, ↓DL.e_part, ↓DL.e_sl, ↓DL.e_cb, ↓DL.e_mtL, ↓DL.e_mt0, ↓DL.e_mtS, ↓DL.e_mtS0, ↓DL.e_tru, ↓DL.e_lc, ↓DL.e_itS, ↓DL.e_itStr, ↓DL.e_rng1, ↓DL.e_rev, ↓DL.e_dic0, ↓DL.e_dic1, ↓DL.e_s0, ↓DL.e_s1, ↓DL.e_ct, ↓DL.e_cf, dstart, slot, gN, ↓asB_bl, ↓asI_int, ↓asS_str, cond_true, cond_false, List.map_cons, List.map_nil, List.length_cons, List.length_nil, List.set_cons_zero, List.set_cons_succ, Option.elim_some, Option.elim_none, List.cons_append, List.nil_append, List.replicate, Nat.sub_self, Nat.reduceSub, Nat.reduceAdd, Bool.not_true, Bool.not_false, setAll, Int.cast_ofNat_Int, Int.reduceLT, Int.reduceLE, Int.reduceBEq, Nat.reduceBEq, decide_true, decide_false, ↓DL.pred_s, ↓DL.len_str, ↓DL.len_tup, ↓DL.len_lst, ↓DL.le_ii, ↓DL.le_ss, ↓DL.cmp_ii, ↓DL.add_ii, ↓DL.add_ib, ↓DL.add_bi, ↓DL.add_ss, ↓DL.add_tt, ↓DL.add_ll, ↓DL.sub_ii, ↓DL.sub_ib, ↓DL.sub_bi, ↓DL.mul_ii, ↓DL.ii_ii, ↓DL.neg_i, ↓DL.is_bb, ↓DL.isn_bb, ↓DL.all_b, ↓DL.all_map, ↓DL.sum_i, ↓DL.eq_ii, ↓DL.eq_bi, ↓DL.eq_t0, ↓DL.eq_l0, ↓DL.ne_ss, ↓DL.ne_ii, ↓DL.ne_t0, ↓DL.ne_l0, ↓DL.ix_tup, ↓DL.ix_lst, ↓DL.ix_str, ↓DL.in_c, ↓DL.nin_c, ↓DL.sl_str, ↓DL.sl_tup, ↓DL.sl_lst, ↓DL.app_1, ↓DL.pop_0, ↓DL.ext_t, ↓DL.tuple_l, ↓DL.list_t, ↓DL.list_l, ↓DL.int_b, ↓DL.int_i, ↓DL.min_ii, ↓DL.str_i, ↓DL.str_b, ↓DL.repr_1, ↓DL.back_t, ↓DL.tru_l, ↓DL.at0, ↓DL.at1, ↓DL.at2, ↓DL.at3]
  rw [DL.isi_str hf]
  simp only [↓DL.e_next, ↓DL.e_seq, ↓DL.e_drop, ↓DL.e_ret, ↓DL.e_retN, ↓DL.e_if, ↓DL.e_cont, ↓DL.e_break, ↓DL.e_set, ↓DL.e_asg, ↓DL.e_par, ↓DL.e_setI, ↓DL.e_for, ↓DL.e_var, ↓DL.e_c, ↓DL.e_op, ↓DL.e_un, ↓DL.e_test, ↓DL.e_chain, ↓DL.e_and, ↓DL.e_or, ↓DL.e_not, ↓DL.e_andV, ↓DL.e_orV, ↓DL.e_notV, ↓DL.e_ife, ↓DL.e_nil, ↓DL.e_cons, ↓DL.e_tup, ↓DL.e_lst, ↓DL.e_lstM, ↓DL.e_noPart, ↓DL.e_part, ↓DL.e_sl, ↓DL.e_cb, ↓DL.e_mtL, ↓DL.e_mt0, ↓DL.e_mtS, ↓DL.e_mtS0, ↓DL.e_tru, ↓DL.e_lc, ↓DL.e_itS, ↓DL.e_itStr, ↓DL.e_rng1, ↓DL.e_rev, ↓DL.e_dic0, ↓DL.e_dic1, ↓DL.e_s0, ↓DL.e_s1, ↓DL.e_ct, ↓DL.e_cf, dstart, slot, gN, ↓asB_bl, ↓asI_int, ↓asS_str, cond_true, cond_false, List.map_cons, List.map_nil, List.length_cons, List.length_nil, List.set_cons_zero, List.set_cons_succ, Option.elim_some, Option.elim_none, List.cons_append, List.nil_append, List.replicate, Nat.sub_self, Nat.reduceSub, Nat.reduceAdd, Bool.not_true, Bool.not_false, setAll, Int.cast_ofNat_Int, Int.reduceLT, Int.reduceLE, Int.reduceBEq, Nat.reduceBEq, decide_true, decide_false, ↓DL.pred_s, ↓DL.len_str, ↓DL.len_tup, ↓DL.len_lst, ↓DL.le_ii, ↓DL.le_ss, ↓DL.cmp_ii, ↓DL.add_ii, ↓DL.add_ib, ↓DL.add_bi, ↓DL.add_ss, ↓DL.add_tt, ↓DL.add_ll, ↓DL.sub_ii, ↓DL.sub_ib, ↓DL.sub_bi, ↓DL.mul_ii, ↓DL.ii_ii, ↓DL.neg_i, ↓DL.is_bb, ↓DL.isn_bb, ↓DL.all_b, ↓DL.all_map, ↓DL.sum_i, ↓DL.eq_ii, ↓DL.eq_bi, ↓DL.eq_t0, ↓DL.eq_l0, ↓DL.ne_ss, ↓DL.ne_ii, ↓DL.ne_t0, ↓DL.ne_l0, ↓DL.ix_tup, ↓DL.ix_lst, ↓DL.ix_str, ↓DL.in_c, ↓DL.nin_c, ↓DL.sl_str, ↓DL.sl_tup, ↓DL.sl_lst, ↓DL.app_1, ↓DL.pop_0, ↓DL.ext_t, ↓DL.tuple_l, ↓DL.list_t, ↓DL.list_l, ↓DL.int_b, ↓DL.int_i, ↓DL.min_ii, ↓DL.str_i, ↓DL.str_b, ↓DL.repr_1, ↓DL.back_t, ↓DL.tru_l, ↓DL.at0, ↓DL.at1, ↓DL.at2, ↓DL.at3]
  cases d with
  | str z =>
    have gz : goodS 9 z = true := by simpa only [good] using hg
    have lz := goodS_len gz
    have az' := goodS_asc gz
    have hl := small8
    simp only [DL.isS]
    simp only [↓DL.e_next, ↓DL.e_seq, ↓DL.e_drop, ↓DL.e_ret, ↓DL.e_retN, ↓DL.e_if, ↓DL.e_cont, ↓DL.e_break, ↓DL.e_set, ↓DL.e_asg, ↓DL.e_par, ↓DL.e_setI, ↓DL.e_for, ↓DL.e_var, ↓DL.e_c, ↓DL.e_op, ↓DL.e_un, ↓DL.e_test, ↓DL.e_chain, ↓DL.e_and, ↓DL.e_or, ↓DL.e_not, ↓DL.e_andV, ↓DL.e_orV, ↓DL.e_notV, ↓DL.e_ife, ↓DL.e_nil, ↓DL.e_cons, ↓DL.e_tup, ↓DL.e_lst, ↓DL.e_lstM, ↓DL.e_noPart, ↓DL.e_part, ↓DL.e_sl, ↓DL.e_cb, ↓DL.e_mtL, ↓DL.e_mt0, ↓DL.e_mtS, ↓DL.e_mtS0, ↓DL.e_tru, ↓DL.e_lc, ↓DL.e_itS, ↓DL.e_itStr, ↓DL.e_rng1, ↓DL.e_rev, ↓DL.e_dic0, ↓DL.e_dic1, ↓DL.e_s0, ↓DL.e_s1, ↓DL.e_ct, ↓DL.e_cf, dstart, slot, gN, ↓asB_bl, ↓asI_int, ↓asS_str, cond_true, cond_false, List.map_cons, List.map_nil, List.length_cons, List.length_nil, List.set_cons_zero, List.set_cons_succ, Option.elim_some, Option.elim_none, List.cons_append, List.nil_append, List.replicate, Nat.sub_self, Nat.reduceSub, Nat.reduceAdd, Bool.not_true, Bool.not_false, setAll, Int.cast_ofNat_Int, Int.reduceLT, Int.reduceLE, Int.reduceBEq, Nat.reduceBEq, decide_true, decide_false, ↓DL.pred_s, ↓DL.len_str, ↓DL.len_tup, ↓DL.len_lst, ↓DL.le_ii, ↓DL.le_ss, ↓DL.cmp_ii, ↓DL.add_ii, ↓DL.add_ib, ↓DL.add_bi, ↓DL.add_ss, ↓DL.add_tt, ↓DL.add_ll, ↓DL.sub_ii, ↓DL.sub_ib, ↓DL.sub_bi, ↓DL.mul_ii, ↓DL.ii_ii, ↓DL.neg_i, ↓DL.is_bb, ↓DL.isn_bb, ↓DL.all_b, ↓DL.all_map, ↓DL.sum_i, ↓DL.eq_ii, ↓DL.eq_bi, ↓DL.eq_t0, ↓DL.eq_l0, ↓DL.ne_ss, ↓DL.ne_ii, ↓DL.ne_t0, ↓DL.ne_l0, ↓DL.ix_tup, ↓DL.ix_lst, ↓DL.ix_str, ↓DL.in_c, ↓DL.nin_c, ↓DL.sl_str, ↓DL.sl_tup, ↓DL.sl_lst, ↓DL.app_1, ↓DL.pop_0, ↓DL.ext_t, ↓DL.tuple_l, ↓DL.list_t, ↓DL.list_l, ↓DL.int_b, ↓DL.int_i, ↓DL.min_ii, ↓DL.str_i, ↓DL.str_b, ↓DL.repr_1, ↓DL.back_t, ↓DL.tru_l, ↓DL.at0, ↓DL.at1, ↓DL.at2, ↓DL.at3]
    have no : nameS z = false → M1 S := fun e => by
      subst e1
      have q := h S (.refl S)
      simp only [nameB, e] at q
      exact q
    rw [DL.eq_str' rfl]
    simp only [↓DL.e_next, ↓DL.e_seq, ↓DL.e_drop, ↓DL.e_ret, ↓DL.e_retN, ↓DL.e_if, ↓DL.e_cont, ↓DL.e_break, ↓DL.e_set, ↓DL.e_asg, ↓DL.e_par, ↓DL.e_setI, ↓DL.e_for, ↓DL.e_var, ↓DL.e_c, ↓DL.e_op, ↓DL.e_un, ↓DL.e_test, ↓DL.e_chain, ↓DL.e_and, ↓DL.e_or, ↓DL.e_not, ↓DL.e_andV, ↓DL.e_orV, ↓DL.e_notV, ↓DL.e_ife, ↓DL.e_nil, ↓DL.e_cons, ↓DL.e_tup, ↓DL.e_lst, ↓DL.e_lstM, ↓DL.e_noPart, ↓DL.e_part, ↓DL.e_sl, ↓DL.e_cb, ↓DL.e_mtL, ↓DL.e_mt0, ↓DL.e_mtS, ↓DL.e_mtS0, ↓DL.e_tru, ↓DL.e_lc, ↓DL.e_itS, ↓DL.e_itStr, ↓DL.e_rng1, ↓DL.e_rev, ↓DL.e_dic0, ↓DL.e_dic1, ↓DL.e_s0, ↓DL.e_s1, ↓DL.e_ct, ↓DL.e_cf, dstart, slot, gN, ↓asB_bl, ↓asI_int, ↓asS_str, cond_true, cond_false, List.map_cons, List.map_nil, List.length_cons, List.length_nil, List.set_cons_zero, List.set_cons_succ, Option.elim_some, Option.elim_none, List.cons_append, List.nil_append, List.replicate, Nat.sub_self, Nat.reduceSub, Nat.reduceAdd, Bool.not_true, Bool.not_false, setAll, Int.cast_ofNat_Int, Int.reduceLT, Int.reduceLE, Int.reduceBEq, Nat.reduceBEq, decide_true, decide_false, ↓DL.pred_s, ↓DL.len_str, ↓DL.len_tup, ↓DL.len_lst, ↓DL.le_ii, ↓DL.le_ss, ↓DL.cmp_ii, ↓DL.add_ii, ↓DL.add_ib, ↓DL.add_bi, ↓DL.add_ss, ↓DL.add_tt, ↓DL.add_ll, ↓DL.sub_ii, ↓DL.sub_ib, ↓DL.sub_bi, ↓DL.mul_ii, ↓DL.ii_ii, ↓DL.neg_i, ↓DL.is_bb, ↓DL.isn_bb, ↓DL.all_b, ↓DL.all_map, ↓DL.sum_i, ↓DL.eq_ii, ↓DL.eq_bi, ↓DL.eq_t0, ↓DL.eq_l0, ↓DL.ne_ss, ↓DL.ne_ii, ↓DL.ne_t0, ↓DL.ne_l0, ↓DL.ix_tup, ↓DL.ix_lst, ↓DL.ix_str, ↓DL.in_c, ↓DL.nin_c, ↓DL.sl_str, ↓DL.sl_tup, ↓DL.sl_lst, ↓DL.app_1, ↓DL.pop_0, ↓DL.ext_t, ↓DL.tuple_l, ↓DL.list_t, ↓DL.list_l, ↓DL.int_b, ↓DL.int_i, ↓DL.min_ii, ↓DL.str_i, ↓DL.str_b, ↓DL.repr_1, ↓DL.back_t, ↓DL.tru_l, ↓DL.at0, ↓DL.at1, ↓DL.at2, ↓DL.at3]
    show bif (z == ("" : Str)) then M1 S else _
    rw [empty_iff]
    cases h0 : decide (z.length = 0) with
    | true =>
      have h0 := of_decide_eq_true h0
      exact no (by rw [← Bool.not_eq_true]; intro q; have := nameS_iff.mp q; omega)
    | false =>
      have h0 := of_decide_eq_false h0
      simp only [↓DL.e_next, ↓DL.e_seq, ↓DL.e_drop, ↓DL.e_ret, ↓DL.e_retN, ↓DL.e_if, ↓DL.e_cont, ↓DL.e_break, ↓DL.e_set, ↓DL.e_asg, ↓DL.e_par, ↓DL.e_setI, ↓DL.e_for, ↓DL.e_var, ↓DL.e_c, ↓DL.e_op, ↓DL.e_un, ↓DL.e_test, ↓DL.e_chain, ↓DL.e_and, ↓DL.e_or, ↓DL.e_not, ↓DL.e_andV, ↓DL.e_orV, ↓DL.e_notV, ↓DL.e_ife, ↓DL.e_nil, ↓DL.e_cons, ↓DL.e_tup, ↓DL.e_lst, ↓DL.e_lstM, ↓DL.e_noPart, ↓DL.e_part, ↓DL.e_sl, ↓DL.e_cb, ↓DL.e_mtL, ↓DL.e_mt0, ↓DL.e_mtS, ↓DL.e_mtS0, ↓DL.e_tru, ↓DL.e_lc, ↓DL.e_itS, ↓DL.e_itStr, ↓DL.e_rng1, ↓DL.e_rev, ↓DL.e_dic0, ↓DL.e_dic1, ↓DL.e_s0, ↓DL.e_s1, ↓DL.e_ct, ↓DL.e_cf, dstart, slot, gN, ↓asB_bl, ↓asI_int, ↓asS_str, cond_true, cond_false, List.map_cons, List.map_nil, List.length_cons, List.length_nil, List.set_cons_zero, List.set_cons_succ, Option.elim_some, Option.elim_none, List.cons_append, List.nil_append, List.replicate, Nat.sub_self, Nat.reduceSub, Nat.reduceAdd, Bool.not_true, Bool.not_false, setAll, Int.cast_ofNat_Int, Int.reduceLT, Int.reduceLE, Int.reduceBEq, Nat.reduceBEq, decide_true, decide_false, ↓DL.pred_s, ↓DL.len_str, ↓DL.len_tup, ↓DL.len_lst, ↓DL.le_ii, ↓DL.le_ss, ↓DL.cmp_ii, ↓DL.add_ii, ↓DL.add_ib, ↓DL.add_bi, ↓DL.add_ss, ↓DL.add_tt, ↓DL.add_ll, ↓DL.sub_ii, ↓DL.sub_ib, ↓DL.sub_bi, ↓DL.mul_ii, ↓DL.ii_ii, ↓DL.neg_i, ↓DL.is_bb, ↓DL.isn_bb, ↓DL.all_b, ↓DL.all_map, ↓DL.sum_i, ↓DL.eq_ii, ↓DL.eq_bi, ↓DL.eq_t0, ↓DL.eq_l0, ↓DL.ne_ss, ↓DL.ne_ii, ↓DL.ne_t0, ↓DL.ne_l0, ↓DL.ix_tup, ↓DL.ix_lst, ↓DL.ix_str, ↓DL.in_c, ↓DL.nin_c, ↓DL.sl_str, ↓DL.sl_tup, ↓DL.sl_lst, ↓DL.app_1, ↓DL.pop_0, ↓DL.ext_t, ↓DL.tuple_l, ↓DL.list_t, ↓DL.list_l, ↓DL.int_b, ↓DL.int_i, ↓DL.min_ii, ↓DL.str_i, ↓DL.str_b, ↓DL.repr_1, ↓DL.back_t, ↓DL.tru_l, ↓DL.at0, ↓DL.at1, ↓DL.at2, ↓DL.at3]
      refine ⟨by omega, ?_⟩
      cases h8 : decide ((8 : Int) < (z.length : Int)) with
      | true =>
        have h8 := of_decide_eq_true h8
        exact no (by rw [← Bool.not_eq_true]; intro q; have := nameS_iff.mp q; omega)
      | false =>
        have h8 := of_decide_eq_false h8
        subst e2
        subst hM
        simp only [↓DL.e_next, ↓DL.e_seq, ↓DL.e_drop, ↓DL.e_ret, ↓DL.e_retN, ↓DL.e_if, ↓DL.e_cont, ↓DL.e_break, ↓DL.e_set, ↓DL.e_asg, ↓DL.e_par, ↓DL.e_setI, ↓DL.e_for, ↓DL.e_var, ↓DL.e_c, ↓DL.e_op, ↓DL.e_un, ↓DL.e_test, ↓DL.e_chain, ↓DL.e_and, ↓DL.e_or, ↓DL.e_not, ↓DL.e_andV, ↓DL.e_orV, ↓DL.e_notV, ↓DL.e_ife, ↓DL.e_nil, ↓DL.e_cons, ↓DL.e_tup, ↓DL.e_lst, ↓DL.e_lstM, ↓DL.e_noPart, ↓DL.e_part, ↓DL.e_sl, ↓DL.e_cb, ↓DL.e_mtL, ↓DL.e_mt0, ↓DL.e_mtS, ↓DL.e_mtS0, ↓DL.e_tru, ↓DL.e_lc, ↓DL.e_itS, ↓DL.e_itStr, ↓DL.e_rng1, ↓DL.e_rev, ↓DL.e_dic0, ↓DL.e_dic1, ↓DL.e_s0, ↓DL.e_s1, ↓DL.e_ct, ↓DL.e_cf, dstart, slot, gN, ↓asB_bl, ↓asI_int, ↓asS_str, cond_true, cond_false, List.map_cons, List.map_nil, List.length_cons, List.length_nil, List.set_cons_zero, List.set_cons_succ, Option.elim_some, Option.elim_none, List.cons_append, List.nil_append, List.replicate, Nat.sub_self, Nat.reduceSub, Nat.reduceAdd, Bool.not_true, Bool.not_false, setAll, Int.cast_ofNat_Int, Int.reduceLT, Int.reduceLE, Int.reduceBEq, Nat.reduceBEq, decide_true, decide_false, ↓DL.pred_s, ↓DL.len_str, ↓DL.len_tup, ↓DL.len_lst, ↓DL.le_ii, ↓DL.le_ss, ↓DL.cmp_ii, ↓DL.add_ii, ↓DL.add_ib, ↓DL.add_bi, ↓DL.add_ss, ↓DL.add_tt, ↓DL.add_ll, ↓DL.sub_ii, ↓DL.sub_ib, ↓DL.sub_bi, ↓DL.mul_ii, ↓DL.ii_ii, ↓DL.neg_i, ↓DL.is_bb, ↓DL.isn_bb, ↓DL.all_b, ↓DL.all_map, ↓DL.sum_i, ↓DL.eq_ii, ↓DL.eq_bi, ↓DL.eq_t0, ↓DL.eq_l0, ↓DL.ne_ss, ↓DL.ne_ii, ↓DL.ne_t0, ↓DL.ne_l0, ↓DL.ix_tup, ↓DL.ix_lst, ↓DL.ix_str, ↓DL.in_c, ↓DL.nin_c, ↓DL.sl_str, ↓DL.sl_tup, ↓DL.sl_lst, ↓DL.app_1, ↓DL.pop_0, ↓DL.ext_t, ↓DL.tuple_l, ↓DL.list_t, ↓DL.list_l, ↓DL.int_b, ↓DL.int_i, ↓DL.min_ii, ↓DL.str_i, ↓DL.str_b, ↓DL.repr_1, ↓DL.back_t, ↓DL.tru_l, ↓DL.at0, ↓DL.at1, ↓DL.at2, ↓DL.at3]
        refine lc_signsF (fun c => bif (!decide (([c] : List Nat) < [97])) then !(!decide (([122] : List Nat) < [c])) else true) (by omega) (fun c S2 Q q => ?_) (fun c S2 Q q => q) fun S' s' => ?_
        · simp only [↓DL.e_next, ↓DL.e_seq, ↓DL.e_drop, ↓DL.e_ret, ↓DL.e_retN, ↓DL.e_if, ↓DL.e_cont, ↓DL.e_break, ↓DL.e_set, ↓DL.e_asg, ↓DL.e_par, ↓DL.e_setI, ↓DL.e_for, ↓DL.e_var, ↓DL.e_c, ↓DL.e_op, ↓DL.e_un, ↓DL.e_test, ↓DL.e_chain, ↓DL.e_and, ↓DL.e_or, ↓DL.e_not, ↓DL.e_andV, ↓DL.e_orV, ↓DL.e_notV, ↓DL.e_ife, ↓DL.e_nil, ↓DL.e_cons, ↓DL.e_tup, ↓DL.e_lst, ↓DL.e_lstM, ↓DL.e_noPart, ↓DL.e_part, ↓DL.e_sl, ↓DL.e_cb, ↓DL.e_mtL, ↓DL.e_mt0, ↓DL.e_mtS, ↓DL.e_mtS0, ↓DL.e_tru, ↓DL.e_lc, ↓DL.e_itS, ↓DL.e_itStr, ↓DL.e_rng1, ↓DL.e_rev, ↓DL.e_dic0, ↓DL.e_dic1, ↓DL.e_s0, ↓DL.e_s1, ↓DL.e_ct, ↓DL.e_cf, dstart, slot, gN, ↓asB_bl, ↓asI_int, ↓asS_str, cond_true, cond_false, List.map_cons, List.map_nil, List.length_cons, List.length_nil, List.set_cons_zero, List.set_cons_succ, Option.elim_some, Option.elim_none, List.cons_append, List.nil_append, List.replicate, Nat.sub_self, Nat.reduceSub, Nat.reduceAdd, Bool.not_true, Bool.not_false, setAll, Int.cast_ofNat_Int, Int.reduceLT, Int.reduceLE, Int.reduceBEq, Nat.reduceBEq, decide_true, decide_false, ↓DL.pred_s, ↓DL.len_str, ↓DL.len_tup, ↓DL.len_lst, ↓DL.le_ii, ↓DL.le_ss, ↓DL.cmp_ii, ↓DL.add_ii, ↓DL.add_ib, ↓DL.add_bi, ↓DL.add_ss, ↓DL.add_tt, ↓DL.add_ll, ↓DL.sub_ii, ↓DL.sub_ib, ↓DL.sub_bi, ↓DL.mul_ii, ↓DL.ii_ii, ↓DL.neg_i, ↓DL.is_bb, ↓DL.isn_bb, ↓DL.all_b, ↓DL.all_map, ↓DL.sum_i, ↓DL.eq_ii, ↓DL.eq_bi, ↓DL.eq_t0, ↓DL.eq_l0, ↓DL.ne_ss, ↓DL.ne_ii, ↓DL.ne_t0, ↓DL.ne_l0, ↓DL.ix_tup, ↓DL.ix_lst, ↓DL.ix_str, ↓DL.in_c, ↓DL.nin_c, ↓DL.sl_str, ↓DL.sl_tup, ↓DL.sl_lst, ↓DL.app_1, ↓DL.pop_0, ↓DL.ext_t, ↓DL.tuple_l, ↓DL.list_t, ↓DL.list_l, ↓DL.int_b, ↓DL.int_i, ↓DL.min_ii, ↓DL.str_i, ↓DL.str_b, ↓DL.repr_1, ↓DL.back_t, ↓DL.tru_l, ↓DL.at0, ↓DL.at1, ↓DL.at2, ↓DL.at3]
          show leD (.str "a") (ch c) S2 _
          unfold ch
          simp only [↓DL.e_next, ↓DL.e_seq, ↓DL.e_drop, ↓DL.e_ret, ↓DL.e_retN, ↓DL.e_if, ↓DL.e_cont, ↓DL.e_break, ↓DL.e_set, ↓DL.e_asg, ↓DL.e_par, ↓DL.e_setI, ↓DL.e_for, ↓DL.e_var, ↓DL.e_c, ↓DL.e_op, ↓DL.e_un, ↓DL.e_test, ↓DL.e_chain, ↓DL.e_and, ↓DL.e_or, ↓DL.e_not, ↓DL.e_andV, ↓DL.e_orV, ↓DL.e_notV, ↓DL.e_ife, ↓DL.e_nil, ↓DL.e_cons, ↓DL.e_tup, ↓DL.e_lst, ↓DL.e_lstM, ↓DL.e_noPart, ↓DL.e_part, ↓DL.e_sl, ↓DL.e_cb, ↓DL.e_mtL, ↓DL.e_mt0, ↓DL.e_mtS, ↓DL.e_mtS0, ↓DL.e_tru, ↓DL.e_lc, ↓DL.e_itS, ↓DL.e_itStr, ↓DL.e_rng1, ↓DL.e_rev, ↓DL.e_dic0, ↓DL.e_dic1, ↓DL.e_s0, ↓DL.e_s1, ↓DL.e_ct, ↓DL.e_cf, dstart, slot, gN, ↓asB_bl, ↓asI_int, ↓asS_str, cond_true, cond_false, List.map_cons, List.map_nil, List.length_cons, List.length_nil, List.set_cons_zero, List.set_cons_succ, Option.elim_some, Option.elim_none, List.cons_append, List.nil_append, List.replicate, Nat.sub_self, Nat.reduceSub, Nat.reduceAdd, Bool.not_true, Bool.not_false, setAll, Int.cast_ofNat_Int, Int.reduceLT, Int.reduceLE, Int.reduceBEq, Nat.reduceBEq, decide_true, decide_false, ↓DL.pred_s, ↓DL.len_str, ↓DL.len_tup, ↓DL.len_lst, ↓DL.le_ii, ↓DL.le_ss, ↓DL.cmp_ii, ↓DL.add_ii, ↓DL.add_ib, ↓DL.add_bi, ↓DL.add_ss, ↓DL.add_tt, ↓DL.add_ll, ↓DL.sub_ii, ↓DL.sub_ib, ↓DL.sub_bi, ↓DL.mul_ii, ↓DL.ii_ii, ↓DL.neg_i, ↓DL.is_bb, ↓DL.isn_bb, ↓DL.all_b, ↓DL.all_map, ↓DL.sum_i, ↓DL.eq_ii, ↓DL.eq_bi, ↓DL.eq_t0, ↓DL.eq_l0, ↓DL.ne_ss, ↓DL.ne_ii, ↓DL.ne_t0, ↓DL.ne_l0, ↓DL.ix_tup, ↓DL.ix_lst, ↓DL.ix_str, ↓DL.in_c, ↓DL.nin_c, ↓DL.sl_str, ↓DL.sl_tup, ↓DL.sl_lst, ↓DL.app_1, ↓DL.pop_0, ↓DL.ext_t, ↓DL.tuple_l, ↓DL.list_t, ↓DL.list_l, ↓DL.int_b, ↓DL.int_i, ↓DL.min_ii, ↓DL.str_i, ↓DL.str_b, ↓DL.repr_1, ↓DL.back_t, ↓DL.tru_l, ↓DL.at0, ↓DL.at1, ↓DL.at2, ↓DL.at3]
          have ea : (Str.ofString "a").cps.toList = [97] := by decide +kernel
          have ez : (Str.ofString "z").cps.toList = [122] := by decide +kernel
          rw [ea, ez]
          cases e9 : (!decide (([c] : List Nat) < [97])) with
          | true => rw [e9] at q; exact q
          | false => rw [e9] at q; exact q
        · refine ⟨by omega, ?_⟩
          rw [DL.eq_l0]
          have e10 : (List.map ch (z.cps.toList.filter fun c => bif (!decide (([c] : List Nat) < [97])) then !(!decide (([122] : List Nat) < [c])) else true)).isEmpty = nameS z := by
            rw [List.isEmpty_map, lc_empty]
            unfold nameS
            rw [decide_eq_true (show (1 : Int) ≤ (z.length : Int) by omega), decide_eq_true (show (z.length : Int) ≤ 8 by omega)]
            show _ = z.cps.toList.all (sg az)
            rw [Bool.eq_iff_iff, List.all_eq_true, List.all_eq_true]
            have one : ∀ a b : Nat, decide (([a] : List Nat) < [b]) = decide (a < b) := fun a b => by
              rw [Bool.eq_iff_iff, decide_eq_true_iff, decide_eq_true_iff, List.cons_lt_cons_iff]
              simp
            have key : ∀ c ∈ z.cps.toList, ((!(bif (!decide (([c] : List Nat) < [97])) then !(!decide (([122] : List Nat) < [c])) else true)) = true) = (sg az c = true) := by
              intro c hc
              have hb := az_between ⟨c, az' c hc⟩
              unfold sg
              rw [hb, one, one]
              by_cases q1 : c < 97
              · simp [q1, show ¬ 97 ≤ c by omega]
              · by_cases q2 : 122 < c
                · simp [q1, q2, show ¬ c ≤ 122 by omega]
                · simp [q1, q2, show 97 ≤ c by omega, show c ≤ 122 by omega]
            exact ⟨fun q c hc => by have := q c hc; rwa [key c hc] at this, fun q c hc => by have := q c hc; rwa [← key c hc] at this⟩
          have h := h S' s'
          simp only [nameB] at h
          rw [e10]
          exact h
  | _ =>
    subst e1
    exact h S (.refl S)
abbrev st_l_is_far : Stmt := top 28
theorem sc_l_is_far : FnScope ["_law_thing", "_law_first", "_law_number", "_law_last", "_law_sign"] ["_law_thing"] (defScope st_l_is_far) := ⟨rfl, rfl, rfl, by decide +kernel, rfl, by decide +kernel, by decide +kernel⟩
theorem join_mem {c : Nat} {y : Str} : ∀ {ps : List Str} {p : Str}, p ∈ ps → c ∈ p.cps.toList → c ∈ (Str.join y ps).cps.toList
  | [q], p, h, hc => by rw [List.mem_singleton.mp h] at hc; exact hc
  | q :: r :: t, p, h, hc => by
    show c ∈ (q ++ y ++ Str.join y (r :: t)).cps.toList
    rw [cps_app, cps_app]
    rcases List.mem_cons.mp h with rfl | h
    · simp [hc]
    · have := join_mem (y := y) h hc
      simp [this]
theorem part_asc {z p : Str} {ps : List Str} (g : ∀ c ∈ z.cps.toList, c < 128) (e : Txt.split z dot = ps) (hp : p ∈ ps) {c : Nat} (hc : c ∈ p.cps.toList) : c < 128 := by
  have j := StrLaws.join_split z dot
  rw [e] at j
  exact g c (by rw [← j]; exact join_mem hp hc)
theorem cut1_list (n : Str) : (cutS n none (some 1)).cps.toList = n.cps.toList.take 1 := by
  have e : (cutS n none (some 1)).cps.toList = ((n.cps.toList.drop (HT.sIx n.length 0 none)).take (HT.sIx n.length n.length (some 1) - HT.sIx n.length 0 none)) := by unfold cutS; simp
  rw [e, HT.sIx_none, show (some (1 : Int)) = some ((1 : Nat) : Int) from rfl, HT.sIx_nat, List.drop_zero, Nat.sub_zero, strlen]
  cases n.cps.toList with
  | nil => rfl
  | cons c r => rw [List.length_cons, Nat.min_eq_left (by omega)]
theorem beq_list (a b : Str) : (a == b) = decide (a.cps.toList = b.cps.toList) := by
  rw [Bool.eq_iff_iff, beq_iff_eq, decide_eq_true_iff]
  exact ⟨fun e => by rw [e], str_ext⟩
theorem fig_iff (n : Str) : (figS n && !(n == ("0" : Str))) = (!(memS (.str (cutS n none (some 1))) ["", "0"]) && (decide ((n.length : Int) ≤ 40) && n.cps.toList.all (sg nums))) := by
  have e0 : ("" : Str).cps.toList = [] := by decide +kernel
  have e1 : ("0" : Str).cps.toList = [48] := by decide +kernel
  have em : memS (.str (cutS n none (some 1))) ["", "0"] = (decide (n.cps.toList.take 1 = []) || decide (n.cps.toList.take 1 = [48])) := by
    show ((("" : Str) == cutS n none (some 1)) || ((("0" : Str) == cutS n none (some 1)) || false)) = _
    rw [beq_list, beq_list, cut1_list, e0, e1, Bool.or_false]
    congr 1
    · exact decide_eq_decide.mpr ⟨Eq.symm, Eq.symm⟩
    · exact decide_eq_decide.mpr ⟨Eq.symm, Eq.symm⟩
  rw [em]
  unfold figS
  have e2 : (n == ("0" : Str)) = decide (n.cps.toList = [48]) := by rw [beq_list, e1]
  rw [e2]
  have hl : (n.length : Int) = n.cps.toList.length := by rw [strlen]
  rw [hl]
  cases hc : n.cps.toList with
  | nil => rfl
  | cons c r =>
    have h1 : decide ((1 : Int) ≤ ((c :: r).length : Nat)) = true := decide_eq_true (by rw [List.length_cons]; omega)
    have h2 : (!((⟨#[c]⟩ : Str) == ("0" : Str))) = !decide (c = 48) := by
      rw [beq_list, e1]
      congr 1
      exact decide_eq_decide.mpr (by simp)
    rw [h1]
    have q1 : decide (List.take 1 (c :: r) = []) = false := decide_eq_false (by simp)
    have q2 : decide (List.take 1 (c :: r) = [48]) = decide (c = 48) := decide_eq_decide.mpr (by simp)
    rw [q1, q2, Bool.false_or]
    simp only [cond_true]
    rw [h2]
    cases decide (((c :: r).length : Int) ≤ 40) <;> cases (c :: r).all (sg nums) <;> simp only [cond_true, cond_false, Bool.false_and, Bool.and_false, Bool.true_and, Bool.and_true]
    by_cases q : c = 48
    · subst q
      cases r with
      | nil => rfl
      | cons x t => simp
    · simp [q]
def sp_l_is_far : DSp := spB (fun d => good 9 d = true) farB
theorem len_l_is_far {ds : List D} {S : Sto} {P : DK} (h : sp_l_is_far ds S P) : ds.length = 1 := spB_len h
theorem ok_l_is_far {k : Nat}  (DD : Def K mg "_law_is_far" st_l_is_far ["_law_thing"]) (G__law_is_name : Has P w K mg base (k) "_law_is_name" ["_law_thing"] (sp_l_is_name)) (m_len : mg "len" = none) (m_isinstance : mg "isinstance" = none) (m_str : mg "str" = none) : Has P w K mg base (k + 1) "_law_is_far" ["_law_thing"] (sp_l_is_far) := by
  refine DD.has sc_l_is_far (fun ds S P h => len_l_is_far h) (fun f cdv A outer s H hr hgd => ⟨_, (ss_cons (s_if (t_w (w_or (t_not (t_val (q_callB (c_isi) rfl m_isinstance DL.bb_isi (a_cons (q_var 0) (a_cons (q_ty rfl m_str DL.bt_str) a_nil))))) (w_or1 (t_cmp (op_neD (DL.Room.un1 hr)) (q_mtS PySem.F.slot_str_count PySem.F.type_str_count m_count (q_var 0) (a_cons q_str a_nil)) q_int)))) (ss_one (s_ret q_bl)) ss_nil)
      (ss_cons (s_asg (q_mtS PySem.F.slot_str_split PySem.F.type_str_split m_split (q_var 0) (a_cons q_str a_nil)) (g_tup rfl (gs_cons 1 sc_l_is_far.nd (gs_cons 2 sc_l_is_far.nd (gs_cons 3 sc_l_is_far.nd gs_nil)))))
      (ss_cons (s_if (t_w (w_or (t_cmp (op_inD (DL.Room.un0 hr)) (q_slice sl_D (q_var 2) o_none (o_some q_int)) (q_tup (a_cons q_str (a_cons q_str a_nil)))) (w_or (t_cmp op_gtD (q_callB (c_len) rfl m_len PySem.boot_len (a_cons (q_var 2) a_nil)) q_int) (w_or1 (t_cmp (op_neD (DL.Room.un1 hr)) (q_lc (own := [("_law_sign", 4)]) (is := [4]) rfl lcg_name rfl sc_l_is_far.nd (i_str (q_var 2)) (blkOk_by (own := [("_law_sign", 4)]) (N := ["_law_thing", "_law_first", "_law_number", "_law_last", "_law_sign"]) (sc := defScope st_l_is_far) (by decide +kernel)) (fun _ _ _ _ _ => pg_name (i := 4) sc_l_is_far.nd rfl (Or.inl rfl)) (fun _ _ _ _ _ => (ts_one (t_cmp (op_notInD (DL.Room.un0 hr)) (q_var 4) q_str))) (fun _ _ _ _ _ => (q_var 4))) (q_lst a_nil)))))) (ss_one (s_ret q_bl)) ss_nil)
      (ss_one (s_ret (q_and (q_def G__law_is_name (hr.mono (by omega)) hgd (a_cons (q_var 1) a_nil)) (q_one (q_def G__law_is_name (hr.mono (by omega)) hgd (a_cons (q_var 3) a_nil))))))))), fun ds S P h => ?_⟩)
  obtain ⟨d, rfl, hg, h⟩ := h
  have hf := good_flat hg
  refine seq_gen fun M hM => ?_
  refine if_gen fun M1 M2 e1 e2 => ?_
  simp only [↓DL.e_next, ↓DL.e_seq, ↓DL.e_drop, ↓DL.e_ret, ↓DL.e_retN, ↓DL.e_if, ↓DL.e_cont, ↓DL.e_break, ↓DL.e_set, ↓DL.e_asg, ↓DL.e_par, ↓DL.e_setI, ↓DL.e_for, ↓DL.e_var, ↓DL.e_c, ↓DL.e_op, ↓DL.e_un, ↓DL.e_test, ↓DL.e_chain, ↓DL.e_and, ↓DL.e_or, ↓DL.e_not, ↓DL.e_andV, ↓DL.e_orV, ↓DL.e_notV, ↓DL.e_ife, ↓DL.e_nil, ↓DL.e_cons, ↓DL.e_tup, ↓DL.e_lst, ↓DL.e_lstM, ↓DL.e_noPart, ↓DL.e_part, ↓DL.e_sl, ↓DL.e_cb, ↓DL.e_mtL, ↓DL.e_mt0, ↓DL.e_mtS, ↓DL.e_mtS0, ↓DL.e_tru, ↓DL.e_lc, ↓DL.e_itS, ↓DL.e_itStr, ↓DL.e_rng1, ↓DL.e_rev, ↓DL.e_dic0, ↓DL.e_dic1, ↓DL.e_s0, ↓DL.e_s1, ↓DL.e_ct, ↓DL.e_cf, dstart, slot, gN, ↓asB_bl, ↓asI_int, ↓asS_str, cond_true, cond_false, List.map_cons, List.map_nil, List.length_cons, List.length_nil, List.set_cons_zero, List.set_cons_succ, Option.elim_some, Option.elim_none, List.cons_append, List.nil_append, List.replicate, Nat.sub_self, Nat.reduceSub, Nat.reduceAdd, Bool.not_true, Bool.not_false, setAll, Int.cast_ofNat_Int, Int.reduceLT, Int.reduceLE, Int.reduceBEq, Nat.reduceBEq, decide_true, decide_false, ↓DL.pred_s, ↓DL.len_str, ↓DL.len_tup, ↓DL.len_lst, ↓DL.le_ii, ↓DL.le_ss, ↓DL.cmp_ii, ↓DL.add_ii, ↓DL.add_ib, ↓DL.add_bi, ↓DL.add_ss, ↓DL.add_tt, ↓DL.add_ll, ↓DL.sub_ii, ↓DL.sub_ib, ↓DL.sub_bi, ↓DL.mul_ii, ↓DL.ii_ii, ↓DL.neg_i, ↓DL.is_bb, ↓DL.isn_bb, ↓DL.all_b, ↓DL.all_map, ↓DL.sum_i, ↓DL.eq_ii, ↓DL.eq_bi, ↓DL.eq_t0, ↓DL.eq_l0, ↓DL.ne_ss, ↓DL.ne_ii, ↓DL.ne_t0, ↓DL.ne_l0, ↓DL.ix_tup, ↓DL.ix_lst, ↓DL.ix_str, ↓DL.in_c, ↓DL.nin_c, ↓DL.sl_str, ↓DL.sl_tup, ↓DL.sl_lst, ↓DL.app_1, ↓DL.pop_0, ↓DL.ext_t, ↓DL.tuple_l, ↓DL.list_t, ↓DL.list_l, ↓DL.int_b, ↓DL.int_i, ↓DL.min_ii, ↓DL.str_i, ↓DL.str_b, ↓DL.repr_1, ↓DL.back_t, ↓DL.tru_l, ↓DL.at0, ↓DL.at1, ↓DL.at2, ↓DL.at3]
  rw [DL.isi_str hf]
  simp only [↓DL.e_next, ↓DL.e_seq, ↓DL.e_drop, ↓DL.e_ret, ↓DL.e_retN, ↓DL.e_if, ↓DL.e_cont, ↓DL.e_break, ↓DL.e_set, ↓DL.e_asg, ↓DL.e_par, ↓DL.e_setI, ↓DL.e_for, ↓DL.e_var, ↓DL.e_c, ↓DL.e_op, ↓DL.e_un, ↓DL.e_test, ↓DL.e_chain, ↓DL.e_and, ↓DL.e_or, ↓DL.e_not, ↓DL.e_andV, ↓DL.e_orV, ↓DL.e_notV, ↓DL.e_ife, ↓DL.e_nil, ↓DL.e_cons, ↓DL.e_tup, ↓DL.e_lst, ↓DL.e_lstM, ↓DL.e_noPart, ↓DL.e_part, ↓DL.e_sl, ↓DL.e_cb, ↓DL.e_mtL, ↓DL.e_mt0, ↓DL.e_mtS, ↓DL.e_mtS0, ↓DL.e_tru, ↓DL.e_lc, ↓DL.e_itS, ↓DL.e_itStr, ↓DL.e_rng1, ↓DL.e_rev, ↓DL.e_dic0, ↓DL.e_dic1, ↓DL.e_s0, ↓DL.e_s1, ↓DL.e_ct, ↓DL.e_cf, dstart, slot, gN, ↓asB_bl, ↓asI_int, ↓asS_str, cond_true, cond_false, List.map_cons, List.map_nil, List.length_cons, List.length_nil, List.set_cons_zero, List.set_cons_succ, Option.elim_some, Option.elim_none, List.cons_append, List.nil_append, List.replicate, Nat.sub_self, Nat.reduceSub, Nat.reduceAdd, Bool.not_true, Bool.not_false, setAll, Int.cast_ofNat_Int, Int.reduceLT, Int.reduceLE, Int.reduceBEq, Nat.reduceBEq, decide_true, decide_false, ↓DL.pred_s, ↓DL.len_str, ↓DL.len_tup, ↓DL.len_lst, ↓DL.le_ii, ↓DL.le_ss, ↓DL.cmp_ii, ↓DL.add_ii, ↓DL.add_ib, ↓DL.add_bi, ↓DL.add_ss, ↓DL.add_tt, ↓DL.add_ll, ↓DL.sub_ii, ↓DL.sub_ib, ↓DL.sub_bi, ↓DL.mul_ii, ↓DL.ii_ii, ↓DL.neg_i, ↓DL.is_bb, ↓DL.isn_bb, ↓DL.all_b, ↓DL.all_map, ↓DL.sum_i, ↓DL.eq_ii, ↓DL.eq_bi, ↓DL.eq_t0, ↓DL.eq_l0, ↓DL.ne_ss, ↓DL.ne_ii, ↓DL.ne_t0, ↓DL.ne_l0, ↓DL.ix_tup, ↓DL.ix_lst, ↓DL.ix_str, ↓DL.in_c, ↓DL.nin_c, ↓DL.sl_str, ↓DL.sl_tup, ↓DL.sl_lst, ↓DL.app_1, ↓DL.pop_0, ↓DL.ext_t, ↓DL.tuple_l, ↓DL.list_t, ↓DL.list_l, ↓DL.int_b, ↓DL.int_i, ↓DL.min_ii, ↓DL.str_i, ↓DL.str_b, ↓DL.repr_1, ↓DL.back_t, ↓DL.tru_l, ↓DL.at0, ↓DL.at1, ↓DL.at2, ↓DL.at3]
  cases d with
  | str z =>
    have gz : goodS 9 z = true := by simpa only [good] using hg
    have lz := goodS_len gz
    have hl := small8
    simp only [DL.isS]
    simp only [↓DL.e_next, ↓DL.e_seq, ↓DL.e_drop, ↓DL.e_ret, ↓DL.e_retN, ↓DL.e_if, ↓DL.e_cont, ↓DL.e_break, ↓DL.e_set, ↓DL.e_asg, ↓DL.e_par, ↓DL.e_setI, ↓DL.e_for, ↓DL.e_var, ↓DL.e_c, ↓DL.e_op, ↓DL.e_un, ↓DL.e_test, ↓DL.e_chain, ↓DL.e_and, ↓DL.e_or, ↓DL.e_not, ↓DL.e_andV, ↓DL.e_orV, ↓DL.e_notV, ↓DL.e_ife, ↓DL.e_nil, ↓DL.e_cons, ↓DL.e_tup, ↓DL.e_lst, ↓DL.e_lstM, ↓DL.e_noPart, ↓DL.e_part, ↓DL.e_sl, ↓DL.e_cb, ↓DL.e_mtL, ↓DL.e_mt0, ↓DL.e_mtS, ↓DL.e_mtS0, ↓DL.e_tru, ↓DL.e_lc, ↓DL.e_itS, ↓DL.e_itStr, ↓DL.e_rng1, ↓DL.e_rev, ↓DL.e_dic0, ↓DL.e_dic1, ↓DL.e_s0, ↓DL.e_s1, ↓DL.e_ct, ↓DL.e_cf, dstart, slot, gN, ↓asB_bl, ↓asI_int, ↓asS_str, cond_true, cond_false, List.map_cons, List.map_nil, List.length_cons, List.length_nil, List.set_cons_zero, List.set_cons_succ, Option.elim_some, Option.elim_none, List.cons_append, List.nil_append, List.replicate, Nat.sub_self, Nat.reduceSub, Nat.reduceAdd, Bool.not_true, Bool.not_false, setAll, Int.cast_ofNat_Int, Int.reduceLT, Int.reduceLE, Int.reduceBEq, Nat.reduceBEq, decide_true, decide_false, ↓DL.pred_s, ↓DL.len_str, ↓DL.len_tup, ↓DL.len_lst, ↓DL.le_ii, ↓DL.le_ss, ↓DL.cmp_ii, ↓DL.add_ii, ↓DL.add_ib, ↓DL.add_bi, ↓DL.add_ss, ↓DL.add_tt, ↓DL.add_ll, ↓DL.sub_ii, ↓DL.sub_ib, ↓DL.sub_bi, ↓DL.mul_ii, ↓DL.ii_ii, ↓DL.neg_i, ↓DL.is_bb, ↓DL.isn_bb, ↓DL.all_b, ↓DL.all_map, ↓DL.sum_i, ↓DL.eq_ii, ↓DL.eq_bi, ↓DL.eq_t0, ↓DL.eq_l0, ↓DL.ne_ss, ↓DL.ne_ii, ↓DL.ne_t0, ↓DL.ne_l0, ↓DL.ix_tup, ↓DL.ix_lst, ↓DL.ix_str, ↓DL.in_c, ↓DL.nin_c, ↓DL.sl_str, ↓DL.sl_tup, ↓DL.sl_lst, ↓DL.app_1, ↓DL.pop_0, ↓DL.ext_t, ↓DL.tuple_l, ↓DL.list_t, ↓DL.list_l, ↓DL.int_b, ↓DL.int_i, ↓DL.min_ii, ↓DL.str_i, ↓DL.str_b, ↓DL.repr_1, ↓DL.back_t, ↓DL.tru_l, ↓DL.at0, ↓DL.at1, ↓DL.at2, ↓DL.at3]
    show bif !((Txt.count z dot) == 2) then M1 S else M2 S
    have hc : Txt.count z dot = ((Txt.split z dot).length : Int) - 1 := by
      have q1 := PyProof.Rows.split_len z 46
      have q2 := PyProof.Rows.count_cnt z 46
      have q3 : Txt.count z dot = _ := q2
      have q4 : ((Txt.split z dot).length : Int) = _ := q1
      omega
    rw [hc]
    by_cases h3 : (Txt.split z dot).length = 3
    · have e3 : (((Txt.split z dot).length : Int) - 1 == 2) = true := by rw [h3]; rfl
      rw [e3]
      clear e1
      subst e2
      subst hM
      obtain ⟨a, n, b, e⟩ := len3 h3
      have hm : ∀ p ∈ ([a, n, b] : List Str), p.length ≤ z.length := fun p hp => PyProof.Rows.part_short (y := dot) (by rw [e]; exact hp)
      have la := hm a (by simp)
      have ln := hm n (by simp)
      have lb := hm b (by simp)
      simp only [farB, farS, e] at h
      simp only [↓DL.e_next, ↓DL.e_seq, ↓DL.e_drop, ↓DL.e_ret, ↓DL.e_retN, ↓DL.e_if, ↓DL.e_cont, ↓DL.e_break, ↓DL.e_set, ↓DL.e_asg, ↓DL.e_par, ↓DL.e_setI, ↓DL.e_for, ↓DL.e_var, ↓DL.e_c, ↓DL.e_op, ↓DL.e_un, ↓DL.e_test, ↓DL.e_chain, ↓DL.e_and, ↓DL.e_or, ↓DL.e_not, ↓DL.e_andV, ↓DL.e_orV, ↓DL.e_notV, ↓DL.e_ife, ↓DL.e_nil, ↓DL.e_cons, ↓DL.e_tup, ↓DL.e_lst, ↓DL.e_lstM, ↓DL.e_noPart, ↓DL.e_part, ↓DL.e_sl, ↓DL.e_cb, ↓DL.e_mtL, ↓DL.e_mt0, ↓DL.e_mtS, ↓DL.e_mtS0, ↓DL.e_tru, ↓DL.e_lc, ↓DL.e_itS, ↓DL.e_itStr, ↓DL.e_rng1, ↓DL.e_rev, ↓DL.e_dic0, ↓DL.e_dic1, ↓DL.e_s0, ↓DL.e_s1, ↓DL.e_ct, ↓DL.e_cf, dstart, slot, gN, ↓asB_bl, ↓asI_int, ↓asS_str, cond_true, cond_false, List.map_cons, List.map_nil, List.length_cons, List.length_nil, List.set_cons_zero, List.set_cons_succ, Option.elim_some, Option.elim_none, List.cons_append, List.nil_append, List.replicate, Nat.sub_self, Nat.reduceSub, Nat.reduceAdd, Bool.not_true, Bool.not_false, setAll, Int.cast_ofNat_Int, Int.reduceLT, Int.reduceLE, Int.reduceBEq, Nat.reduceBEq, decide_true, decide_false, ↓DL.pred_s, ↓DL.len_str, ↓DL.len_tup, ↓DL.len_lst, ↓DL.le_ii, ↓DL.le_ss, ↓DL.cmp_ii, ↓DL.add_ii, ↓DL.add_ib, ↓DL.add_bi, ↓DL.add_ss, ↓DL.add_tt, ↓DL.add_ll, ↓DL.sub_ii, ↓DL.sub_ib, ↓DL.sub_bi, ↓DL.mul_ii, ↓DL.ii_ii, ↓DL.neg_i, ↓DL.is_bb, ↓DL.isn_bb, ↓DL.all_b, ↓DL.all_map, ↓DL.sum_i, ↓DL.eq_ii, ↓DL.eq_bi, ↓DL.eq_t0, ↓DL.eq_l0, ↓DL.ne_ss, ↓DL.ne_ii, ↓DL.ne_t0, ↓DL.ne_l0, ↓DL.ix_tup, ↓DL.ix_lst, ↓DL.ix_str, ↓DL.in_c, ↓DL.nin_c, ↓DL.sl_str, ↓DL.sl_tup, ↓DL.sl_lst, ↓DL.app_1, ↓DL.pop_0, ↓DL.ext_t, ↓DL.tuple_l, ↓DL.list_t, ↓DL.list_l, ↓DL.int_b, ↓DL.int_i, ↓DL.min_ii, ↓DL.str_i, ↓DL.str_b, ↓DL.repr_1, ↓DL.back_t, ↓DL.tru_l, ↓DL.at0, ↓DL.at1, ↓DL.at2, ↓DL.at3]
      refine ⟨⟨rfl, by omega⟩, ?_⟩
      rw [show Txt.split z (Str.ofString ".") = [a, n, b] from e]
      show gT [1, 2, 3] (.lst [.str a, .str n, .str b]) _ _ _
      refine ⟨rfl, ?_⟩
      have gn : ∀ c ∈ n.cps.toList, c < 128 := fun c hc => part_asc (p := n) (goodS_asc gz) e (by simp) hc
      have ga : goodS 9 a = true := goodS_of (by omega) fun c hc => part_asc (p := a) (goodS_asc gz) e (by simp) hc
      have gb : goodS 9 b = true := goodS_of (by omega) fun c hc => part_asc (p := b) (goodS_asc gz) e (by simp) hc
      have no : (figS n && !(n == ("0" : Str))) = false → ∀ S', Step [] S S' → P (.bl false) S' := fun q S' s' => by
        have h := h S' s'
        cases h1 : nameS a with
        | false => rw [h1] at h; exact h
        | true =>
          rw [h1] at h
          cases h2 : figS n with
          | false => rw [h2] at h; exact h
          | true =>
            rw [h2] at h q
            cases h4 : !(n == ("0" : Str)) with
            | false => rw [show (!n == Str.ofString "0") = false from h4] at h; exact h
            | true => rw [h4] at q; cases q
      refine seq_gen fun M hM => ?_
      refine if_gen fun M1 M2 e1 e2 => ?_
      simp only [↓DL.e_next, ↓DL.e_seq, ↓DL.e_drop, ↓DL.e_ret, ↓DL.e_retN, ↓DL.e_if, ↓DL.e_cont, ↓DL.e_break, ↓DL.e_set, ↓DL.e_asg, ↓DL.e_par, ↓DL.e_setI, ↓DL.e_for, ↓DL.e_var, ↓DL.e_c, ↓DL.e_op, ↓DL.e_un, ↓DL.e_test, ↓DL.e_chain, ↓DL.e_and, ↓DL.e_or, ↓DL.e_not, ↓DL.e_andV, ↓DL.e_orV, ↓DL.e_notV, ↓DL.e_ife, ↓DL.e_nil, ↓DL.e_cons, ↓DL.e_tup, ↓DL.e_lst, ↓DL.e_lstM, ↓DL.e_noPart, ↓DL.e_part, ↓DL.e_sl, ↓DL.e_cb, ↓DL.e_mtL, ↓DL.e_mt0, ↓DL.e_mtS, ↓DL.e_mtS0, ↓DL.e_tru, ↓DL.e_lc, ↓DL.e_itS, ↓DL.e_itStr, ↓DL.e_rng1, ↓DL.e_rev, ↓DL.e_dic0, ↓DL.e_dic1, ↓DL.e_s0, ↓DL.e_s1, ↓DL.e_ct, ↓DL.e_cf, dstart, slot, gN, ↓asB_bl, ↓asI_int, ↓asS_str, cond_true, cond_false, List.map_cons, List.map_nil, List.length_cons, List.length_nil, List.set_cons_zero, List.set_cons_succ, Option.elim_some, Option.elim_none, List.cons_append, List.nil_append, List.replicate, Nat.sub_self, Nat.reduceSub, Nat.reduceAdd, Bool.not_true, Bool.not_false, setAll, Int.cast_ofNat_Int, Int.reduceLT, Int.reduceLE, Int.reduceBEq, Nat.reduceBEq, decide_true, decide_false, ↓DL.pred_s, ↓DL.len_str, ↓DL.len_tup, ↓DL.len_lst, ↓DL.le_ii, ↓DL.le_ss, ↓DL.cmp_ii, ↓DL.add_ii, ↓DL.add_ib, ↓DL.add_bi, ↓DL.add_ss, ↓DL.add_tt, ↓DL.add_ll, ↓DL.sub_ii, ↓DL.sub_ib, ↓DL.sub_bi, ↓DL.mul_ii, ↓DL.ii_ii, ↓DL.neg_i, ↓DL.is_bb, ↓DL.isn_bb, ↓DL.all_b, ↓DL.all_map, ↓DL.sum_i, ↓DL.eq_ii, ↓DL.eq_bi, ↓DL.eq_t0, ↓DL.eq_l0, ↓DL.ne_ss, ↓DL.ne_ii, ↓DL.ne_t0, ↓DL.ne_l0, ↓DL.ix_tup, ↓DL.ix_lst, ↓DL.ix_str, ↓DL.in_c, ↓DL.nin_c, ↓DL.sl_str, ↓DL.sl_tup, ↓DL.sl_lst, ↓DL.app_1, ↓DL.pop_0, ↓DL.ext_t, ↓DL.tuple_l, ↓DL.list_t, ↓DL.list_l, ↓DL.int_b, ↓DL.int_i, ↓DL.min_ii, ↓DL.str_i, ↓DL.str_b, ↓DL.repr_1, ↓DL.back_t, ↓DL.tru_l, ↓DL.at0, ↓DL.at1, ↓DL.at2, ↓DL.at3]
      refine ⟨by omega, by omega, ?_⟩
      rw [DL.in_tt rfl rfl]
      simp only [↓DL.e_next, ↓DL.e_seq, ↓DL.e_drop, ↓DL.e_ret, ↓DL.e_retN, ↓DL.e_if, ↓DL.e_cont, ↓DL.e_break, ↓DL.e_set, ↓DL.e_asg, ↓DL.e_par, ↓DL.e_setI, ↓DL.e_for, ↓DL.e_var, ↓DL.e_c, ↓DL.e_op, ↓DL.e_un, ↓DL.e_test, ↓DL.e_chain, ↓DL.e_and, ↓DL.e_or, ↓DL.e_not, ↓DL.e_andV, ↓DL.e_orV, ↓DL.e_notV, ↓DL.e_ife, ↓DL.e_nil, ↓DL.e_cons, ↓DL.e_tup, ↓DL.e_lst, ↓DL.e_lstM, ↓DL.e_noPart, ↓DL.e_part, ↓DL.e_sl, ↓DL.e_cb, ↓DL.e_mtL, ↓DL.e_mt0, ↓DL.e_mtS, ↓DL.e_mtS0, ↓DL.e_tru, ↓DL.e_lc, ↓DL.e_itS, ↓DL.e_itStr, ↓DL.e_rng1, ↓DL.e_rev, ↓DL.e_dic0, ↓DL.e_dic1, ↓DL.e_s0, ↓DL.e_s1, ↓DL.e_ct, ↓DL.e_cf, dstart, slot, gN, ↓asB_bl, ↓asI_int, ↓asS_str, cond_true, cond_false, List.map_cons, List.map_nil, List.length_cons, List.length_nil, List.set_cons_zero, List.set_cons_succ, Option.elim_some, Option.elim_none, List.cons_append, List.nil_append, List.replicate, Nat.sub_self, Nat.reduceSub, Nat.reduceAdd, Bool.not_true, Bool.not_false, setAll, Int.cast_ofNat_Int, Int.reduceLT, Int.reduceLE, Int.reduceBEq, Nat.reduceBEq, decide_true, decide_false, ↓DL.pred_s, ↓DL.len_str, ↓DL.len_tup, ↓DL.len_lst, ↓DL.le_ii, ↓DL.le_ss, ↓DL.cmp_ii, ↓DL.add_ii, ↓DL.add_ib, ↓DL.add_bi, ↓DL.add_ss, ↓DL.add_tt, ↓DL.add_ll, ↓DL.sub_ii, ↓DL.sub_ib, ↓DL.sub_bi, ↓DL.mul_ii, ↓DL.ii_ii, ↓DL.neg_i, ↓DL.is_bb, ↓DL.isn_bb, ↓DL.all_b, ↓DL.all_map, ↓DL.sum_i, ↓DL.eq_ii, ↓DL.eq_bi, ↓DL.eq_t0, ↓DL.eq_l0, ↓DL.ne_ss, ↓DL.ne_ii, ↓DL.ne_t0, ↓DL.ne_l0, ↓DL.ix_tup, ↓DL.ix_lst, ↓DL.ix_str, ↓DL.in_c, ↓DL.nin_c, ↓DL.sl_str, ↓DL.sl_tup, ↓DL.sl_lst, ↓DL.app_1, ↓DL.pop_0, ↓DL.ext_t, ↓DL.tuple_l, ↓DL.list_t, ↓DL.list_l, ↓DL.int_b, ↓DL.int_i, ↓DL.min_ii, ↓DL.str_i, ↓DL.str_b, ↓DL.repr_1, ↓DL.back_t, ↓DL.tru_l, ↓DL.at0, ↓DL.at1, ↓DL.at2, ↓DL.at3]
      have m1 : ∀ S', P (.bl false) S' → M1 S' := by
        subst e1
        exact fun _ q => q
      clear e1
      rw [fig_iff] at no
      cases hA : memS (.str (cutS n none (some 1))) ["", "0"] with
      | true =>
        rw [hA] at no
        exact m1 S (no rfl S (.refl S))
      | false =>
        rw [hA] at no
        simp only [↓DL.e_next, ↓DL.e_seq, ↓DL.e_drop, ↓DL.e_ret, ↓DL.e_retN, ↓DL.e_if, ↓DL.e_cont, ↓DL.e_break, ↓DL.e_set, ↓DL.e_asg, ↓DL.e_par, ↓DL.e_setI, ↓DL.e_for, ↓DL.e_var, ↓DL.e_c, ↓DL.e_op, ↓DL.e_un, ↓DL.e_test, ↓DL.e_chain, ↓DL.e_and, ↓DL.e_or, ↓DL.e_not, ↓DL.e_andV, ↓DL.e_orV, ↓DL.e_notV, ↓DL.e_ife, ↓DL.e_nil, ↓DL.e_cons, ↓DL.e_tup, ↓DL.e_lst, ↓DL.e_lstM, ↓DL.e_noPart, ↓DL.e_part, ↓DL.e_sl, ↓DL.e_cb, ↓DL.e_mtL, ↓DL.e_mt0, ↓DL.e_mtS, ↓DL.e_mtS0, ↓DL.e_tru, ↓DL.e_lc, ↓DL.e_itS, ↓DL.e_itStr, ↓DL.e_rng1, ↓DL.e_rev, ↓DL.e_dic0, ↓DL.e_dic1, ↓DL.e_s0, ↓DL.e_s1, ↓DL.e_ct, ↓DL.e_cf, dstart, slot, gN, ↓asB_bl, ↓asI_int, ↓asS_str, cond_true, cond_false, List.map_cons, List.map_nil, List.length_cons, List.length_nil, List.set_cons_zero, List.set_cons_succ, Option.elim_some, Option.elim_none, List.cons_append, List.nil_append, List.replicate, Nat.sub_self, Nat.reduceSub, Nat.reduceAdd, Bool.not_true, Bool.not_false, setAll, Int.cast_ofNat_Int, Int.reduceLT, Int.reduceLE, Int.reduceBEq, Nat.reduceBEq, decide_true, decide_false, ↓DL.pred_s, ↓DL.len_str, ↓DL.len_tup, ↓DL.len_lst, ↓DL.le_ii, ↓DL.le_ss, ↓DL.cmp_ii, ↓DL.add_ii, ↓DL.add_ib, ↓DL.add_bi, ↓DL.add_ss, ↓DL.add_tt, ↓DL.add_ll, ↓DL.sub_ii, ↓DL.sub_ib, ↓DL.sub_bi, ↓DL.mul_ii, ↓DL.ii_ii, ↓DL.neg_i, ↓DL.is_bb, ↓DL.isn_bb, ↓DL.all_b, ↓DL.all_map, ↓DL.sum_i, ↓DL.eq_ii, ↓DL.eq_bi, ↓DL.eq_t0, ↓DL.eq_l0, ↓DL.ne_ss, ↓DL.ne_ii, ↓DL.ne_t0, ↓DL.ne_l0, ↓DL.ix_tup, ↓DL.ix_lst, ↓DL.ix_str, ↓DL.in_c, ↓DL.nin_c, ↓DL.sl_str, ↓DL.sl_tup, ↓DL.sl_lst, ↓DL.app_1, ↓DL.pop_0, ↓DL.ext_t, ↓DL.tuple_l, ↓DL.list_t, ↓DL.list_l, ↓DL.int_b, ↓DL.int_i, ↓DL.min_ii, ↓DL.str_i, ↓DL.str_b, ↓DL.repr_1, ↓DL.back_t, ↓DL.tru_l, ↓DL.at0, ↓DL.at1, ↓DL.at2, ↓DL.at3]
        refine ⟨by omega, ?_⟩
        cases h40 : decide ((40 : Int) < (n.length : Int)) with
        | true =>
          have h40 := of_decide_eq_true h40
          rw [decide_eq_false (show ¬ (n.length : Int) ≤ 40 by omega)] at no
          exact m1 S (no rfl S (.refl S))
        | false =>
          have h40 := of_decide_eq_false h40
          rw [decide_eq_true (show (n.length : Int) ≤ 40 by omega)] at no
          simp only [↓DL.e_next, ↓DL.e_seq, ↓DL.e_drop, ↓DL.e_ret, ↓DL.e_retN, ↓DL.e_if, ↓DL.e_cont, ↓DL.e_break, ↓DL.e_set, ↓DL.e_asg, ↓DL.e_par, ↓DL.e_setI, ↓DL.e_for, ↓DL.e_var, ↓DL.e_c, ↓DL.e_op, ↓DL.e_un, ↓DL.e_test, ↓DL.e_chain, ↓DL.e_and, ↓DL.e_or, ↓DL.e_not, ↓DL.e_andV, ↓DL.e_orV, ↓DL.e_notV, ↓DL.e_ife, ↓DL.e_nil, ↓DL.e_cons, ↓DL.e_tup, ↓DL.e_lst, ↓DL.e_lstM, ↓DL.e_noPart, ↓DL.e_part, ↓DL.e_sl, ↓DL.e_cb, ↓DL.e_mtL, ↓DL.e_mt0, ↓DL.e_mtS, ↓DL.e_mtS0, ↓DL.e_tru, ↓DL.e_lc, ↓DL.e_itS, ↓DL.e_itStr, ↓DL.e_rng1, ↓DL.e_rev, ↓DL.e_dic0, ↓DL.e_dic1, ↓DL.e_s0, ↓DL.e_s1, ↓DL.e_ct, ↓DL.e_cf, dstart, slot, gN, ↓asB_bl, ↓asI_int, ↓asS_str, cond_true, cond_false, List.map_cons, List.map_nil, List.length_cons, List.length_nil, List.set_cons_zero, List.set_cons_succ, Option.elim_some, Option.elim_none, List.cons_append, List.nil_append, List.replicate, Nat.sub_self, Nat.reduceSub, Nat.reduceAdd, Bool.not_true, Bool.not_false, setAll, Int.cast_ofNat_Int, Int.reduceLT, Int.reduceLE, Int.reduceBEq, Nat.reduceBEq, decide_true, decide_false, ↓DL.pred_s, ↓DL.len_str, ↓DL.len_tup, ↓DL.len_lst, ↓DL.le_ii, ↓DL.le_ss, ↓DL.cmp_ii, ↓DL.add_ii, ↓DL.add_ib, ↓DL.add_bi, ↓DL.add_ss, ↓DL.add_tt, ↓DL.add_ll, ↓DL.sub_ii, ↓DL.sub_ib, ↓DL.sub_bi, ↓DL.mul_ii, ↓DL.ii_ii, ↓DL.neg_i, ↓DL.is_bb, ↓DL.isn_bb, ↓DL.all_b, ↓DL.all_map, ↓DL.sum_i, ↓DL.eq_ii, ↓DL.eq_bi, ↓DL.eq_t0, ↓DL.eq_l0, ↓DL.ne_ss, ↓DL.ne_ii, ↓DL.ne_t0, ↓DL.ne_l0, ↓DL.ix_tup, ↓DL.ix_lst, ↓DL.ix_str, ↓DL.in_c, ↓DL.nin_c, ↓DL.sl_str, ↓DL.sl_tup, ↓DL.sl_lst, ↓DL.app_1, ↓DL.pop_0, ↓DL.ext_t, ↓DL.tuple_l, ↓DL.list_t, ↓DL.list_l, ↓DL.int_b, ↓DL.int_i, ↓DL.min_ii, ↓DL.str_i, ↓DL.str_b, ↓DL.repr_1, ↓DL.back_t, ↓DL.tru_l, ↓DL.at0, ↓DL.at1, ↓DL.at2, ↓DL.at3]
          refine lc_signsF (fun c => !(sg nums c)) (by omega) (fun c S2 Q q => ?_) (fun c S2 Q q => q) fun S' s' => ?_
          · simp only [↓DL.e_next, ↓DL.e_seq, ↓DL.e_drop, ↓DL.e_ret, ↓DL.e_retN, ↓DL.e_if, ↓DL.e_cont, ↓DL.e_break, ↓DL.e_set, ↓DL.e_asg, ↓DL.e_par, ↓DL.e_setI, ↓DL.e_for, ↓DL.e_var, ↓DL.e_c, ↓DL.e_op, ↓DL.e_un, ↓DL.e_test, ↓DL.e_chain, ↓DL.e_and, ↓DL.e_or, ↓DL.e_not, ↓DL.e_andV, ↓DL.e_orV, ↓DL.e_notV, ↓DL.e_ife, ↓DL.e_nil, ↓DL.e_cons, ↓DL.e_tup, ↓DL.e_lst, ↓DL.e_lstM, ↓DL.e_noPart, ↓DL.e_part, ↓DL.e_sl, ↓DL.e_cb, ↓DL.e_mtL, ↓DL.e_mt0, ↓DL.e_mtS, ↓DL.e_mtS0, ↓DL.e_tru, ↓DL.e_lc, ↓DL.e_itS, ↓DL.e_itStr, ↓DL.e_rng1, ↓DL.e_rev, ↓DL.e_dic0, ↓DL.e_dic1, ↓DL.e_s0, ↓DL.e_s1, ↓DL.e_ct, ↓DL.e_cf, dstart, slot, gN, ↓asB_bl, ↓asI_int, ↓asS_str, cond_true, cond_false, List.map_cons, List.map_nil, List.length_cons, List.length_nil, List.set_cons_zero, List.set_cons_succ, Option.elim_some, Option.elim_none, List.cons_append, List.nil_append, List.replicate, Nat.sub_self, Nat.reduceSub, Nat.reduceAdd, Bool.not_true, Bool.not_false, setAll, Int.cast_ofNat_Int, Int.reduceLT, Int.reduceLE, Int.reduceBEq, Nat.reduceBEq, decide_true, decide_false, ↓DL.pred_s, ↓DL.len_str, ↓DL.len_tup, ↓DL.len_lst, ↓DL.le_ii, ↓DL.le_ss, ↓DL.cmp_ii, ↓DL.add_ii, ↓DL.add_ib, ↓DL.add_bi, ↓DL.add_ss, ↓DL.add_tt, ↓DL.add_ll, ↓DL.sub_ii, ↓DL.sub_ib, ↓DL.sub_bi, ↓DL.mul_ii, ↓DL.ii_ii, ↓DL.neg_i, ↓DL.is_bb, ↓DL.isn_bb, ↓DL.all_b, ↓DL.all_map, ↓DL.sum_i, ↓DL.eq_ii, ↓DL.eq_bi, ↓DL.eq_t0, ↓DL.eq_l0, ↓DL.ne_ss, ↓DL.ne_ii, ↓DL.ne_t0, ↓DL.ne_l0, ↓DL.ix_tup, ↓DL.ix_lst, ↓DL.ix_str, ↓DL.in_c, ↓DL.nin_c, ↓DL.sl_str, ↓DL.sl_tup, ↓DL.sl_lst, ↓DL.app_1, ↓DL.pop_0, ↓DL.ext_t, ↓DL.tuple_l, ↓DL.list_t, ↓DL.list_l, ↓DL.int_b, ↓DL.int_i, ↓DL.min_ii, ↓DL.str_i, ↓DL.str_b, ↓DL.repr_1, ↓DL.back_t, ↓DL.tru_l, ↓DL.at0, ↓DL.at1, ↓DL.at2, ↓DL.at3]
            show inD true (.str ⟨#[c]⟩) (.str nums) S2 _
            rw [DL.nin_c]
            exact q
          · refine ⟨by omega, ?_⟩
            rw [DL.ne_l0, List.isEmpty_map, lc_empty]
            simp only [↓DL.e_next, ↓DL.e_seq, ↓DL.e_drop, ↓DL.e_ret, ↓DL.e_retN, ↓DL.e_if, ↓DL.e_cont, ↓DL.e_break, ↓DL.e_set, ↓DL.e_asg, ↓DL.e_par, ↓DL.e_setI, ↓DL.e_for, ↓DL.e_var, ↓DL.e_c, ↓DL.e_op, ↓DL.e_un, ↓DL.e_test, ↓DL.e_chain, ↓DL.e_and, ↓DL.e_or, ↓DL.e_not, ↓DL.e_andV, ↓DL.e_orV, ↓DL.e_notV, ↓DL.e_ife, ↓DL.e_nil, ↓DL.e_cons, ↓DL.e_tup, ↓DL.e_lst, ↓DL.e_lstM, ↓DL.e_noPart, ↓DL.e_part, ↓DL.e_sl, ↓DL.e_cb, ↓DL.e_mtL, ↓DL.e_mt0, ↓DL.e_mtS, ↓DL.e_mtS0, ↓DL.e_tru, ↓DL.e_lc, ↓DL.e_itS, ↓DL.e_itStr, ↓DL.e_rng1, ↓DL.e_rev, ↓DL.e_dic0, ↓DL.e_dic1, ↓DL.e_s0, ↓DL.e_s1, ↓DL.e_ct, ↓DL.e_cf, dstart, slot, gN, ↓asB_bl, ↓asI_int, ↓asS_str, cond_true, cond_false, List.map_cons, List.map_nil, List.length_cons, List.length_nil, List.set_cons_zero, List.set_cons_succ, Option.elim_some, Option.elim_none, List.cons_append, List.nil_append, List.replicate, Nat.sub_self, Nat.reduceSub, Nat.reduceAdd, Bool.not_true, Bool.not_false, setAll, Int.cast_ofNat_Int, Int.reduceLT, Int.reduceLE, Int.reduceBEq, Nat.reduceBEq, decide_true, decide_false, ↓DL.pred_s, ↓DL.len_str, ↓DL.len_tup, ↓DL.len_lst, ↓DL.le_ii, ↓DL.le_ss, ↓DL.cmp_ii, ↓DL.add_ii, ↓DL.add_ib, ↓DL.add_bi, ↓DL.add_ss, ↓DL.add_tt, ↓DL.add_ll, ↓DL.sub_ii, ↓DL.sub_ib, ↓DL.sub_bi, ↓DL.mul_ii, ↓DL.ii_ii, ↓DL.neg_i, ↓DL.is_bb, ↓DL.isn_bb, ↓DL.all_b, ↓DL.all_map, ↓DL.sum_i, ↓DL.eq_ii, ↓DL.eq_bi, ↓DL.eq_t0, ↓DL.eq_l0, ↓DL.ne_ss, ↓DL.ne_ii, ↓DL.ne_t0, ↓DL.ne_l0, ↓DL.ix_tup, ↓DL.ix_lst, ↓DL.ix_str, ↓DL.in_c, ↓DL.nin_c, ↓DL.sl_str, ↓DL.sl_tup, ↓DL.sl_lst, ↓DL.app_1, ↓DL.pop_0, ↓DL.ext_t, ↓DL.tuple_l, ↓DL.list_t, ↓DL.list_l, ↓DL.int_b, ↓DL.int_i, ↓DL.min_ii, ↓DL.str_i, ↓DL.str_b, ↓DL.repr_1, ↓DL.back_t, ↓DL.tru_l, ↓DL.at0, ↓DL.at1, ↓DL.at2, ↓DL.at3]
            have ea : (n.cps.toList.all fun c => !(!(sg nums c))) = n.cps.toList.all (sg nums) := by simp only [Bool.not_not]
            rw [ea]
            cases hd : n.cps.toList.all (sg nums) with
            | false =>
              rw [hd] at no
              exact m1 S' (no rfl S' s')
            | true =>
              subst e2
              subst hM
              clear m1 no
              have hfig : (figS n && !(n == ("0" : Str))) = true := by
                rw [fig_iff, hA, hd, decide_eq_true (show (n.length : Int) ≤ 40 by omega)]
                rfl
              rw [Bool.and_eq_true] at hfig
              simp only [↓DL.e_next, ↓DL.e_seq, ↓DL.e_drop, ↓DL.e_ret, ↓DL.e_retN, ↓DL.e_if, ↓DL.e_cont, ↓DL.e_break, ↓DL.e_set, ↓DL.e_asg, ↓DL.e_par, ↓DL.e_setI, ↓DL.e_for, ↓DL.e_var, ↓DL.e_c, ↓DL.e_op, ↓DL.e_un, ↓DL.e_test, ↓DL.e_chain, ↓DL.e_and, ↓DL.e_or, ↓DL.e_not, ↓DL.e_andV, ↓DL.e_orV, ↓DL.e_notV, ↓DL.e_ife, ↓DL.e_nil, ↓DL.e_cons, ↓DL.e_tup, ↓DL.e_lst, ↓DL.e_lstM, ↓DL.e_noPart, ↓DL.e_part, ↓DL.e_sl, ↓DL.e_cb, ↓DL.e_mtL, ↓DL.e_mt0, ↓DL.e_mtS, ↓DL.e_mtS0, ↓DL.e_tru, ↓DL.e_lc, ↓DL.e_itS, ↓DL.e_itStr, ↓DL.e_rng1, ↓DL.e_rev, ↓DL.e_dic0, ↓DL.e_dic1, ↓DL.e_s0, ↓DL.e_s1, ↓DL.e_ct, ↓DL.e_cf, dstart, slot, gN, ↓asB_bl, ↓asI_int, ↓asS_str, cond_true, cond_false, List.map_cons, List.map_nil, List.length_cons, List.length_nil, List.set_cons_zero, List.set_cons_succ, Option.elim_some, Option.elim_none, List.cons_append, List.nil_append, List.replicate, Nat.sub_self, Nat.reduceSub, Nat.reduceAdd, Bool.not_true, Bool.not_false, setAll, Int.cast_ofNat_Int, Int.reduceLT, Int.reduceLE, Int.reduceBEq, Nat.reduceBEq, decide_true, decide_false, ↓DL.pred_s, ↓DL.len_str, ↓DL.len_tup, ↓DL.len_lst, ↓DL.le_ii, ↓DL.le_ss, ↓DL.cmp_ii, ↓DL.add_ii, ↓DL.add_ib, ↓DL.add_bi, ↓DL.add_ss, ↓DL.add_tt, ↓DL.add_ll, ↓DL.sub_ii, ↓DL.sub_ib, ↓DL.sub_bi, ↓DL.mul_ii, ↓DL.ii_ii, ↓DL.neg_i, ↓DL.is_bb, ↓DL.isn_bb, ↓DL.all_b, ↓DL.all_map, ↓DL.sum_i, ↓DL.eq_ii, ↓DL.eq_bi, ↓DL.eq_t0, ↓DL.eq_l0, ↓DL.ne_ss, ↓DL.ne_ii, ↓DL.ne_t0, ↓DL.ne_l0, ↓DL.ix_tup, ↓DL.ix_lst, ↓DL.ix_str, ↓DL.in_c, ↓DL.nin_c, ↓DL.sl_str, ↓DL.sl_tup, ↓DL.sl_lst, ↓DL.app_1, ↓DL.pop_0, ↓DL.ext_t, ↓DL.tuple_l, ↓DL.list_t, ↓DL.list_l, ↓DL.int_b, ↓DL.int_i, ↓DL.min_ii, ↓DL.str_i, ↓DL.str_b, ↓DL.repr_1, ↓DL.back_t, ↓DL.tru_l, ↓DL.at0, ↓DL.at1, ↓DL.at2, ↓DL.at3]
              refine ⟨.str a, rfl, by simpa only [good] using ga, fun S2 s2 => ?_⟩
              simp only [↓DL.e_next, ↓DL.e_seq, ↓DL.e_drop, ↓DL.e_ret, ↓DL.e_retN, ↓DL.e_if, ↓DL.e_cont, ↓DL.e_break, ↓DL.e_set, ↓DL.e_asg, ↓DL.e_par, ↓DL.e_setI, ↓DL.e_for, ↓DL.e_var, ↓DL.e_c, ↓DL.e_op, ↓DL.e_un, ↓DL.e_test, ↓DL.e_chain, ↓DL.e_and, ↓DL.e_or, ↓DL.e_not, ↓DL.e_andV, ↓DL.e_orV, ↓DL.e_notV, ↓DL.e_ife, ↓DL.e_nil, ↓DL.e_cons, ↓DL.e_tup, ↓DL.e_lst, ↓DL.e_lstM, ↓DL.e_noPart, ↓DL.e_part, ↓DL.e_sl, ↓DL.e_cb, ↓DL.e_mtL, ↓DL.e_mt0, ↓DL.e_mtS, ↓DL.e_mtS0, ↓DL.e_tru, ↓DL.e_lc, ↓DL.e_itS, ↓DL.e_itStr, ↓DL.e_rng1, ↓DL.e_rev, ↓DL.e_dic0, ↓DL.e_dic1, ↓DL.e_s0, ↓DL.e_s1, ↓DL.e_ct, ↓DL.e_cf, dstart, slot, gN, ↓asB_bl, ↓asI_int, ↓asS_str, cond_true, cond_false, List.map_cons, List.map_nil, List.length_cons, List.length_nil, List.set_cons_zero, List.set_cons_succ, Option.elim_some, Option.elim_none, List.cons_append, List.nil_append, List.replicate, Nat.sub_self, Nat.reduceSub, Nat.reduceAdd, Bool.not_true, Bool.not_false, setAll, Int.cast_ofNat_Int, Int.reduceLT, Int.reduceLE, Int.reduceBEq, Nat.reduceBEq, decide_true, decide_false, ↓DL.pred_s, ↓DL.len_str, ↓DL.len_tup, ↓DL.len_lst, ↓DL.le_ii, ↓DL.le_ss, ↓DL.cmp_ii, ↓DL.add_ii, ↓DL.add_ib, ↓DL.add_bi, ↓DL.add_ss, ↓DL.add_tt, ↓DL.add_ll, ↓DL.sub_ii, ↓DL.sub_ib, ↓DL.sub_bi, ↓DL.mul_ii, ↓DL.ii_ii, ↓DL.neg_i, ↓DL.is_bb, ↓DL.isn_bb, ↓DL.all_b, ↓DL.all_map, ↓DL.sum_i, ↓DL.eq_ii, ↓DL.eq_bi, ↓DL.eq_t0, ↓DL.eq_l0, ↓DL.ne_ss, ↓DL.ne_ii, ↓DL.ne_t0, ↓DL.ne_l0, ↓DL.ix_tup, ↓DL.ix_lst, ↓DL.ix_str, ↓DL.in_c, ↓DL.nin_c, ↓DL.sl_str, ↓DL.sl_tup, ↓DL.sl_lst, ↓DL.app_1, ↓DL.pop_0, ↓DL.ext_t, ↓DL.tuple_l, ↓DL.list_t, ↓DL.list_l, ↓DL.int_b, ↓DL.int_i, ↓DL.min_ii, ↓DL.str_i, ↓DL.str_b, ↓DL.repr_1, ↓DL.back_t, ↓DL.tru_l, ↓DL.at0, ↓DL.at1, ↓DL.at2, ↓DL.at3]
              have h := fun S3 (s3 : Step [] S2 S3) => h S3 ((s'.trans s2).trans s3)
              rw [hfig.1, show (!n == Str.ofString "0") = true from hfig.2] at h
              show bif nameS a then _ else _
              simp only [↓DL.e_next, ↓DL.e_seq, ↓DL.e_drop, ↓DL.e_ret, ↓DL.e_retN, ↓DL.e_if, ↓DL.e_cont, ↓DL.e_break, ↓DL.e_set, ↓DL.e_asg, ↓DL.e_par, ↓DL.e_setI, ↓DL.e_for, ↓DL.e_var, ↓DL.e_c, ↓DL.e_op, ↓DL.e_un, ↓DL.e_test, ↓DL.e_chain, ↓DL.e_and, ↓DL.e_or, ↓DL.e_not, ↓DL.e_andV, ↓DL.e_orV, ↓DL.e_notV, ↓DL.e_ife, ↓DL.e_nil, ↓DL.e_cons, ↓DL.e_tup, ↓DL.e_lst, ↓DL.e_lstM, ↓DL.e_noPart, ↓DL.e_part, ↓DL.e_sl, ↓DL.e_cb, ↓DL.e_mtL, ↓DL.e_mt0, ↓DL.e_mtS, ↓DL.e_mtS0, ↓DL.e_tru, ↓DL.e_lc, ↓DL.e_itS, ↓DL.e_itStr, ↓DL.e_rng1, ↓DL.e_rev, ↓DL.e_dic0, ↓DL.e_dic1, ↓DL.e_s0, ↓DL.e_s1, ↓DL.e_ct, ↓DL.e_cf, dstart, slot, gN, ↓asB_bl, ↓asI_int, ↓asS_str, cond_true, cond_false, List.map_cons, List.map_nil, List.length_cons, List.length_nil, List.set_cons_zero, List.set_cons_succ, Option.elim_some, Option.elim_none, List.cons_append, List.nil_append, List.replicate, Nat.sub_self, Nat.reduceSub, Nat.reduceAdd, Bool.not_true, Bool.not_false, setAll, Int.cast_ofNat_Int, Int.reduceLT, Int.reduceLE, Int.reduceBEq, Nat.reduceBEq, decide_true, decide_false, ↓DL.pred_s, ↓DL.len_str, ↓DL.len_tup, ↓DL.len_lst, ↓DL.le_ii, ↓DL.le_ss, ↓DL.cmp_ii, ↓DL.add_ii, ↓DL.add_ib, ↓DL.add_bi, ↓DL.add_ss, ↓DL.add_tt, ↓DL.add_ll, ↓DL.sub_ii, ↓DL.sub_ib, ↓DL.sub_bi, ↓DL.mul_ii, ↓DL.ii_ii, ↓DL.neg_i, ↓DL.is_bb, ↓DL.isn_bb, ↓DL.all_b, ↓DL.all_map, ↓DL.sum_i, ↓DL.eq_ii, ↓DL.eq_bi, ↓DL.eq_t0, ↓DL.eq_l0, ↓DL.ne_ss, ↓DL.ne_ii, ↓DL.ne_t0, ↓DL.ne_l0, ↓DL.ix_tup, ↓DL.ix_lst, ↓DL.ix_str, ↓DL.in_c, ↓DL.nin_c, ↓DL.sl_str, ↓DL.sl_tup, ↓DL.sl_lst, ↓DL.app_1, ↓DL.pop_0, ↓DL.ext_t, ↓DL.tuple_l, ↓DL.list_t, ↓DL.list_l, ↓DL.int_b, ↓DL.int_i, ↓DL.min_ii, ↓DL.str_i, ↓DL.str_b, ↓DL.repr_1, ↓DL.back_t, ↓DL.tru_l, ↓DL.at0, ↓DL.at1, ↓DL.at2, ↓DL.at3] at h
              cases h1 : nameS a with
              | false => rw [h1] at h; exact h S2 (.refl S2)
              | true =>
                rw [h1] at h
                exact ⟨.str b, rfl, by simpa only [good] using gb, fun S3 s3 => h S3 s3⟩
    · have e3 : (((Txt.split z dot).length : Int) - 1 == 2) = false := beq_eq_false_iff_ne.mpr (by omega)
      rw [e3]
      subst e1
      have e0 : farS z = false := by
        unfold farS
        split
        · rename_i e; rw [e] at h3; exact absurd rfl h3
        · rfl
      simp only [farB, e0] at h
      exact h S (.refl S)
  | _ =>
    subst e1
    exact h S (.refl S)
abbrev st_l_is_mark : Stmt := top 29
theorem sc_l_is_mark : FnScope ["_law_thing"] ["_law_thing"] (defScope st_l_is_mark) := ⟨rfl, rfl, rfl, by decide +kernel, rfl, by decide +kernel, by decide +kernel⟩
def lmarkB : D → Bool
  | .str z => memS (.str z) ["run", "gone"]
  | _ => false
def sp_l_is_mark : DSp := spB (fun d => flat d = true) markB
theorem len_l_is_mark {ds : List D} {S : Sto} {P : DK} (h : sp_l_is_mark ds S P) : ds.length = 1 := spB_len h
theorem ok_l_is_mark {k : Nat}  (DD : Def K mg "_law_is_mark" st_l_is_mark ["_law_thing"]) (m_isinstance : mg "isinstance" = none) (m_str : mg "str" = none) : Has P w K mg base (k + 1) "_law_is_mark" ["_law_thing"] (sp_l_is_mark) := by
  refine DD.has sc_l_is_mark (fun ds S P h => len_l_is_mark h) (fun f cdv A outer s H hr hgd => ⟨_, (ss_one (s_ret (q_and (q_callB (c_isi) rfl m_isinstance DL.bb_isi (a_cons (q_var 0) (a_cons (q_ty rfl m_str DL.bt_str) a_nil))) (q_one (q_cmp (op_inD (DL.Room.un0 hr)) (q_var 0) (q_tup (a_cons q_str (a_cons q_str a_nil)))))))), fun ds S P h => ?_⟩)
  obtain ⟨d, rfl, hf, h⟩ := h
  have h := h S (.refl S)
  simp only [↓DL.e_next, ↓DL.e_seq, ↓DL.e_drop, ↓DL.e_ret, ↓DL.e_retN, ↓DL.e_if, ↓DL.e_cont, ↓DL.e_break, ↓DL.e_set, ↓DL.e_asg, ↓DL.e_par, ↓DL.e_setI, ↓DL.e_for, ↓DL.e_var, ↓DL.e_c, ↓DL.e_op, ↓DL.e_un, ↓DL.e_test, ↓DL.e_chain, ↓DL.e_and, ↓DL.e_or, ↓DL.e_not, ↓DL.e_andV, ↓DL.e_orV, ↓DL.e_notV, ↓DL.e_ife, ↓DL.e_nil, ↓DL.e_cons, ↓DL.e_tup, ↓DL.e_lst, ↓DL.e_lstM, ↓DL.e_noPart, ↓DL.e_part, ↓DL.e_sl, ↓DL.e_cb, ↓DL.e_mtL, ↓DL.e_mt0, ↓DL.e_mtS, ↓DL.e_mtS0, ↓DL.e_tru, ↓DL.e_lc, ↓DL.e_itS, ↓DL.e_itStr, ↓DL.e_rng1, ↓DL.e_rev, ↓DL.e_dic0, ↓DL.e_dic1, ↓DL.e_s0, ↓DL.e_s1, ↓DL.e_ct, ↓DL.e_cf, dstart, slot, gN, ↓asB_bl, ↓asI_int, ↓asS_str, cond_true, cond_false, List.map_cons, List.map_nil, List.length_cons, List.length_nil, List.set_cons_zero, List.set_cons_succ, Option.elim_some, Option.elim_none, List.cons_append, List.nil_append, List.replicate, Nat.sub_self, Nat.reduceSub, Nat.reduceAdd, Bool.not_true, Bool.not_false, setAll, Int.cast_ofNat_Int, Int.reduceLT, Int.reduceLE, Int.reduceBEq, Nat.reduceBEq, decide_true, decide_false, ↓DL.pred_s, ↓DL.len_str, ↓DL.len_tup, ↓DL.len_lst, ↓DL.le_ii, ↓DL.le_ss, ↓DL.cmp_ii, ↓DL.add_ii, ↓DL.add_ib, ↓DL.add_bi, ↓DL.add_ss, ↓DL.add_tt, ↓DL.add_ll, ↓DL.sub_ii, ↓DL.sub_ib, ↓DL.sub_bi, ↓DL.mul_ii, ↓DL.ii_ii, ↓DL.neg_i, ↓DL.is_bb, ↓DL.isn_bb, ↓DL.all_b, ↓DL.all_map, ↓DL.sum_i, ↓DL.eq_ii, ↓DL.eq_bi, ↓DL.eq_t0, ↓DL.eq_l0, ↓DL.ne_ss, ↓DL.ne_ii, ↓DL.ne_t0, ↓DL.ne_l0, ↓DL.ix_tup, ↓DL.ix_lst, ↓DL.ix_str, ↓DL.in_c, ↓DL.nin_c, ↓DL.sl_str, ↓DL.sl_tup, ↓DL.sl_lst, ↓DL.app_1, ↓DL.pop_0, ↓DL.ext_t, ↓DL.tuple_l, ↓DL.list_t, ↓DL.list_l, ↓DL.int_b, ↓DL.int_i, ↓DL.min_ii, ↓DL.str_i, ↓DL.str_b, ↓DL.repr_1, ↓DL.back_t, ↓DL.tru_l, ↓DL.at0, ↓DL.at1, ↓DL.at2, ↓DL.at3]
  rw [DL.isi_str hf]
  simp only [↓DL.e_next, ↓DL.e_seq, ↓DL.e_drop, ↓DL.e_ret, ↓DL.e_retN, ↓DL.e_if, ↓DL.e_cont, ↓DL.e_break, ↓DL.e_set, ↓DL.e_asg, ↓DL.e_par, ↓DL.e_setI, ↓DL.e_for, ↓DL.e_var, ↓DL.e_c, ↓DL.e_op, ↓DL.e_un, ↓DL.e_test, ↓DL.e_chain, ↓DL.e_and, ↓DL.e_or, ↓DL.e_not, ↓DL.e_andV, ↓DL.e_orV, ↓DL.e_notV, ↓DL.e_ife, ↓DL.e_nil, ↓DL.e_cons, ↓DL.e_tup, ↓DL.e_lst, ↓DL.e_lstM, ↓DL.e_noPart, ↓DL.e_part, ↓DL.e_sl, ↓DL.e_cb, ↓DL.e_mtL, ↓DL.e_mt0, ↓DL.e_mtS, ↓DL.e_mtS0, ↓DL.e_tru, ↓DL.e_lc, ↓DL.e_itS, ↓DL.e_itStr, ↓DL.e_rng1, ↓DL.e_rev, ↓DL.e_dic0, ↓DL.e_dic1, ↓DL.e_s0, ↓DL.e_s1, ↓DL.e_ct, ↓DL.e_cf, dstart, slot, gN, ↓asB_bl, ↓asI_int, ↓asS_str, cond_true, cond_false, List.map_cons, List.map_nil, List.length_cons, List.length_nil, List.set_cons_zero, List.set_cons_succ, Option.elim_some, Option.elim_none, List.cons_append, List.nil_append, List.replicate, Nat.sub_self, Nat.reduceSub, Nat.reduceAdd, Bool.not_true, Bool.not_false, setAll, Int.cast_ofNat_Int, Int.reduceLT, Int.reduceLE, Int.reduceBEq, Nat.reduceBEq, decide_true, decide_false, ↓DL.pred_s, ↓DL.len_str, ↓DL.len_tup, ↓DL.len_lst, ↓DL.le_ii, ↓DL.le_ss, ↓DL.cmp_ii, ↓DL.add_ii, ↓DL.add_ib, ↓DL.add_bi, ↓DL.add_ss, ↓DL.add_tt, ↓DL.add_ll, ↓DL.sub_ii, ↓DL.sub_ib, ↓DL.sub_bi, ↓DL.mul_ii, ↓DL.ii_ii, ↓DL.neg_i, ↓DL.is_bb, ↓DL.isn_bb, ↓DL.all_b, ↓DL.all_map, ↓DL.sum_i, ↓DL.eq_ii, ↓DL.eq_bi, ↓DL.eq_t0, ↓DL.eq_l0, ↓DL.ne_ss, ↓DL.ne_ii, ↓DL.ne_t0, ↓DL.ne_l0, ↓DL.ix_tup, ↓DL.ix_lst, ↓DL.ix_str, ↓DL.in_c, ↓DL.nin_c, ↓DL.sl_str, ↓DL.sl_tup, ↓DL.sl_lst, ↓DL.app_1, ↓DL.pop_0, ↓DL.ext_t, ↓DL.tuple_l, ↓DL.list_t, ↓DL.list_l, ↓DL.int_b, ↓DL.int_i, ↓DL.min_ii, ↓DL.str_i, ↓DL.str_b, ↓DL.repr_1, ↓DL.back_t, ↓DL.tru_l, ↓DL.at0, ↓DL.at1, ↓DL.at2, ↓DL.at3]
  cases d with
  | str z =>
    simp only [DL.isS]
    simp only [↓DL.e_next, ↓DL.e_seq, ↓DL.e_drop, ↓DL.e_ret, ↓DL.e_retN, ↓DL.e_if, ↓DL.e_cont, ↓DL.e_break, ↓DL.e_set, ↓DL.e_asg, ↓DL.e_par, ↓DL.e_setI, ↓DL.e_for, ↓DL.e_var, ↓DL.e_c, ↓DL.e_op, ↓DL.e_un, ↓DL.e_test, ↓DL.e_chain, ↓DL.e_and, ↓DL.e_or, ↓DL.e_not, ↓DL.e_andV, ↓DL.e_orV, ↓DL.e_notV, ↓DL.e_ife, ↓DL.e_nil, ↓DL.e_cons, ↓DL.e_tup, ↓DL.e_lst, ↓DL.e_lstM, ↓DL.e_noPart, ↓DL.e_part, ↓DL.e_sl, ↓DL.e_cb, ↓DL.e_mtL, ↓DL.e_mt0, ↓DL.e_mtS, ↓DL.e_mtS0, ↓DL.e_tru, ↓DL.e_lc, ↓DL.e_itS, ↓DL.e_itStr, ↓DL.e_rng1, ↓DL.e_rev, ↓DL.e_dic0, ↓DL.e_dic1, ↓DL.e_s0, ↓DL.e_s1, ↓DL.e_ct, ↓DL.e_cf, dstart, slot, gN, ↓asB_bl, ↓asI_int, ↓asS_str, cond_true, cond_false, List.map_cons, List.map_nil, List.length_cons, List.length_nil, List.set_cons_zero, List.set_cons_succ, Option.elim_some, Option.elim_none, List.cons_append, List.nil_append, List.replicate, Nat.sub_self, Nat.reduceSub, Nat.reduceAdd, Bool.not_true, Bool.not_false, setAll, Int.cast_ofNat_Int, Int.reduceLT, Int.reduceLE, Int.reduceBEq, Nat.reduceBEq, decide_true, decide_false, ↓DL.pred_s, ↓DL.len_str, ↓DL.len_tup, ↓DL.len_lst, ↓DL.le_ii, ↓DL.le_ss, ↓DL.cmp_ii, ↓DL.add_ii, ↓DL.add_ib, ↓DL.add_bi, ↓DL.add_ss, ↓DL.add_tt, ↓DL.add_ll, ↓DL.sub_ii, ↓DL.sub_ib, ↓DL.sub_bi, ↓DL.mul_ii, ↓DL.ii_ii, ↓DL.neg_i, ↓DL.is_bb, ↓DL.isn_bb, ↓DL.all_b, ↓DL.all_map, ↓DL.sum_i, ↓DL.eq_ii, ↓DL.eq_bi, ↓DL.eq_t0, ↓DL.eq_l0, ↓DL.ne_ss, ↓DL.ne_ii, ↓DL.ne_t0, ↓DL.ne_l0, ↓DL.ix_tup, ↓DL.ix_lst, ↓DL.ix_str, ↓DL.in_c, ↓DL.nin_c, ↓DL.sl_str, ↓DL.sl_tup, ↓DL.sl_lst, ↓DL.app_1, ↓DL.pop_0, ↓DL.ext_t, ↓DL.tuple_l, ↓DL.list_t, ↓DL.list_l, ↓DL.int_b, ↓DL.int_i, ↓DL.min_ii, ↓DL.str_i, ↓DL.str_b, ↓DL.repr_1, ↓DL.back_t, ↓DL.tru_l, ↓DL.at0, ↓DL.at1, ↓DL.at2, ↓DL.at3]
    refine ⟨by decide, ?_⟩
    rw [DL.in_tt rfl rfl]
    exact h
  | _ => first | exact h | cases hf
end
end K01
set_option Elab.async false
set_option linter.all false
set_option maxRecDepth 100000
set_option maxHeartbeats 1000000
namespace K01
open PySem PySem.Spec PyProof.Rows L2 DL
def Lim (n : Nat) (d : D) : Prop := good 9 d = true ∧ dp d < n ∧ sz d ≤ 100000
theorem Lim.mem {n : Nat} {ds : List D} {d : D} (h : Lim (n + 1) (.tup ds)) (m : d ∈ ds) : Lim n d := by
  obtain ⟨h1, h2, h3⟩ := h
  have q1 := dpA_mem m
  have q2 := szA_mem m
  simp only [dp] at h2
  simp only [sz] at h3
  exact ⟨goodA_mem (by simpa only [good] using h1) m, by omega, by omega⟩
def sp_l_is_term (n : Nat) : DSp := spB (Lim n) tB
def sp_l_are_terms (n : Nat) : DSp := spB (Lim n) tsB
theorem len_l_is_term {n : Nat} {ds : List D} {S : Sto} {P : DK} (h : sp_l_is_term n ds S P) : ds.length = 1 := spB_len h
theorem len_l_are_terms {n : Nat} {ds : List D} {S : Sto} {P : DK} (h : sp_l_are_terms n ds S P) : ds.length = 1 := spB_len h
section
variable {P : Program} {w : World} {K : PySem.W.Frag} {mg : Str → Option Value} {base : Heap}

abbrev st_l_are_terms : Stmt := top 30
theorem sc_l_are_terms : FnScope ["_law_thing", "_law_one"] ["_law_thing"] (defScope st_l_are_terms) := ⟨rfl, rfl, rfl, by decide +kernel, rfl, by decide +kernel, by decide +kernel⟩

theorem ok_l_are_terms {k : Nat} {n:Nat} (DD : Def K mg "_law_are_terms" st_l_are_terms ["_law_thing"]) (G__law_is_term : Has P w K mg base (k) "_law_is_term" ["_law_thing"] (sp_l_is_term n)) (m_isinstance : mg "isinstance" = none) (m_tuple : mg "tuple" = none) : Has P w K mg base (k + 1) "_law_are_terms" ["_law_thing"] (sp_l_are_terms (n+1)) := by
  refine DD.has sc_l_are_terms (fun ds S P h => len_l_are_terms h) (fun f cdv A outer s H hr hgd => ⟨_, (ss_one (s_ret (q_and (q_callB (c_isi) rfl m_isinstance DL.bb_isi (a_cons (q_var 0) (a_cons (q_ty rfl m_tuple DL.bt_tuple) a_nil))) (q_one (q_cmp (op_eqD (DL.Room.un1 hr)) (q_lc (own := [("_law_one", 1)]) (is := [1]) rfl lcg_name rfl sc_l_are_terms.nd (i_seq (q_var 0)) (blkOk_by (own := [("_law_one", 1)]) (N := ["_law_thing", "_law_one"]) (sc := defScope st_l_are_terms) (by decide +kernel)) (fun _ _ _ _ _ => pg_name (i := 1) sc_l_are_terms.nd rfl (Or.inl rfl)) (fun _ _ _ _ _ => (ts_one (t_not (t_val (q_def G__law_is_term (hr.mono (by omega)) hgd (a_cons (q_var 1) a_nil)))))) (fun _ _ _ _ _ => (q_var 1))) (q_lst a_nil)))))), fun ds S P h => ?_⟩)
  obtain ⟨d, rfl, hL, h⟩ := h
  have hf := good_flat hL.1
  simp only [↓DL.e_next, ↓DL.e_seq, ↓DL.e_drop, ↓DL.e_ret, ↓DL.e_retN, ↓DL.e_if, ↓DL.e_cont, ↓DL.e_break, ↓DL.e_set, ↓DL.e_asg, ↓DL.e_par, ↓DL.e_setI, ↓DL.e_for, ↓DL.e_var, ↓DL.e_c, ↓DL.e_op, ↓DL.e_un, ↓DL.e_test, ↓DL.e_chain, ↓DL.e_and, ↓DL.e_or, ↓DL.e_not, ↓DL.e_andV, ↓DL.e_orV, ↓DL.e_notV, ↓DL.e_ife, ↓DL.e_nil, ↓DL.e_cons, ↓DL.e_tup, ↓DL.e_lst, ↓DL.e_lstM, ↓DL.e_noPart, ↓DL.e_part, ↓DL.e_sl, ↓DL.e_cb, ↓DL.e_mtL, ↓DL.e_mt0, ↓DL.e_mtS, ↓DL.e_mtS0, ↓DL.e_tru, ↓DL.e_lc, ↓DL.e_itS, ↓DL.e_itStr, ↓DL.e_rng1, ↓DL.e_rev, ↓DL.e_dic0, ↓DL.e_dic1, ↓DL.e_s0, ↓DL.e_s1, ↓DL.e_ct, ↓DL.e_cf, dstart, slot, gN, ↓asB_bl, ↓asI_int, ↓asS_str, cond_true, cond_false, List.map_cons, List.map_nil, List.length_cons, List.length_nil, List.set_cons_zero, List.set_cons_succ, Option.elim_some, Option.elim_none, List.cons_append, List.nil_append, List.replicate, Nat.sub_self, Nat.reduceSub, Nat.reduceAdd, Bool.not_true, Bool.not_false, setAll, Int.cast_ofNat_Int, Int.reduceLT, Int.reduceLE, Int.reduceBEq, Nat.reduceBEq, decide_true, decide_false, ↓DL.pred_s, ↓DL.len_str, ↓DL.len_tup, ↓DL.len_lst, ↓DL.le_ii, ↓DL.le_ss, ↓DL.cmp_ii, ↓DL.add_ii, ↓DL.add_ib, ↓DL.add_bi, ↓DL.add_ss, ↓DL.add_tt, ↓DL.add_ll, ↓DL.sub_ii, ↓DL.sub_ib, ↓DL.sub_bi, ↓DL.mul_ii, ↓DL.ii_ii, ↓DL.neg_i, ↓DL.is_bb, ↓DL.isn_bb, ↓DL.all_b, ↓DL.all_map, ↓DL.sum_i, ↓DL.eq_ii, ↓DL.eq_bi, ↓DL.eq_t0, ↓DL.eq_l0, ↓DL.ne_ss, ↓DL.ne_ii, ↓DL.ne_t0, ↓DL.ne_l0, ↓DL.ix_tup, ↓DL.ix_lst, ↓DL.ix_str, ↓DL.in_c, ↓DL.nin_c, ↓DL.sl_str, ↓DL.sl_tup, ↓DL.sl_lst, ↓DL.app_1, ↓DL.pop_0, ↓DL.ext_t, ↓DL.tuple_l, ↓DL.list_t, ↓DL.list_l, ↓DL.int_b, ↓DL.int_i, ↓DL.min_ii, ↓DL.str_i, ↓DL.str_b, ↓DL.repr_1, ↓DL.back_t, ↓DL.tru_l, ↓DL.at0, ↓DL.at1, ↓DL.at2, ↓DL.at3]
  rw [DL.isi_tup hf]
  simp only [↓DL.e_next, ↓DL.e_seq, ↓DL.e_drop, ↓DL.e_ret, ↓DL.e_retN, ↓DL.e_if, ↓DL.e_cont, ↓DL.e_break, ↓DL.e_set, ↓DL.e_asg, ↓DL.e_par, ↓DL.e_setI, ↓DL.e_for, ↓DL.e_var, ↓DL.e_c, ↓DL.e_op, ↓DL.e_un, ↓DL.e_test, ↓DL.e_chain, ↓DL.e_and, ↓DL.e_or, ↓DL.e_not, ↓DL.e_andV, ↓DL.e_orV, ↓DL.e_notV, ↓DL.e_ife, ↓DL.e_nil, ↓DL.e_cons, ↓DL.e_tup, ↓DL.e_lst, ↓DL.e_lstM, ↓DL.e_noPart, ↓DL.e_part, ↓DL.e_sl, ↓DL.e_cb, ↓DL.e_mtL, ↓DL.e_mt0, ↓DL.e_mtS, ↓DL.e_mtS0, ↓DL.e_tru, ↓DL.e_lc, ↓DL.e_itS, ↓DL.e_itStr, ↓DL.e_rng1, ↓DL.e_rev, ↓DL.e_dic0, ↓DL.e_dic1, ↓DL.e_s0, ↓DL.e_s1, ↓DL.e_ct, ↓DL.e_cf, dstart, slot, gN, ↓asB_bl, ↓asI_int, ↓asS_str, cond_true, cond_false, List.map_cons, List.map_nil, List.length_cons, List.length_nil, List.set_cons_zero, List.set_cons_succ, Option.elim_some, Option.elim_none, List.cons_append, List.nil_append, List.replicate, Nat.sub_self, Nat.reduceSub, Nat.reduceAdd, Bool.not_true, Bool.not_false, setAll, Int.cast_ofNat_Int, Int.reduceLT, Int.reduceLE, Int.reduceBEq, Nat.reduceBEq, decide_true, decide_false, ↓DL.pred_s, ↓DL.len_str, ↓DL.len_tup, ↓DL.len_lst, ↓DL.le_ii, ↓DL.le_ss, ↓DL.cmp_ii, ↓DL.add_ii, ↓DL.add_ib, ↓DL.add_bi, ↓DL.add_ss, ↓DL.add_tt, ↓DL.add_ll, ↓DL.sub_ii, ↓DL.sub_ib, ↓DL.sub_bi, ↓DL.mul_ii, ↓DL.ii_ii, ↓DL.neg_i, ↓DL.is_bb, ↓DL.isn_bb, ↓DL.all_b, ↓DL.all_map, ↓DL.sum_i, ↓DL.eq_ii, ↓DL.eq_bi, ↓DL.eq_t0, ↓DL.eq_l0, ↓DL.ne_ss, ↓DL.ne_ii, ↓DL.ne_t0, ↓DL.ne_l0, ↓DL.ix_tup, ↓DL.ix_lst, ↓DL.ix_str, ↓DL.in_c, ↓DL.nin_c, ↓DL.sl_str, ↓DL.sl_tup, ↓DL.sl_lst, ↓DL.app_1, ↓DL.pop_0, ↓DL.ext_t, ↓DL.tuple_l, ↓DL.list_t, ↓DL.list_l, ↓DL.int_b, ↓DL.int_i, ↓DL.min_ii, ↓DL.str_i, ↓DL.str_b, ↓DL.repr_1, ↓DL.back_t, ↓DL.tru_l, ↓DL.at0, ↓DL.at1, ↓DL.at2, ↓DL.at3]
  cases d with
  | tup ds =>
    simp only [DL.isTu]
    simp only [↓DL.e_next, ↓DL.e_seq, ↓DL.e_drop, ↓DL.e_ret, ↓DL.e_retN, ↓DL.e_if, ↓DL.e_cont, ↓DL.e_break, ↓DL.e_set, ↓DL.e_asg, ↓DL.e_par, ↓DL.e_setI, ↓DL.e_for, ↓DL.e_var, ↓DL.e_c, ↓DL.e_op, ↓DL.e_un, ↓DL.e_test, ↓DL.e_chain, ↓DL.e_and, ↓DL.e_or, ↓DL.e_not, ↓DL.e_andV, ↓DL.e_orV, ↓DL.e_notV, ↓DL.e_ife, ↓DL.e_nil, ↓DL.e_cons, ↓DL.e_tup, ↓DL.e_lst, ↓DL.e_lstM, ↓DL.e_noPart, ↓DL.e_part, ↓DL.e_sl, ↓DL.e_cb, ↓DL.e_mtL, ↓DL.e_mt0, ↓DL.e_mtS, ↓DL.e_mtS0, ↓DL.e_tru, ↓DL.e_lc, ↓DL.e_itS, ↓DL.e_itStr, ↓DL.e_rng1, ↓DL.e_rev, ↓DL.e_dic0, ↓DL.e_dic1, ↓DL.e_s0, ↓DL.e_s1, ↓DL.e_ct, ↓DL.e_cf, dstart, slot, gN, ↓asB_bl, ↓asI_int, ↓asS_str, cond_true, cond_false, List.map_cons, List.map_nil, List.length_cons, List.length_nil, List.set_cons_zero, List.set_cons_succ, Option.elim_some, Option.elim_none, List.cons_append, List.nil_append, List.replicate, Nat.sub_self, Nat.reduceSub, Nat.reduceAdd, Bool.not_true, Bool.not_false, setAll, Int.cast_ofNat_Int, Int.reduceLT, Int.reduceLE, Int.reduceBEq, Nat.reduceBEq, decide_true, decide_false, ↓DL.pred_s, ↓DL.len_str, ↓DL.len_tup, ↓DL.len_lst, ↓DL.le_ii, ↓DL.le_ss, ↓DL.cmp_ii, ↓DL.add_ii, ↓DL.add_ib, ↓DL.add_bi, ↓DL.add_ss, ↓DL.add_tt, ↓DL.add_ll, ↓DL.sub_ii, ↓DL.sub_ib, ↓DL.sub_bi, ↓DL.mul_ii, ↓DL.ii_ii, ↓DL.neg_i, ↓DL.is_bb, ↓DL.isn_bb, ↓DL.all_b, ↓DL.all_map, ↓DL.sum_i, ↓DL.eq_ii, ↓DL.eq_bi, ↓DL.eq_t0, ↓DL.eq_l0, ↓DL.ne_ss, ↓DL.ne_ii, ↓DL.ne_t0, ↓DL.ne_l0, ↓DL.ix_tup, ↓DL.ix_lst, ↓DL.ix_str, ↓DL.in_c, ↓DL.nin_c, ↓DL.sl_str, ↓DL.sl_tup, ↓DL.sl_lst, ↓DL.app_1, ↓DL.pop_0, ↓DL.ext_t, ↓DL.tuple_l, ↓DL.list_t, ↓DL.list_l, ↓DL.int_b, ↓DL.int_i, ↓DL.min_ii, ↓DL.str_i, ↓DL.str_b, ↓DL.repr_1, ↓DL.back_t, ↓DL.tru_l, ↓DL.at0, ↓DL.at1, ↓DL.at2, ↓DL.at3]
    have hs := hL.2.2
    simp only [sz] at hs
    have hl := small8
    have ll := len_szA ds
    refine lc_grow (fun d => !(tB d)) (fun d => d) (by omega) (fun d hd S2 Q q => ?_) (fun d hd _ S2 Q q => q S2 (.refl S2)) fun S' s' => ?_
    · simp only [↓DL.e_next, ↓DL.e_seq, ↓DL.e_drop, ↓DL.e_ret, ↓DL.e_retN, ↓DL.e_if, ↓DL.e_cont, ↓DL.e_break, ↓DL.e_set, ↓DL.e_asg, ↓DL.e_par, ↓DL.e_setI, ↓DL.e_for, ↓DL.e_var, ↓DL.e_c, ↓DL.e_op, ↓DL.e_un, ↓DL.e_test, ↓DL.e_chain, ↓DL.e_and, ↓DL.e_or, ↓DL.e_not, ↓DL.e_andV, ↓DL.e_orV, ↓DL.e_notV, ↓DL.e_ife, ↓DL.e_nil, ↓DL.e_cons, ↓DL.e_tup, ↓DL.e_lst, ↓DL.e_lstM, ↓DL.e_noPart, ↓DL.e_part, ↓DL.e_sl, ↓DL.e_cb, ↓DL.e_mtL, ↓DL.e_mt0, ↓DL.e_mtS, ↓DL.e_mtS0, ↓DL.e_tru, ↓DL.e_lc, ↓DL.e_itS, ↓DL.e_itStr, ↓DL.e_rng1, ↓DL.e_rev, ↓DL.e_dic0, ↓DL.e_dic1, ↓DL.e_s0, ↓DL.e_s1, ↓DL.e_ct, ↓DL.e_cf, dstart, slot, gN, ↓asB_bl, ↓asI_int, ↓asS_str, cond_true, cond_false, List.map_cons, List.map_nil, List.length_cons, List.length_nil, List.set_cons_zero, List.set_cons_succ, Option.elim_some, Option.elim_none, List.cons_append, List.nil_append, List.replicate, Nat.sub_self, Nat.reduceSub, Nat.reduceAdd, Bool.not_true, Bool.not_false, setAll, Int.cast_ofNat_Int, Int.reduceLT, Int.reduceLE, Int.reduceBEq, Nat.reduceBEq, decide_true, decide_false, ↓DL.pred_s, ↓DL.len_str, ↓DL.len_tup, ↓DL.len_lst, ↓DL.le_ii, ↓DL.le_ss, ↓DL.cmp_ii, ↓DL.add_ii, ↓DL.add_ib, ↓DL.add_bi, ↓DL.add_ss, ↓DL.add_tt, ↓DL.add_ll, ↓DL.sub_ii, ↓DL.sub_ib, ↓DL.sub_bi, ↓DL.mul_ii, ↓DL.ii_ii, ↓DL.neg_i, ↓DL.is_bb, ↓DL.isn_bb, ↓DL.all_b, ↓DL.all_map, ↓DL.sum_i, ↓DL.eq_ii, ↓DL.eq_bi, ↓DL.eq_t0, ↓DL.eq_l0, ↓DL.ne_ss, ↓DL.ne_ii, ↓DL.ne_t0, ↓DL.ne_l0, ↓DL.ix_tup, ↓DL.ix_lst, ↓DL.ix_str, ↓DL.in_c, ↓DL.nin_c, ↓DL.sl_str, ↓DL.sl_tup, ↓DL.sl_lst, ↓DL.app_1, ↓DL.pop_0, ↓DL.ext_t, ↓DL.tuple_l, ↓DL.list_t, ↓DL.list_l, ↓DL.int_b, ↓DL.int_i, ↓DL.min_ii, ↓DL.str_i, ↓DL.str_b, ↓DL.repr_1, ↓DL.back_t, ↓DL.tru_l, ↓DL.at0, ↓DL.at1, ↓DL.at2, ↓DL.at3]
      exact ⟨d, rfl, hL.mem hd, q⟩
    · refine ⟨by omega, ?_⟩
      rw [List.map_id', DL.eq_l0, lc_empty]
      have h := h S' s'
      rw [tsB_tup] at h
      simp only [Bool.not_not]
      exact h
  | _ => exact h S (.refl S)
abbrev st_l_is_term : Stmt := top 31
theorem sc_l_is_term : FnScope ["_law_thing", "_law_word", "_law_many", "_law_good"] ["_law_thing"] (defScope st_l_is_term) := ⟨rfl, rfl, rfl, by decide +kernel, rfl, by decide +kernel, by decide +kernel⟩
theorem tB_word {wd : D} {r : List D} (h : isS wd = false) : tB (.tup (wd :: r)) = false := by
  have e : ∀ z : Str, eqT wd z = false := fun z => by cases wd <;> first | rfl | cases h
  have m : ∀ zs, memS wd zs = false := fun zs => by cases wd <;> first | rfl | cases h
  apply tB_not
  show hfA (wd :: r) = false
  match r with
  | [] => rfl
  | [x] => show hf2 wd x = false; unfold hf2; rw [e, e, e]; rfl
  | [x, y] => show hf3 wd x y = false; unfold hf3; rw [e, e, e, m, m]; rfl
  | [x, y, z] => show hf4 wd x y z = false; unfold hf4; rw [e, e, e, m, m, e]; rfl
  | _ :: _ :: _ :: _ :: _ => rfl
/-- the law's look, by its own words -/
def lookB (z : Str) (r : List D) : Bool := tB (.tup (.str z :: r))
theorem look0 {z : Str} : lookB z [] = false := tB_not rfl
theorem look2 {z : Str} {x : D} : lookB z [x] = hf2 (.str z) x := by
  show (info (.tup [.str z, x])).1 = _
  simp only [info, infoA, subB, Bool.and_true]
  rfl
theorem look3 {z : Str} {x y : D} : lookB z [x, y] = (hf3 (.str z) x y && tsB y) := by
  show (info (.tup [.str z, x, y])).1 = _
  simp only [info, infoA, subB]
  rfl
theorem look4 {z : Str} {x y t : D} : lookB z [x, y, t] = (hf4 (.str z) x y t && (bif memS (.str z) tfg then tB y && tB t else tsB t)) := by
  show (info (.tup [.str z, x, y, t])).1 = _
  simp only [info, infoA, subB]
  rfl
theorem look_long {z : Str} {a b c e : D} {r : List D} : lookB z (a :: b :: c :: e :: r) = false := tB_not rfl
/-- the words' own answers -/
theorem words2 : ∀ z ∈ (["at", "world", "hole"] : List Str), memS (.str z) tfg = false ∧ memS (.str z) fc = false ∧ eqT (.str z) "shape" = false ∧ (eqT (.str z) "at" || eqT (.str z) "world" || eqT (.str z) "hole") = true := by decide +kernel
theorem words4 : ∀ z ∈ (["to", "fun", "give", "shape"] : List Str), eqT (.str z) "at" = false ∧ eqT (.str z) "world" = false ∧ eqT (.str z) "hole" = false ∧ memS (.str z) fc = false := by decide +kernel
theorem words3 : ∀ z ∈ fc, eqT (.str z) "at" = false ∧ eqT (.str z) "world" = false ∧ eqT (.str z) "hole" = false ∧ memS (.str z) tfg = false ∧ memS (.str z) fc = true ∧ eqT (.str z) "shape" = false := by decide +kernel
theorem len2_no {z : Str} {r : List D} (hz : z ∈ (["at", "world", "hole"] : List Str)) (h : r.length ≠ 1) : lookB z r = false := by
  obtain ⟨a, b, c, e⟩ := words2 z hz
  match r, h with
  | [], _ => exact look0
  | [_], h => exact absurd rfl h
  | [x, y], _ => rw [look3]; unfold hf3; revert e; rw [a, b]; cases eqT (.str z) "at" <;> cases eqT (.str z) "world" <;> cases eqT (.str z) "hole" <;> simp
  | [x, y, t], _ => rw [look4]; unfold hf4; revert e; rw [a, b, c]; cases eqT (.str z) "at" <;> cases eqT (.str z) "world" <;> cases eqT (.str z) "hole" <;> simp
  | _ :: _ :: _ :: _ :: _, _ => exact look_long
theorem len4_no {z : Str} {r : List D} (hz : z ∈ (["to", "fun", "give", "shape"] : List Str)) (h : r.length ≠ 3) : lookB z r = false := by
  obtain ⟨a, b, c, e⟩ := words4 z hz
  match r, h with
  | [], _ => exact look0
  | [x], _ => rw [look2]; unfold hf2; rw [a, b, c]; rfl
  | [x, y], _ => rw [look3]; unfold hf3; rw [a, b, c, e]; cases memS (.str z) tfg <;> rfl
  | [_, _, _], h => exact absurd rfl h
  | _ :: _ :: _ :: _ :: _, _ => exact look_long
theorem len3_no {z : Str} {r : List D} (hz : z ∈ fc) (h : r.length ≠ 2) : lookB z r = false := by
  obtain ⟨a, b, c, e, f, g⟩ := words3 z hz
  match r, h with
  | [], _ => exact look0
  | [x], _ => rw [look2]; unfold hf2; rw [a, b, c]; rfl
  | [_, _], h => exact absurd rfl h
  | [x, y, t], _ => rw [look4]; unfold hf4; rw [a, b, c, e, f]; rfl
  | _ :: _ :: _ :: _ :: _, _ => exact look_long
theorem other_no {z : Str} {r : List D} (h : memS (.str z) ["at", "world"] = false) (h1 : memS (.str z) tfg = false) (h2 : eqT (.str z) "hole" = false) (h3 : memS (.str z) ["family", "call", "shape"] = false) : lookB z r = false := by
  have a : eqT (.str z) "at" = false := by
    by_cases q : z = "at"
    · subst q; revert h; decide +kernel
    · exact beq_eq_false_iff_ne.mpr q
  have b : eqT (.str z) "world" = false := by
    by_cases q : z = "world"
    · subst q; revert h; decide +kernel
    · exact beq_eq_false_iff_ne.mpr q
  have c : eqT (.str z) "shape" = false := by
    by_cases q : z = "shape"
    · subst q; revert h3; decide +kernel
    · exact beq_eq_false_iff_ne.mpr q
  have d : memS (.str z) fc = false := by
    by_cases q : z = "family"
    · subst q; revert h3; decide +kernel
    · by_cases q2 : z = "call"
      · subst q2; revert h3; decide +kernel
      · show ((("family" : Str) == z) || ((("call" : Str) == z) || false)) = false
        rw [beq_eq_false_iff_ne.mpr (Ne.symm q), beq_eq_false_iff_ne.mpr (Ne.symm q2)]; rfl
  match r with
  | [] => exact look0
  | [x] => rw [look2]; unfold hf2; rw [a, b, h2]; rfl
  | [x, y] => rw [look3]; unfold hf3; rw [a, b, h2, h1, d]; rfl
  | [x, y, t] => rw [look4]; unfold hf4; rw [a, b, h2, h1, d, c]; rfl
  | _ :: _ :: _ :: _ :: _ => exact look_long
theorem tsB_no {t : D} (h : isTu t = false) : tsB t = false := by cases t <;> first | rfl | cases h
theorem shape_is {x y t : D} : lookB "shape" [x, y, t] = (calledB x && (nameB y && tsB t)) := by
  obtain ⟨a, b, c, e⟩ := words4 "shape" (by simp)
  rw [look4]
  unfold hf4
  rw [a, b, c, e, show memS (.str "shape") tfg = false by decide +kernel, show eqT (.str "shape") "shape" = true by decide +kernel]
  cases q : isTu t with
  | true => cases calledB x <;> cases nameB y <;> rfl
  | false => rw [tsB_no q]; cases calledB x <;> cases nameB y <;> rfl
theorem fc_is {z : Str} (hz : z ∈ fc) {x y : D} : lookB z [x, y] = (calledB x && tsB y) := by
  obtain ⟨a, b, c, e, f, g⟩ := words3 z hz
  rw [look3]
  unfold hf3
  rw [a, b, c, e, f]
  cases q : isTu y with
  | true => cases calledB x <;> rfl
  | false => rw [tsB_no q]; cases calledB x <;> rfl
theorem len_is {r : List D} {k : Nat} (h : r.length ≠ k) : (((r.length + 1 : Nat) : Int) == ((k + 1 : Nat) : Int)) = false := beq_eq_false_iff_ne.mpr (by omega)
theorem mem_cases {z : Str} {zs : List Str} (h : memS (.str z) zs = true) : z ∈ zs := by
  have h : zs.any (fun y => y == z) = true := h
  obtain ⟨y, hy, e⟩ := List.any_eq_true.mp h
  rw [← eq_of_beq e]; exact hy
theorem good_ok2' {d : D} (h : good 9 d = true) : ok2 d = true := good_ok2 (by decide) h
theorem ok_l_is_term {k : Nat} {n:Nat} (DD : Def K mg "_law_is_term" st_l_is_term ["_law_thing"]) (G__law_are_terms : Has P w K mg base (k) "_law_are_terms" ["_law_thing"] (sp_l_are_terms n)) (G__law_is_name : Has P w K mg base (k) "_law_is_name" ["_law_thing"] (sp_l_is_name)) (G__law_is_far : Has P w K mg base (k) "_law_is_far" ["_law_thing"] (sp_l_is_far)) (G__law_is_term : Has P w K mg base (k) "_law_is_term" ["_law_thing"] (sp_l_is_term n)) (G__law_is_mark : Has P w K mg base (k) "_law_is_mark" ["_law_thing"] (sp_l_is_mark)) (G__law_is_whole : Has P w K mg base (k) "_law_is_whole" ["_law_thing"] (sp_l_is_whole)) (m_int : mg "int" = none) (m_len : mg "len" = none) (m_isinstance : mg "isinstance" = none) (m_str : mg "str" = none) (m_tuple : mg "tuple" = none) : Has P w K mg base (k + 1) "_law_is_term" ["_law_thing"] (sp_l_is_term (n+1)) := by
  refine DD.has sc_l_is_term (fun ds S P h => len_l_is_term h) (fun f cdv A outer s H hr hgd => ⟨_, (ss_cons (s_if (t_w (w_or (t_not (t_val (q_callB (c_isi) rfl m_isinstance DL.bb_isi (a_cons (q_var 0) (a_cons (q_ty rfl m_tuple DL.bt_tuple) a_nil))))) (w_or (t_cmp (op_eqD (DL.Room.un1 hr)) (q_var 0) (q_tup a_nil)) (w_or1 (t_not (t_val (q_callB (c_isi) rfl m_isinstance DL.bb_isi (a_cons (q_ix ix_D (q_var 0) q_int) (a_cons (q_ty rfl m_str DL.bt_str) a_nil))))))))) (ss_one (s_ret q_bl)) ss_nil)
      (ss_cons (s_par 1 2 rfl sc_l_is_term.nd (a_cons (q_ix ix_D (q_var 0) q_int) (a_cons (q_callB (c_len) rfl m_len PySem.boot_len (a_cons (q_var 0) a_nil)) a_nil)))
      (ss_cons (s_if (t_cmp (op_inD (DL.Room.un0 hr)) (q_var 1) (q_tup (a_cons q_str (a_cons q_str a_nil)))) (ss_cons (s_set 3 sc_l_is_term.nd (q_and (q_cmp (op_eqD (DL.Room.un1 hr)) (q_var 2) q_int) (q_and (q_def G__law_is_whole (hr.mono (by omega)) hgd (a_cons (q_ix ix_D (q_var 0) q_int) a_nil)) (q_one (q_cmp op_geD (q_ix ix_D (q_var 0) q_int) q_int)))))
      (ss_one (s_ret (q_and (q_var 3) (q_one (q_or (q_cmp (op_eqD (DL.Room.un1 hr)) (q_var 1) q_str) (q_one (q_cmp op_ltD (q_ix ix_D (q_var 0) q_int) q_int)))))))) ss_nil)
      (ss_cons (s_if (t_cmp (op_inD (DL.Room.un0 hr)) (q_var 1) (q_tup (a_cons q_str (a_cons q_str (a_cons q_str a_nil))))) (ss_one (s_ret (q_and (q_cmp (op_eqD (DL.Room.un1 hr)) (q_var 2) q_int) (q_and (q_def G__law_is_mark (hr.mono (by omega)) hgd (a_cons (q_ix ix_D (q_var 0) q_int) a_nil)) (q_and (q_def G__law_is_term (hr.mono (by omega)) hgd (a_cons (q_ix ix_D (q_var 0) q_int) a_nil)) (q_one (q_def G__law_is_term (hr.mono (by omega)) hgd (a_cons (q_ix ix_D (q_var 0) q_int) a_nil)))))))) ss_nil)
      (ss_cons (s_if (t_cmp (op_eqD (DL.Room.un1 hr)) (q_var 1) q_str) (ss_one (s_ret (q_and (q_cmp (op_eqD (DL.Room.un1 hr)) (q_var 2) q_int) (q_one (q_def G__law_is_name (hr.mono (by omega)) hgd (a_cons (q_ix ix_D (q_var 0) q_int) a_nil)))))) ss_nil)
      (ss_cons (s_if (t_w (w_or (t_cmp (op_notInD (DL.Room.un0 hr)) (q_var 1) (q_tup (a_cons q_str (a_cons q_str (a_cons q_str a_nil))))) (w_or1 (t_cmp (op_neD (DL.Room.un1 hr)) (q_var 2) (q_op op_addD q_int (q_callTy (c_int) rfl m_int DL.bt_int (a_cons (q_cmp (op_eqD (DL.Room.un1 hr)) (q_var 1) q_str) a_nil))))))) (ss_one (s_ret q_bl)) ss_nil)
      (ss_cons (s_if (t_w (w_and (t_not (t_val (q_def G__law_is_name (hr.mono (by omega)) hgd (a_cons (q_ix ix_D (q_var 0) q_int) a_nil)))) (w_and1 (t_not (t_val (q_def G__law_is_far (hr.mono (by omega)) hgd (a_cons (q_ix ix_D (q_var 0) q_int) a_nil))))))) (ss_one (s_ret q_bl)) ss_nil)
      (ss_one (s_ret (q_and (q_or (q_cmp (op_neD (DL.Room.un1 hr)) (q_var 1) q_str) (q_one (q_def G__law_is_name (hr.mono (by omega)) hgd (a_cons (q_ix ix_D (q_var 0) q_int) a_nil)))) (q_one (q_def G__law_are_terms (hr.mono (by omega)) hgd (a_cons (q_ix ix_D (q_var 0) (q_un un_negD q_int)) a_nil))))))))))))), fun ds S P h => ?_⟩)
  obtain ⟨d, rfl, hL, h⟩ := h
  have hf := good_flat hL.1
  refine seq_gen fun M hM => ?_
  refine if_gen fun M1 M2 e1 e2 => ?_
  simp only [↓DL.e_next, ↓DL.e_seq, ↓DL.e_drop, ↓DL.e_ret, ↓DL.e_retN, ↓DL.e_if, ↓DL.e_cont, ↓DL.e_break, ↓DL.e_set, ↓DL.e_asg, ↓DL.e_par, ↓DL.e_setI, ↓DL.e_for, ↓DL.e_var, ↓DL.e_c, ↓DL.e_op, ↓DL.e_un, ↓DL.e_test, ↓DL.e_chain, ↓DL.e_and, ↓DL.e_or, ↓DL.e_not, ↓DL.e_andV, ↓DL.e_orV, ↓DL.e_notV, ↓DL.e_ife, ↓DL.e_nil, ↓DL.e_cons, ↓DL.e_tup, ↓DL.e_lst, ↓DL.e_lstM, ↓DL.e_noPart, ↓DL.e_part, ↓DL.e_sl, ↓DL.e_cb, ↓DL.e_mtL, ↓DL.e_mt0, ↓DL.e_mtS, ↓DL.e_mtS0, ↓DL.e_tru, ↓DL.e_lc, ↓DL.e_itS, ↓DL.e_itStr, ↓DL.e_rng1, ↓DL.e_rev, ↓DL.e_dic0, ↓DL.e_dic1, ↓DL.e_s0, ↓DL.e_s1, ↓DL.e_ct, ↓DL.e_cf, dstart, slot, gN, ↓asB_bl, ↓asI_int, ↓asS_str, cond_true, cond_false, List.map_cons, List.map_nil, List.length_cons, List.length_nil, List.set_cons_zero, List.set_cons_succ, Option.elim_some, Option.elim_none, List.cons_append, List.nil_append, List.replicate, Nat.sub_self, Nat.reduceSub, Nat.reduceAdd, Bool.not_true, Bool.not_false, setAll, Int.cast_ofNat_Int, Int.reduceLT, Int.reduceLE, Int.reduceBEq, Nat.reduceBEq, decide_true, decide_false, ↓DL.pred_s, ↓DL.len_str, ↓DL.len_tup, ↓DL.len_lst, ↓DL.le_ii, ↓DL.le_ss, ↓DL.cmp_ii, ↓DL.add_ii, ↓DL.add_ib, ↓DL.add_bi, ↓DL.add_ss, ↓DL.add_tt, ↓DL.add_ll, ↓DL.sub_ii, ↓DL.sub_ib, ↓DL.sub_bi, ↓DL.mul_ii, ↓DL.ii_ii, ↓DL.neg_i, ↓DL.is_bb, ↓DL.isn_bb, ↓DL.all_b, ↓DL.all_map, ↓DL.sum_i, ↓DL.eq_ii, ↓DL.eq_bi, ↓DL.eq_t0, ↓DL.eq_l0, ↓DL.ne_ss, ↓DL.ne_ii, ↓DL.ne_t0, ↓DL.ne_l0, ↓DL.ix_tup, ↓DL.ix_lst, ↓DL.ix_str, ↓DL.in_c, ↓DL.nin_c, ↓DL.sl_str, ↓DL.sl_tup, ↓DL.sl_lst, ↓DL.app_1, ↓DL.pop_0, ↓DL.ext_t, ↓DL.tuple_l, ↓DL.list_t, ↓DL.list_l, ↓DL.int_b, ↓DL.int_i, ↓DL.min_ii, ↓DL.str_i, ↓DL.str_b, ↓DL.repr_1, ↓DL.back_t, ↓DL.tru_l, ↓DL.at0, ↓DL.at1, ↓DL.at2, ↓DL.at3]
  have no : tB d = false → ∀ S', Step [] S S' → M1 S' := fun q S' s' => by
    subst e1
    have h := h S' s'
    rw [q] at h
    exact h
  rw [DL.isi_tup hf]
  simp only [↓DL.e_next, ↓DL.e_seq, ↓DL.e_drop, ↓DL.e_ret, ↓DL.e_retN, ↓DL.e_if, ↓DL.e_cont, ↓DL.e_break, ↓DL.e_set, ↓DL.e_asg, ↓DL.e_par, ↓DL.e_setI, ↓DL.e_for, ↓DL.e_var, ↓DL.e_c, ↓DL.e_op, ↓DL.e_un, ↓DL.e_test, ↓DL.e_chain, ↓DL.e_and, ↓DL.e_or, ↓DL.e_not, ↓DL.e_andV, ↓DL.e_orV, ↓DL.e_notV, ↓DL.e_ife, ↓DL.e_nil, ↓DL.e_cons, ↓DL.e_tup, ↓DL.e_lst, ↓DL.e_lstM, ↓DL.e_noPart, ↓DL.e_part, ↓DL.e_sl, ↓DL.e_cb, ↓DL.e_mtL, ↓DL.e_mt0, ↓DL.e_mtS, ↓DL.e_mtS0, ↓DL.e_tru, ↓DL.e_lc, ↓DL.e_itS, ↓DL.e_itStr, ↓DL.e_rng1, ↓DL.e_rev, ↓DL.e_dic0, ↓DL.e_dic1, ↓DL.e_s0, ↓DL.e_s1, ↓DL.e_ct, ↓DL.e_cf, dstart, slot, gN, ↓asB_bl, ↓asI_int, ↓asS_str, cond_true, cond_false, List.map_cons, List.map_nil, List.length_cons, List.length_nil, List.set_cons_zero, List.set_cons_succ, Option.elim_some, Option.elim_none, List.cons_append, List.nil_append, List.replicate, Nat.sub_self, Nat.reduceSub, Nat.reduceAdd, Bool.not_true, Bool.not_false, setAll, Int.cast_ofNat_Int, Int.reduceLT, Int.reduceLE, Int.reduceBEq, Nat.reduceBEq, decide_true, decide_false, ↓DL.pred_s, ↓DL.len_str, ↓DL.len_tup, ↓DL.len_lst, ↓DL.le_ii, ↓DL.le_ss, ↓DL.cmp_ii, ↓DL.add_ii, ↓DL.add_ib, ↓DL.add_bi, ↓DL.add_ss, ↓DL.add_tt, ↓DL.add_ll, ↓DL.sub_ii, ↓DL.sub_ib, ↓DL.sub_bi, ↓DL.mul_ii, ↓DL.ii_ii, ↓DL.neg_i, ↓DL.is_bb, ↓DL.isn_bb, ↓DL.all_b, ↓DL.all_map, ↓DL.sum_i, ↓DL.eq_ii, ↓DL.eq_bi, ↓DL.eq_t0, ↓DL.eq_l0, ↓DL.ne_ss, ↓DL.ne_ii, ↓DL.ne_t0, ↓DL.ne_l0, ↓DL.ix_tup, ↓DL.ix_lst, ↓DL.ix_str, ↓DL.in_c, ↓DL.nin_c, ↓DL.sl_str, ↓DL.sl_tup, ↓DL.sl_lst, ↓DL.app_1, ↓DL.pop_0, ↓DL.ext_t, ↓DL.tuple_l, ↓DL.list_t, ↓DL.list_l, ↓DL.int_b, ↓DL.int_i, ↓DL.min_ii, ↓DL.str_i, ↓DL.str_b, ↓DL.repr_1, ↓DL.back_t, ↓DL.tru_l, ↓DL.at0, ↓DL.at1, ↓DL.at2, ↓DL.at3]
  cases d with
  | tup ds =>
    simp only [DL.isTu]
    simp only [↓DL.e_next, ↓DL.e_seq, ↓DL.e_drop, ↓DL.e_ret, ↓DL.e_retN, ↓DL.e_if, ↓DL.e_cont, ↓DL.e_break, ↓DL.e_set, ↓DL.e_asg, ↓DL.e_par, ↓DL.e_setI, ↓DL.e_for, ↓DL.e_var, ↓DL.e_c, ↓DL.e_op, ↓DL.e_un, ↓DL.e_test, ↓DL.e_chain, ↓DL.e_and, ↓DL.e_or, ↓DL.e_not, ↓DL.e_andV, ↓DL.e_orV, ↓DL.e_notV, ↓DL.e_ife, ↓DL.e_nil, ↓DL.e_cons, ↓DL.e_tup, ↓DL.e_lst, ↓DL.e_lstM, ↓DL.e_noPart, ↓DL.e_part, ↓DL.e_sl, ↓DL.e_cb, ↓DL.e_mtL, ↓DL.e_mt0, ↓DL.e_mtS, ↓DL.e_mtS0, ↓DL.e_tru, ↓DL.e_lc, ↓DL.e_itS, ↓DL.e_itStr, ↓DL.e_rng1, ↓DL.e_rev, ↓DL.e_dic0, ↓DL.e_dic1, ↓DL.e_s0, ↓DL.e_s1, ↓DL.e_ct, ↓DL.e_cf, dstart, slot, gN, ↓asB_bl, ↓asI_int, ↓asS_str, cond_true, cond_false, List.map_cons, List.map_nil, List.length_cons, List.length_nil, List.set_cons_zero, List.set_cons_succ, Option.elim_some, Option.elim_none, List.cons_append, List.nil_append, List.replicate, Nat.sub_self, Nat.reduceSub, Nat.reduceAdd, Bool.not_true, Bool.not_false, setAll, Int.cast_ofNat_Int, Int.reduceLT, Int.reduceLE, Int.reduceBEq, Nat.reduceBEq, decide_true, decide_false, ↓DL.pred_s, ↓DL.len_str, ↓DL.len_tup, ↓DL.len_lst, ↓DL.le_ii, ↓DL.le_ss, ↓DL.cmp_ii, ↓DL.add_ii, ↓DL.add_ib, ↓DL.add_bi, ↓DL.add_ss, ↓DL.add_tt, ↓DL.add_ll, ↓DL.sub_ii, ↓DL.sub_ib, ↓DL.sub_bi, ↓DL.mul_ii, ↓DL.ii_ii, ↓DL.neg_i, ↓DL.is_bb, ↓DL.isn_bb, ↓DL.all_b, ↓DL.all_map, ↓DL.sum_i, ↓DL.eq_ii, ↓DL.eq_bi, ↓DL.eq_t0, ↓DL.eq_l0, ↓DL.ne_ss, ↓DL.ne_ii, ↓DL.ne_t0, ↓DL.ne_l0, ↓DL.ix_tup, ↓DL.ix_lst, ↓DL.ix_str, ↓DL.in_c, ↓DL.nin_c, ↓DL.sl_str, ↓DL.sl_tup, ↓DL.sl_lst, ↓DL.app_1, ↓DL.pop_0, ↓DL.ext_t, ↓DL.tuple_l, ↓DL.list_t, ↓DL.list_l, ↓DL.int_b, ↓DL.int_i, ↓DL.min_ii, ↓DL.str_i, ↓DL.str_b, ↓DL.repr_1, ↓DL.back_t, ↓DL.tru_l, ↓DL.at0, ↓DL.at1, ↓DL.at2, ↓DL.at3]
    refine ⟨by decide, ?_⟩
    cases ds with
    | nil => exact no rfl S (.refl S)
    | cons wd r =>
      simp only [List.isEmpty_cons]
      simp only [↓DL.e_next, ↓DL.e_seq, ↓DL.e_drop, ↓DL.e_ret, ↓DL.e_retN, ↓DL.e_if, ↓DL.e_cont, ↓DL.e_break, ↓DL.e_set, ↓DL.e_asg, ↓DL.e_par, ↓DL.e_setI, ↓DL.e_for, ↓DL.e_var, ↓DL.e_c, ↓DL.e_op, ↓DL.e_un, ↓DL.e_test, ↓DL.e_chain, ↓DL.e_and, ↓DL.e_or, ↓DL.e_not, ↓DL.e_andV, ↓DL.e_orV, ↓DL.e_notV, ↓DL.e_ife, ↓DL.e_nil, ↓DL.e_cons, ↓DL.e_tup, ↓DL.e_lst, ↓DL.e_lstM, ↓DL.e_noPart, ↓DL.e_part, ↓DL.e_sl, ↓DL.e_cb, ↓DL.e_mtL, ↓DL.e_mt0, ↓DL.e_mtS, ↓DL.e_mtS0, ↓DL.e_tru, ↓DL.e_lc, ↓DL.e_itS, ↓DL.e_itStr, ↓DL.e_rng1, ↓DL.e_rev, ↓DL.e_dic0, ↓DL.e_dic1, ↓DL.e_s0, ↓DL.e_s1, ↓DL.e_ct, ↓DL.e_cf, dstart, slot, gN, ↓asB_bl, ↓asI_int, ↓asS_str, cond_true, cond_false, List.map_cons, List.map_nil, List.length_cons, List.length_nil, List.set_cons_zero, List.set_cons_succ, Option.elim_some, Option.elim_none, List.cons_append, List.nil_append, List.replicate, Nat.sub_self, Nat.reduceSub, Nat.reduceAdd, Bool.not_true, Bool.not_false, setAll, Int.cast_ofNat_Int, Int.reduceLT, Int.reduceLE, Int.reduceBEq, Nat.reduceBEq, decide_true, decide_false, ↓DL.pred_s, ↓DL.len_str, ↓DL.len_tup, ↓DL.len_lst, ↓DL.le_ii, ↓DL.le_ss, ↓DL.cmp_ii, ↓DL.add_ii, ↓DL.add_ib, ↓DL.add_bi, ↓DL.add_ss, ↓DL.add_tt, ↓DL.add_ll, ↓DL.sub_ii, ↓DL.sub_ib, ↓DL.sub_bi, ↓DL.mul_ii, ↓DL.ii_ii, ↓DL.neg_i, ↓DL.is_bb, ↓DL.isn_bb, ↓DL.all_b, ↓DL.all_map, ↓DL.sum_i, ↓DL.eq_ii, ↓DL.eq_bi, ↓DL.eq_t0, ↓DL.eq_l0, ↓DL.ne_ss, ↓DL.ne_ii, ↓DL.ne_t0, ↓DL.ne_l0, ↓DL.ix_tup, ↓DL.ix_lst, ↓DL.ix_str, ↓DL.in_c, ↓DL.nin_c, ↓DL.sl_str, ↓DL.sl_tup, ↓DL.sl_lst, ↓DL.app_1, ↓DL.pop_0, ↓DL.ext_t, ↓DL.tuple_l, ↓DL.list_t, ↓DL.list_l, ↓DL.int_b, ↓DL.int_i, ↓DL.min_ii, ↓DL.str_i, ↓DL.str_b, ↓DL.repr_1, ↓DL.back_t, ↓DL.tru_l, ↓DL.at0, ↓DL.at1, ↓DL.at2, ↓DL.at3]
      have gw := hL.mem (List.mem_cons_self (a := wd) (l := r))
      rw [DL.isi_str (good_flat gw.1)]
      simp only [↓DL.e_next, ↓DL.e_seq, ↓DL.e_drop, ↓DL.e_ret, ↓DL.e_retN, ↓DL.e_if, ↓DL.e_cont, ↓DL.e_break, ↓DL.e_set, ↓DL.e_asg, ↓DL.e_par, ↓DL.e_setI, ↓DL.e_for, ↓DL.e_var, ↓DL.e_c, ↓DL.e_op, ↓DL.e_un, ↓DL.e_test, ↓DL.e_chain, ↓DL.e_and, ↓DL.e_or, ↓DL.e_not, ↓DL.e_andV, ↓DL.e_orV, ↓DL.e_notV, ↓DL.e_ife, ↓DL.e_nil, ↓DL.e_cons, ↓DL.e_tup, ↓DL.e_lst, ↓DL.e_lstM, ↓DL.e_noPart, ↓DL.e_part, ↓DL.e_sl, ↓DL.e_cb, ↓DL.e_mtL, ↓DL.e_mt0, ↓DL.e_mtS, ↓DL.e_mtS0, ↓DL.e_tru, ↓DL.e_lc, ↓DL.e_itS, ↓DL.e_itStr, ↓DL.e_rng1, ↓DL.e_rev, ↓DL.e_dic0, ↓DL.e_dic1, ↓DL.e_s0, ↓DL.e_s1, ↓DL.e_ct, ↓DL.e_cf, dstart, slot, gN, ↓asB_bl, ↓asI_int, ↓asS_str, cond_true, cond_false, List.map_cons, List.map_nil, List.length_cons, List.length_nil, List.set_cons_zero, List.set_cons_succ, Option.elim_some, Option.elim_none, List.cons_append, List.nil_append, List.replicate, Nat.sub_self, Nat.reduceSub, Nat.reduceAdd, Bool.not_true, Bool.not_false, setAll, Int.cast_ofNat_Int, Int.reduceLT, Int.reduceLE, Int.reduceBEq, Nat.reduceBEq, decide_true, decide_false, ↓DL.pred_s, ↓DL.len_str, ↓DL.len_tup, ↓DL.len_lst, ↓DL.le_ii, ↓DL.le_ss, ↓DL.cmp_ii, ↓DL.add_ii, ↓DL.add_ib, ↓DL.add_bi, ↓DL.add_ss, ↓DL.add_tt, ↓DL.add_ll, ↓DL.sub_ii, ↓DL.sub_ib, ↓DL.sub_bi, ↓DL.mul_ii, ↓DL.ii_ii, ↓DL.neg_i, ↓DL.is_bb, ↓DL.isn_bb, ↓DL.all_b, ↓DL.all_map, ↓DL.sum_i, ↓DL.eq_ii, ↓DL.eq_bi, ↓DL.eq_t0, ↓DL.eq_l0, ↓DL.ne_ss, ↓DL.ne_ii, ↓DL.ne_t0, ↓DL.ne_l0, ↓DL.ix_tup, ↓DL.ix_lst, ↓DL.ix_str, ↓DL.in_c, ↓DL.nin_c, ↓DL.sl_str, ↓DL.sl_tup, ↓DL.sl_lst, ↓DL.app_1, ↓DL.pop_0, ↓DL.ext_t, ↓DL.tuple_l, ↓DL.list_t, ↓DL.list_l, ↓DL.int_b, ↓DL.int_i, ↓DL.min_ii, ↓DL.str_i, ↓DL.str_b, ↓DL.repr_1, ↓DL.back_t, ↓DL.tru_l, ↓DL.at0, ↓DL.at1, ↓DL.at2, ↓DL.at3]
      cases hS : isS wd with
      | false =>
        refine no (tB_word hS) S (.refl S)
      | true =>
        obtain ⟨z, rfl⟩ : ∃ z, wd = .str z := by
          cases wd with
          | str z => exact ⟨z, rfl⟩
          | _ => cases hS
        clear e1
        subst e2
        subst hM
        simp only [↓DL.e_next, ↓DL.e_seq, ↓DL.e_drop, ↓DL.e_ret, ↓DL.e_retN, ↓DL.e_if, ↓DL.e_cont, ↓DL.e_break, ↓DL.e_set, ↓DL.e_asg, ↓DL.e_par, ↓DL.e_setI, ↓DL.e_for, ↓DL.e_var, ↓DL.e_c, ↓DL.e_op, ↓DL.e_un, ↓DL.e_test, ↓DL.e_chain, ↓DL.e_and, ↓DL.e_or, ↓DL.e_not, ↓DL.e_andV, ↓DL.e_orV, ↓DL.e_notV, ↓DL.e_ife, ↓DL.e_nil, ↓DL.e_cons, ↓DL.e_tup, ↓DL.e_lst, ↓DL.e_lstM, ↓DL.e_noPart, ↓DL.e_part, ↓DL.e_sl, ↓DL.e_cb, ↓DL.e_mtL, ↓DL.e_mt0, ↓DL.e_mtS, ↓DL.e_mtS0, ↓DL.e_tru, ↓DL.e_lc, ↓DL.e_itS, ↓DL.e_itStr, ↓DL.e_rng1, ↓DL.e_rev, ↓DL.e_dic0, ↓DL.e_dic1, ↓DL.e_s0, ↓DL.e_s1, ↓DL.e_ct, ↓DL.e_cf, dstart, slot, gN, ↓asB_bl, ↓asI_int, ↓asS_str, cond_true, cond_false, List.map_cons, List.map_nil, List.length_cons, List.length_nil, List.set_cons_zero, List.set_cons_succ, Option.elim_some, Option.elim_none, List.cons_append, List.nil_append, List.replicate, Nat.sub_self, Nat.reduceSub, Nat.reduceAdd, Bool.not_true, Bool.not_false, setAll, Int.cast_ofNat_Int, Int.reduceLT, Int.reduceLE, Int.reduceBEq, Nat.reduceBEq, decide_true, decide_false, ↓DL.pred_s, ↓DL.len_str, ↓DL.len_tup, ↓DL.len_lst, ↓DL.le_ii, ↓DL.le_ss, ↓DL.cmp_ii, ↓DL.add_ii, ↓DL.add_ib, ↓DL.add_bi, ↓DL.add_ss, ↓DL.add_tt, ↓DL.add_ll, ↓DL.sub_ii, ↓DL.sub_ib, ↓DL.sub_bi, ↓DL.mul_ii, ↓DL.ii_ii, ↓DL.neg_i, ↓DL.is_bb, ↓DL.isn_bb, ↓DL.all_b, ↓DL.all_map, ↓DL.sum_i, ↓DL.eq_ii, ↓DL.eq_bi, ↓DL.eq_t0, ↓DL.eq_l0, ↓DL.ne_ss, ↓DL.ne_ii, ↓DL.ne_t0, ↓DL.ne_l0, ↓DL.ix_tup, ↓DL.ix_lst, ↓DL.ix_str, ↓DL.in_c, ↓DL.nin_c, ↓DL.sl_str, ↓DL.sl_tup, ↓DL.sl_lst, ↓DL.app_1, ↓DL.pop_0, ↓DL.ext_t, ↓DL.tuple_l, ↓DL.list_t, ↓DL.list_l, ↓DL.int_b, ↓DL.int_i, ↓DL.min_ii, ↓DL.str_i, ↓DL.str_b, ↓DL.repr_1, ↓DL.back_t, ↓DL.tru_l, ↓DL.at0, ↓DL.at1, ↓DL.at2, ↓DL.at3]
        have h : ∀ S', Step [] S S' → P (.bl (lookB z r)) S' := h
        refine ⟨by decide, ?_⟩
        rw [DL.in_tt rfl rfl]
        simp only [↓DL.e_next, ↓DL.e_seq, ↓DL.e_drop, ↓DL.e_ret, ↓DL.e_retN, ↓DL.e_if, ↓DL.e_cont, ↓DL.e_break, ↓DL.e_set, ↓DL.e_asg, ↓DL.e_par, ↓DL.e_setI, ↓DL.e_for, ↓DL.e_var, ↓DL.e_c, ↓DL.e_op, ↓DL.e_un, ↓DL.e_test, ↓DL.e_chain, ↓DL.e_and, ↓DL.e_or, ↓DL.e_not, ↓DL.e_andV, ↓DL.e_orV, ↓DL.e_notV, ↓DL.e_ife, ↓DL.e_nil, ↓DL.e_cons, ↓DL.e_tup, ↓DL.e_lst, ↓DL.e_lstM, ↓DL.e_noPart, ↓DL.e_part, ↓DL.e_sl, ↓DL.e_cb, ↓DL.e_mtL, ↓DL.e_mt0, ↓DL.e_mtS, ↓DL.e_mtS0, ↓DL.e_tru, ↓DL.e_lc, ↓DL.e_itS, ↓DL.e_itStr, ↓DL.e_rng1, ↓DL.e_rev, ↓DL.e_dic0, ↓DL.e_dic1, ↓DL.e_s0, ↓DL.e_s1, ↓DL.e_ct, ↓DL.e_cf, dstart, slot, gN, ↓asB_bl, ↓asI_int, ↓asS_str, cond_true, cond_false, List.map_cons, List.map_nil, List.length_cons, List.length_nil, List.set_cons_zero, List.set_cons_succ, Option.elim_some, Option.elim_none, List.cons_append, List.nil_append, List.replicate, Nat.sub_self, Nat.reduceSub, Nat.reduceAdd, Bool.not_true, Bool.not_false, setAll, Int.cast_ofNat_Int, Int.reduceLT, Int.reduceLE, Int.reduceBEq, Nat.reduceBEq, decide_true, decide_false, ↓DL.pred_s, ↓DL.len_str, ↓DL.len_tup, ↓DL.len_lst, ↓DL.le_ii, ↓DL.le_ss, ↓DL.cmp_ii, ↓DL.add_ii, ↓DL.add_ib, ↓DL.add_bi, ↓DL.add_ss, ↓DL.add_tt, ↓DL.add_ll, ↓DL.sub_ii, ↓DL.sub_ib, ↓DL.sub_bi, ↓DL.mul_ii, ↓DL.ii_ii, ↓DL.neg_i, ↓DL.is_bb, ↓DL.isn_bb, ↓DL.all_b, ↓DL.all_map, ↓DL.sum_i, ↓DL.eq_ii, ↓DL.eq_bi, ↓DL.eq_t0, ↓DL.eq_l0, ↓DL.ne_ss, ↓DL.ne_ii, ↓DL.ne_t0, ↓DL.ne_l0, ↓DL.ix_tup, ↓DL.ix_lst, ↓DL.ix_str, ↓DL.in_c, ↓DL.nin_c, ↓DL.sl_str, ↓DL.sl_tup, ↓DL.sl_lst, ↓DL.app_1, ↓DL.pop_0, ↓DL.ext_t, ↓DL.tuple_l, ↓DL.list_t, ↓DL.list_l, ↓DL.int_b, ↓DL.int_i, ↓DL.min_ii, ↓DL.str_i, ↓DL.str_b, ↓DL.repr_1, ↓DL.back_t, ↓DL.tru_l, ↓DL.at0, ↓DL.at1, ↓DL.at2, ↓DL.at3]
        cases w1 : memS (.str z) ["at", "world"] with
        | true =>
          have hz := mem_cases w1
          simp only [↓DL.e_next, ↓DL.e_seq, ↓DL.e_drop, ↓DL.e_ret, ↓DL.e_retN, ↓DL.e_if, ↓DL.e_cont, ↓DL.e_break, ↓DL.e_set, ↓DL.e_asg, ↓DL.e_par, ↓DL.e_setI, ↓DL.e_for, ↓DL.e_var, ↓DL.e_c, ↓DL.e_op, ↓DL.e_un, ↓DL.e_test, ↓DL.e_chain, ↓DL.e_and, ↓DL.e_or, ↓DL.e_not, ↓DL.e_andV, ↓DL.e_orV, ↓DL.e_notV, ↓DL.e_ife, ↓DL.e_nil, ↓DL.e_cons, ↓DL.e_tup, ↓DL.e_lst, ↓DL.e_lstM, ↓DL.e_noPart, ↓DL.e_part, ↓DL.e_sl, ↓DL.e_cb, ↓DL.e_mtL, ↓DL.e_mt0, ↓DL.e_mtS, ↓DL.e_mtS0, ↓DL.e_tru, ↓DL.e_lc, ↓DL.e_itS, ↓DL.e_itStr, ↓DL.e_rng1, ↓DL.e_rev, ↓DL.e_dic0, ↓DL.e_dic1, ↓DL.e_s0, ↓DL.e_s1, ↓DL.e_ct, ↓DL.e_cf, dstart, slot, gN, ↓asB_bl, ↓asI_int, ↓asS_str, cond_true, cond_false, List.map_cons, List.map_nil, List.length_cons, List.length_nil, List.set_cons_zero, List.set_cons_succ, Option.elim_some, Option.elim_none, List.cons_append, List.nil_append, List.replicate, Nat.sub_self, Nat.reduceSub, Nat.reduceAdd, Bool.not_true, Bool.not_false, setAll, Int.cast_ofNat_Int, Int.reduceLT, Int.reduceLE, Int.reduceBEq, Nat.reduceBEq, decide_true, decide_false, ↓DL.pred_s, ↓DL.len_str, ↓DL.len_tup, ↓DL.len_lst, ↓DL.le_ii, ↓DL.le_ss, ↓DL.cmp_ii, ↓DL.add_ii, ↓DL.add_ib, ↓DL.add_bi, ↓DL.add_ss, ↓DL.add_tt, ↓DL.add_ll, ↓DL.sub_ii, ↓DL.sub_ib, ↓DL.sub_bi, ↓DL.mul_ii, ↓DL.ii_ii, ↓DL.neg_i, ↓DL.is_bb, ↓DL.isn_bb, ↓DL.all_b, ↓DL.all_map, ↓DL.sum_i, ↓DL.eq_ii, ↓DL.eq_bi, ↓DL.eq_t0, ↓DL.eq_l0, ↓DL.ne_ss, ↓DL.ne_ii, ↓DL.ne_t0, ↓DL.ne_l0, ↓DL.ix_tup, ↓DL.ix_lst, ↓DL.ix_str, ↓DL.in_c, ↓DL.nin_c, ↓DL.sl_str, ↓DL.sl_tup, ↓DL.sl_lst, ↓DL.app_1, ↓DL.pop_0, ↓DL.ext_t, ↓DL.tuple_l, ↓DL.list_t, ↓DL.list_l, ↓DL.int_b, ↓DL.int_i, ↓DL.min_ii, ↓DL.str_i, ↓DL.str_b, ↓DL.repr_1, ↓DL.back_t, ↓DL.tru_l, ↓DL.at0, ↓DL.at1, ↓DL.at2, ↓DL.at3]
          by_cases hr : r.length = 1
          · obtain ⟨x, rfl⟩ : ∃ x, r = [x] := by
              match r, hr with
              | [x], _ => exact ⟨x, rfl⟩
            have gx := hL.mem (List.mem_cons_of_mem (.str z) (List.mem_cons_self (a := x) (l := [])))
            rw [look2] at h
            simp only [↓DL.e_next, ↓DL.e_seq, ↓DL.e_drop, ↓DL.e_ret, ↓DL.e_retN, ↓DL.e_if, ↓DL.e_cont, ↓DL.e_break, ↓DL.e_set, ↓DL.e_asg, ↓DL.e_par, ↓DL.e_setI, ↓DL.e_for, ↓DL.e_var, ↓DL.e_c, ↓DL.e_op, ↓DL.e_un, ↓DL.e_test, ↓DL.e_chain, ↓DL.e_and, ↓DL.e_or, ↓DL.e_not, ↓DL.e_andV, ↓DL.e_orV, ↓DL.e_notV, ↓DL.e_ife, ↓DL.e_nil, ↓DL.e_cons, ↓DL.e_tup, ↓DL.e_lst, ↓DL.e_lstM, ↓DL.e_noPart, ↓DL.e_part, ↓DL.e_sl, ↓DL.e_cb, ↓DL.e_mtL, ↓DL.e_mt0, ↓DL.e_mtS, ↓DL.e_mtS0, ↓DL.e_tru, ↓DL.e_lc, ↓DL.e_itS, ↓DL.e_itStr, ↓DL.e_rng1, ↓DL.e_rev, ↓DL.e_dic0, ↓DL.e_dic1, ↓DL.e_s0, ↓DL.e_s1, ↓DL.e_ct, ↓DL.e_cf, dstart, slot, gN, ↓asB_bl, ↓asI_int, ↓asS_str, cond_true, cond_false, List.map_cons, List.map_nil, List.length_cons, List.length_nil, List.set_cons_zero, List.set_cons_succ, Option.elim_some, Option.elim_none, List.cons_append, List.nil_append, List.replicate, Nat.sub_self, Nat.reduceSub, Nat.reduceAdd, Bool.not_true, Bool.not_false, setAll, Int.cast_ofNat_Int, Int.reduceLT, Int.reduceLE, Int.reduceBEq, Nat.reduceBEq, decide_true, decide_false, ↓DL.pred_s, ↓DL.len_str, ↓DL.len_tup, ↓DL.len_lst, ↓DL.le_ii, ↓DL.le_ss, ↓DL.cmp_ii, ↓DL.add_ii, ↓DL.add_ib, ↓DL.add_bi, ↓DL.add_ss, ↓DL.add_tt, ↓DL.add_ll, ↓DL.sub_ii, ↓DL.sub_ib, ↓DL.sub_bi, ↓DL.mul_ii, ↓DL.ii_ii, ↓DL.neg_i, ↓DL.is_bb, ↓DL.isn_bb, ↓DL.all_b, ↓DL.all_map, ↓DL.sum_i, ↓DL.eq_ii, ↓DL.eq_bi, ↓DL.eq_t0, ↓DL.eq_l0, ↓DL.ne_ss, ↓DL.ne_ii, ↓DL.ne_t0, ↓DL.ne_l0, ↓DL.ix_tup, ↓DL.ix_lst, ↓DL.ix_str, ↓DL.in_c, ↓DL.nin_c, ↓DL.sl_str, ↓DL.sl_tup, ↓DL.sl_lst, ↓DL.app_1, ↓DL.pop_0, ↓DL.ext_t, ↓DL.tuple_l, ↓DL.list_t, ↓DL.list_l, ↓DL.int_b, ↓DL.int_i, ↓DL.min_ii, ↓DL.str_i, ↓DL.str_b, ↓DL.repr_1, ↓DL.back_t, ↓DL.tru_l, ↓DL.at0, ↓DL.at1, ↓DL.at2, ↓DL.at3]
            refine ⟨x, rfl, good_flat gx.1, fun S1 s1 => ?_⟩
            have h := h S1 s1
            simp only [List.mem_cons, List.not_mem_nil, or_false] at hz
            have lt10 : ∀ i : Int, decide (i < 10) = decide (i ≤ 9) := fun i => decide_eq_decide.mpr (by omega)
            cases x with
            | int i =>
              show asB (.bl true) _
              simp only [↓DL.e_next, ↓DL.e_seq, ↓DL.e_drop, ↓DL.e_ret, ↓DL.e_retN, ↓DL.e_if, ↓DL.e_cont, ↓DL.e_break, ↓DL.e_set, ↓DL.e_asg, ↓DL.e_par, ↓DL.e_setI, ↓DL.e_for, ↓DL.e_var, ↓DL.e_c, ↓DL.e_op, ↓DL.e_un, ↓DL.e_test, ↓DL.e_chain, ↓DL.e_and, ↓DL.e_or, ↓DL.e_not, ↓DL.e_andV, ↓DL.e_orV, ↓DL.e_notV, ↓DL.e_ife, ↓DL.e_nil, ↓DL.e_cons, ↓DL.e_tup, ↓DL.e_lst, ↓DL.e_lstM, ↓DL.e_noPart, ↓DL.e_part, ↓DL.e_sl, ↓DL.e_cb, ↓DL.e_mtL, ↓DL.e_mt0, ↓DL.e_mtS, ↓DL.e_mtS0, ↓DL.e_tru, ↓DL.e_lc, ↓DL.e_itS, ↓DL.e_itStr, ↓DL.e_rng1, ↓DL.e_rev, ↓DL.e_dic0, ↓DL.e_dic1, ↓DL.e_s0, ↓DL.e_s1, ↓DL.e_ct, ↓DL.e_cf, dstart, slot, gN, ↓asB_bl, ↓asI_int, ↓asS_str, cond_true, cond_false, List.map_cons, List.map_nil, List.length_cons, List.length_nil, List.set_cons_zero, List.set_cons_succ, Option.elim_some, Option.elim_none, List.cons_append, List.nil_append, List.replicate, Nat.sub_self, Nat.reduceSub, Nat.reduceAdd, Bool.not_true, Bool.not_false, setAll, Int.cast_ofNat_Int, Int.reduceLT, Int.reduceLE, Int.reduceBEq, Nat.reduceBEq, decide_true, decide_false, ↓DL.pred_s, ↓DL.len_str, ↓DL.len_tup, ↓DL.len_lst, ↓DL.le_ii, ↓DL.le_ss, ↓DL.cmp_ii, ↓DL.add_ii, ↓DL.add_ib, ↓DL.add_bi, ↓DL.add_ss, ↓DL.add_tt, ↓DL.add_ll, ↓DL.sub_ii, ↓DL.sub_ib, ↓DL.sub_bi, ↓DL.mul_ii, ↓DL.ii_ii, ↓DL.neg_i, ↓DL.is_bb, ↓DL.isn_bb, ↓DL.all_b, ↓DL.all_map, ↓DL.sum_i, ↓DL.eq_ii, ↓DL.eq_bi, ↓DL.eq_t0, ↓DL.eq_l0, ↓DL.ne_ss, ↓DL.ne_ii, ↓DL.ne_t0, ↓DL.ne_l0, ↓DL.ix_tup, ↓DL.ix_lst, ↓DL.ix_str, ↓DL.in_c, ↓DL.nin_c, ↓DL.sl_str, ↓DL.sl_tup, ↓DL.sl_lst, ↓DL.app_1, ↓DL.pop_0, ↓DL.ext_t, ↓DL.tuple_l, ↓DL.list_t, ↓DL.list_l, ↓DL.int_b, ↓DL.int_i, ↓DL.min_ii, ↓DL.str_i, ↓DL.str_b, ↓DL.repr_1, ↓DL.back_t, ↓DL.tru_l, ↓DL.at0, ↓DL.at1, ↓DL.at2, ↓DL.at3]
              rcases hz with rfl | rfl
              · have e : hf2 (.str "at") (.int i) = decide (0 ≤ i) := by unfold hf2; rw [show eqT (.str "at") "at" = true by decide +kernel]; rfl
                rw [e] at h
                cases hi : decide (0 ≤ i) with
                | true => rw [hi] at h; exact h
                | false => rw [hi] at h; exact h
              · have e : hf2 (.str "world") (.int i) = (bif decide (0 ≤ i) then decide (i ≤ 9) else false) := by unfold hf2; rw [show eqT (.str "world") "at" = false by decide +kernel, show eqT (.str "world") "world" = true by decide +kernel]; rfl
                rw [e] at h
                cases hi : decide (0 ≤ i) with
                | true =>
                  rw [hi] at h
                  simp only [↓DL.e_next, ↓DL.e_seq, ↓DL.e_drop, ↓DL.e_ret, ↓DL.e_retN, ↓DL.e_if, ↓DL.e_cont, ↓DL.e_break, ↓DL.e_set, ↓DL.e_asg, ↓DL.e_par, ↓DL.e_setI, ↓DL.e_for, ↓DL.e_var, ↓DL.e_c, ↓DL.e_op, ↓DL.e_un, ↓DL.e_test, ↓DL.e_chain, ↓DL.e_and, ↓DL.e_or, ↓DL.e_not, ↓DL.e_andV, ↓DL.e_orV, ↓DL.e_notV, ↓DL.e_ife, ↓DL.e_nil, ↓DL.e_cons, ↓DL.e_tup, ↓DL.e_lst, ↓DL.e_lstM, ↓DL.e_noPart, ↓DL.e_part, ↓DL.e_sl, ↓DL.e_cb, ↓DL.e_mtL, ↓DL.e_mt0, ↓DL.e_mtS, ↓DL.e_mtS0, ↓DL.e_tru, ↓DL.e_lc, ↓DL.e_itS, ↓DL.e_itStr, ↓DL.e_rng1, ↓DL.e_rev, ↓DL.e_dic0, ↓DL.e_dic1, ↓DL.e_s0, ↓DL.e_s1, ↓DL.e_ct, ↓DL.e_cf, dstart, slot, gN, ↓asB_bl, ↓asI_int, ↓asS_str, cond_true, cond_false, List.map_cons, List.map_nil, List.length_cons, List.length_nil, List.set_cons_zero, List.set_cons_succ, Option.elim_some, Option.elim_none, List.cons_append, List.nil_append, List.replicate, Nat.sub_self, Nat.reduceSub, Nat.reduceAdd, Bool.not_true, Bool.not_false, setAll, Int.cast_ofNat_Int, Int.reduceLT, Int.reduceLE, Int.reduceBEq, Nat.reduceBEq, decide_true, decide_false, ↓DL.pred_s, ↓DL.len_str, ↓DL.len_tup, ↓DL.len_lst, ↓DL.le_ii, ↓DL.le_ss, ↓DL.cmp_ii, ↓DL.add_ii, ↓DL.add_ib, ↓DL.add_bi, ↓DL.add_ss, ↓DL.add_tt, ↓DL.add_ll, ↓DL.sub_ii, ↓DL.sub_ib, ↓DL.sub_bi, ↓DL.mul_ii, ↓DL.ii_ii, ↓DL.neg_i, ↓DL.is_bb, ↓DL.isn_bb, ↓DL.all_b, ↓DL.all_map, ↓DL.sum_i, ↓DL.eq_ii, ↓DL.eq_bi, ↓DL.eq_t0, ↓DL.eq_l0, ↓DL.ne_ss, ↓DL.ne_ii, ↓DL.ne_t0, ↓DL.ne_l0, ↓DL.ix_tup, ↓DL.ix_lst, ↓DL.ix_str, ↓DL.in_c, ↓DL.nin_c, ↓DL.sl_str, ↓DL.sl_tup, ↓DL.sl_lst, ↓DL.app_1, ↓DL.pop_0, ↓DL.ext_t, ↓DL.tuple_l, ↓DL.list_t, ↓DL.list_l, ↓DL.int_b, ↓DL.int_i, ↓DL.min_ii, ↓DL.str_i, ↓DL.str_b, ↓DL.repr_1, ↓DL.back_t, ↓DL.tru_l, ↓DL.at0, ↓DL.at1, ↓DL.at2, ↓DL.at3]
                  rw [DL.eq_str' rfl, show eqT (.str "world") "at" = false by decide +kernel]
                  simp only [↓DL.e_next, ↓DL.e_seq, ↓DL.e_drop, ↓DL.e_ret, ↓DL.e_retN, ↓DL.e_if, ↓DL.e_cont, ↓DL.e_break, ↓DL.e_set, ↓DL.e_asg, ↓DL.e_par, ↓DL.e_setI, ↓DL.e_for, ↓DL.e_var, ↓DL.e_c, ↓DL.e_op, ↓DL.e_un, ↓DL.e_test, ↓DL.e_chain, ↓DL.e_and, ↓DL.e_or, ↓DL.e_not, ↓DL.e_andV, ↓DL.e_orV, ↓DL.e_notV, ↓DL.e_ife, ↓DL.e_nil, ↓DL.e_cons, ↓DL.e_tup, ↓DL.e_lst, ↓DL.e_lstM, ↓DL.e_noPart, ↓DL.e_part, ↓DL.e_sl, ↓DL.e_cb, ↓DL.e_mtL, ↓DL.e_mt0, ↓DL.e_mtS, ↓DL.e_mtS0, ↓DL.e_tru, ↓DL.e_lc, ↓DL.e_itS, ↓DL.e_itStr, ↓DL.e_rng1, ↓DL.e_rev, ↓DL.e_dic0, ↓DL.e_dic1, ↓DL.e_s0, ↓DL.e_s1, ↓DL.e_ct, ↓DL.e_cf, dstart, slot, gN, ↓asB_bl, ↓asI_int, ↓asS_str, cond_true, cond_false, List.map_cons, List.map_nil, List.length_cons, List.length_nil, List.set_cons_zero, List.set_cons_succ, Option.elim_some, Option.elim_none, List.cons_append, List.nil_append, List.replicate, Nat.sub_self, Nat.reduceSub, Nat.reduceAdd, Bool.not_true, Bool.not_false, setAll, Int.cast_ofNat_Int, Int.reduceLT, Int.reduceLE, Int.reduceBEq, Nat.reduceBEq, decide_true, decide_false, ↓DL.pred_s, ↓DL.len_str, ↓DL.len_tup, ↓DL.len_lst, ↓DL.le_ii, ↓DL.le_ss, ↓DL.cmp_ii, ↓DL.add_ii, ↓DL.add_ib, ↓DL.add_bi, ↓DL.add_ss, ↓DL.add_tt, ↓DL.add_ll, ↓DL.sub_ii, ↓DL.sub_ib, ↓DL.sub_bi, ↓DL.mul_ii, ↓DL.ii_ii, ↓DL.neg_i, ↓DL.is_bb, ↓DL.isn_bb, ↓DL.all_b, ↓DL.all_map, ↓DL.sum_i, ↓DL.eq_ii, ↓DL.eq_bi, ↓DL.eq_t0, ↓DL.eq_l0, ↓DL.ne_ss, ↓DL.ne_ii, ↓DL.ne_t0, ↓DL.ne_l0, ↓DL.ix_tup, ↓DL.ix_lst, ↓DL.ix_str, ↓DL.in_c, ↓DL.nin_c, ↓DL.sl_str, ↓DL.sl_tup, ↓DL.sl_lst, ↓DL.app_1, ↓DL.pop_0, ↓DL.ext_t, ↓DL.tuple_l, ↓DL.list_t, ↓DL.list_l, ↓DL.int_b, ↓DL.int_i, ↓DL.min_ii, ↓DL.str_i, ↓DL.str_b, ↓DL.repr_1, ↓DL.back_t, ↓DL.tru_l, ↓DL.at0, ↓DL.at1, ↓DL.at2, ↓DL.at3]
                  rw [lt10]
                  exact h
                | false => rw [hi] at h; exact h
            | _ =>
              rcases hz with rfl | rfl
              · exact h
              · exact h
          · rw [len2_no (by simp only [List.mem_cons, List.not_mem_nil, or_false] at hz ⊢; rcases hz with rfl | rfl <;> simp) hr] at h
            rw [show (((r.length + 1 : Nat) : Int) == 2) = false from len_is hr]
            exact h S (.refl S)
        | false =>
          simp only [↓DL.e_next, ↓DL.e_seq, ↓DL.e_drop, ↓DL.e_ret, ↓DL.e_retN, ↓DL.e_if, ↓DL.e_cont, ↓DL.e_break, ↓DL.e_set, ↓DL.e_asg, ↓DL.e_par, ↓DL.e_setI, ↓DL.e_for, ↓DL.e_var, ↓DL.e_c, ↓DL.e_op, ↓DL.e_un, ↓DL.e_test, ↓DL.e_chain, ↓DL.e_and, ↓DL.e_or, ↓DL.e_not, ↓DL.e_andV, ↓DL.e_orV, ↓DL.e_notV, ↓DL.e_ife, ↓DL.e_nil, ↓DL.e_cons, ↓DL.e_tup, ↓DL.e_lst, ↓DL.e_lstM, ↓DL.e_noPart, ↓DL.e_part, ↓DL.e_sl, ↓DL.e_cb, ↓DL.e_mtL, ↓DL.e_mt0, ↓DL.e_mtS, ↓DL.e_mtS0, ↓DL.e_tru, ↓DL.e_lc, ↓DL.e_itS, ↓DL.e_itStr, ↓DL.e_rng1, ↓DL.e_rev, ↓DL.e_dic0, ↓DL.e_dic1, ↓DL.e_s0, ↓DL.e_s1, ↓DL.e_ct, ↓DL.e_cf, dstart, slot, gN, ↓asB_bl, ↓asI_int, ↓asS_str, cond_true, cond_false, List.map_cons, List.map_nil, List.length_cons, List.length_nil, List.set_cons_zero, List.set_cons_succ, Option.elim_some, Option.elim_none, List.cons_append, List.nil_append, List.replicate, Nat.sub_self, Nat.reduceSub, Nat.reduceAdd, Bool.not_true, Bool.not_false, setAll, Int.cast_ofNat_Int, Int.reduceLT, Int.reduceLE, Int.reduceBEq, Nat.reduceBEq, decide_true, decide_false, ↓DL.pred_s, ↓DL.len_str, ↓DL.len_tup, ↓DL.len_lst, ↓DL.le_ii, ↓DL.le_ss, ↓DL.cmp_ii, ↓DL.add_ii, ↓DL.add_ib, ↓DL.add_bi, ↓DL.add_ss, ↓DL.add_tt, ↓DL.add_ll, ↓DL.sub_ii, ↓DL.sub_ib, ↓DL.sub_bi, ↓DL.mul_ii, ↓DL.ii_ii, ↓DL.neg_i, ↓DL.is_bb, ↓DL.isn_bb, ↓DL.all_b, ↓DL.all_map, ↓DL.sum_i, ↓DL.eq_ii, ↓DL.eq_bi, ↓DL.eq_t0, ↓DL.eq_l0, ↓DL.ne_ss, ↓DL.ne_ii, ↓DL.ne_t0, ↓DL.ne_l0, ↓DL.ix_tup, ↓DL.ix_lst, ↓DL.ix_str, ↓DL.in_c, ↓DL.nin_c, ↓DL.sl_str, ↓DL.sl_tup, ↓DL.sl_lst, ↓DL.app_1, ↓DL.pop_0, ↓DL.ext_t, ↓DL.tuple_l, ↓DL.list_t, ↓DL.list_l, ↓DL.int_b, ↓DL.int_i, ↓DL.min_ii, ↓DL.str_i, ↓DL.str_b, ↓DL.repr_1, ↓DL.back_t, ↓DL.tru_l, ↓DL.at0, ↓DL.at1, ↓DL.at2, ↓DL.at3]
          refine ⟨by decide, ?_⟩
          rw [DL.in_tt rfl rfl]
          simp only [↓DL.e_next, ↓DL.e_seq, ↓DL.e_drop, ↓DL.e_ret, ↓DL.e_retN, ↓DL.e_if, ↓DL.e_cont, ↓DL.e_break, ↓DL.e_set, ↓DL.e_asg, ↓DL.e_par, ↓DL.e_setI, ↓DL.e_for, ↓DL.e_var, ↓DL.e_c, ↓DL.e_op, ↓DL.e_un, ↓DL.e_test, ↓DL.e_chain, ↓DL.e_and, ↓DL.e_or, ↓DL.e_not, ↓DL.e_andV, ↓DL.e_orV, ↓DL.e_notV, ↓DL.e_ife, ↓DL.e_nil, ↓DL.e_cons, ↓DL.e_tup, ↓DL.e_lst, ↓DL.e_lstM, ↓DL.e_noPart, ↓DL.e_part, ↓DL.e_sl, ↓DL.e_cb, ↓DL.e_mtL, ↓DL.e_mt0, ↓DL.e_mtS, ↓DL.e_mtS0, ↓DL.e_tru, ↓DL.e_lc, ↓DL.e_itS, ↓DL.e_itStr, ↓DL.e_rng1, ↓DL.e_rev, ↓DL.e_dic0, ↓DL.e_dic1, ↓DL.e_s0, ↓DL.e_s1, ↓DL.e_ct, ↓DL.e_cf, dstart, slot, gN, ↓asB_bl, ↓asI_int, ↓asS_str, cond_true, cond_false, List.map_cons, List.map_nil, List.length_cons, List.length_nil, List.set_cons_zero, List.set_cons_succ, Option.elim_some, Option.elim_none, List.cons_append, List.nil_append, List.replicate, Nat.sub_self, Nat.reduceSub, Nat.reduceAdd, Bool.not_true, Bool.not_false, setAll, Int.cast_ofNat_Int, Int.reduceLT, Int.reduceLE, Int.reduceBEq, Nat.reduceBEq, decide_true, decide_false, ↓DL.pred_s, ↓DL.len_str, ↓DL.len_tup, ↓DL.len_lst, ↓DL.le_ii, ↓DL.le_ss, ↓DL.cmp_ii, ↓DL.add_ii, ↓DL.add_ib, ↓DL.add_bi, ↓DL.add_ss, ↓DL.add_tt, ↓DL.add_ll, ↓DL.sub_ii, ↓DL.sub_ib, ↓DL.sub_bi, ↓DL.mul_ii, ↓DL.ii_ii, ↓DL.neg_i, ↓DL.is_bb, ↓DL.isn_bb, ↓DL.all_b, ↓DL.all_map, ↓DL.sum_i, ↓DL.eq_ii, ↓DL.eq_bi, ↓DL.eq_t0, ↓DL.eq_l0, ↓DL.ne_ss, ↓DL.ne_ii, ↓DL.ne_t0, ↓DL.ne_l0, ↓DL.ix_tup, ↓DL.ix_lst, ↓DL.ix_str, ↓DL.in_c, ↓DL.nin_c, ↓DL.sl_str, ↓DL.sl_tup, ↓DL.sl_lst, ↓DL.app_1, ↓DL.pop_0, ↓DL.ext_t, ↓DL.tuple_l, ↓DL.list_t, ↓DL.list_l, ↓DL.int_b, ↓DL.int_i, ↓DL.min_ii, ↓DL.str_i, ↓DL.str_b, ↓DL.repr_1, ↓DL.back_t, ↓DL.tru_l, ↓DL.at0, ↓DL.at1, ↓DL.at2, ↓DL.at3]
          cases w2 : memS (.str z) ["to", "fun", "give"] with
          | true =>
            have hz := mem_cases w2
            have hz4 : z ∈ (["to", "fun", "give", "shape"] : List Str) := by
              simp only [List.mem_cons, List.not_mem_nil, or_false] at hz ⊢
              rcases hz with rfl | rfl | rfl <;> simp
            simp only [↓DL.e_next, ↓DL.e_seq, ↓DL.e_drop, ↓DL.e_ret, ↓DL.e_retN, ↓DL.e_if, ↓DL.e_cont, ↓DL.e_break, ↓DL.e_set, ↓DL.e_asg, ↓DL.e_par, ↓DL.e_setI, ↓DL.e_for, ↓DL.e_var, ↓DL.e_c, ↓DL.e_op, ↓DL.e_un, ↓DL.e_test, ↓DL.e_chain, ↓DL.e_and, ↓DL.e_or, ↓DL.e_not, ↓DL.e_andV, ↓DL.e_orV, ↓DL.e_notV, ↓DL.e_ife, ↓DL.e_nil, ↓DL.e_cons, ↓DL.e_tup, ↓DL.e_lst, ↓DL.e_lstM, ↓DL.e_noPart, ↓DL.e_part, ↓DL.e_sl, ↓DL.e_cb, ↓DL.e_mtL, ↓DL.e_mt0, ↓DL.e_mtS, ↓DL.e_mtS0, ↓DL.e_tru, ↓DL.e_lc, ↓DL.e_itS, ↓DL.e_itStr, ↓DL.e_rng1, ↓DL.e_rev, ↓DL.e_dic0, ↓DL.e_dic1, ↓DL.e_s0, ↓DL.e_s1, ↓DL.e_ct, ↓DL.e_cf, dstart, slot, gN, ↓asB_bl, ↓asI_int, ↓asS_str, cond_true, cond_false, List.map_cons, List.map_nil, List.length_cons, List.length_nil, List.set_cons_zero, List.set_cons_succ, Option.elim_some, Option.elim_none, List.cons_append, List.nil_append, List.replicate, Nat.sub_self, Nat.reduceSub, Nat.reduceAdd, Bool.not_true, Bool.not_false, setAll, Int.cast_ofNat_Int, Int.reduceLT, Int.reduceLE, Int.reduceBEq, Nat.reduceBEq, decide_true, decide_false, ↓DL.pred_s, ↓DL.len_str, ↓DL.len_tup, ↓DL.len_lst, ↓DL.le_ii, ↓DL.le_ss, ↓DL.cmp_ii, ↓DL.add_ii, ↓DL.add_ib, ↓DL.add_bi, ↓DL.add_ss, ↓DL.add_tt, ↓DL.add_ll, ↓DL.sub_ii, ↓DL.sub_ib, ↓DL.sub_bi, ↓DL.mul_ii, ↓DL.ii_ii, ↓DL.neg_i, ↓DL.is_bb, ↓DL.isn_bb, ↓DL.all_b, ↓DL.all_map, ↓DL.sum_i, ↓DL.eq_ii, ↓DL.eq_bi, ↓DL.eq_t0, ↓DL.eq_l0, ↓DL.ne_ss, ↓DL.ne_ii, ↓DL.ne_t0, ↓DL.ne_l0, ↓DL.ix_tup, ↓DL.ix_lst, ↓DL.ix_str, ↓DL.in_c, ↓DL.nin_c, ↓DL.sl_str, ↓DL.sl_tup, ↓DL.sl_lst, ↓DL.app_1, ↓DL.pop_0, ↓DL.ext_t, ↓DL.tuple_l, ↓DL.list_t, ↓DL.list_l, ↓DL.int_b, ↓DL.int_i, ↓DL.min_ii, ↓DL.str_i, ↓DL.str_b, ↓DL.repr_1, ↓DL.back_t, ↓DL.tru_l, ↓DL.at0, ↓DL.at1, ↓DL.at2, ↓DL.at3]
            by_cases hr : r.length = 3
            · obtain ⟨x, y, t, rfl⟩ := len3 hr
              obtain ⟨a, b, c, e⟩ := words4 z hz4
              have gx := hL.mem (show x ∈ [.str z, x, y, t] by simp)
              have gy := hL.mem (show y ∈ [.str z, x, y, t] by simp)
              have gt := hL.mem (show t ∈ [.str z, x, y, t] by simp)
              have el : lookB z [x, y, t] = (markB x && (tB y && tB t)) := by
                rw [look4]
                unfold hf4
                rw [a, b, c, show memS (.str z) tfg = true from w2]
                rfl
              rw [el] at h
              simp only [↓DL.e_next, ↓DL.e_seq, ↓DL.e_drop, ↓DL.e_ret, ↓DL.e_retN, ↓DL.e_if, ↓DL.e_cont, ↓DL.e_break, ↓DL.e_set, ↓DL.e_asg, ↓DL.e_par, ↓DL.e_setI, ↓DL.e_for, ↓DL.e_var, ↓DL.e_c, ↓DL.e_op, ↓DL.e_un, ↓DL.e_test, ↓DL.e_chain, ↓DL.e_and, ↓DL.e_or, ↓DL.e_not, ↓DL.e_andV, ↓DL.e_orV, ↓DL.e_notV, ↓DL.e_ife, ↓DL.e_nil, ↓DL.e_cons, ↓DL.e_tup, ↓DL.e_lst, ↓DL.e_lstM, ↓DL.e_noPart, ↓DL.e_part, ↓DL.e_sl, ↓DL.e_cb, ↓DL.e_mtL, ↓DL.e_mt0, ↓DL.e_mtS, ↓DL.e_mtS0, ↓DL.e_tru, ↓DL.e_lc, ↓DL.e_itS, ↓DL.e_itStr, ↓DL.e_rng1, ↓DL.e_rev, ↓DL.e_dic0, ↓DL.e_dic1, ↓DL.e_s0, ↓DL.e_s1, ↓DL.e_ct, ↓DL.e_cf, dstart, slot, gN, ↓asB_bl, ↓asI_int, ↓asS_str, cond_true, cond_false, List.map_cons, List.map_nil, List.length_cons, List.length_nil, List.set_cons_zero, List.set_cons_succ, Option.elim_some, Option.elim_none, List.cons_append, List.nil_append, List.replicate, Nat.sub_self, Nat.reduceSub, Nat.reduceAdd, Bool.not_true, Bool.not_false, setAll, Int.cast_ofNat_Int, Int.reduceLT, Int.reduceLE, Int.reduceBEq, Nat.reduceBEq, decide_true, decide_false, ↓DL.pred_s, ↓DL.len_str, ↓DL.len_tup, ↓DL.len_lst, ↓DL.le_ii, ↓DL.le_ss, ↓DL.cmp_ii, ↓DL.add_ii, ↓DL.add_ib, ↓DL.add_bi, ↓DL.add_ss, ↓DL.add_tt, ↓DL.add_ll, ↓DL.sub_ii, ↓DL.sub_ib, ↓DL.sub_bi, ↓DL.mul_ii, ↓DL.ii_ii, ↓DL.neg_i, ↓DL.is_bb, ↓DL.isn_bb, ↓DL.all_b, ↓DL.all_map, ↓DL.sum_i, ↓DL.eq_ii, ↓DL.eq_bi, ↓DL.eq_t0, ↓DL.eq_l0, ↓DL.ne_ss, ↓DL.ne_ii, ↓DL.ne_t0, ↓DL.ne_l0, ↓DL.ix_tup, ↓DL.ix_lst, ↓DL.ix_str, ↓DL.in_c, ↓DL.nin_c, ↓DL.sl_str, ↓DL.sl_tup, ↓DL.sl_lst, ↓DL.app_1, ↓DL.pop_0, ↓DL.ext_t, ↓DL.tuple_l, ↓DL.list_t, ↓DL.list_l, ↓DL.int_b, ↓DL.int_i, ↓DL.min_ii, ↓DL.str_i, ↓DL.str_b, ↓DL.repr_1, ↓DL.back_t, ↓DL.tru_l, ↓DL.at0, ↓DL.at1, ↓DL.at2, ↓DL.at3]
              refine ⟨x, rfl, good_flat gx.1, fun S1 s1 => ?_⟩
              show bif markB x then _ else _
              cases m1 : markB x with
              | false => rw [m1] at h; exact h S1 s1
              | true =>
                rw [m1] at h
                simp only [↓DL.e_next, ↓DL.e_seq, ↓DL.e_drop, ↓DL.e_ret, ↓DL.e_retN, ↓DL.e_if, ↓DL.e_cont, ↓DL.e_break, ↓DL.e_set, ↓DL.e_asg, ↓DL.e_par, ↓DL.e_setI, ↓DL.e_for, ↓DL.e_var, ↓DL.e_c, ↓DL.e_op, ↓DL.e_un, ↓DL.e_test, ↓DL.e_chain, ↓DL.e_and, ↓DL.e_or, ↓DL.e_not, ↓DL.e_andV, ↓DL.e_orV, ↓DL.e_notV, ↓DL.e_ife, ↓DL.e_nil, ↓DL.e_cons, ↓DL.e_tup, ↓DL.e_lst, ↓DL.e_lstM, ↓DL.e_noPart, ↓DL.e_part, ↓DL.e_sl, ↓DL.e_cb, ↓DL.e_mtL, ↓DL.e_mt0, ↓DL.e_mtS, ↓DL.e_mtS0, ↓DL.e_tru, ↓DL.e_lc, ↓DL.e_itS, ↓DL.e_itStr, ↓DL.e_rng1, ↓DL.e_rev, ↓DL.e_dic0, ↓DL.e_dic1, ↓DL.e_s0, ↓DL.e_s1, ↓DL.e_ct, ↓DL.e_cf, dstart, slot, gN, ↓asB_bl, ↓asI_int, ↓asS_str, cond_true, cond_false, List.map_cons, List.map_nil, List.length_cons, List.length_nil, List.set_cons_zero, List.set_cons_succ, Option.elim_some, Option.elim_none, List.cons_append, List.nil_append, List.replicate, Nat.sub_self, Nat.reduceSub, Nat.reduceAdd, Bool.not_true, Bool.not_false, setAll, Int.cast_ofNat_Int, Int.reduceLT, Int.reduceLE, Int.reduceBEq, Nat.reduceBEq, decide_true, decide_false, ↓DL.pred_s, ↓DL.len_str, ↓DL.len_tup, ↓DL.len_lst, ↓DL.le_ii, ↓DL.le_ss, ↓DL.cmp_ii, ↓DL.add_ii, ↓DL.add_ib, ↓DL.add_bi, ↓DL.add_ss, ↓DL.add_tt, ↓DL.add_ll, ↓DL.sub_ii, ↓DL.sub_ib, ↓DL.sub_bi, ↓DL.mul_ii, ↓DL.ii_ii, ↓DL.neg_i, ↓DL.is_bb, ↓DL.isn_bb, ↓DL.all_b, ↓DL.all_map, ↓DL.sum_i, ↓DL.eq_ii, ↓DL.eq_bi, ↓DL.eq_t0, ↓DL.eq_l0, ↓DL.ne_ss, ↓DL.ne_ii, ↓DL.ne_t0, ↓DL.ne_l0, ↓DL.ix_tup, ↓DL.ix_lst, ↓DL.ix_str, ↓DL.in_c, ↓DL.nin_c, ↓DL.sl_str, ↓DL.sl_tup, ↓DL.sl_lst, ↓DL.app_1, ↓DL.pop_0, ↓DL.ext_t, ↓DL.tuple_l, ↓DL.list_t, ↓DL.list_l, ↓DL.int_b, ↓DL.int_i, ↓DL.min_ii, ↓DL.str_i, ↓DL.str_b, ↓DL.repr_1, ↓DL.back_t, ↓DL.tru_l, ↓DL.at0, ↓DL.at1, ↓DL.at2, ↓DL.at3]
                refine ⟨y, rfl, gy, fun S2 s2 => ?_⟩
                show bif tB y then _ else _
                cases m2 : tB y with
                | false => rw [m2] at h; exact h S2 (s1.trans s2)
                | true =>
                  rw [m2] at h
                  simp only [↓DL.e_next, ↓DL.e_seq, ↓DL.e_drop, ↓DL.e_ret, ↓DL.e_retN, ↓DL.e_if, ↓DL.e_cont, ↓DL.e_break, ↓DL.e_set, ↓DL.e_asg, ↓DL.e_par, ↓DL.e_setI, ↓DL.e_for, ↓DL.e_var, ↓DL.e_c, ↓DL.e_op, ↓DL.e_un, ↓DL.e_test, ↓DL.e_chain, ↓DL.e_and, ↓DL.e_or, ↓DL.e_not, ↓DL.e_andV, ↓DL.e_orV, ↓DL.e_notV, ↓DL.e_ife, ↓DL.e_nil, ↓DL.e_cons, ↓DL.e_tup, ↓DL.e_lst, ↓DL.e_lstM, ↓DL.e_noPart, ↓DL.e_part, ↓DL.e_sl, ↓DL.e_cb, ↓DL.e_mtL, ↓DL.e_mt0, ↓DL.e_mtS, ↓DL.e_mtS0, ↓DL.e_tru, ↓DL.e_lc, ↓DL.e_itS, ↓DL.e_itStr, ↓DL.e_rng1, ↓DL.e_rev, ↓DL.e_dic0, ↓DL.e_dic1, ↓DL.e_s0, ↓DL.e_s1, ↓DL.e_ct, ↓DL.e_cf, dstart, slot, gN, ↓asB_bl, ↓asI_int, ↓asS_str, cond_true, cond_false, List.map_cons, List.map_nil, List.length_cons, List.length_nil, List.set_cons_zero, List.set_cons_succ, Option.elim_some, Option.elim_none, List.cons_append, List.nil_append, List.replicate, Nat.sub_self, Nat.reduceSub, Nat.reduceAdd, Bool.not_true, Bool.not_false, setAll, Int.cast_ofNat_Int, Int.reduceLT, Int.reduceLE, Int.reduceBEq, Nat.reduceBEq, decide_true, decide_false, ↓DL.pred_s, ↓DL.len_str, ↓DL.len_tup, ↓DL.len_lst, ↓DL.le_ii, ↓DL.le_ss, ↓DL.cmp_ii, ↓DL.add_ii, ↓DL.add_ib, ↓DL.add_bi, ↓DL.add_ss, ↓DL.add_tt, ↓DL.add_ll, ↓DL.sub_ii, ↓DL.sub_ib, ↓DL.sub_bi, ↓DL.mul_ii, ↓DL.ii_ii, ↓DL.neg_i, ↓DL.is_bb, ↓DL.isn_bb, ↓DL.all_b, ↓DL.all_map, ↓DL.sum_i, ↓DL.eq_ii, ↓DL.eq_bi, ↓DL.eq_t0, ↓DL.eq_l0, ↓DL.ne_ss, ↓DL.ne_ii, ↓DL.ne_t0, ↓DL.ne_l0, ↓DL.ix_tup, ↓DL.ix_lst, ↓DL.ix_str, ↓DL.in_c, ↓DL.nin_c, ↓DL.sl_str, ↓DL.sl_tup, ↓DL.sl_lst, ↓DL.app_1, ↓DL.pop_0, ↓DL.ext_t, ↓DL.tuple_l, ↓DL.list_t, ↓DL.list_l, ↓DL.int_b, ↓DL.int_i, ↓DL.min_ii, ↓DL.str_i, ↓DL.str_b, ↓DL.repr_1, ↓DL.back_t, ↓DL.tru_l, ↓DL.at0, ↓DL.at1, ↓DL.at2, ↓DL.at3]
                  exact ⟨t, rfl, gt, fun S3 s3 => h S3 ((s1.trans s2).trans s3)⟩
            · rw [len4_no hz4 hr] at h
              rw [show (((r.length + 1 : Nat) : Int) == 4) = false from len_is hr]
              exact h S (.refl S)
          | false =>
            simp only [↓DL.e_next, ↓DL.e_seq, ↓DL.e_drop, ↓DL.e_ret, ↓DL.e_retN, ↓DL.e_if, ↓DL.e_cont, ↓DL.e_break, ↓DL.e_set, ↓DL.e_asg, ↓DL.e_par, ↓DL.e_setI, ↓DL.e_for, ↓DL.e_var, ↓DL.e_c, ↓DL.e_op, ↓DL.e_un, ↓DL.e_test, ↓DL.e_chain, ↓DL.e_and, ↓DL.e_or, ↓DL.e_not, ↓DL.e_andV, ↓DL.e_orV, ↓DL.e_notV, ↓DL.e_ife, ↓DL.e_nil, ↓DL.e_cons, ↓DL.e_tup, ↓DL.e_lst, ↓DL.e_lstM, ↓DL.e_noPart, ↓DL.e_part, ↓DL.e_sl, ↓DL.e_cb, ↓DL.e_mtL, ↓DL.e_mt0, ↓DL.e_mtS, ↓DL.e_mtS0, ↓DL.e_tru, ↓DL.e_lc, ↓DL.e_itS, ↓DL.e_itStr, ↓DL.e_rng1, ↓DL.e_rev, ↓DL.e_dic0, ↓DL.e_dic1, ↓DL.e_s0, ↓DL.e_s1, ↓DL.e_ct, ↓DL.e_cf, dstart, slot, gN, ↓asB_bl, ↓asI_int, ↓asS_str, cond_true, cond_false, List.map_cons, List.map_nil, List.length_cons, List.length_nil, List.set_cons_zero, List.set_cons_succ, Option.elim_some, Option.elim_none, List.cons_append, List.nil_append, List.replicate, Nat.sub_self, Nat.reduceSub, Nat.reduceAdd, Bool.not_true, Bool.not_false, setAll, Int.cast_ofNat_Int, Int.reduceLT, Int.reduceLE, Int.reduceBEq, Nat.reduceBEq, decide_true, decide_false, ↓DL.pred_s, ↓DL.len_str, ↓DL.len_tup, ↓DL.len_lst, ↓DL.le_ii, ↓DL.le_ss, ↓DL.cmp_ii, ↓DL.add_ii, ↓DL.add_ib, ↓DL.add_bi, ↓DL.add_ss, ↓DL.add_tt, ↓DL.add_ll, ↓DL.sub_ii, ↓DL.sub_ib, ↓DL.sub_bi, ↓DL.mul_ii, ↓DL.ii_ii, ↓DL.neg_i, ↓DL.is_bb, ↓DL.isn_bb, ↓DL.all_b, ↓DL.all_map, ↓DL.sum_i, ↓DL.eq_ii, ↓DL.eq_bi, ↓DL.eq_t0, ↓DL.eq_l0, ↓DL.ne_ss, ↓DL.ne_ii, ↓DL.ne_t0, ↓DL.ne_l0, ↓DL.ix_tup, ↓DL.ix_lst, ↓DL.ix_str, ↓DL.in_c, ↓DL.nin_c, ↓DL.sl_str, ↓DL.sl_tup, ↓DL.sl_lst, ↓DL.app_1, ↓DL.pop_0, ↓DL.ext_t, ↓DL.tuple_l, ↓DL.list_t, ↓DL.list_l, ↓DL.int_b, ↓DL.int_i, ↓DL.min_ii, ↓DL.str_i, ↓DL.str_b, ↓DL.repr_1, ↓DL.back_t, ↓DL.tru_l, ↓DL.at0, ↓DL.at1, ↓DL.at2, ↓DL.at3]
            rw [DL.eq_str' rfl]
            simp only [↓DL.e_next, ↓DL.e_seq, ↓DL.e_drop, ↓DL.e_ret, ↓DL.e_retN, ↓DL.e_if, ↓DL.e_cont, ↓DL.e_break, ↓DL.e_set, ↓DL.e_asg, ↓DL.e_par, ↓DL.e_setI, ↓DL.e_for, ↓DL.e_var, ↓DL.e_c, ↓DL.e_op, ↓DL.e_un, ↓DL.e_test, ↓DL.e_chain, ↓DL.e_and, ↓DL.e_or, ↓DL.e_not, ↓DL.e_andV, ↓DL.e_orV, ↓DL.e_notV, ↓DL.e_ife, ↓DL.e_nil, ↓DL.e_cons, ↓DL.e_tup, ↓DL.e_lst, ↓DL.e_lstM, ↓DL.e_noPart, ↓DL.e_part, ↓DL.e_sl, ↓DL.e_cb, ↓DL.e_mtL, ↓DL.e_mt0, ↓DL.e_mtS, ↓DL.e_mtS0, ↓DL.e_tru, ↓DL.e_lc, ↓DL.e_itS, ↓DL.e_itStr, ↓DL.e_rng1, ↓DL.e_rev, ↓DL.e_dic0, ↓DL.e_dic1, ↓DL.e_s0, ↓DL.e_s1, ↓DL.e_ct, ↓DL.e_cf, dstart, slot, gN, ↓asB_bl, ↓asI_int, ↓asS_str, cond_true, cond_false, List.map_cons, List.map_nil, List.length_cons, List.length_nil, List.set_cons_zero, List.set_cons_succ, Option.elim_some, Option.elim_none, List.cons_append, List.nil_append, List.replicate, Nat.sub_self, Nat.reduceSub, Nat.reduceAdd, Bool.not_true, Bool.not_false, setAll, Int.cast_ofNat_Int, Int.reduceLT, Int.reduceLE, Int.reduceBEq, Nat.reduceBEq, decide_true, decide_false, ↓DL.pred_s, ↓DL.len_str, ↓DL.len_tup, ↓DL.len_lst, ↓DL.le_ii, ↓DL.le_ss, ↓DL.cmp_ii, ↓DL.add_ii, ↓DL.add_ib, ↓DL.add_bi, ↓DL.add_ss, ↓DL.add_tt, ↓DL.add_ll, ↓DL.sub_ii, ↓DL.sub_ib, ↓DL.sub_bi, ↓DL.mul_ii, ↓DL.ii_ii, ↓DL.neg_i, ↓DL.is_bb, ↓DL.isn_bb, ↓DL.all_b, ↓DL.all_map, ↓DL.sum_i, ↓DL.eq_ii, ↓DL.eq_bi, ↓DL.eq_t0, ↓DL.eq_l0, ↓DL.ne_ss, ↓DL.ne_ii, ↓DL.ne_t0, ↓DL.ne_l0, ↓DL.ix_tup, ↓DL.ix_lst, ↓DL.ix_str, ↓DL.in_c, ↓DL.nin_c, ↓DL.sl_str, ↓DL.sl_tup, ↓DL.sl_lst, ↓DL.app_1, ↓DL.pop_0, ↓DL.ext_t, ↓DL.tuple_l, ↓DL.list_t, ↓DL.list_l, ↓DL.int_b, ↓DL.int_i, ↓DL.min_ii, ↓DL.str_i, ↓DL.str_b, ↓DL.repr_1, ↓DL.back_t, ↓DL.tru_l, ↓DL.at0, ↓DL.at1, ↓DL.at2, ↓DL.at3]
            cases w3 : eqT (.str z) "hole" with
            | true =>
              have hz : z = "hole" := by have := eqT_eq w3; injection this
              subst hz
              simp only [↓DL.e_next, ↓DL.e_seq, ↓DL.e_drop, ↓DL.e_ret, ↓DL.e_retN, ↓DL.e_if, ↓DL.e_cont, ↓DL.e_break, ↓DL.e_set, ↓DL.e_asg, ↓DL.e_par, ↓DL.e_setI, ↓DL.e_for, ↓DL.e_var, ↓DL.e_c, ↓DL.e_op, ↓DL.e_un, ↓DL.e_test, ↓DL.e_chain, ↓DL.e_and, ↓DL.e_or, ↓DL.e_not, ↓DL.e_andV, ↓DL.e_orV, ↓DL.e_notV, ↓DL.e_ife, ↓DL.e_nil, ↓DL.e_cons, ↓DL.e_tup, ↓DL.e_lst, ↓DL.e_lstM, ↓DL.e_noPart, ↓DL.e_part, ↓DL.e_sl, ↓DL.e_cb, ↓DL.e_mtL, ↓DL.e_mt0, ↓DL.e_mtS, ↓DL.e_mtS0, ↓DL.e_tru, ↓DL.e_lc, ↓DL.e_itS, ↓DL.e_itStr, ↓DL.e_rng1, ↓DL.e_rev, ↓DL.e_dic0, ↓DL.e_dic1, ↓DL.e_s0, ↓DL.e_s1, ↓DL.e_ct, ↓DL.e_cf, dstart, slot, gN, ↓asB_bl, ↓asI_int, ↓asS_str, cond_true, cond_false, List.map_cons, List.map_nil, List.length_cons, List.length_nil, List.set_cons_zero, List.set_cons_succ, Option.elim_some, Option.elim_none, List.cons_append, List.nil_append, List.replicate, Nat.sub_self, Nat.reduceSub, Nat.reduceAdd, Bool.not_true, Bool.not_false, setAll, Int.cast_ofNat_Int, Int.reduceLT, Int.reduceLE, Int.reduceBEq, Nat.reduceBEq, decide_true, decide_false, ↓DL.pred_s, ↓DL.len_str, ↓DL.len_tup, ↓DL.len_lst, ↓DL.le_ii, ↓DL.le_ss, ↓DL.cmp_ii, ↓DL.add_ii, ↓DL.add_ib, ↓DL.add_bi, ↓DL.add_ss, ↓DL.add_tt, ↓DL.add_ll, ↓DL.sub_ii, ↓DL.sub_ib, ↓DL.sub_bi, ↓DL.mul_ii, ↓DL.ii_ii, ↓DL.neg_i, ↓DL.is_bb, ↓DL.isn_bb, ↓DL.all_b, ↓DL.all_map, ↓DL.sum_i, ↓DL.eq_ii, ↓DL.eq_bi, ↓DL.eq_t0, ↓DL.eq_l0, ↓DL.ne_ss, ↓DL.ne_ii, ↓DL.ne_t0, ↓DL.ne_l0, ↓DL.ix_tup, ↓DL.ix_lst, ↓DL.ix_str, ↓DL.in_c, ↓DL.nin_c, ↓DL.sl_str, ↓DL.sl_tup, ↓DL.sl_lst, ↓DL.app_1, ↓DL.pop_0, ↓DL.ext_t, ↓DL.tuple_l, ↓DL.list_t, ↓DL.list_l, ↓DL.int_b, ↓DL.int_i, ↓DL.min_ii, ↓DL.str_i, ↓DL.str_b, ↓DL.repr_1, ↓DL.back_t, ↓DL.tru_l, ↓DL.at0, ↓DL.at1, ↓DL.at2, ↓DL.at3]
              by_cases hr : r.length = 1
              · obtain ⟨x, rfl⟩ : ∃ x, r = [x] := by
                  match r, hr with
                  | [x], _ => exact ⟨x, rfl⟩
                have gx := hL.mem (show x ∈ [.str "hole", x] by simp)
                have e : hf2 (.str "hole") x = nameB x := by unfold hf2; rw [show eqT (.str "hole") "at" = false by decide +kernel, show eqT (.str "hole") "world" = false by decide +kernel, w3]; rfl
                rw [look2, e] at h
                simp only [↓DL.e_next, ↓DL.e_seq, ↓DL.e_drop, ↓DL.e_ret, ↓DL.e_retN, ↓DL.e_if, ↓DL.e_cont, ↓DL.e_break, ↓DL.e_set, ↓DL.e_asg, ↓DL.e_par, ↓DL.e_setI, ↓DL.e_for, ↓DL.e_var, ↓DL.e_c, ↓DL.e_op, ↓DL.e_un, ↓DL.e_test, ↓DL.e_chain, ↓DL.e_and, ↓DL.e_or, ↓DL.e_not, ↓DL.e_andV, ↓DL.e_orV, ↓DL.e_notV, ↓DL.e_ife, ↓DL.e_nil, ↓DL.e_cons, ↓DL.e_tup, ↓DL.e_lst, ↓DL.e_lstM, ↓DL.e_noPart, ↓DL.e_part, ↓DL.e_sl, ↓DL.e_cb, ↓DL.e_mtL, ↓DL.e_mt0, ↓DL.e_mtS, ↓DL.e_mtS0, ↓DL.e_tru, ↓DL.e_lc, ↓DL.e_itS, ↓DL.e_itStr, ↓DL.e_rng1, ↓DL.e_rev, ↓DL.e_dic0, ↓DL.e_dic1, ↓DL.e_s0, ↓DL.e_s1, ↓DL.e_ct, ↓DL.e_cf, dstart, slot, gN, ↓asB_bl, ↓asI_int, ↓asS_str, cond_true, cond_false, List.map_cons, List.map_nil, List.length_cons, List.length_nil, List.set_cons_zero, List.set_cons_succ, Option.elim_some, Option.elim_none, List.cons_append, List.nil_append, List.replicate, Nat.sub_self, Nat.reduceSub, Nat.reduceAdd, Bool.not_true, Bool.not_false, setAll, Int.cast_ofNat_Int, Int.reduceLT, Int.reduceLE, Int.reduceBEq, Nat.reduceBEq, decide_true, decide_false, ↓DL.pred_s, ↓DL.len_str, ↓DL.len_tup, ↓DL.len_lst, ↓DL.le_ii, ↓DL.le_ss, ↓DL.cmp_ii, ↓DL.add_ii, ↓DL.add_ib, ↓DL.add_bi, ↓DL.add_ss, ↓DL.add_tt, ↓DL.add_ll, ↓DL.sub_ii, ↓DL.sub_ib, ↓DL.sub_bi, ↓DL.mul_ii, ↓DL.ii_ii, ↓DL.neg_i, ↓DL.is_bb, ↓DL.isn_bb, ↓DL.all_b, ↓DL.all_map, ↓DL.sum_i, ↓DL.eq_ii, ↓DL.eq_bi, ↓DL.eq_t0, ↓DL.eq_l0, ↓DL.ne_ss, ↓DL.ne_ii, ↓DL.ne_t0, ↓DL.ne_l0, ↓DL.ix_tup, ↓DL.ix_lst, ↓DL.ix_str, ↓DL.in_c, ↓DL.nin_c, ↓DL.sl_str, ↓DL.sl_tup, ↓DL.sl_lst, ↓DL.app_1, ↓DL.pop_0, ↓DL.ext_t, ↓DL.tuple_l, ↓DL.list_t, ↓DL.list_l, ↓DL.int_b, ↓DL.int_i, ↓DL.min_ii, ↓DL.str_i, ↓DL.str_b, ↓DL.repr_1, ↓DL.back_t, ↓DL.tru_l, ↓DL.at0, ↓DL.at1, ↓DL.at2, ↓DL.at3]
                exact ⟨x, rfl, gx.1, h⟩
              · rw [len2_no (by simp) hr] at h
                rw [show (((r.length + 1 : Nat) : Int) == 2) = false from len_is hr]
                exact h S (.refl S)
            | false =>
              simp only [↓DL.e_next, ↓DL.e_seq, ↓DL.e_drop, ↓DL.e_ret, ↓DL.e_retN, ↓DL.e_if, ↓DL.e_cont, ↓DL.e_break, ↓DL.e_set, ↓DL.e_asg, ↓DL.e_par, ↓DL.e_setI, ↓DL.e_for, ↓DL.e_var, ↓DL.e_c, ↓DL.e_op, ↓DL.e_un, ↓DL.e_test, ↓DL.e_chain, ↓DL.e_and, ↓DL.e_or, ↓DL.e_not, ↓DL.e_andV, ↓DL.e_orV, ↓DL.e_notV, ↓DL.e_ife, ↓DL.e_nil, ↓DL.e_cons, ↓DL.e_tup, ↓DL.e_lst, ↓DL.e_lstM, ↓DL.e_noPart, ↓DL.e_part, ↓DL.e_sl, ↓DL.e_cb, ↓DL.e_mtL, ↓DL.e_mt0, ↓DL.e_mtS, ↓DL.e_mtS0, ↓DL.e_tru, ↓DL.e_lc, ↓DL.e_itS, ↓DL.e_itStr, ↓DL.e_rng1, ↓DL.e_rev, ↓DL.e_dic0, ↓DL.e_dic1, ↓DL.e_s0, ↓DL.e_s1, ↓DL.e_ct, ↓DL.e_cf, dstart, slot, gN, ↓asB_bl, ↓asI_int, ↓asS_str, cond_true, cond_false, List.map_cons, List.map_nil, List.length_cons, List.length_nil, List.set_cons_zero, List.set_cons_succ, Option.elim_some, Option.elim_none, List.cons_append, List.nil_append, List.replicate, Nat.sub_self, Nat.reduceSub, Nat.reduceAdd, Bool.not_true, Bool.not_false, setAll, Int.cast_ofNat_Int, Int.reduceLT, Int.reduceLE, Int.reduceBEq, Nat.reduceBEq, decide_true, decide_false, ↓DL.pred_s, ↓DL.len_str, ↓DL.len_tup, ↓DL.len_lst, ↓DL.le_ii, ↓DL.le_ss, ↓DL.cmp_ii, ↓DL.add_ii, ↓DL.add_ib, ↓DL.add_bi, ↓DL.add_ss, ↓DL.add_tt, ↓DL.add_ll, ↓DL.sub_ii, ↓DL.sub_ib, ↓DL.sub_bi, ↓DL.mul_ii, ↓DL.ii_ii, ↓DL.neg_i, ↓DL.is_bb, ↓DL.isn_bb, ↓DL.all_b, ↓DL.all_map, ↓DL.sum_i, ↓DL.eq_ii, ↓DL.eq_bi, ↓DL.eq_t0, ↓DL.eq_l0, ↓DL.ne_ss, ↓DL.ne_ii, ↓DL.ne_t0, ↓DL.ne_l0, ↓DL.ix_tup, ↓DL.ix_lst, ↓DL.ix_str, ↓DL.in_c, ↓DL.nin_c, ↓DL.sl_str, ↓DL.sl_tup, ↓DL.sl_lst, ↓DL.app_1, ↓DL.pop_0, ↓DL.ext_t, ↓DL.tuple_l, ↓DL.list_t, ↓DL.list_l, ↓DL.int_b, ↓DL.int_i, ↓DL.min_ii, ↓DL.str_i, ↓DL.str_b, ↓DL.repr_1, ↓DL.back_t, ↓DL.tru_l, ↓DL.at0, ↓DL.at1, ↓DL.at2, ↓DL.at3]
              refine ⟨by decide, ?_⟩
              rw [DL.nin_tt rfl rfl]
              simp only [↓DL.e_next, ↓DL.e_seq, ↓DL.e_drop, ↓DL.e_ret, ↓DL.e_retN, ↓DL.e_if, ↓DL.e_cont, ↓DL.e_break, ↓DL.e_set, ↓DL.e_asg, ↓DL.e_par, ↓DL.e_setI, ↓DL.e_for, ↓DL.e_var, ↓DL.e_c, ↓DL.e_op, ↓DL.e_un, ↓DL.e_test, ↓DL.e_chain, ↓DL.e_and, ↓DL.e_or, ↓DL.e_not, ↓DL.e_andV, ↓DL.e_orV, ↓DL.e_notV, ↓DL.e_ife, ↓DL.e_nil, ↓DL.e_cons, ↓DL.e_tup, ↓DL.e_lst, ↓DL.e_lstM, ↓DL.e_noPart, ↓DL.e_part, ↓DL.e_sl, ↓DL.e_cb, ↓DL.e_mtL, ↓DL.e_mt0, ↓DL.e_mtS, ↓DL.e_mtS0, ↓DL.e_tru, ↓DL.e_lc, ↓DL.e_itS, ↓DL.e_itStr, ↓DL.e_rng1, ↓DL.e_rev, ↓DL.e_dic0, ↓DL.e_dic1, ↓DL.e_s0, ↓DL.e_s1, ↓DL.e_ct, ↓DL.e_cf, dstart, slot, gN, ↓asB_bl, ↓asI_int, ↓asS_str, cond_true, cond_false, List.map_cons, List.map_nil, List.length_cons, List.length_nil, List.set_cons_zero, List.set_cons_succ, Option.elim_some, Option.elim_none, List.cons_append, List.nil_append, List.replicate, Nat.sub_self, Nat.reduceSub, Nat.reduceAdd, Bool.not_true, Bool.not_false, setAll, Int.cast_ofNat_Int, Int.reduceLT, Int.reduceLE, Int.reduceBEq, Nat.reduceBEq, decide_true, decide_false, ↓DL.pred_s, ↓DL.len_str, ↓DL.len_tup, ↓DL.len_lst, ↓DL.le_ii, ↓DL.le_ss, ↓DL.cmp_ii, ↓DL.add_ii, ↓DL.add_ib, ↓DL.add_bi, ↓DL.add_ss, ↓DL.add_tt, ↓DL.add_ll, ↓DL.sub_ii, ↓DL.sub_ib, ↓DL.sub_bi, ↓DL.mul_ii, ↓DL.ii_ii, ↓DL.neg_i, ↓DL.is_bb, ↓DL.isn_bb, ↓DL.all_b, ↓DL.all_map, ↓DL.sum_i, ↓DL.eq_ii, ↓DL.eq_bi, ↓DL.eq_t0, ↓DL.eq_l0, ↓DL.ne_ss, ↓DL.ne_ii, ↓DL.ne_t0, ↓DL.ne_l0, ↓DL.ix_tup, ↓DL.ix_lst, ↓DL.ix_str, ↓DL.in_c, ↓DL.nin_c, ↓DL.sl_str, ↓DL.sl_tup, ↓DL.sl_lst, ↓DL.app_1, ↓DL.pop_0, ↓DL.ext_t, ↓DL.tuple_l, ↓DL.list_t, ↓DL.list_l, ↓DL.int_b, ↓DL.int_i, ↓DL.min_ii, ↓DL.str_i, ↓DL.str_b, ↓DL.repr_1, ↓DL.back_t, ↓DL.tru_l, ↓DL.at0, ↓DL.at1, ↓DL.at2, ↓DL.at3]
              cases w4 : memS (.str z) ["family", "call", "shape"] with
              | false =>
                rw [other_no w1 w2 w3 w4] at h
                exact h S (.refl S)
              | true =>
                have hz := mem_cases w4
                simp only [↓DL.e_next, ↓DL.e_seq, ↓DL.e_drop, ↓DL.e_ret, ↓DL.e_retN, ↓DL.e_if, ↓DL.e_cont, ↓DL.e_break, ↓DL.e_set, ↓DL.e_asg, ↓DL.e_par, ↓DL.e_setI, ↓DL.e_for, ↓DL.e_var, ↓DL.e_c, ↓DL.e_op, ↓DL.e_un, ↓DL.e_test, ↓DL.e_chain, ↓DL.e_and, ↓DL.e_or, ↓DL.e_not, ↓DL.e_andV, ↓DL.e_orV, ↓DL.e_notV, ↓DL.e_ife, ↓DL.e_nil, ↓DL.e_cons, ↓DL.e_tup, ↓DL.e_lst, ↓DL.e_lstM, ↓DL.e_noPart, ↓DL.e_part, ↓DL.e_sl, ↓DL.e_cb, ↓DL.e_mtL, ↓DL.e_mt0, ↓DL.e_mtS, ↓DL.e_mtS0, ↓DL.e_tru, ↓DL.e_lc, ↓DL.e_itS, ↓DL.e_itStr, ↓DL.e_rng1, ↓DL.e_rev, ↓DL.e_dic0, ↓DL.e_dic1, ↓DL.e_s0, ↓DL.e_s1, ↓DL.e_ct, ↓DL.e_cf, dstart, slot, gN, ↓asB_bl, ↓asI_int, ↓asS_str, cond_true, cond_false, List.map_cons, List.map_nil, List.length_cons, List.length_nil, List.set_cons_zero, List.set_cons_succ, Option.elim_some, Option.elim_none, List.cons_append, List.nil_append, List.replicate, Nat.sub_self, Nat.reduceSub, Nat.reduceAdd, Bool.not_true, Bool.not_false, setAll, Int.cast_ofNat_Int, Int.reduceLT, Int.reduceLE, Int.reduceBEq, Nat.reduceBEq, decide_true, decide_false, ↓DL.pred_s, ↓DL.len_str, ↓DL.len_tup, ↓DL.len_lst, ↓DL.le_ii, ↓DL.le_ss, ↓DL.cmp_ii, ↓DL.add_ii, ↓DL.add_ib, ↓DL.add_bi, ↓DL.add_ss, ↓DL.add_tt, ↓DL.add_ll, ↓DL.sub_ii, ↓DL.sub_ib, ↓DL.sub_bi, ↓DL.mul_ii, ↓DL.ii_ii, ↓DL.neg_i, ↓DL.is_bb, ↓DL.isn_bb, ↓DL.all_b, ↓DL.all_map, ↓DL.sum_i, ↓DL.eq_ii, ↓DL.eq_bi, ↓DL.eq_t0, ↓DL.eq_l0, ↓DL.ne_ss, ↓DL.ne_ii, ↓DL.ne_t0, ↓DL.ne_l0, ↓DL.ix_tup, ↓DL.ix_lst, ↓DL.ix_str, ↓DL.in_c, ↓DL.nin_c, ↓DL.sl_str, ↓DL.sl_tup, ↓DL.sl_lst, ↓DL.app_1, ↓DL.pop_0, ↓DL.ext_t, ↓DL.tuple_l, ↓DL.list_t, ↓DL.list_l, ↓DL.int_b, ↓DL.int_i, ↓DL.min_ii, ↓DL.str_i, ↓DL.str_b, ↓DL.repr_1, ↓DL.back_t, ↓DL.tru_l, ↓DL.at0, ↓DL.at1, ↓DL.at2, ↓DL.at3]
                rw [DL.eq_str' rfl]
                simp only [↓DL.e_next, ↓DL.e_seq, ↓DL.e_drop, ↓DL.e_ret, ↓DL.e_retN, ↓DL.e_if, ↓DL.e_cont, ↓DL.e_break, ↓DL.e_set, ↓DL.e_asg, ↓DL.e_par, ↓DL.e_setI, ↓DL.e_for, ↓DL.e_var, ↓DL.e_c, ↓DL.e_op, ↓DL.e_un, ↓DL.e_test, ↓DL.e_chain, ↓DL.e_and, ↓DL.e_or, ↓DL.e_not, ↓DL.e_andV, ↓DL.e_orV, ↓DL.e_notV, ↓DL.e_ife, ↓DL.e_nil, ↓DL.e_cons, ↓DL.e_tup, ↓DL.e_lst, ↓DL.e_lstM, ↓DL.e_noPart, ↓DL.e_part, ↓DL.e_sl, ↓DL.e_cb, ↓DL.e_mtL, ↓DL.e_mt0, ↓DL.e_mtS, ↓DL.e_mtS0, ↓DL.e_tru, ↓DL.e_lc, ↓DL.e_itS, ↓DL.e_itStr, ↓DL.e_rng1, ↓DL.e_rev, ↓DL.e_dic0, ↓DL.e_dic1, ↓DL.e_s0, ↓DL.e_s1, ↓DL.e_ct, ↓DL.e_cf, dstart, slot, gN, ↓asB_bl, ↓asI_int, ↓asS_str, cond_true, cond_false, List.map_cons, List.map_nil, List.length_cons, List.length_nil, List.set_cons_zero, List.set_cons_succ, Option.elim_some, Option.elim_none, List.cons_append, List.nil_append, List.replicate, Nat.sub_self, Nat.reduceSub, Nat.reduceAdd, Bool.not_true, Bool.not_false, setAll, Int.cast_ofNat_Int, Int.reduceLT, Int.reduceLE, Int.reduceBEq, Nat.reduceBEq, decide_true, decide_false, ↓DL.pred_s, ↓DL.len_str, ↓DL.len_tup, ↓DL.len_lst, ↓DL.le_ii, ↓DL.le_ss, ↓DL.cmp_ii, ↓DL.add_ii, ↓DL.add_ib, ↓DL.add_bi, ↓DL.add_ss, ↓DL.add_tt, ↓DL.add_ll, ↓DL.sub_ii, ↓DL.sub_ib, ↓DL.sub_bi, ↓DL.mul_ii, ↓DL.ii_ii, ↓DL.neg_i, ↓DL.is_bb, ↓DL.isn_bb, ↓DL.all_b, ↓DL.all_map, ↓DL.sum_i, ↓DL.eq_ii, ↓DL.eq_bi, ↓DL.eq_t0, ↓DL.eq_l0, ↓DL.ne_ss, ↓DL.ne_ii, ↓DL.ne_t0, ↓DL.ne_l0, ↓DL.ix_tup, ↓DL.ix_lst, ↓DL.ix_str, ↓DL.in_c, ↓DL.nin_c, ↓DL.sl_str, ↓DL.sl_tup, ↓DL.sl_lst, ↓DL.app_1, ↓DL.pop_0, ↓DL.ext_t, ↓DL.tuple_l, ↓DL.list_t, ↓DL.list_l, ↓DL.int_b, ↓DL.int_i, ↓DL.min_ii, ↓DL.str_i, ↓DL.str_b, ↓DL.repr_1, ↓DL.back_t, ↓DL.tru_l, ↓DL.at0, ↓DL.at1, ↓DL.at2, ↓DL.at3]
                by_cases z9 : z = "shape"
                · subst z9
                  rw [show (if eqT (.str "shape") (Str.ofString "shape") = true then (1 : Int) else 0) = 1 from if_pos (by decide +kernel), show (3 : Int) + 1 = ((3 + 1 : Nat) : Int) from rfl]
                  by_cases hr : r.length = 3
                  · obtain ⟨x, y, t, rfl⟩ := len3 hr
                    have gx := hL.mem (show x ∈ [.str "shape", x, y, t] by simp)
                    have gy := hL.mem (show y ∈ [.str "shape", x, y, t] by simp)
                    have gt := hL.mem (show t ∈ [.str "shape", x, y, t] by simp)
                    rw [shape_is] at h
                    rw [show ((((([x, y, t] : List DL.D).length + 1 : Nat) : Int) == ((3 + 1 : Nat) : Int)) = true) from rfl]
                    simp only [↓DL.e_next, ↓DL.e_seq, ↓DL.e_drop, ↓DL.e_ret, ↓DL.e_retN, ↓DL.e_if, ↓DL.e_cont, ↓DL.e_break, ↓DL.e_set, ↓DL.e_asg, ↓DL.e_par, ↓DL.e_setI, ↓DL.e_for, ↓DL.e_var, ↓DL.e_c, ↓DL.e_op, ↓DL.e_un, ↓DL.e_test, ↓DL.e_chain, ↓DL.e_and, ↓DL.e_or, ↓DL.e_not, ↓DL.e_andV, ↓DL.e_orV, ↓DL.e_notV, ↓DL.e_ife, ↓DL.e_nil, ↓DL.e_cons, ↓DL.e_tup, ↓DL.e_lst, ↓DL.e_lstM, ↓DL.e_noPart, ↓DL.e_part, ↓DL.e_sl, ↓DL.e_cb, ↓DL.e_mtL, ↓DL.e_mt0, ↓DL.e_mtS, ↓DL.e_mtS0, ↓DL.e_tru, ↓DL.e_lc, ↓DL.e_itS, ↓DL.e_itStr, ↓DL.e_rng1, ↓DL.e_rev, ↓DL.e_dic0, ↓DL.e_dic1, ↓DL.e_s0, ↓DL.e_s1, ↓DL.e_ct, ↓DL.e_cf, dstart, slot, gN, ↓asB_bl, ↓asI_int, ↓asS_str, cond_true, cond_false, List.map_cons, List.map_nil, List.length_cons, List.length_nil, List.set_cons_zero, List.set_cons_succ, Option.elim_some, Option.elim_none, List.cons_append, List.nil_append, List.replicate, Nat.sub_self, Nat.reduceSub, Nat.reduceAdd, Bool.not_true, Bool.not_false, setAll, Int.cast_ofNat_Int, Int.reduceLT, Int.reduceLE, Int.reduceBEq, Nat.reduceBEq, decide_true, decide_false, ↓DL.pred_s, ↓DL.len_str, ↓DL.len_tup, ↓DL.len_lst, ↓DL.le_ii, ↓DL.le_ss, ↓DL.cmp_ii, ↓DL.add_ii, ↓DL.add_ib, ↓DL.add_bi, ↓DL.add_ss, ↓DL.add_tt, ↓DL.add_ll, ↓DL.sub_ii, ↓DL.sub_ib, ↓DL.sub_bi, ↓DL.mul_ii, ↓DL.ii_ii, ↓DL.neg_i, ↓DL.is_bb, ↓DL.isn_bb, ↓DL.all_b, ↓DL.all_map, ↓DL.sum_i, ↓DL.eq_ii, ↓DL.eq_bi, ↓DL.eq_t0, ↓DL.eq_l0, ↓DL.ne_ss, ↓DL.ne_ii, ↓DL.ne_t0, ↓DL.ne_l0, ↓DL.ix_tup, ↓DL.ix_lst, ↓DL.ix_str, ↓DL.in_c, ↓DL.nin_c, ↓DL.sl_str, ↓DL.sl_tup, ↓DL.sl_lst, ↓DL.app_1, ↓DL.pop_0, ↓DL.ext_t, ↓DL.tuple_l, ↓DL.list_t, ↓DL.list_l, ↓DL.int_b, ↓DL.int_i, ↓DL.min_ii, ↓DL.str_i, ↓DL.str_b, ↓DL.repr_1, ↓DL.back_t, ↓DL.tru_l, ↓DL.at0, ↓DL.at1, ↓DL.at2, ↓DL.at3]
                    rw [show (!((Str.ofString "shape" : Str) == Str.ofString "shape")) = false by decide +kernel, show L2.atI ([.str "shape", x, y, t] : List DL.D) (-1) = some t from rfl]
                    have tail : ∀ S1, Step [] S S1 → calledB x = true → sp_l_is_name [y] S1 (fun x S2 => asB x fun c => bif c then sp_l_are_terms n [t] S2 P else P (.bl false) S2) := fun S1 s1 hx => by
                      rw [hx] at h
                      refine ⟨y, rfl, gy.1, fun S2 s2 => ?_⟩
                      show bif nameB y then _ else _
                      cases m2 : nameB y with
                      | false => rw [m2] at h; exact h S2 (s1.trans s2)
                      | true =>
                        rw [m2] at h
                        exact ⟨t, rfl, gt, fun S3 s3 => h S3 ((s1.trans s2).trans s3)⟩
                    refine ⟨x, rfl, gx.1, fun S1 s1 => ?_⟩
                    show bif !(nameB x) then _ else _
                    cases m1 : nameB x with
                    | true => exact tail S1 s1 (by unfold calledB; rw [m1]; rfl)
                    | false =>
                      refine ⟨x, rfl, gx.1, fun S2 s2 => ?_⟩
                      show bif !(farB x) then _ else _
                      cases m3 : farB x with
                      | true => exact tail S2 (s1.trans s2) (by unfold calledB; rw [m1, m3]; rfl)
                      | false =>
                        rw [show calledB x = false by unfold calledB; rw [m1, m3]; rfl] at h
                        exact h S2 (s1.trans s2)
                  · rw [len4_no (by simp) hr] at h
                    rw [len_is hr]
                    exact h S (.refl S)
                · have hz3 : z ∈ fc := by
                    simp only [fc, List.mem_cons, List.not_mem_nil, or_false] at hz ⊢
                    rcases hz with q | q | q
                    · exact .inl q
                    · exact .inr q
                    · exact absurd q z9
                  have e9 : eqT (.str z) (Str.ofString "shape") = false := (words3 z hz3).2.2.2.2.2
                  rw [show (if eqT (.str z) (Str.ofString "shape") = true then (1 : Int) else 0) = 0 from if_neg (by rw [e9]; exact Bool.false_ne_true), show (3 : Int) + 0 = ((2 + 1 : Nat) : Int) from rfl]
                  by_cases hr : r.length = 2
                  · obtain ⟨x, y, rfl⟩ : ∃ x y, r = [x, y] := by
                      match r, hr with
                      | [x, y], _ => exact ⟨x, y, rfl⟩
                    have gx := hL.mem (show x ∈ [.str z, x, y] by simp)
                    have gy := hL.mem (show y ∈ [.str z, x, y] by simp)
                    rw [fc_is hz3] at h
                    rw [show ((((([x, y] : List DL.D).length + 1 : Nat) : Int) == ((2 + 1 : Nat) : Int)) = true) from rfl]
                    simp only [↓DL.e_next, ↓DL.e_seq, ↓DL.e_drop, ↓DL.e_ret, ↓DL.e_retN, ↓DL.e_if, ↓DL.e_cont, ↓DL.e_break, ↓DL.e_set, ↓DL.e_asg, ↓DL.e_par, ↓DL.e_setI, ↓DL.e_for, ↓DL.e_var, ↓DL.e_c, ↓DL.e_op, ↓DL.e_un, ↓DL.e_test, ↓DL.e_chain, ↓DL.e_and, ↓DL.e_or, ↓DL.e_not, ↓DL.e_andV, ↓DL.e_orV, ↓DL.e_notV, ↓DL.e_ife, ↓DL.e_nil, ↓DL.e_cons, ↓DL.e_tup, ↓DL.e_lst, ↓DL.e_lstM, ↓DL.e_noPart, ↓DL.e_part, ↓DL.e_sl, ↓DL.e_cb, ↓DL.e_mtL, ↓DL.e_mt0, ↓DL.e_mtS, ↓DL.e_mtS0, ↓DL.e_tru, ↓DL.e_lc, ↓DL.e_itS, ↓DL.e_itStr, ↓DL.e_rng1, ↓DL.e_rev, ↓DL.e_dic0, ↓DL.e_dic1, ↓DL.e_s0, ↓DL.e_s1, ↓DL.e_ct, ↓DL.e_cf, dstart, slot, gN, ↓asB_bl, ↓asI_int, ↓asS_str, cond_true, cond_false, List.map_cons, List.map_nil, List.length_cons, List.length_nil, List.set_cons_zero, List.set_cons_succ, Option.elim_some, Option.elim_none, List.cons_append, List.nil_append, List.replicate, Nat.sub_self, Nat.reduceSub, Nat.reduceAdd, Bool.not_true, Bool.not_false, setAll, Int.cast_ofNat_Int, Int.reduceLT, Int.reduceLE, Int.reduceBEq, Nat.reduceBEq, decide_true, decide_false, ↓DL.pred_s, ↓DL.len_str, ↓DL.len_tup, ↓DL.len_lst, ↓DL.le_ii, ↓DL.le_ss, ↓DL.cmp_ii, ↓DL.add_ii, ↓DL.add_ib, ↓DL.add_bi, ↓DL.add_ss, ↓DL.add_tt, ↓DL.add_ll, ↓DL.sub_ii, ↓DL.sub_ib, ↓DL.sub_bi, ↓DL.mul_ii, ↓DL.ii_ii, ↓DL.neg_i, ↓DL.is_bb, ↓DL.isn_bb, ↓DL.all_b, ↓DL.all_map, ↓DL.sum_i, ↓DL.eq_ii, ↓DL.eq_bi, ↓DL.eq_t0, ↓DL.eq_l0, ↓DL.ne_ss, ↓DL.ne_ii, ↓DL.ne_t0, ↓DL.ne_l0, ↓DL.ix_tup, ↓DL.ix_lst, ↓DL.ix_str, ↓DL.in_c, ↓DL.nin_c, ↓DL.sl_str, ↓DL.sl_tup, ↓DL.sl_lst, ↓DL.app_1, ↓DL.pop_0, ↓DL.ext_t, ↓DL.tuple_l, ↓DL.list_t, ↓DL.list_l, ↓DL.int_b, ↓DL.int_i, ↓DL.min_ii, ↓DL.str_i, ↓DL.str_b, ↓DL.repr_1, ↓DL.back_t, ↓DL.tru_l, ↓DL.at0, ↓DL.at1, ↓DL.at2, ↓DL.at3]
                    rw [show (!(z == Str.ofString "shape")) = true by rw [show (z == Str.ofString "shape") = false from e9]; rfl, show L2.atI ([.str z, x, y] : List DL.D) (-1) = some y from rfl]
                    have tail : ∀ S1, Step [] S S1 → calledB x = true → sp_l_are_terms n [y] S1 P := fun S1 s1 hx => by
                      rw [hx] at h
                      exact ⟨y, rfl, gy, fun S2 s2 => h S2 (s1.trans s2)⟩
                    refine ⟨x, rfl, gx.1, fun S1 s1 => ?_⟩
                    show bif !(nameB x) then _ else _
                    cases m1 : nameB x with
                    | true => exact tail S1 s1 (by unfold calledB; rw [m1]; rfl)
                    | false =>
                      refine ⟨x, rfl, gx.1, fun S2 s2 => ?_⟩
                      show bif !(farB x) then _ else _
                      cases m3 : farB x with
                      | true => exact tail S2 (s1.trans s2) (by unfold calledB; rw [m1, m3]; rfl)
                      | false =>
                        rw [show calledB x = false by unfold calledB; rw [m1, m3]; rfl] at h
                        exact h S2 (s1.trans s2)
                  · rw [len3_no hz3 hr] at h
                    rw [len_is hr]
                    exact h S (.refl S)
  | _ => exact no rfl S (.refl S)
end
end K01
set_option Elab.async false
set_option linter.all false
set_option maxRecDepth 100000
set_option maxHeartbeats 1000000
namespace K01
open PySem PySem.Spec PyProof.Rows L2 DL
section
variable {P : Program} {w : World} {K : PySem.W.Frag} {mg : Str → Option Value} {base : Heap}

abbrev st_l_right : Stmt := top 32
theorem sc_l_right : FnScope ["_law_thing", "_law_kept", "_law_due", "_law_again"] ["_law_thing"] (defScope st_l_right) := ⟨rfl, rfl, rfl, by decide +kernel, rfl, by decide +kernel, by decide +kernel⟩
def spR (d : D) : Prop := good 3 d = true ∧ sz d ≤ 2000 ∧ dp d ≤ 140
def sp_l_right : DSp := spB spR fun _ => true
theorem len_l_right {ds : List D} {S : Sto} {P : DK} (h : sp_l_right ds S P) : ds.length = 1 := spB_len h
theorem three_ok (a b c : Bool) : fits (.lst [.bl a, .bl b, .bl c]) = true ∧ (py (.lst [.bl a, .bl b, .bl c])).shown.length ≤ sizeLine ∧ (py (.lst [.bl a, .bl b, .bl c])).depth ≤ 150 :=
  good_repr (k := 0) (by omega) (by simp only [good, goodA, Bool.and_self]) (by simp only [sz, szA]; omega) (by simp only [dp, dpA]; omega)
theorem ok_l_right {k : Nat}  (DD : Def K mg "_law_right" st_l_right ["_law_thing"]) (G_is_far : Has P w K mg base (k) "is_far" ["thing"] (sp_is_far)) (G_is_name : Has P w K mg base (k) "is_name" ["thing"] (sp_is_name)) (G_is_term : Has P w K mg base (k) "is_term" ["thing"] (sp_is_term)) (G__law_is_far : Has P w K mg base (k) "_law_is_far" ["_law_thing"] (sp_l_is_far)) (G__law_is_name : Has P w K mg base (k) "_law_is_name" ["_law_thing"] (sp_l_is_name)) (G__law_is_term : Has P w K mg base (k) "_law_is_term" ["_law_thing"] (sp_l_is_term 145)) (m_range : mg "range" = none) (m_repr : mg "repr" = none) : Has P w K mg base (k + 1) "_law_right" ["_law_thing"] (sp_l_right) := by
  refine DD.has sc_l_right (fun ds S P h => len_l_right h) (fun f cdv A outer s H hr hgd => ⟨_, (ss_cons (s_set 1 sc_l_right.nd (q_callB (c_repr hgd (DL.Room.un0 hr)) rfl m_repr DL.bb_repr (a_cons (q_var 0) a_nil)))
      (ss_cons (s_set 2 sc_l_right.nd (q_callB (c_repr hgd (DL.Room.un0 hr)) rfl m_repr DL.bb_repr (a_cons (q_lst (a_cons (q_def G__law_is_term (hr.mono (by omega)) hgd (a_cons (q_var 0) a_nil)) (a_cons (q_def G__law_is_name (hr.mono (by omega)) hgd (a_cons (q_var 0) a_nil)) (a_cons (q_def G__law_is_far (hr.mono (by omega)) hgd (a_cons (q_var 0) a_nil)) a_nil)))) a_nil)))
      (ss_cons (s_for PassesOwn.never rfl (i_rng1 rfl m_range (a_cons q_int a_nil)) (g_name 3 sc_l_right.nd) (ss_one (s_if (t_w (w_or (t_cmp (op_neD (DL.Room.un1 hr)) (q_callB (c_repr hgd (DL.Room.un0 hr)) rfl m_repr DL.bb_repr (a_cons (q_lst (a_cons (q_def G_is_term (hr.mono (by omega)) hgd (a_cons (q_var 0) a_nil)) (a_cons (q_def G_is_name (hr.mono (by omega)) hgd (a_cons (q_var 0) a_nil)) (a_cons (q_def G_is_far (hr.mono (by omega)) hgd (a_cons (q_var 0) a_nil)) a_nil)))) a_nil)) (q_var 2)) (w_or1 (t_cmp (op_neD (DL.Room.un1 hr)) (q_callB (c_repr hgd (DL.Room.un0 hr)) rfl m_repr DL.bb_repr (a_cons (q_var 0) a_nil)) (q_var 1))))) (ss_one (s_ret q_bl)) ss_nil)))
      (ss_one (s_ret q_bl))))), fun ds S P h => ?_⟩)
  obtain ⟨d, rfl, ⟨hg, hs, hd⟩, h⟩ := h
  have hl := small8
  have h9 : good 9 d = true := good_mono (by omega) hg
  refine seq_gen fun M hM => ?_
  simp only [↓DL.e_next, ↓DL.e_seq, ↓DL.e_drop, ↓DL.e_ret, ↓DL.e_retN, ↓DL.e_if, ↓DL.e_cont, ↓DL.e_break, ↓DL.e_set, ↓DL.e_asg, ↓DL.e_par, ↓DL.e_setI, ↓DL.e_for, ↓DL.e_var, ↓DL.e_c, ↓DL.e_op, ↓DL.e_un, ↓DL.e_test, ↓DL.e_chain, ↓DL.e_and, ↓DL.e_or, ↓DL.e_not, ↓DL.e_andV, ↓DL.e_orV, ↓DL.e_notV, ↓DL.e_ife, ↓DL.e_nil, ↓DL.e_cons, ↓DL.e_tup, ↓DL.e_lst, ↓DL.e_lstM, ↓DL.e_noPart, ↓DL.e_part, ↓DL.e_sl, ↓DL.e_cb, ↓DL.e_mtL, ↓DL.e_mt0, ↓DL.e_mtS, ↓DL.e_mtS0, ↓DL.e_tru, ↓DL.e_lc, ↓DL.e_itS, ↓DL.e_itStr, ↓DL.e_rng1, ↓DL.e_rev, ↓DL.e_dic0, ↓DL.e_dic1, ↓DL.e_s0, ↓DL.e_s1, ↓DL.e_ct, ↓DL.e_cf, dstart, slot, gN, ↓asB_bl, ↓asI_int, ↓asS_str, cond_true, cond_false, List.map_cons, List.map_nil, List.length_cons, List.length_nil, List.set_cons_zero, List.set_cons_succ, Option.elim_some, Option.elim_none, List.cons_append, List.nil_append, List.replicate, Nat.sub_self, Nat.reduceSub, Nat.reduceAdd, Bool.not_true, Bool.not_false, setAll, Int.cast_ofNat_Int, Int.reduceLT, Int.reduceLE, Int.reduceBEq, Nat.reduceBEq, decide_true, decide_false, ↓DL.pred_s, ↓DL.len_str, ↓DL.len_tup, ↓DL.len_lst, ↓DL.le_ii, ↓DL.le_ss, ↓DL.cmp_ii, ↓DL.add_ii, ↓DL.add_ib, ↓DL.add_bi, ↓DL.add_ss, ↓DL.add_tt, ↓DL.add_ll, ↓DL.sub_ii, ↓DL.sub_ib, ↓DL.sub_bi, ↓DL.mul_ii, ↓DL.ii_ii, ↓DL.neg_i, ↓DL.is_bb, ↓DL.isn_bb, ↓DL.all_b, ↓DL.all_map, ↓DL.sum_i, ↓DL.eq_ii, ↓DL.eq_bi, ↓DL.eq_t0, ↓DL.eq_l0, ↓DL.ne_ss, ↓DL.ne_ii, ↓DL.ne_t0, ↓DL.ne_l0, ↓DL.ix_tup, ↓DL.ix_lst, ↓DL.ix_str, ↓DL.in_c, ↓DL.nin_c, ↓DL.sl_str, ↓DL.sl_tup, ↓DL.sl_lst, ↓DL.app_1, ↓DL.pop_0, ↓DL.ext_t, ↓DL.tuple_l, ↓DL.list_t, ↓DL.list_l, ↓DL.int_b, ↓DL.int_i, ↓DL.min_ii, ↓DL.str_i, ↓DL.str_b, ↓DL.repr_1, ↓DL.back_t, ↓DL.tru_l, ↓DL.at0, ↓DL.at1, ↓DL.at2, ↓DL.at3]
  refine ⟨good_repr (by omega) hg hs (by omega), ?_⟩
  subst hM
  refine seq_gen fun M hM => ?_
  simp only [↓DL.e_next, ↓DL.e_seq, ↓DL.e_drop, ↓DL.e_ret, ↓DL.e_retN, ↓DL.e_if, ↓DL.e_cont, ↓DL.e_break, ↓DL.e_set, ↓DL.e_asg, ↓DL.e_par, ↓DL.e_setI, ↓DL.e_for, ↓DL.e_var, ↓DL.e_c, ↓DL.e_op, ↓DL.e_un, ↓DL.e_test, ↓DL.e_chain, ↓DL.e_and, ↓DL.e_or, ↓DL.e_not, ↓DL.e_andV, ↓DL.e_orV, ↓DL.e_notV, ↓DL.e_ife, ↓DL.e_nil, ↓DL.e_cons, ↓DL.e_tup, ↓DL.e_lst, ↓DL.e_lstM, ↓DL.e_noPart, ↓DL.e_part, ↓DL.e_sl, ↓DL.e_cb, ↓DL.e_mtL, ↓DL.e_mt0, ↓DL.e_mtS, ↓DL.e_mtS0, ↓DL.e_tru, ↓DL.e_lc, ↓DL.e_itS, ↓DL.e_itStr, ↓DL.e_rng1, ↓DL.e_rev, ↓DL.e_dic0, ↓DL.e_dic1, ↓DL.e_s0, ↓DL.e_s1, ↓DL.e_ct, ↓DL.e_cf, dstart, slot, gN, ↓asB_bl, ↓asI_int, ↓asS_str, cond_true, cond_false, List.map_cons, List.map_nil, List.length_cons, List.length_nil, List.set_cons_zero, List.set_cons_succ, Option.elim_some, Option.elim_none, List.cons_append, List.nil_append, List.replicate, Nat.sub_self, Nat.reduceSub, Nat.reduceAdd, Bool.not_true, Bool.not_false, setAll, Int.cast_ofNat_Int, Int.reduceLT, Int.reduceLE, Int.reduceBEq, Nat.reduceBEq, decide_true, decide_false, ↓DL.pred_s, ↓DL.len_str, ↓DL.len_tup, ↓DL.len_lst, ↓DL.le_ii, ↓DL.le_ss, ↓DL.cmp_ii, ↓DL.add_ii, ↓DL.add_ib, ↓DL.add_bi, ↓DL.add_ss, ↓DL.add_tt, ↓DL.add_ll, ↓DL.sub_ii, ↓DL.sub_ib, ↓DL.sub_bi, ↓DL.mul_ii, ↓DL.ii_ii, ↓DL.neg_i, ↓DL.is_bb, ↓DL.isn_bb, ↓DL.all_b, ↓DL.all_map, ↓DL.sum_i, ↓DL.eq_ii, ↓DL.eq_bi, ↓DL.eq_t0, ↓DL.eq_l0, ↓DL.ne_ss, ↓DL.ne_ii, ↓DL.ne_t0, ↓DL.ne_l0, ↓DL.ix_tup, ↓DL.ix_lst, ↓DL.ix_str, ↓DL.in_c, ↓DL.nin_c, ↓DL.sl_str, ↓DL.sl_tup, ↓DL.sl_lst, ↓DL.app_1, ↓DL.pop_0, ↓DL.ext_t, ↓DL.tuple_l, ↓DL.list_t, ↓DL.list_l, ↓DL.int_b, ↓DL.int_i, ↓DL.min_ii, ↓DL.str_i, ↓DL.str_b, ↓DL.repr_1, ↓DL.back_t, ↓DL.tru_l, ↓DL.at0, ↓DL.at1, ↓DL.at2, ↓DL.at3]
  refine ⟨d, rfl, ⟨h9, by omega, by omega⟩, fun S1 s1 => ?_⟩
  refine ⟨d, rfl, h9, fun S2 s2 => ?_⟩
  refine ⟨d, rfl, h9, fun S3 s3 => ?_⟩
  have s3 := (s1.trans s2).trans s3
  refine ⟨by omega, ?_⟩
  refine ⟨three_ok _ _ _, ?_⟩
  subst hM
  refine seq_gen fun M hM => ?_
  simp only [↓DL.e_next, ↓DL.e_seq, ↓DL.e_drop, ↓DL.e_ret, ↓DL.e_retN, ↓DL.e_if, ↓DL.e_cont, ↓DL.e_break, ↓DL.e_set, ↓DL.e_asg, ↓DL.e_par, ↓DL.e_setI, ↓DL.e_for, ↓DL.e_var, ↓DL.e_c, ↓DL.e_op, ↓DL.e_un, ↓DL.e_test, ↓DL.e_chain, ↓DL.e_and, ↓DL.e_or, ↓DL.e_not, ↓DL.e_andV, ↓DL.e_orV, ↓DL.e_notV, ↓DL.e_ife, ↓DL.e_nil, ↓DL.e_cons, ↓DL.e_tup, ↓DL.e_lst, ↓DL.e_lstM, ↓DL.e_noPart, ↓DL.e_part, ↓DL.e_sl, ↓DL.e_cb, ↓DL.e_mtL, ↓DL.e_mt0, ↓DL.e_mtS, ↓DL.e_mtS0, ↓DL.e_tru, ↓DL.e_lc, ↓DL.e_itS, ↓DL.e_itStr, ↓DL.e_rng1, ↓DL.e_rev, ↓DL.e_dic0, ↓DL.e_dic1, ↓DL.e_s0, ↓DL.e_s1, ↓DL.e_ct, ↓DL.e_cf, dstart, slot, gN, ↓asB_bl, ↓asI_int, ↓asS_str, cond_true, cond_false, List.map_cons, List.map_nil, List.length_cons, List.length_nil, List.set_cons_zero, List.set_cons_succ, Option.elim_some, Option.elim_none, List.cons_append, List.nil_append, List.replicate, Nat.sub_self, Nat.reduceSub, Nat.reduceAdd, Bool.not_true, Bool.not_false, setAll, Int.cast_ofNat_Int, Int.reduceLT, Int.reduceLE, Int.reduceBEq, Nat.reduceBEq, decide_true, decide_false, ↓DL.pred_s, ↓DL.len_str, ↓DL.len_tup, ↓DL.len_lst, ↓DL.le_ii, ↓DL.le_ss, ↓DL.cmp_ii, ↓DL.add_ii, ↓DL.add_ib, ↓DL.add_bi, ↓DL.add_ss, ↓DL.add_tt, ↓DL.add_ll, ↓DL.sub_ii, ↓DL.sub_ib, ↓DL.sub_bi, ↓DL.mul_ii, ↓DL.ii_ii, ↓DL.neg_i, ↓DL.is_bb, ↓DL.isn_bb, ↓DL.all_b, ↓DL.all_map, ↓DL.sum_i, ↓DL.eq_ii, ↓DL.eq_bi, ↓DL.eq_t0, ↓DL.eq_l0, ↓DL.ne_ss, ↓DL.ne_ii, ↓DL.ne_t0, ↓DL.ne_l0, ↓DL.ix_tup, ↓DL.ix_lst, ↓DL.ix_str, ↓DL.in_c, ↓DL.nin_c, ↓DL.sl_str, ↓DL.sl_tup, ↓DL.sl_lst, ↓DL.app_1, ↓DL.pop_0, ↓DL.ext_t, ↓DL.tuple_l, ↓DL.list_t, ↓DL.list_l, ↓DL.int_b, ↓DL.int_i, ↓DL.min_ii, ↓DL.str_i, ↓DL.str_b, ↓DL.repr_1, ↓DL.back_t, ↓DL.tru_l, ↓DL.at0, ↓DL.at1, ↓DL.at2, ↓DL.at3]
  refine ⟨⟨by decide, by decide⟩, ?_⟩
  refine ⟨fun j δ' S' => ∃ x, δ' = [some d, some (.str (py d).shown), some (.str (py (.lst [.bl (tB d), .bl (nameB d), .bl (farB d)])).shown), x] ∧ Step [] S S', ⟨none, rfl, s3⟩, fun i dd δ' S' hd' ⟨x, e, s4⟩ => ?_, fun δ' S' ⟨x, e, s4⟩ => ?_⟩
  · subst e
    show dIfS _ _ _ _ _ _
    refine if_gen fun M1 M2 e1 e2 => ?_
    simp only [↓DL.e_next, ↓DL.e_seq, ↓DL.e_drop, ↓DL.e_ret, ↓DL.e_retN, ↓DL.e_if, ↓DL.e_cont, ↓DL.e_break, ↓DL.e_set, ↓DL.e_asg, ↓DL.e_par, ↓DL.e_setI, ↓DL.e_for, ↓DL.e_var, ↓DL.e_c, ↓DL.e_op, ↓DL.e_un, ↓DL.e_test, ↓DL.e_chain, ↓DL.e_and, ↓DL.e_or, ↓DL.e_not, ↓DL.e_andV, ↓DL.e_orV, ↓DL.e_notV, ↓DL.e_ife, ↓DL.e_nil, ↓DL.e_cons, ↓DL.e_tup, ↓DL.e_lst, ↓DL.e_lstM, ↓DL.e_noPart, ↓DL.e_part, ↓DL.e_sl, ↓DL.e_cb, ↓DL.e_mtL, ↓DL.e_mt0, ↓DL.e_mtS, ↓DL.e_mtS0, ↓DL.e_tru, ↓DL.e_lc, ↓DL.e_itS, ↓DL.e_itStr, ↓DL.e_rng1, ↓DL.e_rev, ↓DL.e_dic0, ↓DL.e_dic1, ↓DL.e_s0, ↓DL.e_s1, ↓DL.e_ct, ↓DL.e_cf, dstart, slot, gN, ↓asB_bl, ↓asI_int, ↓asS_str, cond_true, cond_false, List.map_cons, List.map_nil, List.length_cons, List.length_nil, List.set_cons_zero, List.set_cons_succ, Option.elim_some, Option.elim_none, List.cons_append, List.nil_append, List.replicate, Nat.sub_self, Nat.reduceSub, Nat.reduceAdd, Bool.not_true, Bool.not_false, setAll, Int.cast_ofNat_Int, Int.reduceLT, Int.reduceLE, Int.reduceBEq, Nat.reduceBEq, decide_true, decide_false, ↓DL.pred_s, ↓DL.len_str, ↓DL.len_tup, ↓DL.len_lst, ↓DL.le_ii, ↓DL.le_ss, ↓DL.cmp_ii, ↓DL.add_ii, ↓DL.add_ib, ↓DL.add_bi, ↓DL.add_ss, ↓DL.add_tt, ↓DL.add_ll, ↓DL.sub_ii, ↓DL.sub_ib, ↓DL.sub_bi, ↓DL.mul_ii, ↓DL.ii_ii, ↓DL.neg_i, ↓DL.is_bb, ↓DL.isn_bb, ↓DL.all_b, ↓DL.all_map, ↓DL.sum_i, ↓DL.eq_ii, ↓DL.eq_bi, ↓DL.eq_t0, ↓DL.eq_l0, ↓DL.ne_ss, ↓DL.ne_ii, ↓DL.ne_t0, ↓DL.ne_l0, ↓DL.ix_tup, ↓DL.ix_lst, ↓DL.ix_str, ↓DL.in_c, ↓DL.nin_c, ↓DL.sl_str, ↓DL.sl_tup, ↓DL.sl_lst, ↓DL.app_1, ↓DL.pop_0, ↓DL.ext_t, ↓DL.tuple_l, ↓DL.list_t, ↓DL.list_l, ↓DL.int_b, ↓DL.int_i, ↓DL.min_ii, ↓DL.str_i, ↓DL.str_b, ↓DL.repr_1, ↓DL.back_t, ↓DL.tru_l, ↓DL.at0, ↓DL.at1, ↓DL.at2, ↓DL.at3]
    refine ⟨d, rfl, ⟨h9, by omega⟩, fun S5 s5 => ?_⟩
    refine ⟨d, rfl, good_ok1 (by omega) h9, fun S6 s6 => ?_⟩
    refine ⟨d, rfl, good_ok2 (by omega) h9, fun S7 s7 => ?_⟩
    refine ⟨by omega, ?_⟩
    have t : ∀ z : Str, (z == z) = true := fun z => beq_self_eq_true z
    have s8 := ((s4.trans s5).trans s6).trans s7
    refine ⟨three_ok _ _ _, ?_⟩
    simp only [t]
    simp only [↓DL.e_next, ↓DL.e_seq, ↓DL.e_drop, ↓DL.e_ret, ↓DL.e_retN, ↓DL.e_if, ↓DL.e_cont, ↓DL.e_break, ↓DL.e_set, ↓DL.e_asg, ↓DL.e_par, ↓DL.e_setI, ↓DL.e_for, ↓DL.e_var, ↓DL.e_c, ↓DL.e_op, ↓DL.e_un, ↓DL.e_test, ↓DL.e_chain, ↓DL.e_and, ↓DL.e_or, ↓DL.e_not, ↓DL.e_andV, ↓DL.e_orV, ↓DL.e_notV, ↓DL.e_ife, ↓DL.e_nil, ↓DL.e_cons, ↓DL.e_tup, ↓DL.e_lst, ↓DL.e_lstM, ↓DL.e_noPart, ↓DL.e_part, ↓DL.e_sl, ↓DL.e_cb, ↓DL.e_mtL, ↓DL.e_mt0, ↓DL.e_mtS, ↓DL.e_mtS0, ↓DL.e_tru, ↓DL.e_lc, ↓DL.e_itS, ↓DL.e_itStr, ↓DL.e_rng1, ↓DL.e_rev, ↓DL.e_dic0, ↓DL.e_dic1, ↓DL.e_s0, ↓DL.e_s1, ↓DL.e_ct, ↓DL.e_cf, dstart, slot, gN, ↓asB_bl, ↓asI_int, ↓asS_str, cond_true, cond_false, List.map_cons, List.map_nil, List.length_cons, List.length_nil, List.set_cons_zero, List.set_cons_succ, Option.elim_some, Option.elim_none, List.cons_append, List.nil_append, List.replicate, Nat.sub_self, Nat.reduceSub, Nat.reduceAdd, Bool.not_true, Bool.not_false, setAll, Int.cast_ofNat_Int, Int.reduceLT, Int.reduceLE, Int.reduceBEq, Nat.reduceBEq, decide_true, decide_false, ↓DL.pred_s, ↓DL.len_str, ↓DL.len_tup, ↓DL.len_lst, ↓DL.le_ii, ↓DL.le_ss, ↓DL.cmp_ii, ↓DL.add_ii, ↓DL.add_ib, ↓DL.add_bi, ↓DL.add_ss, ↓DL.add_tt, ↓DL.add_ll, ↓DL.sub_ii, ↓DL.sub_ib, ↓DL.sub_bi, ↓DL.mul_ii, ↓DL.ii_ii, ↓DL.neg_i, ↓DL.is_bb, ↓DL.isn_bb, ↓DL.all_b, ↓DL.all_map, ↓DL.sum_i, ↓DL.eq_ii, ↓DL.eq_bi, ↓DL.eq_t0, ↓DL.eq_l0, ↓DL.ne_ss, ↓DL.ne_ii, ↓DL.ne_t0, ↓DL.ne_l0, ↓DL.ix_tup, ↓DL.ix_lst, ↓DL.ix_str, ↓DL.in_c, ↓DL.nin_c, ↓DL.sl_str, ↓DL.sl_tup, ↓DL.sl_lst, ↓DL.app_1, ↓DL.pop_0, ↓DL.ext_t, ↓DL.tuple_l, ↓DL.list_t, ↓DL.list_l, ↓DL.int_b, ↓DL.int_i, ↓DL.min_ii, ↓DL.str_i, ↓DL.str_b, ↓DL.repr_1, ↓DL.back_t, ↓DL.tru_l, ↓DL.at0, ↓DL.at1, ↓DL.at2, ↓DL.at3]
    refine ⟨good_repr (by omega) hg hs (by omega), ?_⟩
    subst e2
    exact ⟨some dd, rfl, s8⟩
  · subst e
    subst hM
    exact h S' s4
/-! ### defs that call themselves, as deep as wanted -/
theorem all_look {k : Nat} (D1 : Def K mg "_law_is_term" st_l_is_term ["_law_thing"]) (D2 : Def K mg "_law_are_terms" st_l_are_terms ["_law_thing"]) (g1 : Has P w K mg base k "_law_is_name" ["_law_thing"] sp_l_is_name) (g2 : Has P w K mg base k "_law_is_far" ["_law_thing"] sp_l_is_far)
    (g3 : Has P w K mg base k "_law_is_mark" ["_law_thing"] sp_l_is_mark) (g4 : Has P w K mg base k "_law_is_whole" ["_law_thing"] sp_l_is_whole) (m1 : mg "int" = none) (m2 : mg "len" = none) (m3 : mg "isinstance" = none) (m4 : mg "str" = none) (m5 : mg "tuple" = none) :
    ∀ n : Nat, Has P w K mg base (k + n) "_law_is_term" ["_law_thing"] (sp_l_is_term n) ∧ Has P w K mg base (k + n) "_law_are_terms" ["_law_thing"] (sp_l_are_terms n)
  | 0 => ⟨D1.none fun ds S P' ⟨d, _, ⟨_, q, _⟩, _⟩ => absurd q (Nat.not_lt_zero _), D2.none fun ds S P' ⟨d, _, ⟨_, q, _⟩, _⟩ => absurd q (Nat.not_lt_zero _)⟩
  | n + 1 => by
    obtain ⟨a, b⟩ := all_look D1 D2 g1 g2 g3 g4 m1 m2 m3 m4 m5 n
    exact ⟨ok_l_is_term (k := k + n) D1 b (g1.mono (by omega)) (g2.mono (by omega)) a (g3.mono (by omega)) (g4.mono (by omega)) m1 m2 m3 m4 m5, ok_l_are_terms (k := k + n) D2 a m3 m5⟩
theorem all_term {k : Nat} (D1 : Def K mg "_law_term" st_l_term ["_law_deck_here", "_law_deep", "_law_left"]) (g1 : Has P w K mg base k "_law_called" ["_law_deck_here"] sp_l_called) (g2 : Has P w K mg base k "_law_name" ["_law_deck_here"] sp_l_name) (g3 : Has P w K mg base k "_law_draw" ["_law_deck_here", "_law_ways"] sp_l_draw)
    (g4 : Has P w K mg base k "_law_leaf" ["_law_deck_here"] sp_l_leaf) (m1 : mg "tuple" = none) (m2 : mg "range" = none) (m3 : mg "min" = none) : ∀ n : Nat, Has P w K mg base (k + n) "_law_term" ["_law_deck_here", "_law_deep", "_law_left"] (sp_l_term n)
  | 0 => D1.none fun ds S P' ⟨_, _, _, _, _, _, q1, q2, _⟩ => by omega
  | n + 1 => ok_l_term (k := k + n) D1 (g1.mono (by omega)) (g2.mono (by omega)) (g3.mono (by omega)) (all_term D1 g1 g2 g3 g4 m1 m2 m3 n) (g4.mono (by omega)) m1 m2 m3
theorem all_bent {k : Nat} (D1 : Def K mg "_law_bent" st_l_bent ["_law_deck_here", "_law_thing"]) (g1 : Has P w K mg base k "_law_odd" ["_law_deck_here", "_law_thing"] sp_l_odd) (g2 : Has P w K mg base k "_law_draw" ["_law_deck_here", "_law_ways"] sp_l_draw) (m1 : mg "isinstance" = none) (m2 : mg "tuple" = none) (m3 : mg "len" = none) (m4 : mg "int" = none) :
    ∀ n : Nat, Has P w K mg base (k + n) "_law_bent" ["_law_deck_here", "_law_thing"] (sp_l_bent n)
  | 0 => D1.none fun ds S P' ⟨_, _, _, _, _, _, _, _, _, q, _⟩ => absurd q (Nat.not_lt_zero _)
  | n + 1 => ok_l_bent (k := k + n) D1 (g1.mono (by omega)) (all_bent D1 g1 g2 m1 m2 m3 m4 n) (g2.mono (by omega)) m1 m2 m3 m4
end
end K01
set_option Elab.async false
set_option linter.all false
set_option maxRecDepth 100000
set_option maxHeartbeats 1000000
namespace K01
open PySem PySem.Spec PyProof.Rows L2 DL
/-- so long at most, plain signs -/
def At (z : Str) (n : Nat) : Prop := z.length ≤ n ∧ ∀ c ∈ z.cps.toList, c < 128
theorem e_repl {to : DE} {y z : Str} {δ : DSt} {S : Sto} {P : DK} : dRepl to y z δ S P = to δ S fun d S1 => asS d fun x => x.length + (x.length + 1) * z.length ≤ 16777216 ∧ P (.str (Txt.replace x y z)) S1 := rfl
theorem mul_si {z : Str} {i : Int} {S : Sto} {P : DK} : mulD (.str z) (.int i) S P = ((1 < i ∧ i ≤ 1000 ∧ z.length ≤ 1000 ∧ z.length ≠ 0) ∧ P (.str ⟨(List.replicate i.toNat z.cps).foldl (· ++ ·) #[]⟩) S) := rfl
def nine (n : Nat) : Str := ⟨(List.replicate n (Str.ofString "9").cps).foldl (· ++ ·) #[]⟩
theorem lsts_l {S : Sto} {xs ys : List D} : lsts S (.lst xs) (.lst ys) = some (xs, ys) := rfl
theorem lsts_r {S : Sto} {p : Addr} {xs ys : List D} (e : S p = some (.lst xs)) : lsts S (.ref p) (.lst ys) = some (xs, ys) := by
  have n : norm S (.ref p) = .lst xs := by show (match S p with | some (.lst xs) => D.lst xs | _ => .ref p) = _; rw [e]
  unfold lsts
  rw [n]
  rfl
theorem At.app {a b : Str} {n m : Nat} (h : At a n) (h2 : At b m) : At (a ++ b) (n + m) := ⟨by rw [strLen_append]; have := h.1; have := h2.1; omega, fun c hc => by
  rw [cps_app, List.mem_append] at hc
  exact hc.elim (h.2 c) (h2.2 c)⟩
theorem At.mono {a : Str} {n m : Nat} (h : At a n) (l : n ≤ m) : At a m := ⟨Nat.le_trans h.1 l, h.2⟩
theorem At.spR {z : Str} {n : Nat} (h : At z n) (l : n ≤ 80) : spR (.str z) := ⟨by simp only [good]; exact goodS_of (by have := h.1; omega) h.2, by simp only [sz]; omega, by simp only [dp]; omega⟩
theorem At.cut {z : Str} {n : Nat} {lo hi : Option Int} (h : At z n) (l : n ≤ 80) : At (cutS z lo hi) 80 := by
  have g : goodS 0 z = true := goodS_of (by have := h.1; omega) h.2
  have q := goodS_cut (lo := lo) (hi := hi) g
  exact ⟨by have := goodS_len q; omega, goodS_asc q⟩
theorem at_c (z : Str) (n : Nat) (h : (decide (z.length ≤ n) && z.cps.toList.all fun c => decide (c < 128)) = true := by decide +kernel) : At z n := by
  rw [Bool.and_eq_true] at h
  exact ⟨of_decide_eq_true h.1, fun c hc => of_decide_eq_true (List.all_eq_true.mp h.2 c hc)⟩
theorem at_name {z : Str} (h : nameS z = true) : At z 8 := ⟨(nameS_iff.mp h).2.1, fun c hc => az_asc c ((nameS_iff.mp h).2.2 c hc)⟩
theorem at_repl {z y : Str} {k : Nat} (h : farS z = true) (hz : At z 60) (hy : At y k) (hk : k ≤ 2) : At (Txt.replace z dot y) 62 := by
  have e : ∃ a n b, Txt.split z dot = [a, n, b] := by
    unfold farS at h
    split at h
    · rename_i a n b q; exact ⟨a, n, b, q⟩
    · cases h
  obtain ⟨a, n, b, e⟩ := e
  have r : Txt.replace z dot y = Str.join y (Txt.split z dot) := StrLaws.replace_one z y 46
  have j : Str.join dot (Txt.split z dot) = z := StrLaws.join_split z dot
  rw [e] at r j
  have r : Txt.replace z dot y = a ++ y ++ (n ++ y ++ b) := r
  have j : a ++ dot ++ (n ++ dot ++ b) = z := j
  have ld : dot.length = 1 := by decide +kernel
  have l1 : z.length = a.length + 1 + (n.length + 1 + b.length) := by rw [← j]; simp only [strLen_append, ld]
  have h1 := hz.1
  have h2 := hy.1
  rw [r]
  refine ⟨by simp only [strLen_append]; omega, fun c hc => ?_⟩
  have q : ∀ c, c ∈ a.cps.toList ∨ c ∈ n.cps.toList ∨ c ∈ b.cps.toList → c < 128 := fun c hc => hz.2 c (by
    rw [← j]
    simp only [cps_app, List.mem_append]
    rcases hc with q | q | q
    · exact .inl (.inl q)
    · exact .inr (.inl (.inl q))
    · exact .inr (.inr q))
  simp only [cps_app, List.mem_append] at hc
  rcases hc with (hc | hc) | ((hc | hc) | hc)
  · exact q c (.inl hc)
  · exact hy.2 c hc
  · exact q c (.inr (.inl hc))
  · exact hy.2 c hc
  · exact q c (.inr (.inr hc))
section
variable {P : Program} {w : World} {K : PySem.W.Frag} {mg : Str → Option Value} {base : Heap}

abbrev st_l_names_right : Stmt := top 33
theorem sc_l_names_right : FnScope ["_law_deck_here", "_law_near", "_law_far_here", "_law_some", "_law_thing"] ["_law_deck_here"] (defScope st_l_names_right) := ⟨rfl, rfl, rfl, by decide +kernel, rfl, by decide +kernel, by decide +kernel⟩
def sp_l_names_right : DSp := fun ds S P => ∃ a c, ds = [.ref a] ∧ Dk S a c ∧ ∀ S', Dk S' a c → Step [a, c] S S' → P (.bl true) S'
theorem len_l_names_right {ds : List D} {S : Sto} {P : DK} (h : sp_l_names_right ds S P) : ds.length = 1 := by obtain ⟨_, _, rfl, _⟩ := h; rfl
theorem ok_l_names_right {k : Nat}  (DD : Def K mg "_law_names_right" st_l_names_right ["_law_deck_here"]) (G__law_far : Has P w K mg base (k) "_law_far" ["_law_deck_here"] (sp_l_far)) (G__law_name : Has P w K mg base (k) "_law_name" ["_law_deck_here"] (sp_l_name)) (G_is_far : Has P w K mg base (k) "is_far" ["thing"] (sp_is_far)) (G_is_name : Has P w K mg base (k) "is_name" ["thing"] (sp_is_name)) (G__law_odd : Has P w K mg base (k) "_law_odd" ["_law_deck_here", "_law_thing"] (sp_l_odd)) (G__law_right : Has P w K mg base (k) "_law_right" ["_law_thing"] (sp_l_right)) : Has P w K mg base (k + 1) "_law_names_right" ["_law_deck_here"] (sp_l_names_right) := by
  refine DD.has sc_l_names_right (fun ds S P h => len_l_names_right h) (fun f cdv A outer s H hr hgd => ⟨_, (ss_cons (s_par 1 2 rfl sc_l_names_right.nd (a_cons (q_def G__law_name (hr.mono (by omega)) hgd (a_cons (q_var 0) a_nil)) (a_cons (q_def G__law_far (hr.mono (by omega)) hgd (a_cons (q_var 0) a_nil)) a_nil)))
      (ss_cons (s_if (t_w (w_or (t_cmp op_isNotBD (q_def G_is_name (hr.mono (by omega)) hgd (a_cons (q_var 1) a_nil)) q_bl) (w_or1 (t_cmp op_isNotBD (q_def G_is_far (hr.mono (by omega)) hgd (a_cons (q_var 2) a_nil)) q_bl)))) (ss_one (s_ret q_bl)) ss_nil)
      (ss_pos 3 sc_l_names_right.nd (a_cons q_str (a_cons (q_op op_addD (q_var 1) (q_var 2)) (a_cons (q_op op_addD (q_op op_addD (q_var 2) q_str) (q_var 1)) (a_cons (q_op op_addD (q_op op_addD (q_var 1) q_str) (q_var 2)) (a_cons (q_slice sl_D (q_var 2) (o_some q_int) o_none) (a_cons (q_slice sl_D (q_var 2) o_none (o_some (q_un un_negD q_int))) a_nil))))))
      (kss_cons (ks_set 3 sc_l_names_right.nd (k_op op_addM (k_of (q_var 3)) (k_lst (ka_cons (k_repl (q_var 2)) (ka_cons (k_of (q_op op_addD (q_var 1) q_str)) (ka_cons (k_of (q_op op_addD q_str (q_var 1))) (ka_cons (k_of (q_op op_addD (q_var 1) q_str)) (ka_cons (k_of (q_op op_addD (q_op op_addD (q_var 1) q_str) (q_var 1))) ka_nil))))))))
      (kss_cons (ks_of (s_expr (q_mtL PySem.F.slot_list_append PySem.F.type_list_append m_append (q_var 3) (a_cons (q_op op_addD (q_op op_addD (q_var 1) q_str) (q_var 1)) a_nil))))
      (kss_cons (ks_of (s_set 3 sc_l_names_right.nd (q_op op_addL (q_var 3) (q_lst (a_cons (q_op op_addD (q_var 1) q_str) (a_cons (q_op op_addD (q_var 2) q_str) (a_cons (q_op op_addD q_str (q_var 1)) (a_cons (q_op op_addD (q_op op_addD (q_op op_addD (q_var 1) q_str) (q_var 1)) q_str) a_nil))))))))
      (kss_cons (ks_of (s_set 3 sc_l_names_right.nd (q_op op_addD (q_var 3) (q_lst (a_cons (q_op op_addD (q_op op_addD (q_op op_addD (q_op op_addD (q_var 1) q_str) (q_op op_mulD q_str q_int)) q_str) (q_var 1)) (a_cons (q_op op_addD (q_op op_addD (q_op op_addD (q_op op_addD (q_var 1) q_str) (q_op op_mulD q_str q_int)) q_str) (q_var 1)) a_nil))))))
      (kss_cons (ks_set 3 sc_l_names_right.nd (k_op op_addD (k_of (q_var 3)) (k_lst (ka_cons (k_of (q_def G__law_odd (hr.mono (by omega)) hgd (a_cons (q_var 0) (a_cons (q_var 1) a_nil)))) (ka_cons (k_of (q_def G__law_odd (hr.mono (by omega)) hgd (a_cons (q_var 0) (a_cons (q_var 2) a_nil)))) (ka_cons (k_repl (q_var 2)) (ka_cons (k_repl (q_var 2)) ka_nil)))))))
      (kss_of (ss_one (s_ret (q_cmp (op_eqD (DL.Room.un1 hr)) (q_lc (own := [("_law_thing", 4)]) (is := [4]) rfl lcg_name rfl sc_l_names_right.nd (i_seq (q_var 3)) (blkOk_by (own := [("_law_thing", 4)]) (N := ["_law_deck_here", "_law_near", "_law_far_here", "_law_some", "_law_thing"]) (sc := defScope st_l_names_right) (by decide +kernel)) (fun _ _ _ _ _ => pg_name (i := 4) sc_l_names_right.nd rfl (Or.inl rfl)) (fun _ _ _ _ _ => (ts_one (t_not (t_val (q_def G__law_right (hr.mono (by omega)) hgd (a_cons (q_var 4) a_nil)))))) (fun _ _ _ _ _ => (q_var 4))) (q_lst a_nil))))))))))))), fun ds S P h => ?_⟩)
  obtain ⟨a, c, rfl, hD, h⟩ := h
  have hl := small8
  refine seq_gen fun M hM => ?_
  simp only [↓DL.e_next, ↓DL.e_seq, ↓DL.e_drop, ↓DL.e_ret, ↓DL.e_retN, ↓DL.e_if, ↓DL.e_cont, ↓DL.e_break, ↓DL.e_set, ↓DL.e_asg, ↓DL.e_par, ↓DL.e_setI, ↓DL.e_for, ↓DL.e_var, ↓DL.e_c, ↓DL.e_op, ↓DL.e_un, ↓DL.e_test, ↓DL.e_chain, ↓DL.e_and, ↓DL.e_or, ↓DL.e_not, ↓DL.e_andV, ↓DL.e_orV, ↓DL.e_notV, ↓DL.e_ife, ↓DL.e_nil, ↓DL.e_cons, ↓DL.e_tup, ↓DL.e_lst, ↓DL.e_lstM, ↓DL.e_noPart, ↓DL.e_part, ↓DL.e_sl, ↓DL.e_cb, ↓DL.e_mtL, ↓DL.e_mt0, ↓DL.e_mtS, ↓DL.e_mtS0, ↓DL.e_tru, ↓DL.e_lc, ↓DL.e_itS, ↓DL.e_itStr, ↓DL.e_rng1, ↓DL.e_rev, ↓DL.e_dic0, ↓DL.e_dic1, ↓DL.e_s0, ↓DL.e_s1, ↓DL.e_ct, ↓DL.e_cf, dstart, slot, gN, ↓asB_bl, ↓asI_int, ↓asS_str, cond_true, cond_false, List.map_cons, List.map_nil, List.length_cons, List.length_nil, List.set_cons_zero, List.set_cons_succ, Option.elim_some, Option.elim_none, List.cons_append, List.nil_append, List.replicate, Nat.sub_self, Nat.reduceSub, Nat.reduceAdd, Bool.not_true, Bool.not_false, setAll, Int.cast_ofNat_Int, Int.reduceLT, Int.reduceLE, Int.reduceBEq, Nat.reduceBEq, decide_true, decide_false, ↓DL.pred_s, ↓DL.len_str, ↓DL.len_tup, ↓DL.len_lst, ↓DL.le_ii, ↓DL.le_ss, ↓DL.cmp_ii, ↓DL.add_ii, ↓DL.add_ib, ↓DL.add_bi, ↓DL.add_ss, ↓DL.add_tt, ↓DL.add_ll, ↓DL.sub_ii, ↓DL.sub_ib, ↓DL.sub_bi, ↓DL.mul_ii, ↓DL.ii_ii, ↓DL.neg_i, ↓DL.is_bb, ↓DL.isn_bb, ↓DL.all_b, ↓DL.all_map, ↓DL.sum_i, ↓DL.eq_ii, ↓DL.eq_bi, ↓DL.eq_t0, ↓DL.eq_l0, ↓DL.ne_ss, ↓DL.ne_ii, ↓DL.ne_t0, ↓DL.ne_l0, ↓DL.ix_tup, ↓DL.ix_lst, ↓DL.ix_str, ↓DL.in_c, ↓DL.nin_c, ↓DL.sl_str, ↓DL.sl_tup, ↓DL.sl_lst, ↓DL.app_1, ↓DL.pop_0, ↓DL.ext_t, ↓DL.tuple_l, ↓DL.list_t, ↓DL.list_l, ↓DL.int_b, ↓DL.int_i, ↓DL.min_ii, ↓DL.str_i, ↓DL.str_b, ↓DL.repr_1, ↓DL.back_t, ↓DL.tru_l, ↓DL.at0, ↓DL.at1, ↓DL.at2, ↓DL.at3]
  refine ⟨a, c, rfl, hD, fun d1 S1 ⟨x, e1, hx⟩ hD s1 => ?_⟩
  subst e1
  refine ⟨a, c, rfl, hD, fun d2 S2 ⟨y, e2, hy, ly, ay⟩ hD s2 => ?_⟩
  subst e2
  have s2 := s1.trans s2
  have ax : At x 8 := at_name hx
  have ayy : At y 60 := ⟨ly, ay⟩
  have lx := ax.1
  subst hM
  refine seq_gen fun M hM => ?_
  refine if_gen fun M1 M2 e1 e2 => ?_
  simp only [↓DL.e_next, ↓DL.e_seq, ↓DL.e_drop, ↓DL.e_ret, ↓DL.e_retN, ↓DL.e_if, ↓DL.e_cont, ↓DL.e_break, ↓DL.e_set, ↓DL.e_asg, ↓DL.e_par, ↓DL.e_setI, ↓DL.e_for, ↓DL.e_var, ↓DL.e_c, ↓DL.e_op, ↓DL.e_un, ↓DL.e_test, ↓DL.e_chain, ↓DL.e_and, ↓DL.e_or, ↓DL.e_not, ↓DL.e_andV, ↓DL.e_orV, ↓DL.e_notV, ↓DL.e_ife, ↓DL.e_nil, ↓DL.e_cons, ↓DL.e_tup, ↓DL.e_lst, ↓DL.e_lstM, ↓DL.e_noPart, ↓DL.e_part, ↓DL.e_sl, ↓DL.e_cb, ↓DL.e_mtL, ↓DL.e_mt0, ↓DL.e_mtS, ↓DL.e_mtS0, ↓DL.e_tru, ↓DL.e_lc, ↓DL.e_itS, ↓DL.e_itStr, ↓DL.e_rng1, ↓DL.e_rev, ↓DL.e_dic0, ↓DL.e_dic1, ↓DL.e_s0, ↓DL.e_s1, ↓DL.e_ct, ↓DL.e_cf, dstart, slot, gN, ↓asB_bl, ↓asI_int, ↓asS_str, cond_true, cond_false, List.map_cons, List.map_nil, List.length_cons, List.length_nil, List.set_cons_zero, List.set_cons_succ, Option.elim_some, Option.elim_none, List.cons_append, List.nil_append, List.replicate, Nat.sub_self, Nat.reduceSub, Nat.reduceAdd, Bool.not_true, Bool.not_false, setAll, Int.cast_ofNat_Int, Int.reduceLT, Int.reduceLE, Int.reduceBEq, Nat.reduceBEq, decide_true, decide_false, ↓DL.pred_s, ↓DL.len_str, ↓DL.len_tup, ↓DL.len_lst, ↓DL.le_ii, ↓DL.le_ss, ↓DL.cmp_ii, ↓DL.add_ii, ↓DL.add_ib, ↓DL.add_bi, ↓DL.add_ss, ↓DL.add_tt, ↓DL.add_ll, ↓DL.sub_ii, ↓DL.sub_ib, ↓DL.sub_bi, ↓DL.mul_ii, ↓DL.ii_ii, ↓DL.neg_i, ↓DL.is_bb, ↓DL.isn_bb, ↓DL.all_b, ↓DL.all_map, ↓DL.sum_i, ↓DL.eq_ii, ↓DL.eq_bi, ↓DL.eq_t0, ↓DL.eq_l0, ↓DL.ne_ss, ↓DL.ne_ii, ↓DL.ne_t0, ↓DL.ne_l0, ↓DL.ix_tup, ↓DL.ix_lst, ↓DL.ix_str, ↓DL.in_c, ↓DL.nin_c, ↓DL.sl_str, ↓DL.sl_tup, ↓DL.sl_lst, ↓DL.app_1, ↓DL.pop_0, ↓DL.ext_t, ↓DL.tuple_l, ↓DL.list_t, ↓DL.list_l, ↓DL.int_b, ↓DL.int_i, ↓DL.min_ii, ↓DL.str_i, ↓DL.str_b, ↓DL.repr_1, ↓DL.back_t, ↓DL.tru_l, ↓DL.at0, ↓DL.at1, ↓DL.at2, ↓DL.at3]
  refine ⟨.str x, rfl, decide_eq_true (by omega), fun S3 s3 => ?_⟩
  simp only [↓DL.e_next, ↓DL.e_seq, ↓DL.e_drop, ↓DL.e_ret, ↓DL.e_retN, ↓DL.e_if, ↓DL.e_cont, ↓DL.e_break, ↓DL.e_set, ↓DL.e_asg, ↓DL.e_par, ↓DL.e_setI, ↓DL.e_for, ↓DL.e_var, ↓DL.e_c, ↓DL.e_op, ↓DL.e_un, ↓DL.e_test, ↓DL.e_chain, ↓DL.e_and, ↓DL.e_or, ↓DL.e_not, ↓DL.e_andV, ↓DL.e_orV, ↓DL.e_notV, ↓DL.e_ife, ↓DL.e_nil, ↓DL.e_cons, ↓DL.e_tup, ↓DL.e_lst, ↓DL.e_lstM, ↓DL.e_noPart, ↓DL.e_part, ↓DL.e_sl, ↓DL.e_cb, ↓DL.e_mtL, ↓DL.e_mt0, ↓DL.e_mtS, ↓DL.e_mtS0, ↓DL.e_tru, ↓DL.e_lc, ↓DL.e_itS, ↓DL.e_itStr, ↓DL.e_rng1, ↓DL.e_rev, ↓DL.e_dic0, ↓DL.e_dic1, ↓DL.e_s0, ↓DL.e_s1, ↓DL.e_ct, ↓DL.e_cf, dstart, slot, gN, ↓asB_bl, ↓asI_int, ↓asS_str, cond_true, cond_false, List.map_cons, List.map_nil, List.length_cons, List.length_nil, List.set_cons_zero, List.set_cons_succ, Option.elim_some, Option.elim_none, List.cons_append, List.nil_append, List.replicate, Nat.sub_self, Nat.reduceSub, Nat.reduceAdd, Bool.not_true, Bool.not_false, setAll, Int.cast_ofNat_Int, Int.reduceLT, Int.reduceLE, Int.reduceBEq, Nat.reduceBEq, decide_true, decide_false, ↓DL.pred_s, ↓DL.len_str, ↓DL.len_tup, ↓DL.len_lst, ↓DL.le_ii, ↓DL.le_ss, ↓DL.cmp_ii, ↓DL.add_ii, ↓DL.add_ib, ↓DL.add_bi, ↓DL.add_ss, ↓DL.add_tt, ↓DL.add_ll, ↓DL.sub_ii, ↓DL.sub_ib, ↓DL.sub_bi, ↓DL.mul_ii, ↓DL.ii_ii, ↓DL.neg_i, ↓DL.is_bb, ↓DL.isn_bb, ↓DL.all_b, ↓DL.all_map, ↓DL.sum_i, ↓DL.eq_ii, ↓DL.eq_bi, ↓DL.eq_t0, ↓DL.eq_l0, ↓DL.ne_ss, ↓DL.ne_ii, ↓DL.ne_t0, ↓DL.ne_l0, ↓DL.ix_tup, ↓DL.ix_lst, ↓DL.ix_str, ↓DL.in_c, ↓DL.nin_c, ↓DL.sl_str, ↓DL.sl_tup, ↓DL.sl_lst, ↓DL.app_1, ↓DL.pop_0, ↓DL.ext_t, ↓DL.tuple_l, ↓DL.list_t, ↓DL.list_l, ↓DL.int_b, ↓DL.int_i, ↓DL.min_ii, ↓DL.str_i, ↓DL.str_b, ↓DL.repr_1, ↓DL.back_t, ↓DL.tru_l, ↓DL.at0, ↓DL.at1, ↓DL.at2, ↓DL.at3]
  rw [show nameB (.str x) = true from hx]
  simp only [↓DL.e_next, ↓DL.e_seq, ↓DL.e_drop, ↓DL.e_ret, ↓DL.e_retN, ↓DL.e_if, ↓DL.e_cont, ↓DL.e_break, ↓DL.e_set, ↓DL.e_asg, ↓DL.e_par, ↓DL.e_setI, ↓DL.e_for, ↓DL.e_var, ↓DL.e_c, ↓DL.e_op, ↓DL.e_un, ↓DL.e_test, ↓DL.e_chain, ↓DL.e_and, ↓DL.e_or, ↓DL.e_not, ↓DL.e_andV, ↓DL.e_orV, ↓DL.e_notV, ↓DL.e_ife, ↓DL.e_nil, ↓DL.e_cons, ↓DL.e_tup, ↓DL.e_lst, ↓DL.e_lstM, ↓DL.e_noPart, ↓DL.e_part, ↓DL.e_sl, ↓DL.e_cb, ↓DL.e_mtL, ↓DL.e_mt0, ↓DL.e_mtS, ↓DL.e_mtS0, ↓DL.e_tru, ↓DL.e_lc, ↓DL.e_itS, ↓DL.e_itStr, ↓DL.e_rng1, ↓DL.e_rev, ↓DL.e_dic0, ↓DL.e_dic1, ↓DL.e_s0, ↓DL.e_s1, ↓DL.e_ct, ↓DL.e_cf, dstart, slot, gN, ↓asB_bl, ↓asI_int, ↓asS_str, cond_true, cond_false, List.map_cons, List.map_nil, List.length_cons, List.length_nil, List.set_cons_zero, List.set_cons_succ, Option.elim_some, Option.elim_none, List.cons_append, List.nil_append, List.replicate, Nat.sub_self, Nat.reduceSub, Nat.reduceAdd, Bool.not_true, Bool.not_false, setAll, Int.cast_ofNat_Int, Int.reduceLT, Int.reduceLE, Int.reduceBEq, Nat.reduceBEq, decide_true, decide_false, ↓DL.pred_s, ↓DL.len_str, ↓DL.len_tup, ↓DL.len_lst, ↓DL.le_ii, ↓DL.le_ss, ↓DL.cmp_ii, ↓DL.add_ii, ↓DL.add_ib, ↓DL.add_bi, ↓DL.add_ss, ↓DL.add_tt, ↓DL.add_ll, ↓DL.sub_ii, ↓DL.sub_ib, ↓DL.sub_bi, ↓DL.mul_ii, ↓DL.ii_ii, ↓DL.neg_i, ↓DL.is_bb, ↓DL.isn_bb, ↓DL.all_b, ↓DL.all_map, ↓DL.sum_i, ↓DL.eq_ii, ↓DL.eq_bi, ↓DL.eq_t0, ↓DL.eq_l0, ↓DL.ne_ss, ↓DL.ne_ii, ↓DL.ne_t0, ↓DL.ne_l0, ↓DL.ix_tup, ↓DL.ix_lst, ↓DL.ix_str, ↓DL.in_c, ↓DL.nin_c, ↓DL.sl_str, ↓DL.sl_tup, ↓DL.sl_lst, ↓DL.app_1, ↓DL.pop_0, ↓DL.ext_t, ↓DL.tuple_l, ↓DL.list_t, ↓DL.list_l, ↓DL.int_b, ↓DL.int_i, ↓DL.min_ii, ↓DL.str_i, ↓DL.str_b, ↓DL.repr_1, ↓DL.back_t, ↓DL.tru_l, ↓DL.at0, ↓DL.at1, ↓DL.at2, ↓DL.at3]
  refine ⟨.str y, rfl, decide_eq_true (by omega), fun S4 s4 => ?_⟩
  simp only [↓DL.e_next, ↓DL.e_seq, ↓DL.e_drop, ↓DL.e_ret, ↓DL.e_retN, ↓DL.e_if, ↓DL.e_cont, ↓DL.e_break, ↓DL.e_set, ↓DL.e_asg, ↓DL.e_par, ↓DL.e_setI, ↓DL.e_for, ↓DL.e_var, ↓DL.e_c, ↓DL.e_op, ↓DL.e_un, ↓DL.e_test, ↓DL.e_chain, ↓DL.e_and, ↓DL.e_or, ↓DL.e_not, ↓DL.e_andV, ↓DL.e_orV, ↓DL.e_notV, ↓DL.e_ife, ↓DL.e_nil, ↓DL.e_cons, ↓DL.e_tup, ↓DL.e_lst, ↓DL.e_lstM, ↓DL.e_noPart, ↓DL.e_part, ↓DL.e_sl, ↓DL.e_cb, ↓DL.e_mtL, ↓DL.e_mt0, ↓DL.e_mtS, ↓DL.e_mtS0, ↓DL.e_tru, ↓DL.e_lc, ↓DL.e_itS, ↓DL.e_itStr, ↓DL.e_rng1, ↓DL.e_rev, ↓DL.e_dic0, ↓DL.e_dic1, ↓DL.e_s0, ↓DL.e_s1, ↓DL.e_ct, ↓DL.e_cf, dstart, slot, gN, ↓asB_bl, ↓asI_int, ↓asS_str, cond_true, cond_false, List.map_cons, List.map_nil, List.length_cons, List.length_nil, List.set_cons_zero, List.set_cons_succ, Option.elim_some, Option.elim_none, List.cons_append, List.nil_append, List.replicate, Nat.sub_self, Nat.reduceSub, Nat.reduceAdd, Bool.not_true, Bool.not_false, setAll, Int.cast_ofNat_Int, Int.reduceLT, Int.reduceLE, Int.reduceBEq, Nat.reduceBEq, decide_true, decide_false, ↓DL.pred_s, ↓DL.len_str, ↓DL.len_tup, ↓DL.len_lst, ↓DL.le_ii, ↓DL.le_ss, ↓DL.cmp_ii, ↓DL.add_ii, ↓DL.add_ib, ↓DL.add_bi, ↓DL.add_ss, ↓DL.add_tt, ↓DL.add_ll, ↓DL.sub_ii, ↓DL.sub_ib, ↓DL.sub_bi, ↓DL.mul_ii, ↓DL.ii_ii, ↓DL.neg_i, ↓DL.is_bb, ↓DL.isn_bb, ↓DL.all_b, ↓DL.all_map, ↓DL.sum_i, ↓DL.eq_ii, ↓DL.eq_bi, ↓DL.eq_t0, ↓DL.eq_l0, ↓DL.ne_ss, ↓DL.ne_ii, ↓DL.ne_t0, ↓DL.ne_l0, ↓DL.ix_tup, ↓DL.ix_lst, ↓DL.ix_str, ↓DL.in_c, ↓DL.nin_c, ↓DL.sl_str, ↓DL.sl_tup, ↓DL.sl_lst, ↓DL.app_1, ↓DL.pop_0, ↓DL.ext_t, ↓DL.tuple_l, ↓DL.list_t, ↓DL.list_l, ↓DL.int_b, ↓DL.int_i, ↓DL.min_ii, ↓DL.str_i, ↓DL.str_b, ↓DL.repr_1, ↓DL.back_t, ↓DL.tru_l, ↓DL.at0, ↓DL.at1, ↓DL.at2, ↓DL.at3]
  rw [show farB (.str y) = true from hy]
  simp only [↓DL.e_next, ↓DL.e_seq, ↓DL.e_drop, ↓DL.e_ret, ↓DL.e_retN, ↓DL.e_if, ↓DL.e_cont, ↓DL.e_break, ↓DL.e_set, ↓DL.e_asg, ↓DL.e_par, ↓DL.e_setI, ↓DL.e_for, ↓DL.e_var, ↓DL.e_c, ↓DL.e_op, ↓DL.e_un, ↓DL.e_test, ↓DL.e_chain, ↓DL.e_and, ↓DL.e_or, ↓DL.e_not, ↓DL.e_andV, ↓DL.e_orV, ↓DL.e_notV, ↓DL.e_ife, ↓DL.e_nil, ↓DL.e_cons, ↓DL.e_tup, ↓DL.e_lst, ↓DL.e_lstM, ↓DL.e_noPart, ↓DL.e_part, ↓DL.e_sl, ↓DL.e_cb, ↓DL.e_mtL, ↓DL.e_mt0, ↓DL.e_mtS, ↓DL.e_mtS0, ↓DL.e_tru, ↓DL.e_lc, ↓DL.e_itS, ↓DL.e_itStr, ↓DL.e_rng1, ↓DL.e_rev, ↓DL.e_dic0, ↓DL.e_dic1, ↓DL.e_s0, ↓DL.e_s1, ↓DL.e_ct, ↓DL.e_cf, dstart, slot, gN, ↓asB_bl, ↓asI_int, ↓asS_str, cond_true, cond_false, List.map_cons, List.map_nil, List.length_cons, List.length_nil, List.set_cons_zero, List.set_cons_succ, Option.elim_some, Option.elim_none, List.cons_append, List.nil_append, List.replicate, Nat.sub_self, Nat.reduceSub, Nat.reduceAdd, Bool.not_true, Bool.not_false, setAll, Int.cast_ofNat_Int, Int.reduceLT, Int.reduceLE, Int.reduceBEq, Nat.reduceBEq, decide_true, decide_false, ↓DL.pred_s, ↓DL.len_str, ↓DL.len_tup, ↓DL.len_lst, ↓DL.le_ii, ↓DL.le_ss, ↓DL.cmp_ii, ↓DL.add_ii, ↓DL.add_ib, ↓DL.add_bi, ↓DL.add_ss, ↓DL.add_tt, ↓DL.add_ll, ↓DL.sub_ii, ↓DL.sub_ib, ↓DL.sub_bi, ↓DL.mul_ii, ↓DL.ii_ii, ↓DL.neg_i, ↓DL.is_bb, ↓DL.isn_bb, ↓DL.all_b, ↓DL.all_map, ↓DL.sum_i, ↓DL.eq_ii, ↓DL.eq_bi, ↓DL.eq_t0, ↓DL.eq_l0, ↓DL.ne_ss, ↓DL.ne_ii, ↓DL.ne_t0, ↓DL.ne_l0, ↓DL.ix_tup, ↓DL.ix_lst, ↓DL.ix_str, ↓DL.in_c, ↓DL.nin_c, ↓DL.sl_str, ↓DL.sl_tup, ↓DL.sl_lst, ↓DL.app_1, ↓DL.pop_0, ↓DL.ext_t, ↓DL.tuple_l, ↓DL.list_t, ↓DL.list_l, ↓DL.int_b, ↓DL.int_i, ↓DL.min_ii, ↓DL.str_i, ↓DL.str_b, ↓DL.repr_1, ↓DL.back_t, ↓DL.tru_l, ↓DL.at0, ↓DL.at1, ↓DL.at2, ↓DL.at3]
  clear e1
  subst e2
  subst hM
  have s34 := s3.trans s4
  have s4 : Step [a, c] S S4 := s2.trans (s34.mono (by simp))
  have hD : Dk S4 a c := hD.step s34 (by simp) (by simp)
  simp only [↓DL.e_cf, ↓DL.e_next]
  refine seq_gen fun M hM => ?_
  simp only [↓DL.e_next, ↓DL.e_seq, ↓DL.e_drop, ↓DL.e_ret, ↓DL.e_retN, ↓DL.e_if, ↓DL.e_cont, ↓DL.e_break, ↓DL.e_set, ↓DL.e_asg, ↓DL.e_par, ↓DL.e_setI, ↓DL.e_for, ↓DL.e_var, ↓DL.e_c, ↓DL.e_op, ↓DL.e_un, ↓DL.e_test, ↓DL.e_chain, ↓DL.e_and, ↓DL.e_or, ↓DL.e_not, ↓DL.e_andV, ↓DL.e_orV, ↓DL.e_notV, ↓DL.e_ife, ↓DL.e_nil, ↓DL.e_cons, ↓DL.e_tup, ↓DL.e_lst, ↓DL.e_lstM, ↓DL.e_noPart, ↓DL.e_part, ↓DL.e_sl, ↓DL.e_cb, ↓DL.e_mtL, ↓DL.e_mt0, ↓DL.e_mtS, ↓DL.e_mtS0, ↓DL.e_tru, ↓DL.e_lc, ↓DL.e_itS, ↓DL.e_itStr, ↓DL.e_rng1, ↓DL.e_rev, ↓DL.e_dic0, ↓DL.e_dic1, ↓DL.e_s0, ↓DL.e_s1, ↓DL.e_ct, ↓DL.e_cf, dstart, slot, gN, ↓asB_bl, ↓asI_int, ↓asS_str, cond_true, cond_false, List.map_cons, List.map_nil, List.length_cons, List.length_nil, List.set_cons_zero, List.set_cons_succ, Option.elim_some, Option.elim_none, List.cons_append, List.nil_append, List.replicate, Nat.sub_self, Nat.reduceSub, Nat.reduceAdd, Bool.not_true, Bool.not_false, setAll, Int.cast_ofNat_Int, Int.reduceLT, Int.reduceLE, Int.reduceBEq, Nat.reduceBEq, decide_true, decide_false, ↓DL.pred_s, ↓DL.len_str, ↓DL.len_tup, ↓DL.len_lst, ↓DL.le_ii, ↓DL.le_ss, ↓DL.cmp_ii, ↓DL.add_ii, ↓DL.add_ib, ↓DL.add_bi, ↓DL.add_ss, ↓DL.add_tt, ↓DL.add_ll, ↓DL.sub_ii, ↓DL.sub_ib, ↓DL.sub_bi, ↓DL.mul_ii, ↓DL.ii_ii, ↓DL.neg_i, ↓DL.is_bb, ↓DL.isn_bb, ↓DL.all_b, ↓DL.all_map, ↓DL.sum_i, ↓DL.eq_ii, ↓DL.eq_bi, ↓DL.eq_t0, ↓DL.eq_l0, ↓DL.ne_ss, ↓DL.ne_ii, ↓DL.ne_t0, ↓DL.ne_l0, ↓DL.ix_tup, ↓DL.ix_lst, ↓DL.ix_str, ↓DL.in_c, ↓DL.nin_c, ↓DL.sl_str, ↓DL.sl_tup, ↓DL.sl_lst, ↓DL.app_1, ↓DL.pop_0, ↓DL.ext_t, ↓DL.tuple_l, ↓DL.list_t, ↓DL.list_l, ↓DL.int_b, ↓DL.int_i, ↓DL.min_ii, ↓DL.str_i, ↓DL.str_b, ↓DL.repr_1, ↓DL.back_t, ↓DL.tru_l, ↓DL.at0, ↓DL.at1, ↓DL.at2, ↓DL.at3]
  have dl : (Str.ofString ".").length = 1 := by decide +kernel
  have ad : At (Str.ofString ".") 1 := at_c _ _
  refine ⟨by omega, by omega, by simp only [strLen_append]; omega, by omega, by simp only [strLen_append]; omega, by omega, by omega, by omega, ?_⟩
  have g1 : ∀ v ∈ ([.str (Str.ofString "abcdefgh"), .str (Str.ofString "abcdefghi"), .str (x ++ y), .str (y ++ Str.ofString "." ++ x), .str (x ++ Str.ofString "." ++ y), .str (cutS y (some 1) none), .str (cutS y none (some (-1)))] : List DL.D), spR v := by
    intro v hv
    simp only [List.mem_cons, List.not_mem_nil, or_false] at hv
    rcases hv with rfl | rfl | rfl | rfl | rfl | rfl | rfl
    · exact (at_c _ 9).spR (by omega)
    · exact (at_c _ 9).spR (by omega)
    · exact (ax.app ayy).spR (by omega)
    · exact ((ayy.app ad).app ax).spR (by omega)
    · exact ((ax.app ad).app ayy).spR (by omega)
    · exact (ayy.cut (by omega)).spR (by omega)
    · exact (ayy.cut (by omega)).spR (by omega)
  have n1 : ([.str (Str.ofString "abcdefgh"), .str (Str.ofString "abcdefghi"), .str (x ++ y), .str (y ++ Str.ofString "." ++ x), .str (x ++ Str.ofString "." ++ y), .str (cutS y (some 1) none), .str (cutS y none (some (-1)))] : List DL.D).length ≤ 10 := by simp
  revert g1 n1
  generalize ([.str (Str.ofString "abcdefgh"), .str (Str.ofString "abcdefghi"), .str (x ++ y), .str (y ++ Str.ofString "." ++ x), .str (x ++ Str.ofString "." ++ y), .str (cutS y (some 1) none), .str (cutS y none (some (-1)))] : List DL.D) = L1
  intro g1 n1
  subst hM
  refine seq_gen fun M hM => ?_
  simp only [↓DL.e_next, ↓DL.e_seq, ↓DL.e_drop, ↓DL.e_ret, ↓DL.e_retN, ↓DL.e_if, ↓DL.e_cont, ↓DL.e_break, ↓DL.e_set, ↓DL.e_asg, ↓DL.e_par, ↓DL.e_setI, ↓DL.e_for, ↓DL.e_var, ↓DL.e_c, ↓DL.e_op, ↓DL.e_un, ↓DL.e_test, ↓DL.e_chain, ↓DL.e_and, ↓DL.e_or, ↓DL.e_not, ↓DL.e_andV, ↓DL.e_orV, ↓DL.e_notV, ↓DL.e_ife, ↓DL.e_nil, ↓DL.e_cons, ↓DL.e_tup, ↓DL.e_lst, ↓DL.e_lstM, ↓DL.e_noPart, ↓DL.e_part, ↓DL.e_sl, ↓DL.e_cb, ↓DL.e_mtL, ↓DL.e_mt0, ↓DL.e_mtS, ↓DL.e_mtS0, ↓DL.e_tru, ↓DL.e_lc, ↓DL.e_itS, ↓DL.e_itStr, ↓DL.e_rng1, ↓DL.e_rev, ↓DL.e_dic0, ↓DL.e_dic1, ↓DL.e_s0, ↓DL.e_s1, ↓DL.e_ct, ↓DL.e_cf, dstart, slot, gN, ↓asB_bl, ↓asI_int, ↓asS_str, cond_true, cond_false, List.map_cons, List.map_nil, List.length_cons, List.length_nil, List.set_cons_zero, List.set_cons_succ, Option.elim_some, Option.elim_none, List.cons_append, List.nil_append, List.replicate, Nat.sub_self, Nat.reduceSub, Nat.reduceAdd, Bool.not_true, Bool.not_false, setAll, Int.cast_ofNat_Int, Int.reduceLT, Int.reduceLE, Int.reduceBEq, Nat.reduceBEq, decide_true, decide_false, ↓DL.pred_s, ↓DL.len_str, ↓DL.len_tup, ↓DL.len_lst, ↓DL.le_ii, ↓DL.le_ss, ↓DL.cmp_ii, ↓DL.add_ii, ↓DL.add_ib, ↓DL.add_bi, ↓DL.add_ss, ↓DL.add_tt, ↓DL.add_ll, ↓DL.sub_ii, ↓DL.sub_ib, ↓DL.sub_bi, ↓DL.mul_ii, ↓DL.ii_ii, ↓DL.neg_i, ↓DL.is_bb, ↓DL.isn_bb, ↓DL.all_b, ↓DL.all_map, ↓DL.sum_i, ↓DL.eq_ii, ↓DL.eq_bi, ↓DL.eq_t0, ↓DL.eq_l0, ↓DL.ne_ss, ↓DL.ne_ii, ↓DL.ne_t0, ↓DL.ne_l0, ↓DL.ix_tup, ↓DL.ix_lst, ↓DL.ix_str, ↓DL.in_c, ↓DL.nin_c, ↓DL.sl_str, ↓DL.sl_tup, ↓DL.sl_lst, ↓DL.app_1, ↓DL.pop_0, ↓DL.ext_t, ↓DL.tuple_l, ↓DL.list_t, ↓DL.list_l, ↓DL.int_b, ↓DL.int_i, ↓DL.min_ii, ↓DL.str_i, ↓DL.str_b, ↓DL.repr_1, ↓DL.back_t, ↓DL.tru_l, ↓DL.at0, ↓DL.at1, ↓DL.at2, ↓DL.at3]
  rw [e_repl]
  simp only [↓DL.e_next, ↓DL.e_seq, ↓DL.e_drop, ↓DL.e_ret, ↓DL.e_retN, ↓DL.e_if, ↓DL.e_cont, ↓DL.e_break, ↓DL.e_set, ↓DL.e_asg, ↓DL.e_par, ↓DL.e_setI, ↓DL.e_for, ↓DL.e_var, ↓DL.e_c, ↓DL.e_op, ↓DL.e_un, ↓DL.e_test, ↓DL.e_chain, ↓DL.e_and, ↓DL.e_or, ↓DL.e_not, ↓DL.e_andV, ↓DL.e_orV, ↓DL.e_notV, ↓DL.e_ife, ↓DL.e_nil, ↓DL.e_cons, ↓DL.e_tup, ↓DL.e_lst, ↓DL.e_lstM, ↓DL.e_noPart, ↓DL.e_part, ↓DL.e_sl, ↓DL.e_cb, ↓DL.e_mtL, ↓DL.e_mt0, ↓DL.e_mtS, ↓DL.e_mtS0, ↓DL.e_tru, ↓DL.e_lc, ↓DL.e_itS, ↓DL.e_itStr, ↓DL.e_rng1, ↓DL.e_rev, ↓DL.e_dic0, ↓DL.e_dic1, ↓DL.e_s0, ↓DL.e_s1, ↓DL.e_ct, ↓DL.e_cf, dstart, slot, gN, ↓asB_bl, ↓asI_int, ↓asS_str, cond_true, cond_false, List.map_cons, List.map_nil, List.length_cons, List.length_nil, List.set_cons_zero, List.set_cons_succ, Option.elim_some, Option.elim_none, List.cons_append, List.nil_append, List.replicate, Nat.sub_self, Nat.reduceSub, Nat.reduceAdd, Bool.not_true, Bool.not_false, setAll, Int.cast_ofNat_Int, Int.reduceLT, Int.reduceLE, Int.reduceBEq, Nat.reduceBEq, decide_true, decide_false, ↓DL.pred_s, ↓DL.len_str, ↓DL.len_tup, ↓DL.len_lst, ↓DL.le_ii, ↓DL.le_ss, ↓DL.cmp_ii, ↓DL.add_ii, ↓DL.add_ib, ↓DL.add_bi, ↓DL.add_ss, ↓DL.add_tt, ↓DL.add_ll, ↓DL.sub_ii, ↓DL.sub_ib, ↓DL.sub_bi, ↓DL.mul_ii, ↓DL.ii_ii, ↓DL.neg_i, ↓DL.is_bb, ↓DL.isn_bb, ↓DL.all_b, ↓DL.all_map, ↓DL.sum_i, ↓DL.eq_ii, ↓DL.eq_bi, ↓DL.eq_t0, ↓DL.eq_l0, ↓DL.ne_ss, ↓DL.ne_ii, ↓DL.ne_t0, ↓DL.ne_l0, ↓DL.ix_tup, ↓DL.ix_lst, ↓DL.ix_str, ↓DL.in_c, ↓DL.nin_c, ↓DL.sl_str, ↓DL.sl_tup, ↓DL.sl_lst, ↓DL.app_1, ↓DL.pop_0, ↓DL.ext_t, ↓DL.tuple_l, ↓DL.list_t, ↓DL.list_l, ↓DL.int_b, ↓DL.int_i, ↓DL.min_ii, ↓DL.str_i, ↓DL.str_b, ↓DL.repr_1, ↓DL.back_t, ↓DL.tru_l, ↓DL.at0, ↓DL.at1, ↓DL.at2, ↓DL.at3]
  have l0 : (Str.ofString "").length = 0 := by decide +kernel
  have l1 : (Str.ofString ".1").length = 2 := by decide +kernel
  have l2 : (Str.ofString ".-1.").length = 4 := by decide +kernel
  refine ⟨by rw [l0]; omega, by omega, by omega, by omega, by omega, by simp only [strLen_append]; omega, by omega, ?_⟩
  show (lsts S4 _ _).elim False _
  rw [lsts_l]
  have a1 : At (Str.ofString ".1") 2 := at_c _ _
  have a2 : At (Str.ofString ".-1.") 4 := at_c _ _
  have g2 : ∀ v ∈ L1 ++ ([.str (Txt.replace y (Str.ofString ".") (Str.ofString "")), .str (x ++ Str.ofString "."), .str (Str.ofString "." ++ x), .str (x ++ Str.ofString ".1"), .str (x ++ Str.ofString ".-1." ++ x)] : List DL.D), spR v := by
    intro v hv
    rcases List.mem_append.mp hv with hv | hv
    · exact g1 v hv
    simp only [List.mem_cons, List.not_mem_nil, or_false] at hv
    rcases hv with rfl | rfl | rfl | rfl | rfl
    · exact (at_repl hy ayy (at_c (Str.ofString "") 0) (by omega)).spR (by omega)
    · exact (ax.app ad).spR (by omega)
    · exact (ad.app ax).spR (by omega)
    · exact (ax.app a1).spR (by omega)
    · exact ((ax.app a2).app ax).spR (by omega)
  have n2 : (L1 ++ ([.str (Txt.replace y (Str.ofString ".") (Str.ofString "")), .str (x ++ Str.ofString "."), .str (Str.ofString "." ++ x), .str (x ++ Str.ofString ".1"), .str (x ++ Str.ofString ".-1." ++ x)] : List DL.D)).length ≤ 15 := by rw [List.length_append]; simp; omega
  show _ + _ ≤ _ ∧ _
  refine ⟨by rw [List.length_append] at n2; exact Nat.le_trans n2 (by omega), fun p np => ?_⟩
  show M [some (.ref a), some (.str x), some (.str y), some (.ref p), none] (sup S4 p (.lst (L1 ++ _)))
  revert g2 n2
  generalize L1 ++ ([.str (Txt.replace y (Str.ofString ".") (Str.ofString "")), .str (x ++ Str.ofString "."), .str (Str.ofString "." ++ x), .str (x ++ Str.ofString ".1"), .str (x ++ Str.ofString ".-1." ++ x)] : List DL.D) = L2
  intro g2 n2
  have pa : p ∉ [a, c] := fun q => hD.some p q np
  have hD : Dk (sup S4 p (.lst L2)) a c := hD.of fun b hb => sup_ne fun e => pa (by rw [← e]; exact hb)
  have s5 : Step [a, c] S (sup S4 p (.lst L2)) := s4.trans (.new np)
  have k5 : (sup S4 p (.lst L2)) p = some (.lst L2) := sup_same
  have q5 : ∀ b, S b ≠ none → b ≠ p := fun b hb e => by
    by_cases m : b ∈ [a, c]
    · exact pa (by rw [← e]; exact m)
    · have := s4 b hb m
      rw [e, np] at this
      exact hb (by rw [e]; exact this.symm)
  generalize sup S4 p (.lst L2) = S5 at hD s5 k5 ⊢
  subst hM
  refine seq_gen fun M hM => ?_
  simp only [↓DL.e_next, ↓DL.e_seq, ↓DL.e_drop, ↓DL.e_ret, ↓DL.e_retN, ↓DL.e_if, ↓DL.e_cont, ↓DL.e_break, ↓DL.e_set, ↓DL.e_asg, ↓DL.e_par, ↓DL.e_setI, ↓DL.e_for, ↓DL.e_var, ↓DL.e_c, ↓DL.e_op, ↓DL.e_un, ↓DL.e_test, ↓DL.e_chain, ↓DL.e_and, ↓DL.e_or, ↓DL.e_not, ↓DL.e_andV, ↓DL.e_orV, ↓DL.e_notV, ↓DL.e_ife, ↓DL.e_nil, ↓DL.e_cons, ↓DL.e_tup, ↓DL.e_lst, ↓DL.e_lstM, ↓DL.e_noPart, ↓DL.e_part, ↓DL.e_sl, ↓DL.e_cb, ↓DL.e_mtL, ↓DL.e_mt0, ↓DL.e_mtS, ↓DL.e_mtS0, ↓DL.e_tru, ↓DL.e_lc, ↓DL.e_itS, ↓DL.e_itStr, ↓DL.e_rng1, ↓DL.e_rev, ↓DL.e_dic0, ↓DL.e_dic1, ↓DL.e_s0, ↓DL.e_s1, ↓DL.e_ct, ↓DL.e_cf, dstart, slot, gN, ↓asB_bl, ↓asI_int, ↓asS_str, cond_true, cond_false, List.map_cons, List.map_nil, List.length_cons, List.length_nil, List.set_cons_zero, List.set_cons_succ, Option.elim_some, Option.elim_none, List.cons_append, List.nil_append, List.replicate, Nat.sub_self, Nat.reduceSub, Nat.reduceAdd, Bool.not_true, Bool.not_false, setAll, Int.cast_ofNat_Int, Int.reduceLT, Int.reduceLE, Int.reduceBEq, Nat.reduceBEq, decide_true, decide_false, ↓DL.pred_s, ↓DL.len_str, ↓DL.len_tup, ↓DL.len_lst, ↓DL.le_ii, ↓DL.le_ss, ↓DL.cmp_ii, ↓DL.add_ii, ↓DL.add_ib, ↓DL.add_bi, ↓DL.add_ss, ↓DL.add_tt, ↓DL.add_ll, ↓DL.sub_ii, ↓DL.sub_ib, ↓DL.sub_bi, ↓DL.mul_ii, ↓DL.ii_ii, ↓DL.neg_i, ↓DL.is_bb, ↓DL.isn_bb, ↓DL.all_b, ↓DL.all_map, ↓DL.sum_i, ↓DL.eq_ii, ↓DL.eq_bi, ↓DL.eq_t0, ↓DL.eq_l0, ↓DL.ne_ss, ↓DL.ne_ii, ↓DL.ne_t0, ↓DL.ne_l0, ↓DL.ix_tup, ↓DL.ix_lst, ↓DL.ix_str, ↓DL.in_c, ↓DL.nin_c, ↓DL.sl_str, ↓DL.sl_tup, ↓DL.sl_lst, ↓DL.app_1, ↓DL.pop_0, ↓DL.ext_t, ↓DL.tuple_l, ↓DL.list_t, ↓DL.list_l, ↓DL.int_b, ↓DL.int_i, ↓DL.min_ii, ↓DL.str_i, ↓DL.str_b, ↓DL.repr_1, ↓DL.back_t, ↓DL.tru_l, ↓DL.at0, ↓DL.at1, ↓DL.at2, ↓DL.at3]
  have l3 : (Str.ofString ".1 .").length = 4 := by decide +kernel
  have a3 : At (Str.ofString ".1 .") 4 := at_c _ _
  refine ⟨⟨p, _, rfl, k5⟩, by omega, by simp only [strLen_append]; omega, ?_⟩
  rw [DL.on_ref k5]
  refine ⟨by omega, ?_⟩
  have g3 : ∀ v ∈ L2 ++ ([.str (x ++ Str.ofString ".1 ." ++ x)] : List DL.D), spR v := by
    intro v hv
    rcases List.mem_append.mp hv with hv | hv
    · exact g2 v hv
    rw [List.mem_singleton.mp hv]
    exact ((ax.app a3).app ax).spR (by omega)
  have n3 : (L2 ++ ([.str (x ++ Str.ofString ".1 ." ++ x)] : List DL.D)).length ≤ 16 := by rw [List.length_append]; simp; omega
  revert g3 n3
  generalize L2 ++ ([.str (x ++ Str.ofString ".1 ." ++ x)] : List DL.D) = L3
  intro g3 n3
  have hD : Dk (sup S5 p (.lst L3)) a c := hD.of fun b hb => sup_ne fun e => pa (by rw [← e]; exact hb)
  have s6 : Step [a, c] S (sup S5 p (.lst L3)) := fun b hb nb => by rw [sup_ne (q5 b hb)]; exact s5 b hb nb
  have k6 : (sup S5 p (.lst L3)) p = some (.lst L3) := sup_same
  generalize sup S5 p (.lst L3) = S6 at hD s6 k6 ⊢
  subst hM
  refine seq_gen fun M hM => ?_
  simp only [↓DL.e_next, ↓DL.e_seq, ↓DL.e_drop, ↓DL.e_ret, ↓DL.e_retN, ↓DL.e_if, ↓DL.e_cont, ↓DL.e_break, ↓DL.e_set, ↓DL.e_asg, ↓DL.e_par, ↓DL.e_setI, ↓DL.e_for, ↓DL.e_var, ↓DL.e_c, ↓DL.e_op, ↓DL.e_un, ↓DL.e_test, ↓DL.e_chain, ↓DL.e_and, ↓DL.e_or, ↓DL.e_not, ↓DL.e_andV, ↓DL.e_orV, ↓DL.e_notV, ↓DL.e_ife, ↓DL.e_nil, ↓DL.e_cons, ↓DL.e_tup, ↓DL.e_lst, ↓DL.e_lstM, ↓DL.e_noPart, ↓DL.e_part, ↓DL.e_sl, ↓DL.e_cb, ↓DL.e_mtL, ↓DL.e_mt0, ↓DL.e_mtS, ↓DL.e_mtS0, ↓DL.e_tru, ↓DL.e_lc, ↓DL.e_itS, ↓DL.e_itStr, ↓DL.e_rng1, ↓DL.e_rev, ↓DL.e_dic0, ↓DL.e_dic1, ↓DL.e_s0, ↓DL.e_s1, ↓DL.e_ct, ↓DL.e_cf, dstart, slot, gN, ↓asB_bl, ↓asI_int, ↓asS_str, cond_true, cond_false, List.map_cons, List.map_nil, List.length_cons, List.length_nil, List.set_cons_zero, List.set_cons_succ, Option.elim_some, Option.elim_none, List.cons_append, List.nil_append, List.replicate, Nat.sub_self, Nat.reduceSub, Nat.reduceAdd, Bool.not_true, Bool.not_false, setAll, Int.cast_ofNat_Int, Int.reduceLT, Int.reduceLE, Int.reduceBEq, Nat.reduceBEq, decide_true, decide_false, ↓DL.pred_s, ↓DL.len_str, ↓DL.len_tup, ↓DL.len_lst, ↓DL.le_ii, ↓DL.le_ss, ↓DL.cmp_ii, ↓DL.add_ii, ↓DL.add_ib, ↓DL.add_bi, ↓DL.add_ss, ↓DL.add_tt, ↓DL.add_ll, ↓DL.sub_ii, ↓DL.sub_ib, ↓DL.sub_bi, ↓DL.mul_ii, ↓DL.ii_ii, ↓DL.neg_i, ↓DL.is_bb, ↓DL.isn_bb, ↓DL.all_b, ↓DL.all_map, ↓DL.sum_i, ↓DL.eq_ii, ↓DL.eq_bi, ↓DL.eq_t0, ↓DL.eq_l0, ↓DL.ne_ss, ↓DL.ne_ii, ↓DL.ne_t0, ↓DL.ne_l0, ↓DL.ix_tup, ↓DL.ix_lst, ↓DL.ix_str, ↓DL.in_c, ↓DL.nin_c, ↓DL.sl_str, ↓DL.sl_tup, ↓DL.sl_lst, ↓DL.app_1, ↓DL.pop_0, ↓DL.ext_t, ↓DL.tuple_l, ↓DL.list_t, ↓DL.list_l, ↓DL.int_b, ↓DL.int_i, ↓DL.min_ii, ↓DL.str_i, ↓DL.str_b, ↓DL.repr_1, ↓DL.back_t, ↓DL.tru_l, ↓DL.at0, ↓DL.at1, ↓DL.at2, ↓DL.at3]
  have l4 : (Str.ofString "\n").length = 1 := by decide +kernel
  have l5 : (Str.ofString " ").length = 1 := by decide +kernel
  have a4 : At (Str.ofString "\n") 1 := at_c _ _
  have a5 : At (Str.ofString " ") 1 := at_c _ _
  refine ⟨by omega, by omega, by omega, by omega, by simp only [strLen_append]; omega, by simp only [strLen_append]; omega, by omega, ?_⟩
  show (lsts S6 _ _).elim False _
  rw [lsts_r k6]
  have g4 : ∀ v ∈ L3 ++ ([.str (x ++ Str.ofString "\n"), .str (y ++ Str.ofString "\n"), .str (Str.ofString " " ++ x), .str (x ++ Str.ofString "." ++ x ++ Str.ofString ".1")] : List DL.D), spR v := by
    intro v hv
    rcases List.mem_append.mp hv with hv | hv
    · exact g3 v hv
    simp only [List.mem_cons, List.not_mem_nil, or_false] at hv
    rcases hv with rfl | rfl | rfl | rfl
    · exact (ax.app a4).spR (by omega)
    · exact (ayy.app a4).spR (by omega)
    · exact (a5.app ax).spR (by omega)
    · exact (((ax.app ad).app ax).app a1).spR (by omega)
  have n4 : (L3 ++ ([.str (x ++ Str.ofString "\n"), .str (y ++ Str.ofString "\n"), .str (Str.ofString " " ++ x), .str (x ++ Str.ofString "." ++ x ++ Str.ofString ".1")] : List DL.D)).length ≤ 20 := by rw [List.length_append]; simp; omega
  show _ + _ ≤ _ ∧ _
  refine ⟨by rw [List.length_append] at n4; exact Nat.le_trans n4 (by omega), ?_⟩
  show M [some (.ref a), some (.str x), some (.str y), some (.lst (L3 ++ _)), none] S6
  revert g4 n4
  generalize L3 ++ ([.str (x ++ Str.ofString "\n"), .str (y ++ Str.ofString "\n"), .str (Str.ofString " " ++ x), .str (x ++ Str.ofString "." ++ x ++ Str.ofString ".1")] : List DL.D) = L4
  intro g4 n4
  subst hM
  refine seq_gen fun M hM => ?_
  simp only [↓DL.e_next, ↓DL.e_seq, ↓DL.e_drop, ↓DL.e_ret, ↓DL.e_retN, ↓DL.e_if, ↓DL.e_cont, ↓DL.e_break, ↓DL.e_set, ↓DL.e_asg, ↓DL.e_par, ↓DL.e_setI, ↓DL.e_for, ↓DL.e_var, ↓DL.e_c, ↓DL.e_op, ↓DL.e_un, ↓DL.e_test, ↓DL.e_chain, ↓DL.e_and, ↓DL.e_or, ↓DL.e_not, ↓DL.e_andV, ↓DL.e_orV, ↓DL.e_notV, ↓DL.e_ife, ↓DL.e_nil, ↓DL.e_cons, ↓DL.e_tup, ↓DL.e_lst, ↓DL.e_lstM, ↓DL.e_noPart, ↓DL.e_part, ↓DL.e_sl, ↓DL.e_cb, ↓DL.e_mtL, ↓DL.e_mt0, ↓DL.e_mtS, ↓DL.e_mtS0, ↓DL.e_tru, ↓DL.e_lc, ↓DL.e_itS, ↓DL.e_itStr, ↓DL.e_rng1, ↓DL.e_rev, ↓DL.e_dic0, ↓DL.e_dic1, ↓DL.e_s0, ↓DL.e_s1, ↓DL.e_ct, ↓DL.e_cf, dstart, slot, gN, ↓asB_bl, ↓asI_int, ↓asS_str, cond_true, cond_false, List.map_cons, List.map_nil, List.length_cons, List.length_nil, List.set_cons_zero, List.set_cons_succ, Option.elim_some, Option.elim_none, List.cons_append, List.nil_append, List.replicate, Nat.sub_self, Nat.reduceSub, Nat.reduceAdd, Bool.not_true, Bool.not_false, setAll, Int.cast_ofNat_Int, Int.reduceLT, Int.reduceLE, Int.reduceBEq, Nat.reduceBEq, decide_true, decide_false, ↓DL.pred_s, ↓DL.len_str, ↓DL.len_tup, ↓DL.len_lst, ↓DL.le_ii, ↓DL.le_ss, ↓DL.cmp_ii, ↓DL.add_ii, ↓DL.add_ib, ↓DL.add_bi, ↓DL.add_ss, ↓DL.add_tt, ↓DL.add_ll, ↓DL.sub_ii, ↓DL.sub_ib, ↓DL.sub_bi, ↓DL.mul_ii, ↓DL.ii_ii, ↓DL.neg_i, ↓DL.is_bb, ↓DL.isn_bb, ↓DL.all_b, ↓DL.all_map, ↓DL.sum_i, ↓DL.eq_ii, ↓DL.eq_bi, ↓DL.eq_t0, ↓DL.eq_l0, ↓DL.ne_ss, ↓DL.ne_ii, ↓DL.ne_t0, ↓DL.ne_l0, ↓DL.ix_tup, ↓DL.ix_lst, ↓DL.ix_str, ↓DL.in_c, ↓DL.nin_c, ↓DL.sl_str, ↓DL.sl_tup, ↓DL.sl_lst, ↓DL.app_1, ↓DL.pop_0, ↓DL.ext_t, ↓DL.tuple_l, ↓DL.list_t, ↓DL.list_l, ↓DL.int_b, ↓DL.int_i, ↓DL.min_ii, ↓DL.str_i, ↓DL.str_b, ↓DL.repr_1, ↓DL.back_t, ↓DL.tru_l, ↓DL.at0, ↓DL.at1, ↓DL.at2, ↓DL.at3]
  simp only [mul_si]
  have l9 : (Str.ofString "9").length = 1 := by decide +kernel
  have n40 : At (nine (Int.toNat 40)) 40 := at_c _ _
  have n41 : At (nine (Int.toNat 41)) 41 := at_c _ _
  refine ⟨by omega, ⟨by decide, by decide, by omega, by omega⟩, ?_⟩
  have e40 : (⟨(List.replicate (Int.toNat 40) (Str.ofString "9").cps).foldl (fun x1 x2 => x1 ++ x2) #[]⟩ : Str) = nine (Int.toNat 40) := rfl
  have e41 : (⟨(List.replicate (Int.toNat 41) (Str.ofString "9").cps).foldl (fun x1 x2 => x1 ++ x2) #[]⟩ : Str) = nine (Int.toNat 41) := rfl
  simp only [e40, e41]
  have t40 := n40.1
  have t41 := n41.1
  generalize nine (Int.toNat 40) = w40 at n40 t40 ⊢
  generalize nine (Int.toNat 41) = w41 at n41 t41 ⊢
  simp only [↓DL.e_next, ↓DL.e_seq, ↓DL.e_drop, ↓DL.e_ret, ↓DL.e_retN, ↓DL.e_if, ↓DL.e_cont, ↓DL.e_break, ↓DL.e_set, ↓DL.e_asg, ↓DL.e_par, ↓DL.e_setI, ↓DL.e_for, ↓DL.e_var, ↓DL.e_c, ↓DL.e_op, ↓DL.e_un, ↓DL.e_test, ↓DL.e_chain, ↓DL.e_and, ↓DL.e_or, ↓DL.e_not, ↓DL.e_andV, ↓DL.e_orV, ↓DL.e_notV, ↓DL.e_ife, ↓DL.e_nil, ↓DL.e_cons, ↓DL.e_tup, ↓DL.e_lst, ↓DL.e_lstM, ↓DL.e_noPart, ↓DL.e_part, ↓DL.e_sl, ↓DL.e_cb, ↓DL.e_mtL, ↓DL.e_mt0, ↓DL.e_mtS, ↓DL.e_mtS0, ↓DL.e_tru, ↓DL.e_lc, ↓DL.e_itS, ↓DL.e_itStr, ↓DL.e_rng1, ↓DL.e_rev, ↓DL.e_dic0, ↓DL.e_dic1, ↓DL.e_s0, ↓DL.e_s1, ↓DL.e_ct, ↓DL.e_cf, dstart, slot, gN, ↓asB_bl, ↓asI_int, ↓asS_str, cond_true, cond_false, List.map_cons, List.map_nil, List.length_cons, List.length_nil, List.set_cons_zero, List.set_cons_succ, Option.elim_some, Option.elim_none, List.cons_append, List.nil_append, List.replicate, Nat.sub_self, Nat.reduceSub, Nat.reduceAdd, Bool.not_true, Bool.not_false, setAll, Int.cast_ofNat_Int, Int.reduceLT, Int.reduceLE, Int.reduceBEq, Nat.reduceBEq, decide_true, decide_false, ↓DL.pred_s, ↓DL.len_str, ↓DL.len_tup, ↓DL.len_lst, ↓DL.le_ii, ↓DL.le_ss, ↓DL.cmp_ii, ↓DL.add_ii, ↓DL.add_ib, ↓DL.add_bi, ↓DL.add_ss, ↓DL.add_tt, ↓DL.add_ll, ↓DL.sub_ii, ↓DL.sub_ib, ↓DL.sub_bi, ↓DL.mul_ii, ↓DL.ii_ii, ↓DL.neg_i, ↓DL.is_bb, ↓DL.isn_bb, ↓DL.all_b, ↓DL.all_map, ↓DL.sum_i, ↓DL.eq_ii, ↓DL.eq_bi, ↓DL.eq_t0, ↓DL.eq_l0, ↓DL.ne_ss, ↓DL.ne_ii, ↓DL.ne_t0, ↓DL.ne_l0, ↓DL.ix_tup, ↓DL.ix_lst, ↓DL.ix_str, ↓DL.in_c, ↓DL.nin_c, ↓DL.sl_str, ↓DL.sl_tup, ↓DL.sl_lst, ↓DL.app_1, ↓DL.pop_0, ↓DL.ext_t, ↓DL.tuple_l, ↓DL.list_t, ↓DL.list_l, ↓DL.int_b, ↓DL.int_i, ↓DL.min_ii, ↓DL.str_i, ↓DL.str_b, ↓DL.repr_1, ↓DL.back_t, ↓DL.tru_l, ↓DL.at0, ↓DL.at1, ↓DL.at2, ↓DL.at3]
  refine ⟨by simp only [strLen_append]; omega, by simp only [strLen_append]; omega, by simp only [strLen_append]; omega, by omega, ⟨by decide, by decide, by omega, by omega⟩, ?_⟩
  refine ⟨by simp only [strLen_append]; omega, by simp only [strLen_append]; omega, by simp only [strLen_append]; omega, by omega, by omega, ?_⟩
  have g5 : ∀ v ∈ L4 ++ ([.str (x ++ Str.ofString "." ++ w40 ++ Str.ofString "." ++ x), .str (x ++ Str.ofString "." ++ w41 ++ Str.ofString "." ++ x)] : List DL.D), spR v := by
    intro v hv
    rcases List.mem_append.mp hv with hv | hv
    · exact g4 v hv
    simp only [List.mem_cons, List.not_mem_nil, or_false] at hv
    rcases hv with rfl | rfl
    · exact ((((ax.app ad).app n40).app ad).app ax).spR (by omega)
    · exact ((((ax.app ad).app n41).app ad).app ax).spR (by omega)
  have n5 : (L4 ++ ([.str (x ++ Str.ofString "." ++ w40 ++ Str.ofString "." ++ x), .str (x ++ Str.ofString "." ++ w41 ++ Str.ofString "." ++ x)] : List DL.D)).length ≤ 22 := by rw [List.length_append]; simp; omega
  revert g5 n5
  generalize L4 ++ ([.str (x ++ Str.ofString "." ++ w40 ++ Str.ofString "." ++ x), .str (x ++ Str.ofString "." ++ w41 ++ Str.ofString "." ++ x)] : List DL.D) = L5
  intro g5 n5
  subst hM
  refine seq_gen fun M hM => ?_
  simp only [↓DL.e_next, ↓DL.e_seq, ↓DL.e_drop, ↓DL.e_ret, ↓DL.e_retN, ↓DL.e_if, ↓DL.e_cont, ↓DL.e_break, ↓DL.e_set, ↓DL.e_asg, ↓DL.e_par, ↓DL.e_setI, ↓DL.e_for, ↓DL.e_var, ↓DL.e_c, ↓DL.e_op, ↓DL.e_un, ↓DL.e_test, ↓DL.e_chain, ↓DL.e_and, ↓DL.e_or, ↓DL.e_not, ↓DL.e_andV, ↓DL.e_orV, ↓DL.e_notV, ↓DL.e_ife, ↓DL.e_nil, ↓DL.e_cons, ↓DL.e_tup, ↓DL.e_lst, ↓DL.e_lstM, ↓DL.e_noPart, ↓DL.e_part, ↓DL.e_sl, ↓DL.e_cb, ↓DL.e_mtL, ↓DL.e_mt0, ↓DL.e_mtS, ↓DL.e_mtS0, ↓DL.e_tru, ↓DL.e_lc, ↓DL.e_itS, ↓DL.e_itStr, ↓DL.e_rng1, ↓DL.e_rev, ↓DL.e_dic0, ↓DL.e_dic1, ↓DL.e_s0, ↓DL.e_s1, ↓DL.e_ct, ↓DL.e_cf, dstart, slot, gN, ↓asB_bl, ↓asI_int, ↓asS_str, cond_true, cond_false, List.map_cons, List.map_nil, List.length_cons, List.length_nil, List.set_cons_zero, List.set_cons_succ, Option.elim_some, Option.elim_none, List.cons_append, List.nil_append, List.replicate, Nat.sub_self, Nat.reduceSub, Nat.reduceAdd, Bool.not_true, Bool.not_false, setAll, Int.cast_ofNat_Int, Int.reduceLT, Int.reduceLE, Int.reduceBEq, Nat.reduceBEq, decide_true, decide_false, ↓DL.pred_s, ↓DL.len_str, ↓DL.len_tup, ↓DL.len_lst, ↓DL.le_ii, ↓DL.le_ss, ↓DL.cmp_ii, ↓DL.add_ii, ↓DL.add_ib, ↓DL.add_bi, ↓DL.add_ss, ↓DL.add_tt, ↓DL.add_ll, ↓DL.sub_ii, ↓DL.sub_ib, ↓DL.sub_bi, ↓DL.mul_ii, ↓DL.ii_ii, ↓DL.neg_i, ↓DL.is_bb, ↓DL.isn_bb, ↓DL.all_b, ↓DL.all_map, ↓DL.sum_i, ↓DL.eq_ii, ↓DL.eq_bi, ↓DL.eq_t0, ↓DL.eq_l0, ↓DL.ne_ss, ↓DL.ne_ii, ↓DL.ne_t0, ↓DL.ne_l0, ↓DL.ix_tup, ↓DL.ix_lst, ↓DL.ix_str, ↓DL.in_c, ↓DL.nin_c, ↓DL.sl_str, ↓DL.sl_tup, ↓DL.sl_lst, ↓DL.app_1, ↓DL.pop_0, ↓DL.ext_t, ↓DL.tuple_l, ↓DL.list_t, ↓DL.list_l, ↓DL.int_b, ↓DL.int_i, ↓DL.min_ii, ↓DL.str_i, ↓DL.str_b, ↓DL.repr_1, ↓DL.back_t, ↓DL.tru_l, ↓DL.at0, ↓DL.at1, ↓DL.at2, ↓DL.at3]
  refine ⟨a, c, .str x, 0, rfl, hD, by omega, by simp only [good]; exact nameS_good hx, by simp only [sz]; omega, fun v1 S7 y1 hD s7 => ?_⟩
  refine ⟨a, c, .str y, 0, rfl, hD, by omega, by simp only [good]; exact goodS_of (by omega) ay, by simp only [sz]; omega, fun v2 S8 y2 hD s8 => ?_⟩
  simp only [e_repl]
  simp only [↓DL.e_next, ↓DL.e_seq, ↓DL.e_drop, ↓DL.e_ret, ↓DL.e_retN, ↓DL.e_if, ↓DL.e_cont, ↓DL.e_break, ↓DL.e_set, ↓DL.e_asg, ↓DL.e_par, ↓DL.e_setI, ↓DL.e_for, ↓DL.e_var, ↓DL.e_c, ↓DL.e_op, ↓DL.e_un, ↓DL.e_test, ↓DL.e_chain, ↓DL.e_and, ↓DL.e_or, ↓DL.e_not, ↓DL.e_andV, ↓DL.e_orV, ↓DL.e_notV, ↓DL.e_ife, ↓DL.e_nil, ↓DL.e_cons, ↓DL.e_tup, ↓DL.e_lst, ↓DL.e_lstM, ↓DL.e_noPart, ↓DL.e_part, ↓DL.e_sl, ↓DL.e_cb, ↓DL.e_mtL, ↓DL.e_mt0, ↓DL.e_mtS, ↓DL.e_mtS0, ↓DL.e_tru, ↓DL.e_lc, ↓DL.e_itS, ↓DL.e_itStr, ↓DL.e_rng1, ↓DL.e_rev, ↓DL.e_dic0, ↓DL.e_dic1, ↓DL.e_s0, ↓DL.e_s1, ↓DL.e_ct, ↓DL.e_cf, dstart, slot, gN, ↓asB_bl, ↓asI_int, ↓asS_str, cond_true, cond_false, List.map_cons, List.map_nil, List.length_cons, List.length_nil, List.set_cons_zero, List.set_cons_succ, Option.elim_some, Option.elim_none, List.cons_append, List.nil_append, List.replicate, Nat.sub_self, Nat.reduceSub, Nat.reduceAdd, Bool.not_true, Bool.not_false, setAll, Int.cast_ofNat_Int, Int.reduceLT, Int.reduceLE, Int.reduceBEq, Nat.reduceBEq, decide_true, decide_false, ↓DL.pred_s, ↓DL.len_str, ↓DL.len_tup, ↓DL.len_lst, ↓DL.le_ii, ↓DL.le_ss, ↓DL.cmp_ii, ↓DL.add_ii, ↓DL.add_ib, ↓DL.add_bi, ↓DL.add_ss, ↓DL.add_tt, ↓DL.add_ll, ↓DL.sub_ii, ↓DL.sub_ib, ↓DL.sub_bi, ↓DL.mul_ii, ↓DL.ii_ii, ↓DL.neg_i, ↓DL.is_bb, ↓DL.isn_bb, ↓DL.all_b, ↓DL.all_map, ↓DL.sum_i, ↓DL.eq_ii, ↓DL.eq_bi, ↓DL.eq_t0, ↓DL.eq_l0, ↓DL.ne_ss, ↓DL.ne_ii, ↓DL.ne_t0, ↓DL.ne_l0, ↓DL.ix_tup, ↓DL.ix_lst, ↓DL.ix_str, ↓DL.in_c, ↓DL.nin_c, ↓DL.sl_str, ↓DL.sl_tup, ↓DL.sl_lst, ↓DL.app_1, ↓DL.pop_0, ↓DL.ext_t, ↓DL.tuple_l, ↓DL.list_t, ↓DL.list_l, ↓DL.int_b, ↓DL.int_i, ↓DL.min_ii, ↓DL.str_i, ↓DL.str_b, ↓DL.repr_1, ↓DL.back_t, ↓DL.tru_l, ↓DL.at0, ↓DL.at1, ↓DL.at2, ↓DL.at3]
  have l6 : (Str.ofString ".0").length = 2 := by decide +kernel
  have l7 : (Str.ofString "..").length = 2 := by decide +kernel
  refine ⟨by rw [l6]; omega, by rw [l7]; omega, by omega, by omega, ?_⟩
  have near : ∀ {d v : D}, sz d ≤ 10 → dp d ≤ 10 → Near 0 d v → spR v := fun h1 h2 ⟨q1, q2, q3⟩ => ⟨good_mono (by omega) q1, by omega, by omega⟩
  have g6 : ∀ v ∈ L5 ++ ([v1, v2, .str (Txt.replace y (Str.ofString ".") (Str.ofString ".0")), .str (Txt.replace y (Str.ofString ".") (Str.ofString ".."))] : List DL.D), spR v := by
    intro v hv
    rcases List.mem_append.mp hv with hv | hv
    · exact g5 v hv
    simp only [List.mem_cons, List.not_mem_nil, or_false] at hv
    rcases hv with rfl | rfl | rfl | rfl
    · exact near (by simp only [sz]; omega) (by simp only [dp]; omega) y1
    · exact near (by simp only [sz]; omega) (by simp only [dp]; omega) y2
    · exact (at_repl hy ayy (at_c (Str.ofString ".0") 2) (by omega)).spR (by omega)
    · exact (at_repl hy ayy (at_c (Str.ofString "..") 2) (by omega)).spR (by omega)
  have n6 : (L5 ++ ([v1, v2, .str (Txt.replace y (Str.ofString ".") (Str.ofString ".0")), .str (Txt.replace y (Str.ofString ".") (Str.ofString ".."))] : List DL.D)).length ≤ 26 := by rw [List.length_append]; simp; omega
  revert g6 n6
  generalize L5 ++ ([v1, v2, .str (Txt.replace y (Str.ofString ".") (Str.ofString ".0")), .str (Txt.replace y (Str.ofString ".") (Str.ofString ".."))] : List DL.D) = L6
  intro g6 n6
  subst hM
  simp only [↓DL.e_next, ↓DL.e_seq, ↓DL.e_drop, ↓DL.e_ret, ↓DL.e_retN, ↓DL.e_if, ↓DL.e_cont, ↓DL.e_break, ↓DL.e_set, ↓DL.e_asg, ↓DL.e_par, ↓DL.e_setI, ↓DL.e_for, ↓DL.e_var, ↓DL.e_c, ↓DL.e_op, ↓DL.e_un, ↓DL.e_test, ↓DL.e_chain, ↓DL.e_and, ↓DL.e_or, ↓DL.e_not, ↓DL.e_andV, ↓DL.e_orV, ↓DL.e_notV, ↓DL.e_ife, ↓DL.e_nil, ↓DL.e_cons, ↓DL.e_tup, ↓DL.e_lst, ↓DL.e_lstM, ↓DL.e_noPart, ↓DL.e_part, ↓DL.e_sl, ↓DL.e_cb, ↓DL.e_mtL, ↓DL.e_mt0, ↓DL.e_mtS, ↓DL.e_mtS0, ↓DL.e_tru, ↓DL.e_lc, ↓DL.e_itS, ↓DL.e_itStr, ↓DL.e_rng1, ↓DL.e_rev, ↓DL.e_dic0, ↓DL.e_dic1, ↓DL.e_s0, ↓DL.e_s1, ↓DL.e_ct, ↓DL.e_cf, dstart, slot, gN, ↓asB_bl, ↓asI_int, ↓asS_str, cond_true, cond_false, List.map_cons, List.map_nil, List.length_cons, List.length_nil, List.set_cons_zero, List.set_cons_succ, Option.elim_some, Option.elim_none, List.cons_append, List.nil_append, List.replicate, Nat.sub_self, Nat.reduceSub, Nat.reduceAdd, Bool.not_true, Bool.not_false, setAll, Int.cast_ofNat_Int, Int.reduceLT, Int.reduceLE, Int.reduceBEq, Nat.reduceBEq, decide_true, decide_false, ↓DL.pred_s, ↓DL.len_str, ↓DL.len_tup, ↓DL.len_lst, ↓DL.le_ii, ↓DL.le_ss, ↓DL.cmp_ii, ↓DL.add_ii, ↓DL.add_ib, ↓DL.add_bi, ↓DL.add_ss, ↓DL.add_tt, ↓DL.add_ll, ↓DL.sub_ii, ↓DL.sub_ib, ↓DL.sub_bi, ↓DL.mul_ii, ↓DL.ii_ii, ↓DL.neg_i, ↓DL.is_bb, ↓DL.isn_bb, ↓DL.all_b, ↓DL.all_map, ↓DL.sum_i, ↓DL.eq_ii, ↓DL.eq_bi, ↓DL.eq_t0, ↓DL.eq_l0, ↓DL.ne_ss, ↓DL.ne_ii, ↓DL.ne_t0, ↓DL.ne_l0, ↓DL.ix_tup, ↓DL.ix_lst, ↓DL.ix_str, ↓DL.in_c, ↓DL.nin_c, ↓DL.sl_str, ↓DL.sl_tup, ↓DL.sl_lst, ↓DL.app_1, ↓DL.pop_0, ↓DL.ext_t, ↓DL.tuple_l, ↓DL.list_t, ↓DL.list_l, ↓DL.int_b, ↓DL.int_i, ↓DL.min_ii, ↓DL.str_i, ↓DL.str_b, ↓DL.repr_1, ↓DL.back_t, ↓DL.tru_l, ↓DL.at0, ↓DL.at1, ↓DL.at2, ↓DL.at3]
  refine lc_grow (fun _ => false) (fun d => d) (by omega) (fun d hd S2 Q q => ?_) (fun d hd e => absurd e Bool.false_ne_true) fun S' s' => ?_
  · simp only [↓DL.e_next, ↓DL.e_seq, ↓DL.e_drop, ↓DL.e_ret, ↓DL.e_retN, ↓DL.e_if, ↓DL.e_cont, ↓DL.e_break, ↓DL.e_set, ↓DL.e_asg, ↓DL.e_par, ↓DL.e_setI, ↓DL.e_for, ↓DL.e_var, ↓DL.e_c, ↓DL.e_op, ↓DL.e_un, ↓DL.e_test, ↓DL.e_chain, ↓DL.e_and, ↓DL.e_or, ↓DL.e_not, ↓DL.e_andV, ↓DL.e_orV, ↓DL.e_notV, ↓DL.e_ife, ↓DL.e_nil, ↓DL.e_cons, ↓DL.e_tup, ↓DL.e_lst, ↓DL.e_lstM, ↓DL.e_noPart, ↓DL.e_part, ↓DL.e_sl, ↓DL.e_cb, ↓DL.e_mtL, ↓DL.e_mt0, ↓DL.e_mtS, ↓DL.e_mtS0, ↓DL.e_tru, ↓DL.e_lc, ↓DL.e_itS, ↓DL.e_itStr, ↓DL.e_rng1, ↓DL.e_rev, ↓DL.e_dic0, ↓DL.e_dic1, ↓DL.e_s0, ↓DL.e_s1, ↓DL.e_ct, ↓DL.e_cf, dstart, slot, gN, ↓asB_bl, ↓asI_int, ↓asS_str, cond_true, cond_false, List.map_cons, List.map_nil, List.length_cons, List.length_nil, List.set_cons_zero, List.set_cons_succ, Option.elim_some, Option.elim_none, List.cons_append, List.nil_append, List.replicate, Nat.sub_self, Nat.reduceSub, Nat.reduceAdd, Bool.not_true, Bool.not_false, setAll, Int.cast_ofNat_Int, Int.reduceLT, Int.reduceLE, Int.reduceBEq, Nat.reduceBEq, decide_true, decide_false, ↓DL.pred_s, ↓DL.len_str, ↓DL.len_tup, ↓DL.len_lst, ↓DL.le_ii, ↓DL.le_ss, ↓DL.cmp_ii, ↓DL.add_ii, ↓DL.add_ib, ↓DL.add_bi, ↓DL.add_ss, ↓DL.add_tt, ↓DL.add_ll, ↓DL.sub_ii, ↓DL.sub_ib, ↓DL.sub_bi, ↓DL.mul_ii, ↓DL.ii_ii, ↓DL.neg_i, ↓DL.is_bb, ↓DL.isn_bb, ↓DL.all_b, ↓DL.all_map, ↓DL.sum_i, ↓DL.eq_ii, ↓DL.eq_bi, ↓DL.eq_t0, ↓DL.eq_l0, ↓DL.ne_ss, ↓DL.ne_ii, ↓DL.ne_t0, ↓DL.ne_l0, ↓DL.ix_tup, ↓DL.ix_lst, ↓DL.ix_str, ↓DL.in_c, ↓DL.nin_c, ↓DL.sl_str, ↓DL.sl_tup, ↓DL.sl_lst, ↓DL.app_1, ↓DL.pop_0, ↓DL.ext_t, ↓DL.tuple_l, ↓DL.list_t, ↓DL.list_l, ↓DL.int_b, ↓DL.int_i, ↓DL.min_ii, ↓DL.str_i, ↓DL.str_b, ↓DL.repr_1, ↓DL.back_t, ↓DL.tru_l, ↓DL.at0, ↓DL.at1, ↓DL.at2, ↓DL.at3]
    exact ⟨d, rfl, g6 d hd, q⟩
  · refine ⟨by omega, ?_⟩
    rw [List.filter_eq_nil_iff.mpr (fun _ _ => Bool.false_ne_true)]
    exact h S' (hD.step s' (by simp) (by simp)) (((s6.trans s7).trans s8).trans (s'.mono (by simp)))
end
end K01
set_option Elab.async false
set_option linter.all false
set_option maxRecDepth 100000
set_option maxHeartbeats 1000000
namespace K01
open PySem PySem.Spec PyProof.Rows L2 DL
/-- by looking -/
def lookR (d : D) : Bool := good 3 d && decide (sz d ≤ 2000) && decide (dp d ≤ 140)
theorem spR_of {d : D} (h : lookR d = true) : spR d := by
  unfold lookR at h
  rw [Bool.and_eq_true, Bool.and_eq_true] at h
  exact ⟨h.1.1, of_decide_eq_true h.1.2, of_decide_eq_true h.2⟩
theorem spR_all {ds : List D} (h : ds.all lookR = true) : ∀ v ∈ ds, spR v := fun v hv => spR_of (List.all_eq_true.mp h v hv)
theorem spR_app {xs ys : List D} (h : ∀ v ∈ xs, spR v) (h2 : ys.all lookR = true) : ∀ v ∈ xs ++ ys, spR v := fun v hv => (List.mem_append.mp hv).elim (h v) (spR_all h2 v)
theorem rep_facts (d : D) : ∀ n : Nat, szA (List.replicate n [d]).flatten = n * sz d ∧ dpA (List.replicate n [d]).flatten ≤ dp d ∧ (good 3 d = true → goodA 3 (List.replicate n [d]).flatten = true) ∧ (List.replicate n [d]).flatten.length = n
  | 0 => ⟨by simp [szA], by simp [dpA], fun _ => by simp [goodA], by simp⟩
  | n + 1 => by
    obtain ⟨h1, h2, h3, h4⟩ := rep_facts d n
    rw [List.replicate_succ, List.flatten_cons]
    refine ⟨?_, ?_, fun g => ?_, ?_⟩
    · rw [szA_append, h1]; simp only [szA]; rw [Nat.succ_mul]; omega
    · rw [dpA_append]; simp only [dpA]; omega
    · rw [goodA_append, goodA_cons, g, h3 g]; simp only [goodA, Bool.and_self]
    · rw [List.length_append, h4]; simp; omega
theorem cpow : CPow 10 39 := by unfold CPow; decide
section
variable {P : Program} {w : World} {K : PySem.W.Frag} {mg : Str → Option Value} {base : Heap}

abbrev st_law : Stmt := top 34
theorem sc_law : FnScope ["_law_script", "_law_deck_here", "_law_twices", "_law_twice", "_law_good", "_law_turn", "_law_bent_here", "_law_things", "_law_last", "_law_chain", "_law_k", "_law_thing"] ["_law_script"] (defScope st_law) := ⟨rfl, rfl, rfl, by decide +kernel, rfl, by decide +kernel, by decide +kernel⟩
def sp_law : DSp := fun ds S P => ∃ ns : List Int, ds = [.lst (ns.map .int)] ∧ ns.length ≤ 63 ∧ ∀ S', P (.bl true) S'
theorem len_law {ds : List D} {S : Sto} {P : DK} (h : sp_law ds S P) : ds.length = 1 := by obtain ⟨_, rfl, _⟩ := h; rfl
theorem ok_law {k : Nat}  {f0 : Addr} {fd0 : FuncData} (DD : Fun K "law" "law" st_law f0 fd0) (G__law_right : Has P w K mg base (k) "_law_right" ["_law_thing"] (sp_l_right)) (G__law_names_right : Has P w K mg base (k) "_law_names_right" ["_law_deck_here"] (sp_l_names_right)) (G__law_bent : Has P w K mg base (k) "_law_bent" ["_law_deck_here", "_law_thing"] (sp_l_bent 30)) (G_is_term : Has P w K mg base (k) "is_term" ["thing"] (sp_is_term)) (G__law_term : Has P w K mg base (k) "_law_term" ["_law_deck_here", "_law_deep", "_law_left"] (sp_l_term 12)) (G__law_draw : Has P w K mg base (k) "_law_draw" ["_law_deck_here", "_law_ways"] (sp_l_draw)) (G__law_deck : Has P w K mg base (k) "_law_deck" ["_law_script"] (sp_l_deck)) (m_range : mg "range" = none) : FnD P w K mg base (k + 1) f0 fd0 ["_law_script"] (sp_law) := by
  refine okD DD sc_law (fun ds S P h => len_law h) (fun cdv A outer s H hr hgd => ⟨_, (ss_cons (s_set 1 sc_law.nd (q_def G__law_deck (hr.mono (by omega)) hgd (a_cons (q_var 0) a_nil)))
      (ss_cons (s_setLc 2 (own := [("_law_turn", 5)]) (is := [5]) rfl lcg_name rfl sc_law.nd (i_rng1 rfl m_range (a_cons q_int a_nil)) (blkOk_by (own := [("_law_turn", 5)]) (N := ["_law_script", "_law_deck_here", "_law_twices", "_law_twice", "_law_good", "_law_turn", "_law_bent_here", "_law_things", "_law_last", "_law_chain", "_law_k", "_law_thing"]) (sc := defScope st_law) (by decide +kernel)) (fun _ _ _ _ _ => pg_name (i := 5) sc_law.nd rfl (Or.inl rfl)) (fun _ _ _ _ _ => ts_nil) (fun _ _ _ _ _ => (q_def G__law_draw (hr.mono (by omega)) hgd (a_cons (q_var 1) (a_cons q_int a_nil)))) (sw_true rfl rfl rfl (by decide +kernel)))
      (ss_cons (s_for PassesOwn.never rfl (i_seq (q_var 2)) (g_name 3 sc_law.nd) (ss_cons (s_set 4 sc_law.nd (q_def G__law_term (hr.mono (by omega)) hgd (a_cons (q_var 1) (a_cons (q_ix ix_D (q_lst (a_cons q_int (a_cons q_int (a_cons q_int a_nil)))) (q_def G__law_draw (hr.mono (by omega)) hgd (a_cons (q_var 1) (a_cons q_int a_nil)))) (a_cons (q_lstM (a_cons (q_def G__law_draw (hr.mono (by omega)) hgd (a_cons (q_var 1) (a_cons q_int a_nil))) a_nil)) a_nil)))))
      (ss_cons (s_if (t_w (w_or (t_cmp op_isNotBD (q_def G_is_term (hr.mono (by omega)) hgd (a_cons (q_var 4) a_nil)) q_bl) (w_or1 (t_not (t_val (q_def G__law_right (hr.mono (by omega)) hgd (a_cons (q_var 4) a_nil))))))) (ss_one (s_ret q_bl)) ss_nil)
      (ss_cons (s_for PassesOwn.never rfl (i_rng1 rfl m_range (a_cons q_int a_nil)) (g_name 5 sc_law.nd) (ss_cons (s_set 6 sc_law.nd (q_def G__law_bent (hr.mono (by omega)) hgd (a_cons (q_var 1) (a_cons (q_var 4) a_nil))))
      (ss_cons (s_if (t_cmp (op_eqD (DL.Room.un1 hr)) (q_var 3) q_int) (ss_one (s_set 6 sc_law.nd (q_def G__law_bent (hr.mono (by omega)) hgd (a_cons (q_var 1) (a_cons (q_var 6) a_nil))))) ss_nil)
      (ss_one (s_if (t_not (t_val (q_def G__law_right (hr.mono (by omega)) hgd (a_cons (q_var 6) a_nil)))) (ss_one (s_ret q_bl)) ss_nil)))))
      (ss_one (s_if (t_not (t_val (q_def G__law_names_right (hr.mono (by omega)) hgd (a_cons (q_var 1) a_nil)))) (ss_one (s_ret q_bl)) ss_nil))))))
      (ss_cons (s_set 7 sc_law.nd (q_lst (a_cons q_non (a_cons q_bl (a_cons q_int (a_cons q_str (a_cons q_str (a_cons (q_tup a_nil) (a_cons (q_lst a_nil) (a_cons q_dic0 (a_cons (q_tup (a_cons q_str a_nil)) (a_cons (q_tup (a_cons q_str (a_cons q_int (a_cons q_int a_nil)))) (a_cons (q_tup (a_cons q_str (a_cons q_int a_nil))) (a_cons (q_tup (a_cons q_str (a_cons q_int a_nil))) (a_cons (q_tup (a_cons q_str (a_cons (q_op op_powD q_int q_int) a_nil))) a_nil)))))))))))))))
      (ss_cons (s_set 7 sc_law.nd (q_op op_addD (q_var 7) (q_lst (a_cons (q_tup (a_cons q_str (a_cons q_bl a_nil))) (a_cons (q_tup (a_cons q_str (a_cons q_bl a_nil))) (a_cons (q_tup (a_cons q_str (a_cons q_str (a_cons (q_tup a_nil) a_nil)))) (a_cons (q_tup (a_cons q_str (a_cons q_str (a_cons (q_lst a_nil) a_nil)))) (a_cons (q_tup (a_cons q_str (a_cons q_str a_nil))) a_nil))))))))
      (ss_cons (s_set 7 sc_law.nd (q_op op_addM (q_var 7) (q_lst (a_cons (q_tup (a_cons q_str (a_cons q_str (a_cons (q_tup (a_cons q_str (a_cons q_int a_nil))) (a_cons (q_tup (a_cons q_str (a_cons q_int a_nil))) a_nil))))) (a_cons (q_tup (a_cons q_str (a_cons (q_tup (a_cons q_str (a_cons q_int a_nil))) (a_cons (q_tup (a_cons q_str (a_cons q_int a_nil))) a_nil)))) a_nil)))))
      (ss_cons (s_expr (q_mtL PySem.F.slot_list_append PySem.F.type_list_append m_append (q_var 7) (a_cons (q_tup (a_cons q_str (a_cons q_str (a_cons q_str (a_cons (q_tup a_nil) a_nil))))) a_nil)))
      (ss_cons (s_set 7 sc_law.nd (q_op op_addL (q_var 7) (q_lst (a_cons (q_tup (a_cons q_str (a_cons q_str a_nil))) (a_cons (q_tup (a_cons q_str (a_cons q_str (a_cons (q_tup a_nil) (a_cons (q_tup (a_cons q_str (a_cons q_int a_nil))) a_nil))))) (a_cons (q_tup (a_cons q_str a_nil)) (a_cons (q_tup (a_cons q_str (a_cons q_str (a_cons (q_tup (a_cons q_str (a_cons q_int a_nil))) a_nil)))) a_nil)))))))
      (ss_cons (s_set 7 sc_law.nd (q_op op_addD (q_var 7) (q_lst (a_cons (q_tup (a_cons (q_tup (a_cons q_str (a_cons q_int a_nil))) a_nil)) (a_cons (q_tup (a_cons q_str (a_cons q_int a_nil))) (a_cons (q_tup (a_cons q_str a_nil)) a_nil))))))
      (ss_cons (s_for PassesOwn.never rfl (i_seq (q_lst (a_cons (q_tup (a_cons q_str (a_cons q_int a_nil))) (a_cons (q_tup (a_cons q_str (a_cons (q_un un_negD q_int) a_nil))) (a_cons (q_tup (a_cons q_str (a_cons q_bl a_nil))) a_nil))))) (g_name 8 sc_law.nd) (ss_cons (s_set 9 sc_law.nd (q_var 8))
      (ss_cons (s_for PassesOwn.never rfl (i_rng1 rfl m_range (a_cons q_int a_nil)) (g_name 10 sc_law.nd) (ss_one (s_set 9 sc_law.nd (q_tup (a_cons q_str (a_cons q_str (a_cons (q_tup (a_cons q_str (a_cons q_int a_nil))) (a_cons (q_var 9) a_nil))))))))
      (ss_one (s_set 7 sc_law.nd (q_op op_addD (q_var 7) (q_lst (a_cons (q_var 9) (a_cons (q_tup (a_cons q_str (a_cons q_str (a_cons (q_op op_addD (q_op op_mulD (q_tup (a_cons (q_tup (a_cons q_str (a_cons q_int a_nil))) a_nil)) q_int) (q_tup (a_cons (q_var 8) a_nil))) a_nil)))) a_nil)))))))))
      (ss_one (s_ret (q_cmp (op_eqD (DL.Room.un1 hr)) (q_lc (own := [("_law_thing", 11)]) (is := [11]) rfl lcg_name rfl sc_law.nd (i_seq (q_var 7)) (blkOk_by (own := [("_law_thing", 11)]) (N := ["_law_script", "_law_deck_here", "_law_twices", "_law_twice", "_law_good", "_law_turn", "_law_bent_here", "_law_things", "_law_last", "_law_chain", "_law_k", "_law_thing"]) (sc := defScope st_law) (by decide +kernel)) (fun _ _ _ _ _ => pg_name (i := 11) sc_law.nd rfl (Or.inl rfl)) (fun _ _ _ _ _ => (ts_one (t_not (t_val (q_def G__law_right (hr.mono (by omega)) hgd (a_cons (q_var 11) a_nil)))))) (fun _ _ _ _ _ => (q_var 11))) (q_lst a_nil)))))))))))))), fun ds S P h => ?_⟩)
  obtain ⟨ns, rfl, hn, h⟩ := h
  have hl := small8
  refine seq_gen fun M hM => ?_
  simp only [↓DL.e_next, ↓DL.e_seq, ↓DL.e_drop, ↓DL.e_ret, ↓DL.e_retN, ↓DL.e_if, ↓DL.e_cont, ↓DL.e_break, ↓DL.e_set, ↓DL.e_asg, ↓DL.e_par, ↓DL.e_setI, ↓DL.e_for, ↓DL.e_var, ↓DL.e_c, ↓DL.e_op, ↓DL.e_un, ↓DL.e_test, ↓DL.e_chain, ↓DL.e_and, ↓DL.e_or, ↓DL.e_not, ↓DL.e_andV, ↓DL.e_orV, ↓DL.e_notV, ↓DL.e_ife, ↓DL.e_nil, ↓DL.e_cons, ↓DL.e_tup, ↓DL.e_lst, ↓DL.e_lstM, ↓DL.e_noPart, ↓DL.e_part, ↓DL.e_sl, ↓DL.e_cb, ↓DL.e_mtL, ↓DL.e_mt0, ↓DL.e_mtS, ↓DL.e_mtS0, ↓DL.e_tru, ↓DL.e_lc, ↓DL.e_itS, ↓DL.e_itStr, ↓DL.e_rng1, ↓DL.e_rev, ↓DL.e_dic0, ↓DL.e_dic1, ↓DL.e_s0, ↓DL.e_s1, ↓DL.e_ct, ↓DL.e_cf, dstart, slot, gN, ↓asB_bl, ↓asI_int, ↓asS_str, cond_true, cond_false, List.map_cons, List.map_nil, List.length_cons, List.length_nil, List.set_cons_zero, List.set_cons_succ, Option.elim_some, Option.elim_none, List.cons_append, List.nil_append, List.replicate, Nat.sub_self, Nat.reduceSub, Nat.reduceAdd, Bool.not_true, Bool.not_false, setAll, Int.cast_ofNat_Int, Int.reduceLT, Int.reduceLE, Int.reduceBEq, Nat.reduceBEq, decide_true, decide_false, ↓DL.pred_s, ↓DL.len_str, ↓DL.len_tup, ↓DL.len_lst, ↓DL.le_ii, ↓DL.le_ss, ↓DL.cmp_ii, ↓DL.add_ii, ↓DL.add_ib, ↓DL.add_bi, ↓DL.add_ss, ↓DL.add_tt, ↓DL.add_ll, ↓DL.sub_ii, ↓DL.sub_ib, ↓DL.sub_bi, ↓DL.mul_ii, ↓DL.ii_ii, ↓DL.neg_i, ↓DL.is_bb, ↓DL.isn_bb, ↓DL.all_b, ↓DL.all_map, ↓DL.sum_i, ↓DL.eq_ii, ↓DL.eq_bi, ↓DL.eq_t0, ↓DL.eq_l0, ↓DL.ne_ss, ↓DL.ne_ii, ↓DL.ne_t0, ↓DL.ne_l0, ↓DL.ix_tup, ↓DL.ix_lst, ↓DL.ix_str, ↓DL.in_c, ↓DL.nin_c, ↓DL.sl_str, ↓DL.sl_tup, ↓DL.sl_lst, ↓DL.app_1, ↓DL.pop_0, ↓DL.ext_t, ↓DL.tuple_l, ↓DL.list_t, ↓DL.list_l, ↓DL.int_b, ↓DL.int_i, ↓DL.min_ii, ↓DL.str_i, ↓DL.str_b, ↓DL.repr_1, ↓DL.back_t, ↓DL.tru_l, ↓DL.at0, ↓DL.at1, ↓DL.at2, ↓DL.at3]
  refine ⟨ns, rfl, hn, fun a c S1 hD s1 => ?_⟩
  subst hM
  refine seq_gen fun M hM => ?_
  simp only [↓DL.e_next, ↓DL.e_seq, ↓DL.e_drop, ↓DL.e_ret, ↓DL.e_retN, ↓DL.e_if, ↓DL.e_cont, ↓DL.e_break, ↓DL.e_set, ↓DL.e_asg, ↓DL.e_par, ↓DL.e_setI, ↓DL.e_for, ↓DL.e_var, ↓DL.e_c, ↓DL.e_op, ↓DL.e_un, ↓DL.e_test, ↓DL.e_chain, ↓DL.e_and, ↓DL.e_or, ↓DL.e_not, ↓DL.e_andV, ↓DL.e_orV, ↓DL.e_notV, ↓DL.e_ife, ↓DL.e_nil, ↓DL.e_cons, ↓DL.e_tup, ↓DL.e_lst, ↓DL.e_lstM, ↓DL.e_noPart, ↓DL.e_part, ↓DL.e_sl, ↓DL.e_cb, ↓DL.e_mtL, ↓DL.e_mt0, ↓DL.e_mtS, ↓DL.e_mtS0, ↓DL.e_tru, ↓DL.e_lc, ↓DL.e_itS, ↓DL.e_itStr, ↓DL.e_rng1, ↓DL.e_rev, ↓DL.e_dic0, ↓DL.e_dic1, ↓DL.e_s0, ↓DL.e_s1, ↓DL.e_ct, ↓DL.e_cf, dstart, slot, gN, ↓asB_bl, ↓asI_int, ↓asS_str, cond_true, cond_false, List.map_cons, List.map_nil, List.length_cons, List.length_nil, List.set_cons_zero, List.set_cons_succ, Option.elim_some, Option.elim_none, List.cons_append, List.nil_append, List.replicate, Nat.sub_self, Nat.reduceSub, Nat.reduceAdd, Bool.not_true, Bool.not_false, setAll, Int.cast_ofNat_Int, Int.reduceLT, Int.reduceLE, Int.reduceBEq, Nat.reduceBEq, decide_true, decide_false, ↓DL.pred_s, ↓DL.len_str, ↓DL.len_tup, ↓DL.len_lst, ↓DL.le_ii, ↓DL.le_ss, ↓DL.cmp_ii, ↓DL.add_ii, ↓DL.add_ib, ↓DL.add_bi, ↓DL.add_ss, ↓DL.add_tt, ↓DL.add_ll, ↓DL.sub_ii, ↓DL.sub_ib, ↓DL.sub_bi, ↓DL.mul_ii, ↓DL.ii_ii, ↓DL.neg_i, ↓DL.is_bb, ↓DL.isn_bb, ↓DL.all_b, ↓DL.all_map, ↓DL.sum_i, ↓DL.eq_ii, ↓DL.eq_bi, ↓DL.eq_t0, ↓DL.eq_l0, ↓DL.ne_ss, ↓DL.ne_ii, ↓DL.ne_t0, ↓DL.ne_l0, ↓DL.ix_tup, ↓DL.ix_lst, ↓DL.ix_str, ↓DL.in_c, ↓DL.nin_c, ↓DL.sl_str, ↓DL.sl_tup, ↓DL.sl_lst, ↓DL.app_1, ↓DL.pop_0, ↓DL.ext_t, ↓DL.tuple_l, ↓DL.list_t, ↓DL.list_l, ↓DL.int_b, ↓DL.int_i, ↓DL.min_ii, ↓DL.str_i, ↓DL.str_b, ↓DL.repr_1, ↓DL.back_t, ↓DL.tru_l, ↓DL.at0, ↓DL.at1, ↓DL.at2, ↓DL.at3]
  refine ⟨⟨by decide, by decide⟩, ?_⟩
  refine lc_step [a, c] (fun S => Dk S a c) (fun y => ∃ r : Int, y = .int r) (by rw [iota_len]; omega) (fun _ _ e h => h.of e) hD.some hD (fun d hd S5 Q hD q => ?_) fun ys S5 hys hy hD s5 => ?_
  · simp only [↓DL.e_next, ↓DL.e_seq, ↓DL.e_drop, ↓DL.e_ret, ↓DL.e_retN, ↓DL.e_if, ↓DL.e_cont, ↓DL.e_break, ↓DL.e_set, ↓DL.e_asg, ↓DL.e_par, ↓DL.e_setI, ↓DL.e_for, ↓DL.e_var, ↓DL.e_c, ↓DL.e_op, ↓DL.e_un, ↓DL.e_test, ↓DL.e_chain, ↓DL.e_and, ↓DL.e_or, ↓DL.e_not, ↓DL.e_andV, ↓DL.e_orV, ↓DL.e_notV, ↓DL.e_ife, ↓DL.e_nil, ↓DL.e_cons, ↓DL.e_tup, ↓DL.e_lst, ↓DL.e_lstM, ↓DL.e_noPart, ↓DL.e_part, ↓DL.e_sl, ↓DL.e_cb, ↓DL.e_mtL, ↓DL.e_mt0, ↓DL.e_mtS, ↓DL.e_mtS0, ↓DL.e_tru, ↓DL.e_lc, ↓DL.e_itS, ↓DL.e_itStr, ↓DL.e_rng1, ↓DL.e_rev, ↓DL.e_dic0, ↓DL.e_dic1, ↓DL.e_s0, ↓DL.e_s1, ↓DL.e_ct, ↓DL.e_cf, dstart, slot, gN, ↓asB_bl, ↓asI_int, ↓asS_str, cond_true, cond_false, List.map_cons, List.map_nil, List.length_cons, List.length_nil, List.set_cons_zero, List.set_cons_succ, Option.elim_some, Option.elim_none, List.cons_append, List.nil_append, List.replicate, Nat.sub_self, Nat.reduceSub, Nat.reduceAdd, Bool.not_true, Bool.not_false, setAll, Int.cast_ofNat_Int, Int.reduceLT, Int.reduceLE, Int.reduceBEq, Nat.reduceBEq, decide_true, decide_false, ↓DL.pred_s, ↓DL.len_str, ↓DL.len_tup, ↓DL.len_lst, ↓DL.le_ii, ↓DL.le_ss, ↓DL.cmp_ii, ↓DL.add_ii, ↓DL.add_ib, ↓DL.add_bi, ↓DL.add_ss, ↓DL.add_tt, ↓DL.add_ll, ↓DL.sub_ii, ↓DL.sub_ib, ↓DL.sub_bi, ↓DL.mul_ii, ↓DL.ii_ii, ↓DL.neg_i, ↓DL.is_bb, ↓DL.isn_bb, ↓DL.all_b, ↓DL.all_map, ↓DL.sum_i, ↓DL.eq_ii, ↓DL.eq_bi, ↓DL.eq_t0, ↓DL.eq_l0, ↓DL.ne_ss, ↓DL.ne_ii, ↓DL.ne_t0, ↓DL.ne_l0, ↓DL.ix_tup, ↓DL.ix_lst, ↓DL.ix_str, ↓DL.in_c, ↓DL.nin_c, ↓DL.sl_str, ↓DL.sl_tup, ↓DL.sl_lst, ↓DL.app_1, ↓DL.pop_0, ↓DL.ext_t, ↓DL.tuple_l, ↓DL.list_t, ↓DL.list_l, ↓DL.int_b, ↓DL.int_i, ↓DL.min_ii, ↓DL.str_i, ↓DL.str_b, ↓DL.repr_1, ↓DL.back_t, ↓DL.tru_l, ↓DL.at0, ↓DL.at1, ↓DL.at2, ↓DL.at3]
    exact ⟨a, c, 2, rfl, by decide, by decide, hD, fun r S6 p6 q6 hD s6 => q _ S6 ⟨r, rfl⟩ hD s6⟩
  rw [iota_len] at hys
  subst hM
  refine seq_gen fun M hM => ?_
  simp only [↓DL.e_next, ↓DL.e_seq, ↓DL.e_drop, ↓DL.e_ret, ↓DL.e_retN, ↓DL.e_if, ↓DL.e_cont, ↓DL.e_break, ↓DL.e_set, ↓DL.e_asg, ↓DL.e_par, ↓DL.e_setI, ↓DL.e_for, ↓DL.e_var, ↓DL.e_c, ↓DL.e_op, ↓DL.e_un, ↓DL.e_test, ↓DL.e_chain, ↓DL.e_and, ↓DL.e_or, ↓DL.e_not, ↓DL.e_andV, ↓DL.e_orV, ↓DL.e_notV, ↓DL.e_ife, ↓DL.e_nil, ↓DL.e_cons, ↓DL.e_tup, ↓DL.e_lst, ↓DL.e_lstM, ↓DL.e_noPart, ↓DL.e_part, ↓DL.e_sl, ↓DL.e_cb, ↓DL.e_mtL, ↓DL.e_mt0, ↓DL.e_mtS, ↓DL.e_mtS0, ↓DL.e_tru, ↓DL.e_lc, ↓DL.e_itS, ↓DL.e_itStr, ↓DL.e_rng1, ↓DL.e_rev, ↓DL.e_dic0, ↓DL.e_dic1, ↓DL.e_s0, ↓DL.e_s1, ↓DL.e_ct, ↓DL.e_cf, dstart, slot, gN, ↓asB_bl, ↓asI_int, ↓asS_str, cond_true, cond_false, List.map_cons, List.map_nil, List.length_cons, List.length_nil, List.set_cons_zero, List.set_cons_succ, Option.elim_some, Option.elim_none, List.cons_append, List.nil_append, List.replicate, Nat.sub_self, Nat.reduceSub, Nat.reduceAdd, Bool.not_true, Bool.not_false, setAll, Int.cast_ofNat_Int, Int.reduceLT, Int.reduceLE, Int.reduceBEq, Nat.reduceBEq, decide_true, decide_false, ↓DL.pred_s, ↓DL.len_str, ↓DL.len_tup, ↓DL.len_lst, ↓DL.le_ii, ↓DL.le_ss, ↓DL.cmp_ii, ↓DL.add_ii, ↓DL.add_ib, ↓DL.add_bi, ↓DL.add_ss, ↓DL.add_tt, ↓DL.add_ll, ↓DL.sub_ii, ↓DL.sub_ib, ↓DL.sub_bi, ↓DL.mul_ii, ↓DL.ii_ii, ↓DL.neg_i, ↓DL.is_bb, ↓DL.isn_bb, ↓DL.all_b, ↓DL.all_map, ↓DL.sum_i, ↓DL.eq_ii, ↓DL.eq_bi, ↓DL.eq_t0, ↓DL.eq_l0, ↓DL.ne_ss, ↓DL.ne_ii, ↓DL.ne_t0, ↓DL.ne_l0, ↓DL.ix_tup, ↓DL.ix_lst, ↓DL.ix_str, ↓DL.in_c, ↓DL.nin_c, ↓DL.sl_str, ↓DL.sl_tup, ↓DL.sl_lst, ↓DL.app_1, ↓DL.pop_0, ↓DL.ext_t, ↓DL.tuple_l, ↓DL.list_t, ↓DL.list_l, ↓DL.int_b, ↓DL.int_i, ↓DL.min_ii, ↓DL.str_i, ↓DL.str_b, ↓DL.repr_1, ↓DL.back_t, ↓DL.tru_l, ↓DL.at0, ↓DL.at1, ↓DL.at2, ↓DL.at3]
  refine ⟨fun j δ' S' => ∃ x3 x4 x5 x6, δ' = [some (.lst (ns.map .int)), some (.ref a), some (.lst ys), x3, x4, x5, x6, none, none, none, none, none] ∧ Dk S' a c, ⟨none, none, none, none, rfl, hD⟩, fun i d3 δ' S6 hd' ⟨x3, x4, x5, x6, e, hD⟩ => ?_, fun δ' S6 ⟨x3, x4, x5, x6, e, hD⟩ => ?_⟩
  · clear hM
    obtain ⟨r3, rfl⟩ := hy d3 (List.mem_of_getElem? hd')
    subst e
    show dSeq _ _ _ _ _
    refine seq_gen fun M hM => ?_
    simp only [↓DL.e_next, ↓DL.e_seq, ↓DL.e_drop, ↓DL.e_ret, ↓DL.e_retN, ↓DL.e_if, ↓DL.e_cont, ↓DL.e_break, ↓DL.e_set, ↓DL.e_asg, ↓DL.e_par, ↓DL.e_setI, ↓DL.e_for, ↓DL.e_var, ↓DL.e_c, ↓DL.e_op, ↓DL.e_un, ↓DL.e_test, ↓DL.e_chain, ↓DL.e_and, ↓DL.e_or, ↓DL.e_not, ↓DL.e_andV, ↓DL.e_orV, ↓DL.e_notV, ↓DL.e_ife, ↓DL.e_nil, ↓DL.e_cons, ↓DL.e_tup, ↓DL.e_lst, ↓DL.e_lstM, ↓DL.e_noPart, ↓DL.e_part, ↓DL.e_sl, ↓DL.e_cb, ↓DL.e_mtL, ↓DL.e_mt0, ↓DL.e_mtS, ↓DL.e_mtS0, ↓DL.e_tru, ↓DL.e_lc, ↓DL.e_itS, ↓DL.e_itStr, ↓DL.e_rng1, ↓DL.e_rev, ↓DL.e_dic0, ↓DL.e_dic1, ↓DL.e_s0, ↓DL.e_s1, ↓DL.e_ct, ↓DL.e_cf, dstart, slot, gN, ↓asB_bl, ↓asI_int, ↓asS_str, cond_true, cond_false, List.map_cons, List.map_nil, List.length_cons, List.length_nil, List.set_cons_zero, List.set_cons_succ, Option.elim_some, Option.elim_none, List.cons_append, List.nil_append, List.replicate, Nat.sub_self, Nat.reduceSub, Nat.reduceAdd, Bool.not_true, Bool.not_false, setAll, Int.cast_ofNat_Int, Int.reduceLT, Int.reduceLE, Int.reduceBEq, Nat.reduceBEq, decide_true, decide_false, ↓DL.pred_s, ↓DL.len_str, ↓DL.len_tup, ↓DL.len_lst, ↓DL.le_ii, ↓DL.le_ss, ↓DL.cmp_ii, ↓DL.add_ii, ↓DL.add_ib, ↓DL.add_bi, ↓DL.add_ss, ↓DL.add_tt, ↓DL.add_ll, ↓DL.sub_ii, ↓DL.sub_ib, ↓DL.sub_bi, ↓DL.mul_ii, ↓DL.ii_ii, ↓DL.neg_i, ↓DL.is_bb, ↓DL.isn_bb, ↓DL.all_b, ↓DL.all_map, ↓DL.sum_i, ↓DL.eq_ii, ↓DL.eq_bi, ↓DL.eq_t0, ↓DL.eq_l0, ↓DL.ne_ss, ↓DL.ne_ii, ↓DL.ne_t0, ↓DL.ne_l0, ↓DL.ix_tup, ↓DL.ix_lst, ↓DL.ix_str, ↓DL.in_c, ↓DL.nin_c, ↓DL.sl_str, ↓DL.sl_tup, ↓DL.sl_lst, ↓DL.app_1, ↓DL.pop_0, ↓DL.ext_t, ↓DL.tuple_l, ↓DL.list_t, ↓DL.list_l, ↓DL.int_b, ↓DL.int_i, ↓DL.min_ii, ↓DL.str_i, ↓DL.str_b, ↓DL.repr_1, ↓DL.back_t, ↓DL.tru_l, ↓DL.at0, ↓DL.at1, ↓DL.at2, ↓DL.at3]
    refine ⟨by omega, a, c, 3, rfl, by decide, by decide, hD, fun r S7 p7 q7 hD s7 => ?_⟩
    obtain ⟨dd, ed, hdd⟩ := at_mem (xs := ([.int 2, .int 5, .int 11] : List DL.D)) (i := r) p7 q7
    obtain ⟨deep, rfl, dp0, dp1⟩ : ∃ k : Int, dd = .int k ∧ 0 ≤ k ∧ k < 12 := by
      simp only [List.mem_cons, List.not_mem_nil, or_false] at hdd
      rcases hdd with rfl | rfl | rfl
      · exact ⟨_, rfl, by decide, by decide⟩
      · exact ⟨_, rfl, by decide, by decide⟩
      · exact ⟨_, rfl, by decide, by decide⟩
    simp only [↓DL.e_next, ↓DL.e_seq, ↓DL.e_drop, ↓DL.e_ret, ↓DL.e_retN, ↓DL.e_if, ↓DL.e_cont, ↓DL.e_break, ↓DL.e_set, ↓DL.e_asg, ↓DL.e_par, ↓DL.e_setI, ↓DL.e_for, ↓DL.e_var, ↓DL.e_c, ↓DL.e_op, ↓DL.e_un, ↓DL.e_test, ↓DL.e_chain, ↓DL.e_and, ↓DL.e_or, ↓DL.e_not, ↓DL.e_andV, ↓DL.e_orV, ↓DL.e_notV, ↓DL.e_ife, ↓DL.e_nil, ↓DL.e_cons, ↓DL.e_tup, ↓DL.e_lst, ↓DL.e_lstM, ↓DL.e_noPart, ↓DL.e_part, ↓DL.e_sl, ↓DL.e_cb, ↓DL.e_mtL, ↓DL.e_mt0, ↓DL.e_mtS, ↓DL.e_mtS0, ↓DL.e_tru, ↓DL.e_lc, ↓DL.e_itS, ↓DL.e_itStr, ↓DL.e_rng1, ↓DL.e_rev, ↓DL.e_dic0, ↓DL.e_dic1, ↓DL.e_s0, ↓DL.e_s1, ↓DL.e_ct, ↓DL.e_cf, dstart, slot, gN, ↓asB_bl, ↓asI_int, ↓asS_str, cond_true, cond_false, List.map_cons, List.map_nil, List.length_cons, List.length_nil, List.set_cons_zero, List.set_cons_succ, Option.elim_some, Option.elim_none, List.cons_append, List.nil_append, List.replicate, Nat.sub_self, Nat.reduceSub, Nat.reduceAdd, Bool.not_true, Bool.not_false, setAll, Int.cast_ofNat_Int, Int.reduceLT, Int.reduceLE, Int.reduceBEq, Nat.reduceBEq, decide_true, decide_false, ↓DL.pred_s, ↓DL.len_str, ↓DL.len_tup, ↓DL.len_lst, ↓DL.le_ii, ↓DL.le_ss, ↓DL.cmp_ii, ↓DL.add_ii, ↓DL.add_ib, ↓DL.add_bi, ↓DL.add_ss, ↓DL.add_tt, ↓DL.add_ll, ↓DL.sub_ii, ↓DL.sub_ib, ↓DL.sub_bi, ↓DL.mul_ii, ↓DL.ii_ii, ↓DL.neg_i, ↓DL.is_bb, ↓DL.isn_bb, ↓DL.all_b, ↓DL.all_map, ↓DL.sum_i, ↓DL.eq_ii, ↓DL.eq_bi, ↓DL.eq_t0, ↓DL.eq_l0, ↓DL.ne_ss, ↓DL.ne_ii, ↓DL.ne_t0, ↓DL.ne_l0, ↓DL.ix_tup, ↓DL.ix_lst, ↓DL.ix_str, ↓DL.in_c, ↓DL.nin_c, ↓DL.sl_str, ↓DL.sl_tup, ↓DL.sl_lst, ↓DL.app_1, ↓DL.pop_0, ↓DL.ext_t, ↓DL.tuple_l, ↓DL.list_t, ↓DL.list_l, ↓DL.int_b, ↓DL.int_i, ↓DL.min_ii, ↓DL.str_i, ↓DL.str_b, ↓DL.repr_1, ↓DL.back_t, ↓DL.tru_l, ↓DL.at0, ↓DL.at1, ↓DL.at2, ↓DL.at3]
    rw [ed]
    simp only [↓DL.e_next, ↓DL.e_seq, ↓DL.e_drop, ↓DL.e_ret, ↓DL.e_retN, ↓DL.e_if, ↓DL.e_cont, ↓DL.e_break, ↓DL.e_set, ↓DL.e_asg, ↓DL.e_par, ↓DL.e_setI, ↓DL.e_for, ↓DL.e_var, ↓DL.e_c, ↓DL.e_op, ↓DL.e_un, ↓DL.e_test, ↓DL.e_chain, ↓DL.e_and, ↓DL.e_or, ↓DL.e_not, ↓DL.e_andV, ↓DL.e_orV, ↓DL.e_notV, ↓DL.e_ife, ↓DL.e_nil, ↓DL.e_cons, ↓DL.e_tup, ↓DL.e_lst, ↓DL.e_lstM, ↓DL.e_noPart, ↓DL.e_part, ↓DL.e_sl, ↓DL.e_cb, ↓DL.e_mtL, ↓DL.e_mt0, ↓DL.e_mtS, ↓DL.e_mtS0, ↓DL.e_tru, ↓DL.e_lc, ↓DL.e_itS, ↓DL.e_itStr, ↓DL.e_rng1, ↓DL.e_rev, ↓DL.e_dic0, ↓DL.e_dic1, ↓DL.e_s0, ↓DL.e_s1, ↓DL.e_ct, ↓DL.e_cf, dstart, slot, gN, ↓asB_bl, ↓asI_int, ↓asS_str, cond_true, cond_false, List.map_cons, List.map_nil, List.length_cons, List.length_nil, List.set_cons_zero, List.set_cons_succ, Option.elim_some, Option.elim_none, List.cons_append, List.nil_append, List.replicate, Nat.sub_self, Nat.reduceSub, Nat.reduceAdd, Bool.not_true, Bool.not_false, setAll, Int.cast_ofNat_Int, Int.reduceLT, Int.reduceLE, Int.reduceBEq, Nat.reduceBEq, decide_true, decide_false, ↓DL.pred_s, ↓DL.len_str, ↓DL.len_tup, ↓DL.len_lst, ↓DL.le_ii, ↓DL.le_ss, ↓DL.cmp_ii, ↓DL.add_ii, ↓DL.add_ib, ↓DL.add_bi, ↓DL.add_ss, ↓DL.add_tt, ↓DL.add_ll, ↓DL.sub_ii, ↓DL.sub_ib, ↓DL.sub_bi, ↓DL.mul_ii, ↓DL.ii_ii, ↓DL.neg_i, ↓DL.is_bb, ↓DL.isn_bb, ↓DL.all_b, ↓DL.all_map, ↓DL.sum_i, ↓DL.eq_ii, ↓DL.eq_bi, ↓DL.eq_t0, ↓DL.eq_l0, ↓DL.ne_ss, ↓DL.ne_ii, ↓DL.ne_t0, ↓DL.ne_l0, ↓DL.ix_tup, ↓DL.ix_lst, ↓DL.ix_str, ↓DL.in_c, ↓DL.nin_c, ↓DL.sl_str, ↓DL.sl_tup, ↓DL.sl_lst, ↓DL.app_1, ↓DL.pop_0, ↓DL.ext_t, ↓DL.tuple_l, ↓DL.list_t, ↓DL.list_l, ↓DL.int_b, ↓DL.int_i, ↓DL.min_ii, ↓DL.str_i, ↓DL.str_b, ↓DL.repr_1, ↓DL.back_t, ↓DL.tru_l, ↓DL.at0, ↓DL.at1, ↓DL.at2, ↓DL.at3]
    refine ⟨a, c, 80, rfl, by decide, by decide, hD, fun r8 S8 p8 q8 hD s8 => ⟨by omega, fun p np => ?_⟩⟩
    have pa : p ∉ [a, c] := fun q => hD.some p q np
    have hD9 : Dk (sup S8 p (.lst [.int r8])) a c := hD.of fun b hb => sup_ne fun e => pa (by rw [← e]; exact hb)
    refine ⟨a, c, p, deep, r8, rfl, dp0, dp1, hD9, fun e => pa (by simp [e]), fun e => pa (by simp [e]), sup_same, p8, by omega, fun g m' S10 g1 g2 g3 g4 g5 m0 m1 hD _ _ => ?_⟩
    have gz : sz g ≤ 405 := by omega
    have gd : dp g ≤ 23 := by omega
    subst hM
    refine seq_gen fun M hM => ?_
    refine if_gen fun M1 M2 e1 e2 => ?_
    simp only [↓DL.e_next, ↓DL.e_seq, ↓DL.e_drop, ↓DL.e_ret, ↓DL.e_retN, ↓DL.e_if, ↓DL.e_cont, ↓DL.e_break, ↓DL.e_set, ↓DL.e_asg, ↓DL.e_par, ↓DL.e_setI, ↓DL.e_for, ↓DL.e_var, ↓DL.e_c, ↓DL.e_op, ↓DL.e_un, ↓DL.e_test, ↓DL.e_chain, ↓DL.e_and, ↓DL.e_or, ↓DL.e_not, ↓DL.e_andV, ↓DL.e_orV, ↓DL.e_notV, ↓DL.e_ife, ↓DL.e_nil, ↓DL.e_cons, ↓DL.e_tup, ↓DL.e_lst, ↓DL.e_lstM, ↓DL.e_noPart, ↓DL.e_part, ↓DL.e_sl, ↓DL.e_cb, ↓DL.e_mtL, ↓DL.e_mt0, ↓DL.e_mtS, ↓DL.e_mtS0, ↓DL.e_tru, ↓DL.e_lc, ↓DL.e_itS, ↓DL.e_itStr, ↓DL.e_rng1, ↓DL.e_rev, ↓DL.e_dic0, ↓DL.e_dic1, ↓DL.e_s0, ↓DL.e_s1, ↓DL.e_ct, ↓DL.e_cf, dstart, slot, gN, ↓asB_bl, ↓asI_int, ↓asS_str, cond_true, cond_false, List.map_cons, List.map_nil, List.length_cons, List.length_nil, List.set_cons_zero, List.set_cons_succ, Option.elim_some, Option.elim_none, List.cons_append, List.nil_append, List.replicate, Nat.sub_self, Nat.reduceSub, Nat.reduceAdd, Bool.not_true, Bool.not_false, setAll, Int.cast_ofNat_Int, Int.reduceLT, Int.reduceLE, Int.reduceBEq, Nat.reduceBEq, decide_true, decide_false, ↓DL.pred_s, ↓DL.len_str, ↓DL.len_tup, ↓DL.len_lst, ↓DL.le_ii, ↓DL.le_ss, ↓DL.cmp_ii, ↓DL.add_ii, ↓DL.add_ib, ↓DL.add_bi, ↓DL.add_ss, ↓DL.add_tt, ↓DL.add_ll, ↓DL.sub_ii, ↓DL.sub_ib, ↓DL.sub_bi, ↓DL.mul_ii, ↓DL.ii_ii, ↓DL.neg_i, ↓DL.is_bb, ↓DL.isn_bb, ↓DL.all_b, ↓DL.all_map, ↓DL.sum_i, ↓DL.eq_ii, ↓DL.eq_bi, ↓DL.eq_t0, ↓DL.eq_l0, ↓DL.ne_ss, ↓DL.ne_ii, ↓DL.ne_t0, ↓DL.ne_l0, ↓DL.ix_tup, ↓DL.ix_lst, ↓DL.ix_str, ↓DL.in_c, ↓DL.nin_c, ↓DL.sl_str, ↓DL.sl_tup, ↓DL.sl_lst, ↓DL.app_1, ↓DL.pop_0, ↓DL.ext_t, ↓DL.tuple_l, ↓DL.list_t, ↓DL.list_l, ↓DL.int_b, ↓DL.int_i, ↓DL.min_ii, ↓DL.str_i, ↓DL.str_b, ↓DL.repr_1, ↓DL.back_t, ↓DL.tru_l, ↓DL.at0, ↓DL.at1, ↓DL.at2, ↓DL.at3]
    refine ⟨g, rfl, ⟨good_mono (by omega) g1, by omega⟩, fun S11 s11 => ?_⟩
    rw [g2]
    simp only [↓DL.e_next, ↓DL.e_seq, ↓DL.e_drop, ↓DL.e_ret, ↓DL.e_retN, ↓DL.e_if, ↓DL.e_cont, ↓DL.e_break, ↓DL.e_set, ↓DL.e_asg, ↓DL.e_par, ↓DL.e_setI, ↓DL.e_for, ↓DL.e_var, ↓DL.e_c, ↓DL.e_op, ↓DL.e_un, ↓DL.e_test, ↓DL.e_chain, ↓DL.e_and, ↓DL.e_or, ↓DL.e_not, ↓DL.e_andV, ↓DL.e_orV, ↓DL.e_notV, ↓DL.e_ife, ↓DL.e_nil, ↓DL.e_cons, ↓DL.e_tup, ↓DL.e_lst, ↓DL.e_lstM, ↓DL.e_noPart, ↓DL.e_part, ↓DL.e_sl, ↓DL.e_cb, ↓DL.e_mtL, ↓DL.e_mt0, ↓DL.e_mtS, ↓DL.e_mtS0, ↓DL.e_tru, ↓DL.e_lc, ↓DL.e_itS, ↓DL.e_itStr, ↓DL.e_rng1, ↓DL.e_rev, ↓DL.e_dic0, ↓DL.e_dic1, ↓DL.e_s0, ↓DL.e_s1, ↓DL.e_ct, ↓DL.e_cf, dstart, slot, gN, ↓asB_bl, ↓asI_int, ↓asS_str, cond_true, cond_false, List.map_cons, List.map_nil, List.length_cons, List.length_nil, List.set_cons_zero, List.set_cons_succ, Option.elim_some, Option.elim_none, List.cons_append, List.nil_append, List.replicate, Nat.sub_self, Nat.reduceSub, Nat.reduceAdd, Bool.not_true, Bool.not_false, setAll, Int.cast_ofNat_Int, Int.reduceLT, Int.reduceLE, Int.reduceBEq, Nat.reduceBEq, decide_true, decide_false, ↓DL.pred_s, ↓DL.len_str, ↓DL.len_tup, ↓DL.len_lst, ↓DL.le_ii, ↓DL.le_ss, ↓DL.cmp_ii, ↓DL.add_ii, ↓DL.add_ib, ↓DL.add_bi, ↓DL.add_ss, ↓DL.add_tt, ↓DL.add_ll, ↓DL.sub_ii, ↓DL.sub_ib, ↓DL.sub_bi, ↓DL.mul_ii, ↓DL.ii_ii, ↓DL.neg_i, ↓DL.is_bb, ↓DL.isn_bb, ↓DL.all_b, ↓DL.all_map, ↓DL.sum_i, ↓DL.eq_ii, ↓DL.eq_bi, ↓DL.eq_t0, ↓DL.eq_l0, ↓DL.ne_ss, ↓DL.ne_ii, ↓DL.ne_t0, ↓DL.ne_l0, ↓DL.ix_tup, ↓DL.ix_lst, ↓DL.ix_str, ↓DL.in_c, ↓DL.nin_c, ↓DL.sl_str, ↓DL.sl_tup, ↓DL.sl_lst, ↓DL.app_1, ↓DL.pop_0, ↓DL.ext_t, ↓DL.tuple_l, ↓DL.list_t, ↓DL.list_l, ↓DL.int_b, ↓DL.int_i, ↓DL.min_ii, ↓DL.str_i, ↓DL.str_b, ↓DL.repr_1, ↓DL.back_t, ↓DL.tru_l, ↓DL.at0, ↓DL.at1, ↓DL.at2, ↓DL.at3]
    refine ⟨g, rfl, ⟨good_mono (by omega) g1, by omega, by omega⟩, fun S12 s12 => ?_⟩
    simp only [↓DL.e_next, ↓DL.e_seq, ↓DL.e_drop, ↓DL.e_ret, ↓DL.e_retN, ↓DL.e_if, ↓DL.e_cont, ↓DL.e_break, ↓DL.e_set, ↓DL.e_asg, ↓DL.e_par, ↓DL.e_setI, ↓DL.e_for, ↓DL.e_var, ↓DL.e_c, ↓DL.e_op, ↓DL.e_un, ↓DL.e_test, ↓DL.e_chain, ↓DL.e_and, ↓DL.e_or, ↓DL.e_not, ↓DL.e_andV, ↓DL.e_orV, ↓DL.e_notV, ↓DL.e_ife, ↓DL.e_nil, ↓DL.e_cons, ↓DL.e_tup, ↓DL.e_lst, ↓DL.e_lstM, ↓DL.e_noPart, ↓DL.e_part, ↓DL.e_sl, ↓DL.e_cb, ↓DL.e_mtL, ↓DL.e_mt0, ↓DL.e_mtS, ↓DL.e_mtS0, ↓DL.e_tru, ↓DL.e_lc, ↓DL.e_itS, ↓DL.e_itStr, ↓DL.e_rng1, ↓DL.e_rev, ↓DL.e_dic0, ↓DL.e_dic1, ↓DL.e_s0, ↓DL.e_s1, ↓DL.e_ct, ↓DL.e_cf, dstart, slot, gN, ↓asB_bl, ↓asI_int, ↓asS_str, cond_true, cond_false, List.map_cons, List.map_nil, List.length_cons, List.length_nil, List.set_cons_zero, List.set_cons_succ, Option.elim_some, Option.elim_none, List.cons_append, List.nil_append, List.replicate, Nat.sub_self, Nat.reduceSub, Nat.reduceAdd, Bool.not_true, Bool.not_false, setAll, Int.cast_ofNat_Int, Int.reduceLT, Int.reduceLE, Int.reduceBEq, Nat.reduceBEq, decide_true, decide_false, ↓DL.pred_s, ↓DL.len_str, ↓DL.len_tup, ↓DL.len_lst, ↓DL.le_ii, ↓DL.le_ss, ↓DL.cmp_ii, ↓DL.add_ii, ↓DL.add_ib, ↓DL.add_bi, ↓DL.add_ss, ↓DL.add_tt, ↓DL.add_ll, ↓DL.sub_ii, ↓DL.sub_ib, ↓DL.sub_bi, ↓DL.mul_ii, ↓DL.ii_ii, ↓DL.neg_i, ↓DL.is_bb, ↓DL.isn_bb, ↓DL.all_b, ↓DL.all_map, ↓DL.sum_i, ↓DL.eq_ii, ↓DL.eq_bi, ↓DL.eq_t0, ↓DL.eq_l0, ↓DL.ne_ss, ↓DL.ne_ii, ↓DL.ne_t0, ↓DL.ne_l0, ↓DL.ix_tup, ↓DL.ix_lst, ↓DL.ix_str, ↓DL.in_c, ↓DL.nin_c, ↓DL.sl_str, ↓DL.sl_tup, ↓DL.sl_lst, ↓DL.app_1, ↓DL.pop_0, ↓DL.ext_t, ↓DL.tuple_l, ↓DL.list_t, ↓DL.list_l, ↓DL.int_b, ↓DL.int_i, ↓DL.min_ii, ↓DL.str_i, ↓DL.str_b, ↓DL.repr_1, ↓DL.back_t, ↓DL.tru_l, ↓DL.at0, ↓DL.at1, ↓DL.at2, ↓DL.at3]
    have hD : Dk S12 a c := hD.step (s11.trans s12) (by simp) (by simp)
    clear e1
    subst e2
    subst hM
    simp only [↓DL.e_cf, ↓DL.e_next]
    refine seq_gen fun M hM => ?_
    simp only [↓DL.e_next, ↓DL.e_seq, ↓DL.e_drop, ↓DL.e_ret, ↓DL.e_retN, ↓DL.e_if, ↓DL.e_cont, ↓DL.e_break, ↓DL.e_set, ↓DL.e_asg, ↓DL.e_par, ↓DL.e_setI, ↓DL.e_for, ↓DL.e_var, ↓DL.e_c, ↓DL.e_op, ↓DL.e_un, ↓DL.e_test, ↓DL.e_chain, ↓DL.e_and, ↓DL.e_or, ↓DL.e_not, ↓DL.e_andV, ↓DL.e_orV, ↓DL.e_notV, ↓DL.e_ife, ↓DL.e_nil, ↓DL.e_cons, ↓DL.e_tup, ↓DL.e_lst, ↓DL.e_lstM, ↓DL.e_noPart, ↓DL.e_part, ↓DL.e_sl, ↓DL.e_cb, ↓DL.e_mtL, ↓DL.e_mt0, ↓DL.e_mtS, ↓DL.e_mtS0, ↓DL.e_tru, ↓DL.e_lc, ↓DL.e_itS, ↓DL.e_itStr, ↓DL.e_rng1, ↓DL.e_rev, ↓DL.e_dic0, ↓DL.e_dic1, ↓DL.e_s0, ↓DL.e_s1, ↓DL.e_ct, ↓DL.e_cf, dstart, slot, gN, ↓asB_bl, ↓asI_int, ↓asS_str, cond_true, cond_false, List.map_cons, List.map_nil, List.length_cons, List.length_nil, List.set_cons_zero, List.set_cons_succ, Option.elim_some, Option.elim_none, List.cons_append, List.nil_append, List.replicate, Nat.sub_self, Nat.reduceSub, Nat.reduceAdd, Bool.not_true, Bool.not_false, setAll, Int.cast_ofNat_Int, Int.reduceLT, Int.reduceLE, Int.reduceBEq, Nat.reduceBEq, decide_true, decide_false, ↓DL.pred_s, ↓DL.len_str, ↓DL.len_tup, ↓DL.len_lst, ↓DL.le_ii, ↓DL.le_ss, ↓DL.cmp_ii, ↓DL.add_ii, ↓DL.add_ib, ↓DL.add_bi, ↓DL.add_ss, ↓DL.add_tt, ↓DL.add_ll, ↓DL.sub_ii, ↓DL.sub_ib, ↓DL.sub_bi, ↓DL.mul_ii, ↓DL.ii_ii, ↓DL.neg_i, ↓DL.is_bb, ↓DL.isn_bb, ↓DL.all_b, ↓DL.all_map, ↓DL.sum_i, ↓DL.eq_ii, ↓DL.eq_bi, ↓DL.eq_t0, ↓DL.eq_l0, ↓DL.ne_ss, ↓DL.ne_ii, ↓DL.ne_t0, ↓DL.ne_l0, ↓DL.ix_tup, ↓DL.ix_lst, ↓DL.ix_str, ↓DL.in_c, ↓DL.nin_c, ↓DL.sl_str, ↓DL.sl_tup, ↓DL.sl_lst, ↓DL.app_1, ↓DL.pop_0, ↓DL.ext_t, ↓DL.tuple_l, ↓DL.list_t, ↓DL.list_l, ↓DL.int_b, ↓DL.int_i, ↓DL.min_ii, ↓DL.str_i, ↓DL.str_b, ↓DL.repr_1, ↓DL.back_t, ↓DL.tru_l, ↓DL.at0, ↓DL.at1, ↓DL.at2, ↓DL.at3]
    refine ⟨⟨by decide, by decide⟩, ?_⟩
    refine ⟨fun j δ' S' => ∃ x5 x6, δ' = [some (.lst (ns.map .int)), some (.ref a), some (.lst ys), some (.int r3), some g, x5, x6, none, none, none, none, none] ∧ Dk S' a c, ⟨x5, x6, rfl, hD⟩, fun i d5 δ' S13 hd' ⟨x5, x6, e, hD⟩ => ?_, fun δ' S13 ⟨x5, x6, e, hD⟩ => ?_⟩
    · clear hM
      subst e
      show dSeq _ _ _ _ _
      refine seq_gen fun M hM => ?_
      simp only [↓DL.e_next, ↓DL.e_seq, ↓DL.e_drop, ↓DL.e_ret, ↓DL.e_retN, ↓DL.e_if, ↓DL.e_cont, ↓DL.e_break, ↓DL.e_set, ↓DL.e_asg, ↓DL.e_par, ↓DL.e_setI, ↓DL.e_for, ↓DL.e_var, ↓DL.e_c, ↓DL.e_op, ↓DL.e_un, ↓DL.e_test, ↓DL.e_chain, ↓DL.e_and, ↓DL.e_or, ↓DL.e_not, ↓DL.e_andV, ↓DL.e_orV, ↓DL.e_notV, ↓DL.e_ife, ↓DL.e_nil, ↓DL.e_cons, ↓DL.e_tup, ↓DL.e_lst, ↓DL.e_lstM, ↓DL.e_noPart, ↓DL.e_part, ↓DL.e_sl, ↓DL.e_cb, ↓DL.e_mtL, ↓DL.e_mt0, ↓DL.e_mtS, ↓DL.e_mtS0, ↓DL.e_tru, ↓DL.e_lc, ↓DL.e_itS, ↓DL.e_itStr, ↓DL.e_rng1, ↓DL.e_rev, ↓DL.e_dic0, ↓DL.e_dic1, ↓DL.e_s0, ↓DL.e_s1, ↓DL.e_ct, ↓DL.e_cf, dstart, slot, gN, ↓asB_bl, ↓asI_int, ↓asS_str, cond_true, cond_false, List.map_cons, List.map_nil, List.length_cons, List.length_nil, List.set_cons_zero, List.set_cons_succ, Option.elim_some, Option.elim_none, List.cons_append, List.nil_append, List.replicate, Nat.sub_self, Nat.reduceSub, Nat.reduceAdd, Bool.not_true, Bool.not_false, setAll, Int.cast_ofNat_Int, Int.reduceLT, Int.reduceLE, Int.reduceBEq, Nat.reduceBEq, decide_true, decide_false, ↓DL.pred_s, ↓DL.len_str, ↓DL.len_tup, ↓DL.len_lst, ↓DL.le_ii, ↓DL.le_ss, ↓DL.cmp_ii, ↓DL.add_ii, ↓DL.add_ib, ↓DL.add_bi, ↓DL.add_ss, ↓DL.add_tt, ↓DL.add_ll, ↓DL.sub_ii, ↓DL.sub_ib, ↓DL.sub_bi, ↓DL.mul_ii, ↓DL.ii_ii, ↓DL.neg_i, ↓DL.is_bb, ↓DL.isn_bb, ↓DL.all_b, ↓DL.all_map, ↓DL.sum_i, ↓DL.eq_ii, ↓DL.eq_bi, ↓DL.eq_t0, ↓DL.eq_l0, ↓DL.ne_ss, ↓DL.ne_ii, ↓DL.ne_t0, ↓DL.ne_l0, ↓DL.ix_tup, ↓DL.ix_lst, ↓DL.ix_str, ↓DL.in_c, ↓DL.nin_c, ↓DL.sl_str, ↓DL.sl_tup, ↓DL.sl_lst, ↓DL.app_1, ↓DL.pop_0, ↓DL.ext_t, ↓DL.tuple_l, ↓DL.list_t, ↓DL.list_l, ↓DL.int_b, ↓DL.int_i, ↓DL.min_ii, ↓DL.str_i, ↓DL.str_b, ↓DL.repr_1, ↓DL.back_t, ↓DL.tru_l, ↓DL.at0, ↓DL.at1, ↓DL.at2, ↓DL.at3]
      refine ⟨a, c, g, 0, rfl, hD, by omega, g1, by omega, by omega, fun y S14 ⟨n1, n2, n3⟩ hD s14 => ?_⟩
      subst hM
      refine seq_gen fun M hM => ?_
      have fin : ∀ (z : D) (S : Sto), spR z → Dk S a c → M [some (.lst (ns.map .int)), some (.ref a), some (.lst ys), some (.int r3), some g, some d5, some z, none, none, none, none, none] S := by
        intro z S hz hD
        subst hM
        refine if_gen fun M1 M2 e1 e2 => ?_
        simp only [↓DL.e_next, ↓DL.e_seq, ↓DL.e_drop, ↓DL.e_ret, ↓DL.e_retN, ↓DL.e_if, ↓DL.e_cont, ↓DL.e_break, ↓DL.e_set, ↓DL.e_asg, ↓DL.e_par, ↓DL.e_setI, ↓DL.e_for, ↓DL.e_var, ↓DL.e_c, ↓DL.e_op, ↓DL.e_un, ↓DL.e_test, ↓DL.e_chain, ↓DL.e_and, ↓DL.e_or, ↓DL.e_not, ↓DL.e_andV, ↓DL.e_orV, ↓DL.e_notV, ↓DL.e_ife, ↓DL.e_nil, ↓DL.e_cons, ↓DL.e_tup, ↓DL.e_lst, ↓DL.e_lstM, ↓DL.e_noPart, ↓DL.e_part, ↓DL.e_sl, ↓DL.e_cb, ↓DL.e_mtL, ↓DL.e_mt0, ↓DL.e_mtS, ↓DL.e_mtS0, ↓DL.e_tru, ↓DL.e_lc, ↓DL.e_itS, ↓DL.e_itStr, ↓DL.e_rng1, ↓DL.e_rev, ↓DL.e_dic0, ↓DL.e_dic1, ↓DL.e_s0, ↓DL.e_s1, ↓DL.e_ct, ↓DL.e_cf, dstart, slot, gN, ↓asB_bl, ↓asI_int, ↓asS_str, cond_true, cond_false, List.map_cons, List.map_nil, List.length_cons, List.length_nil, List.set_cons_zero, List.set_cons_succ, Option.elim_some, Option.elim_none, List.cons_append, List.nil_append, List.replicate, Nat.sub_self, Nat.reduceSub, Nat.reduceAdd, Bool.not_true, Bool.not_false, setAll, Int.cast_ofNat_Int, Int.reduceLT, Int.reduceLE, Int.reduceBEq, Nat.reduceBEq, decide_true, decide_false, ↓DL.pred_s, ↓DL.len_str, ↓DL.len_tup, ↓DL.len_lst, ↓DL.le_ii, ↓DL.le_ss, ↓DL.cmp_ii, ↓DL.add_ii, ↓DL.add_ib, ↓DL.add_bi, ↓DL.add_ss, ↓DL.add_tt, ↓DL.add_ll, ↓DL.sub_ii, ↓DL.sub_ib, ↓DL.sub_bi, ↓DL.mul_ii, ↓DL.ii_ii, ↓DL.neg_i, ↓DL.is_bb, ↓DL.isn_bb, ↓DL.all_b, ↓DL.all_map, ↓DL.sum_i, ↓DL.eq_ii, ↓DL.eq_bi, ↓DL.eq_t0, ↓DL.eq_l0, ↓DL.ne_ss, ↓DL.ne_ii, ↓DL.ne_t0, ↓DL.ne_l0, ↓DL.ix_tup, ↓DL.ix_lst, ↓DL.ix_str, ↓DL.in_c, ↓DL.nin_c, ↓DL.sl_str, ↓DL.sl_tup, ↓DL.sl_lst, ↓DL.app_1, ↓DL.pop_0, ↓DL.ext_t, ↓DL.tuple_l, ↓DL.list_t, ↓DL.list_l, ↓DL.int_b, ↓DL.int_i, ↓DL.min_ii, ↓DL.str_i, ↓DL.str_b, ↓DL.repr_1, ↓DL.back_t, ↓DL.tru_l, ↓DL.at0, ↓DL.at1, ↓DL.at2, ↓DL.at3]
        refine ⟨z, rfl, hz, fun S15 s15 => ?_⟩
        simp only [↓DL.e_next, ↓DL.e_seq, ↓DL.e_drop, ↓DL.e_ret, ↓DL.e_retN, ↓DL.e_if, ↓DL.e_cont, ↓DL.e_break, ↓DL.e_set, ↓DL.e_asg, ↓DL.e_par, ↓DL.e_setI, ↓DL.e_for, ↓DL.e_var, ↓DL.e_c, ↓DL.e_op, ↓DL.e_un, ↓DL.e_test, ↓DL.e_chain, ↓DL.e_and, ↓DL.e_or, ↓DL.e_not, ↓DL.e_andV, ↓DL.e_orV, ↓DL.e_notV, ↓DL.e_ife, ↓DL.e_nil, ↓DL.e_cons, ↓DL.e_tup, ↓DL.e_lst, ↓DL.e_lstM, ↓DL.e_noPart, ↓DL.e_part, ↓DL.e_sl, ↓DL.e_cb, ↓DL.e_mtL, ↓DL.e_mt0, ↓DL.e_mtS, ↓DL.e_mtS0, ↓DL.e_tru, ↓DL.e_lc, ↓DL.e_itS, ↓DL.e_itStr, ↓DL.e_rng1, ↓DL.e_rev, ↓DL.e_dic0, ↓DL.e_dic1, ↓DL.e_s0, ↓DL.e_s1, ↓DL.e_ct, ↓DL.e_cf, dstart, slot, gN, ↓asB_bl, ↓asI_int, ↓asS_str, cond_true, cond_false, List.map_cons, List.map_nil, List.length_cons, List.length_nil, List.set_cons_zero, List.set_cons_succ, Option.elim_some, Option.elim_none, List.cons_append, List.nil_append, List.replicate, Nat.sub_self, Nat.reduceSub, Nat.reduceAdd, Bool.not_true, Bool.not_false, setAll, Int.cast_ofNat_Int, Int.reduceLT, Int.reduceLE, Int.reduceBEq, Nat.reduceBEq, decide_true, decide_false, ↓DL.pred_s, ↓DL.len_str, ↓DL.len_tup, ↓DL.len_lst, ↓DL.le_ii, ↓DL.le_ss, ↓DL.cmp_ii, ↓DL.add_ii, ↓DL.add_ib, ↓DL.add_bi, ↓DL.add_ss, ↓DL.add_tt, ↓DL.add_ll, ↓DL.sub_ii, ↓DL.sub_ib, ↓DL.sub_bi, ↓DL.mul_ii, ↓DL.ii_ii, ↓DL.neg_i, ↓DL.is_bb, ↓DL.isn_bb, ↓DL.all_b, ↓DL.all_map, ↓DL.sum_i, ↓DL.eq_ii, ↓DL.eq_bi, ↓DL.eq_t0, ↓DL.eq_l0, ↓DL.ne_ss, ↓DL.ne_ii, ↓DL.ne_t0, ↓DL.ne_l0, ↓DL.ix_tup, ↓DL.ix_lst, ↓DL.ix_str, ↓DL.in_c, ↓DL.nin_c, ↓DL.sl_str, ↓DL.sl_tup, ↓DL.sl_lst, ↓DL.app_1, ↓DL.pop_0, ↓DL.ext_t, ↓DL.tuple_l, ↓DL.list_t, ↓DL.list_l, ↓DL.int_b, ↓DL.int_i, ↓DL.min_ii, ↓DL.str_i, ↓DL.str_b, ↓DL.repr_1, ↓DL.back_t, ↓DL.tru_l, ↓DL.at0, ↓DL.at1, ↓DL.at2, ↓DL.at3]
        subst e2
        exact ⟨_, _, rfl, hD.step s15 (by simp) (by simp)⟩
      refine if_gen fun M1 M2 e1 e2 => ?_
      simp only [↓DL.e_next, ↓DL.e_seq, ↓DL.e_drop, ↓DL.e_ret, ↓DL.e_retN, ↓DL.e_if, ↓DL.e_cont, ↓DL.e_break, ↓DL.e_set, ↓DL.e_asg, ↓DL.e_par, ↓DL.e_setI, ↓DL.e_for, ↓DL.e_var, ↓DL.e_c, ↓DL.e_op, ↓DL.e_un, ↓DL.e_test, ↓DL.e_chain, ↓DL.e_and, ↓DL.e_or, ↓DL.e_not, ↓DL.e_andV, ↓DL.e_orV, ↓DL.e_notV, ↓DL.e_ife, ↓DL.e_nil, ↓DL.e_cons, ↓DL.e_tup, ↓DL.e_lst, ↓DL.e_lstM, ↓DL.e_noPart, ↓DL.e_part, ↓DL.e_sl, ↓DL.e_cb, ↓DL.e_mtL, ↓DL.e_mt0, ↓DL.e_mtS, ↓DL.e_mtS0, ↓DL.e_tru, ↓DL.e_lc, ↓DL.e_itS, ↓DL.e_itStr, ↓DL.e_rng1, ↓DL.e_rev, ↓DL.e_dic0, ↓DL.e_dic1, ↓DL.e_s0, ↓DL.e_s1, ↓DL.e_ct, ↓DL.e_cf, dstart, slot, gN, ↓asB_bl, ↓asI_int, ↓asS_str, cond_true, cond_false, List.map_cons, List.map_nil, List.length_cons, List.length_nil, List.set_cons_zero, List.set_cons_succ, Option.elim_some, Option.elim_none, List.cons_append, List.nil_append, List.replicate, Nat.sub_self, Nat.reduceSub, Nat.reduceAdd, Bool.not_true, Bool.not_false, setAll, Int.cast_ofNat_Int, Int.reduceLT, Int.reduceLE, Int.reduceBEq, Nat.reduceBEq, decide_true, decide_false, ↓DL.pred_s, ↓DL.len_str, ↓DL.len_tup, ↓DL.len_lst, ↓DL.le_ii, ↓DL.le_ss, ↓DL.cmp_ii, ↓DL.add_ii, ↓DL.add_ib, ↓DL.add_bi, ↓DL.add_ss, ↓DL.add_tt, ↓DL.add_ll, ↓DL.sub_ii, ↓DL.sub_ib, ↓DL.sub_bi, ↓DL.mul_ii, ↓DL.ii_ii, ↓DL.neg_i, ↓DL.is_bb, ↓DL.isn_bb, ↓DL.all_b, ↓DL.all_map, ↓DL.sum_i, ↓DL.eq_ii, ↓DL.eq_bi, ↓DL.eq_t0, ↓DL.eq_l0, ↓DL.ne_ss, ↓DL.ne_ii, ↓DL.ne_t0, ↓DL.ne_l0, ↓DL.ix_tup, ↓DL.ix_lst, ↓DL.ix_str, ↓DL.in_c, ↓DL.nin_c, ↓DL.sl_str, ↓DL.sl_tup, ↓DL.sl_lst, ↓DL.app_1, ↓DL.pop_0, ↓DL.ext_t, ↓DL.tuple_l, ↓DL.list_t, ↓DL.list_l, ↓DL.int_b, ↓DL.int_i, ↓DL.min_ii, ↓DL.str_i, ↓DL.str_b, ↓DL.repr_1, ↓DL.back_t, ↓DL.tru_l, ↓DL.at0, ↓DL.at1, ↓DL.at2, ↓DL.at3]
      cases r3 == 1 with
      | true =>
        simp only [↓DL.e_next, ↓DL.e_seq, ↓DL.e_drop, ↓DL.e_ret, ↓DL.e_retN, ↓DL.e_if, ↓DL.e_cont, ↓DL.e_break, ↓DL.e_set, ↓DL.e_asg, ↓DL.e_par, ↓DL.e_setI, ↓DL.e_for, ↓DL.e_var, ↓DL.e_c, ↓DL.e_op, ↓DL.e_un, ↓DL.e_test, ↓DL.e_chain, ↓DL.e_and, ↓DL.e_or, ↓DL.e_not, ↓DL.e_andV, ↓DL.e_orV, ↓DL.e_notV, ↓DL.e_ife, ↓DL.e_nil, ↓DL.e_cons, ↓DL.e_tup, ↓DL.e_lst, ↓DL.e_lstM, ↓DL.e_noPart, ↓DL.e_part, ↓DL.e_sl, ↓DL.e_cb, ↓DL.e_mtL, ↓DL.e_mt0, ↓DL.e_mtS, ↓DL.e_mtS0, ↓DL.e_tru, ↓DL.e_lc, ↓DL.e_itS, ↓DL.e_itStr, ↓DL.e_rng1, ↓DL.e_rev, ↓DL.e_dic0, ↓DL.e_dic1, ↓DL.e_s0, ↓DL.e_s1, ↓DL.e_ct, ↓DL.e_cf, dstart, slot, gN, ↓asB_bl, ↓asI_int, ↓asS_str, cond_true, cond_false, List.map_cons, List.map_nil, List.length_cons, List.length_nil, List.set_cons_zero, List.set_cons_succ, Option.elim_some, Option.elim_none, List.cons_append, List.nil_append, List.replicate, Nat.sub_self, Nat.reduceSub, Nat.reduceAdd, Bool.not_true, Bool.not_false, setAll, Int.cast_ofNat_Int, Int.reduceLT, Int.reduceLE, Int.reduceBEq, Nat.reduceBEq, decide_true, decide_false, ↓DL.pred_s, ↓DL.len_str, ↓DL.len_tup, ↓DL.len_lst, ↓DL.le_ii, ↓DL.le_ss, ↓DL.cmp_ii, ↓DL.add_ii, ↓DL.add_ib, ↓DL.add_bi, ↓DL.add_ss, ↓DL.add_tt, ↓DL.add_ll, ↓DL.sub_ii, ↓DL.sub_ib, ↓DL.sub_bi, ↓DL.mul_ii, ↓DL.ii_ii, ↓DL.neg_i, ↓DL.is_bb, ↓DL.isn_bb, ↓DL.all_b, ↓DL.all_map, ↓DL.sum_i, ↓DL.eq_ii, ↓DL.eq_bi, ↓DL.eq_t0, ↓DL.eq_l0, ↓DL.ne_ss, ↓DL.ne_ii, ↓DL.ne_t0, ↓DL.ne_l0, ↓DL.ix_tup, ↓DL.ix_lst, ↓DL.ix_str, ↓DL.in_c, ↓DL.nin_c, ↓DL.sl_str, ↓DL.sl_tup, ↓DL.sl_lst, ↓DL.app_1, ↓DL.pop_0, ↓DL.ext_t, ↓DL.tuple_l, ↓DL.list_t, ↓DL.list_l, ↓DL.int_b, ↓DL.int_i, ↓DL.min_ii, ↓DL.str_i, ↓DL.str_b, ↓DL.repr_1, ↓DL.back_t, ↓DL.tru_l, ↓DL.at0, ↓DL.at1, ↓DL.at2, ↓DL.at3]
        subst e1
        simp only [↓DL.e_next, ↓DL.e_seq, ↓DL.e_drop, ↓DL.e_ret, ↓DL.e_retN, ↓DL.e_if, ↓DL.e_cont, ↓DL.e_break, ↓DL.e_set, ↓DL.e_asg, ↓DL.e_par, ↓DL.e_setI, ↓DL.e_for, ↓DL.e_var, ↓DL.e_c, ↓DL.e_op, ↓DL.e_un, ↓DL.e_test, ↓DL.e_chain, ↓DL.e_and, ↓DL.e_or, ↓DL.e_not, ↓DL.e_andV, ↓DL.e_orV, ↓DL.e_notV, ↓DL.e_ife, ↓DL.e_nil, ↓DL.e_cons, ↓DL.e_tup, ↓DL.e_lst, ↓DL.e_lstM, ↓DL.e_noPart, ↓DL.e_part, ↓DL.e_sl, ↓DL.e_cb, ↓DL.e_mtL, ↓DL.e_mt0, ↓DL.e_mtS, ↓DL.e_mtS0, ↓DL.e_tru, ↓DL.e_lc, ↓DL.e_itS, ↓DL.e_itStr, ↓DL.e_rng1, ↓DL.e_rev, ↓DL.e_dic0, ↓DL.e_dic1, ↓DL.e_s0, ↓DL.e_s1, ↓DL.e_ct, ↓DL.e_cf, dstart, slot, gN, ↓asB_bl, ↓asI_int, ↓asS_str, cond_true, cond_false, List.map_cons, List.map_nil, List.length_cons, List.length_nil, List.set_cons_zero, List.set_cons_succ, Option.elim_some, Option.elim_none, List.cons_append, List.nil_append, List.replicate, Nat.sub_self, Nat.reduceSub, Nat.reduceAdd, Bool.not_true, Bool.not_false, setAll, Int.cast_ofNat_Int, Int.reduceLT, Int.reduceLE, Int.reduceBEq, Nat.reduceBEq, decide_true, decide_false, ↓DL.pred_s, ↓DL.len_str, ↓DL.len_tup, ↓DL.len_lst, ↓DL.le_ii, ↓DL.le_ss, ↓DL.cmp_ii, ↓DL.add_ii, ↓DL.add_ib, ↓DL.add_bi, ↓DL.add_ss, ↓DL.add_tt, ↓DL.add_ll, ↓DL.sub_ii, ↓DL.sub_ib, ↓DL.sub_bi, ↓DL.mul_ii, ↓DL.ii_ii, ↓DL.neg_i, ↓DL.is_bb, ↓DL.isn_bb, ↓DL.all_b, ↓DL.all_map, ↓DL.sum_i, ↓DL.eq_ii, ↓DL.eq_bi, ↓DL.eq_t0, ↓DL.eq_l0, ↓DL.ne_ss, ↓DL.ne_ii, ↓DL.ne_t0, ↓DL.ne_l0, ↓DL.ix_tup, ↓DL.ix_lst, ↓DL.ix_str, ↓DL.in_c, ↓DL.nin_c, ↓DL.sl_str, ↓DL.sl_tup, ↓DL.sl_lst, ↓DL.app_1, ↓DL.pop_0, ↓DL.ext_t, ↓DL.tuple_l, ↓DL.list_t, ↓DL.list_l, ↓DL.int_b, ↓DL.int_i, ↓DL.min_ii, ↓DL.str_i, ↓DL.str_b, ↓DL.repr_1, ↓DL.back_t, ↓DL.tru_l, ↓DL.at0, ↓DL.at1, ↓DL.at2, ↓DL.at3]
        refine ⟨a, c, y, 1, rfl, hD, by omega, n1, by omega, by omega, fun y2 S15 ⟨q1, q2, q3⟩ hD s15 => ?_⟩
        exact fin y2 S15 ⟨good_mono (by omega) q1, by omega, by omega⟩ hD
      | false =>
        simp only [↓DL.e_next, ↓DL.e_seq, ↓DL.e_drop, ↓DL.e_ret, ↓DL.e_retN, ↓DL.e_if, ↓DL.e_cont, ↓DL.e_break, ↓DL.e_set, ↓DL.e_asg, ↓DL.e_par, ↓DL.e_setI, ↓DL.e_for, ↓DL.e_var, ↓DL.e_c, ↓DL.e_op, ↓DL.e_un, ↓DL.e_test, ↓DL.e_chain, ↓DL.e_and, ↓DL.e_or, ↓DL.e_not, ↓DL.e_andV, ↓DL.e_orV, ↓DL.e_notV, ↓DL.e_ife, ↓DL.e_nil, ↓DL.e_cons, ↓DL.e_tup, ↓DL.e_lst, ↓DL.e_lstM, ↓DL.e_noPart, ↓DL.e_part, ↓DL.e_sl, ↓DL.e_cb, ↓DL.e_mtL, ↓DL.e_mt0, ↓DL.e_mtS, ↓DL.e_mtS0, ↓DL.e_tru, ↓DL.e_lc, ↓DL.e_itS, ↓DL.e_itStr, ↓DL.e_rng1, ↓DL.e_rev, ↓DL.e_dic0, ↓DL.e_dic1, ↓DL.e_s0, ↓DL.e_s1, ↓DL.e_ct, ↓DL.e_cf, dstart, slot, gN, ↓asB_bl, ↓asI_int, ↓asS_str, cond_true, cond_false, List.map_cons, List.map_nil, List.length_cons, List.length_nil, List.set_cons_zero, List.set_cons_succ, Option.elim_some, Option.elim_none, List.cons_append, List.nil_append, List.replicate, Nat.sub_self, Nat.reduceSub, Nat.reduceAdd, Bool.not_true, Bool.not_false, setAll, Int.cast_ofNat_Int, Int.reduceLT, Int.reduceLE, Int.reduceBEq, Nat.reduceBEq, decide_true, decide_false, ↓DL.pred_s, ↓DL.len_str, ↓DL.len_tup, ↓DL.len_lst, ↓DL.le_ii, ↓DL.le_ss, ↓DL.cmp_ii, ↓DL.add_ii, ↓DL.add_ib, ↓DL.add_bi, ↓DL.add_ss, ↓DL.add_tt, ↓DL.add_ll, ↓DL.sub_ii, ↓DL.sub_ib, ↓DL.sub_bi, ↓DL.mul_ii, ↓DL.ii_ii, ↓DL.neg_i, ↓DL.is_bb, ↓DL.isn_bb, ↓DL.all_b, ↓DL.all_map, ↓DL.sum_i, ↓DL.eq_ii, ↓DL.eq_bi, ↓DL.eq_t0, ↓DL.eq_l0, ↓DL.ne_ss, ↓DL.ne_ii, ↓DL.ne_t0, ↓DL.ne_l0, ↓DL.ix_tup, ↓DL.ix_lst, ↓DL.ix_str, ↓DL.in_c, ↓DL.nin_c, ↓DL.sl_str, ↓DL.sl_tup, ↓DL.sl_lst, ↓DL.app_1, ↓DL.pop_0, ↓DL.ext_t, ↓DL.tuple_l, ↓DL.list_t, ↓DL.list_l, ↓DL.int_b, ↓DL.int_i, ↓DL.min_ii, ↓DL.str_i, ↓DL.str_b, ↓DL.repr_1, ↓DL.back_t, ↓DL.tru_l, ↓DL.at0, ↓DL.at1, ↓DL.at2, ↓DL.at3]
        subst e2
        exact fin y S14 ⟨good_mono (by omega) n1, by omega, by omega⟩ hD
    · subst e
      subst hM
      dsimp only
      refine if_gen fun M1 M2 e1 e2 => ?_
      simp only [↓DL.e_next, ↓DL.e_seq, ↓DL.e_drop, ↓DL.e_ret, ↓DL.e_retN, ↓DL.e_if, ↓DL.e_cont, ↓DL.e_break, ↓DL.e_set, ↓DL.e_asg, ↓DL.e_par, ↓DL.e_setI, ↓DL.e_for, ↓DL.e_var, ↓DL.e_c, ↓DL.e_op, ↓DL.e_un, ↓DL.e_test, ↓DL.e_chain, ↓DL.e_and, ↓DL.e_or, ↓DL.e_not, ↓DL.e_andV, ↓DL.e_orV, ↓DL.e_notV, ↓DL.e_ife, ↓DL.e_nil, ↓DL.e_cons, ↓DL.e_tup, ↓DL.e_lst, ↓DL.e_lstM, ↓DL.e_noPart, ↓DL.e_part, ↓DL.e_sl, ↓DL.e_cb, ↓DL.e_mtL, ↓DL.e_mt0, ↓DL.e_mtS, ↓DL.e_mtS0, ↓DL.e_tru, ↓DL.e_lc, ↓DL.e_itS, ↓DL.e_itStr, ↓DL.e_rng1, ↓DL.e_rev, ↓DL.e_dic0, ↓DL.e_dic1, ↓DL.e_s0, ↓DL.e_s1, ↓DL.e_ct, ↓DL.e_cf, dstart, slot, gN, ↓asB_bl, ↓asI_int, ↓asS_str, cond_true, cond_false, List.map_cons, List.map_nil, List.length_cons, List.length_nil, List.set_cons_zero, List.set_cons_succ, Option.elim_some, Option.elim_none, List.cons_append, List.nil_append, List.replicate, Nat.sub_self, Nat.reduceSub, Nat.reduceAdd, Bool.not_true, Bool.not_false, setAll, Int.cast_ofNat_Int, Int.reduceLT, Int.reduceLE, Int.reduceBEq, Nat.reduceBEq, decide_true, decide_false, ↓DL.pred_s, ↓DL.len_str, ↓DL.len_tup, ↓DL.len_lst, ↓DL.le_ii, ↓DL.le_ss, ↓DL.cmp_ii, ↓DL.add_ii, ↓DL.add_ib, ↓DL.add_bi, ↓DL.add_ss, ↓DL.add_tt, ↓DL.add_ll, ↓DL.sub_ii, ↓DL.sub_ib, ↓DL.sub_bi, ↓DL.mul_ii, ↓DL.ii_ii, ↓DL.neg_i, ↓DL.is_bb, ↓DL.isn_bb, ↓DL.all_b, ↓DL.all_map, ↓DL.sum_i, ↓DL.eq_ii, ↓DL.eq_bi, ↓DL.eq_t0, ↓DL.eq_l0, ↓DL.ne_ss, ↓DL.ne_ii, ↓DL.ne_t0, ↓DL.ne_l0, ↓DL.ix_tup, ↓DL.ix_lst, ↓DL.ix_str, ↓DL.in_c, ↓DL.nin_c, ↓DL.sl_str, ↓DL.sl_tup, ↓DL.sl_lst, ↓DL.app_1, ↓DL.pop_0, ↓DL.ext_t, ↓DL.tuple_l, ↓DL.list_t, ↓DL.list_l, ↓DL.int_b, ↓DL.int_i, ↓DL.min_ii, ↓DL.str_i, ↓DL.str_b, ↓DL.repr_1, ↓DL.back_t, ↓DL.tru_l, ↓DL.at0, ↓DL.at1, ↓DL.at2, ↓DL.at3]
      refine ⟨a, c, rfl, hD, fun S14 hD s14 => ?_⟩
      simp only [↓DL.e_next, ↓DL.e_seq, ↓DL.e_drop, ↓DL.e_ret, ↓DL.e_retN, ↓DL.e_if, ↓DL.e_cont, ↓DL.e_break, ↓DL.e_set, ↓DL.e_asg, ↓DL.e_par, ↓DL.e_setI, ↓DL.e_for, ↓DL.e_var, ↓DL.e_c, ↓DL.e_op, ↓DL.e_un, ↓DL.e_test, ↓DL.e_chain, ↓DL.e_and, ↓DL.e_or, ↓DL.e_not, ↓DL.e_andV, ↓DL.e_orV, ↓DL.e_notV, ↓DL.e_ife, ↓DL.e_nil, ↓DL.e_cons, ↓DL.e_tup, ↓DL.e_lst, ↓DL.e_lstM, ↓DL.e_noPart, ↓DL.e_part, ↓DL.e_sl, ↓DL.e_cb, ↓DL.e_mtL, ↓DL.e_mt0, ↓DL.e_mtS, ↓DL.e_mtS0, ↓DL.e_tru, ↓DL.e_lc, ↓DL.e_itS, ↓DL.e_itStr, ↓DL.e_rng1, ↓DL.e_rev, ↓DL.e_dic0, ↓DL.e_dic1, ↓DL.e_s0, ↓DL.e_s1, ↓DL.e_ct, ↓DL.e_cf, dstart, slot, gN, ↓asB_bl, ↓asI_int, ↓asS_str, cond_true, cond_false, List.map_cons, List.map_nil, List.length_cons, List.length_nil, List.set_cons_zero, List.set_cons_succ, Option.elim_some, Option.elim_none, List.cons_append, List.nil_append, List.replicate, Nat.sub_self, Nat.reduceSub, Nat.reduceAdd, Bool.not_true, Bool.not_false, setAll, Int.cast_ofNat_Int, Int.reduceLT, Int.reduceLE, Int.reduceBEq, Nat.reduceBEq, decide_true, decide_false, ↓DL.pred_s, ↓DL.len_str, ↓DL.len_tup, ↓DL.len_lst, ↓DL.le_ii, ↓DL.le_ss, ↓DL.cmp_ii, ↓DL.add_ii, ↓DL.add_ib, ↓DL.add_bi, ↓DL.add_ss, ↓DL.add_tt, ↓DL.add_ll, ↓DL.sub_ii, ↓DL.sub_ib, ↓DL.sub_bi, ↓DL.mul_ii, ↓DL.ii_ii, ↓DL.neg_i, ↓DL.is_bb, ↓DL.isn_bb, ↓DL.all_b, ↓DL.all_map, ↓DL.sum_i, ↓DL.eq_ii, ↓DL.eq_bi, ↓DL.eq_t0, ↓DL.eq_l0, ↓DL.ne_ss, ↓DL.ne_ii, ↓DL.ne_t0, ↓DL.ne_l0, ↓DL.ix_tup, ↓DL.ix_lst, ↓DL.ix_str, ↓DL.in_c, ↓DL.nin_c, ↓DL.sl_str, ↓DL.sl_tup, ↓DL.sl_lst, ↓DL.app_1, ↓DL.pop_0, ↓DL.ext_t, ↓DL.tuple_l, ↓DL.list_t, ↓DL.list_l, ↓DL.int_b, ↓DL.int_i, ↓DL.min_ii, ↓DL.str_i, ↓DL.str_b, ↓DL.repr_1, ↓DL.back_t, ↓DL.tru_l, ↓DL.at0, ↓DL.at1, ↓DL.at2, ↓DL.at3]
      clear e1
      subst e2
      exact ⟨_, _, _, _, rfl, hD⟩
  · subst e
    subst hM
    dsimp only
    refine seq_gen fun M hM => ?_
    simp only [↓DL.e_next, ↓DL.e_seq, ↓DL.e_drop, ↓DL.e_ret, ↓DL.e_retN, ↓DL.e_if, ↓DL.e_cont, ↓DL.e_break, ↓DL.e_set, ↓DL.e_asg, ↓DL.e_par, ↓DL.e_setI, ↓DL.e_for, ↓DL.e_var, ↓DL.e_c, ↓DL.e_op, ↓DL.e_un, ↓DL.e_test, ↓DL.e_chain, ↓DL.e_and, ↓DL.e_or, ↓DL.e_not, ↓DL.e_andV, ↓DL.e_orV, ↓DL.e_notV, ↓DL.e_ife, ↓DL.e_nil, ↓DL.e_cons, ↓DL.e_tup, ↓DL.e_lst, ↓DL.e_lstM, ↓DL.e_noPart, ↓DL.e_part, ↓DL.e_sl, ↓DL.e_cb, ↓DL.e_mtL, ↓DL.e_mt0, ↓DL.e_mtS, ↓DL.e_mtS0, ↓DL.e_tru, ↓DL.e_lc, ↓DL.e_itS, ↓DL.e_itStr, ↓DL.e_rng1, ↓DL.e_rev, ↓DL.e_dic0, ↓DL.e_dic1, ↓DL.e_s0, ↓DL.e_s1, ↓DL.e_ct, ↓DL.e_cf, dstart, slot, gN, ↓asB_bl, ↓asI_int, ↓asS_str, cond_true, cond_false, List.map_cons, List.map_nil, List.length_cons, List.length_nil, List.set_cons_zero, List.set_cons_succ, Option.elim_some, Option.elim_none, List.cons_append, List.nil_append, List.replicate, Nat.sub_self, Nat.reduceSub, Nat.reduceAdd, Bool.not_true, Bool.not_false, setAll, Int.cast_ofNat_Int, Int.reduceLT, Int.reduceLE, Int.reduceBEq, Nat.reduceBEq, decide_true, decide_false, ↓DL.pred_s, ↓DL.len_str, ↓DL.len_tup, ↓DL.len_lst, ↓DL.le_ii, ↓DL.le_ss, ↓DL.cmp_ii, ↓DL.add_ii, ↓DL.add_ib, ↓DL.add_bi, ↓DL.add_ss, ↓DL.add_tt, ↓DL.add_ll, ↓DL.sub_ii, ↓DL.sub_ib, ↓DL.sub_bi, ↓DL.mul_ii, ↓DL.ii_ii, ↓DL.neg_i, ↓DL.is_bb, ↓DL.isn_bb, ↓DL.all_b, ↓DL.all_map, ↓DL.sum_i, ↓DL.eq_ii, ↓DL.eq_bi, ↓DL.eq_t0, ↓DL.eq_l0, ↓DL.ne_ss, ↓DL.ne_ii, ↓DL.ne_t0, ↓DL.ne_l0, ↓DL.ix_tup, ↓DL.ix_lst, ↓DL.ix_str, ↓DL.in_c, ↓DL.nin_c, ↓DL.sl_str, ↓DL.sl_tup, ↓DL.sl_lst, ↓DL.app_1, ↓DL.pop_0, ↓DL.ext_t, ↓DL.tuple_l, ↓DL.list_t, ↓DL.list_l, ↓DL.int_b, ↓DL.int_i, ↓DL.min_ii, ↓DL.str_i, ↓DL.str_b, ↓DL.repr_1, ↓DL.back_t, ↓DL.tru_l, ↓DL.at0, ↓DL.at1, ↓DL.at2, ↓DL.at3]
    refine ⟨by omega, by omega, by omega, by omega, by omega, by omega, cpow, by omega, by omega, ?_⟩
    have g1 : ∀ v ∈ ([.non, .bl true, .int 0, .str (Str.ofString ""), .str (Str.ofString "at"), .tup [], .lst [], .dic [], .tup [.str (Str.ofString "at")], .tup [.str (Str.ofString "at"), .int 0, .int 0], .tup [.str (Str.ofString "world"), .int 9], .tup [.str (Str.ofString "world"), .int 10], .tup [.str (Str.ofString "at"), .int (10 ^ Int.toNat 39)]] : List DL.D), spR v := spR_all (by decide +kernel)
    have n1 : ([.non, .bl true, .int 0, .str (Str.ofString ""), .str (Str.ofString "at"), .tup [], .lst [], .dic [], .tup [.str (Str.ofString "at")], .tup [.str (Str.ofString "at"), .int 0, .int 0], .tup [.str (Str.ofString "world"), .int 9], .tup [.str (Str.ofString "world"), .int 10], .tup [.str (Str.ofString "at"), .int (10 ^ Int.toNat 39)]] : List DL.D).length ≤ 13 := by decide
    revert g1 n1
    generalize ([.non, .bl true, .int 0, .str (Str.ofString ""), .str (Str.ofString "at"), .tup [], .lst [], .dic [], .tup [.str (Str.ofString "at")], .tup [.str (Str.ofString "at"), .int 0, .int 0], .tup [.str (Str.ofString "world"), .int 9], .tup [.str (Str.ofString "world"), .int 10], .tup [.str (Str.ofString "at"), .int (10 ^ Int.toNat 39)]] : List DL.D) = L1
    intro g1 n1
    subst hM
    refine seq_gen fun M hM => ?_
    simp only [↓DL.e_next, ↓DL.e_seq, ↓DL.e_drop, ↓DL.e_ret, ↓DL.e_retN, ↓DL.e_if, ↓DL.e_cont, ↓DL.e_break, ↓DL.e_set, ↓DL.e_asg, ↓DL.e_par, ↓DL.e_setI, ↓DL.e_for, ↓DL.e_var, ↓DL.e_c, ↓DL.e_op, ↓DL.e_un, ↓DL.e_test, ↓DL.e_chain, ↓DL.e_and, ↓DL.e_or, ↓DL.e_not, ↓DL.e_andV, ↓DL.e_orV, ↓DL.e_notV, ↓DL.e_ife, ↓DL.e_nil, ↓DL.e_cons, ↓DL.e_tup, ↓DL.e_lst, ↓DL.e_lstM, ↓DL.e_noPart, ↓DL.e_part, ↓DL.e_sl, ↓DL.e_cb, ↓DL.e_mtL, ↓DL.e_mt0, ↓DL.e_mtS, ↓DL.e_mtS0, ↓DL.e_tru, ↓DL.e_lc, ↓DL.e_itS, ↓DL.e_itStr, ↓DL.e_rng1, ↓DL.e_rev, ↓DL.e_dic0, ↓DL.e_dic1, ↓DL.e_s0, ↓DL.e_s1, ↓DL.e_ct, ↓DL.e_cf, dstart, slot, gN, ↓asB_bl, ↓asI_int, ↓asS_str, cond_true, cond_false, List.map_cons, List.map_nil, List.length_cons, List.length_nil, List.set_cons_zero, List.set_cons_succ, Option.elim_some, Option.elim_none, List.cons_append, List.nil_append, List.replicate, Nat.sub_self, Nat.reduceSub, Nat.reduceAdd, Bool.not_true, Bool.not_false, setAll, Int.cast_ofNat_Int, Int.reduceLT, Int.reduceLE, Int.reduceBEq, Nat.reduceBEq, decide_true, decide_false, ↓DL.pred_s, ↓DL.len_str, ↓DL.len_tup, ↓DL.len_lst, ↓DL.le_ii, ↓DL.le_ss, ↓DL.cmp_ii, ↓DL.add_ii, ↓DL.add_ib, ↓DL.add_bi, ↓DL.add_ss, ↓DL.add_tt, ↓DL.add_ll, ↓DL.sub_ii, ↓DL.sub_ib, ↓DL.sub_bi, ↓DL.mul_ii, ↓DL.ii_ii, ↓DL.neg_i, ↓DL.is_bb, ↓DL.isn_bb, ↓DL.all_b, ↓DL.all_map, ↓DL.sum_i, ↓DL.eq_ii, ↓DL.eq_bi, ↓DL.eq_t0, ↓DL.eq_l0, ↓DL.ne_ss, ↓DL.ne_ii, ↓DL.ne_t0, ↓DL.ne_l0, ↓DL.ix_tup, ↓DL.ix_lst, ↓DL.ix_str, ↓DL.in_c, ↓DL.nin_c, ↓DL.sl_str, ↓DL.sl_tup, ↓DL.sl_lst, ↓DL.app_1, ↓DL.pop_0, ↓DL.ext_t, ↓DL.tuple_l, ↓DL.list_t, ↓DL.list_l, ↓DL.int_b, ↓DL.int_i, ↓DL.min_ii, ↓DL.str_i, ↓DL.str_b, ↓DL.repr_1, ↓DL.back_t, ↓DL.tru_l, ↓DL.at0, ↓DL.at1, ↓DL.at2, ↓DL.at3]
    refine ⟨by omega, by omega, by omega, by omega, by omega, by omega, by omega, by omega, by omega, ?_⟩
    have g2 : ∀ v ∈ L1 ++ ([.tup [.str (Str.ofString "at"), .bl true], .tup [.str (Str.ofString "world"), .bl false], .tup [.str (Str.ofString "family"), .str (Str.ofString "a"), .tup []], .tup [.str (Str.ofString "family"), .str (Str.ofString "a"), .lst []], .tup [.str (Str.ofString "call"), .str (Str.ofString "a")]] : List DL.D), spR v := spR_app g1 (by decide +kernel)
    have n2 : (L1 ++ ([.tup [.str (Str.ofString "at"), .bl true], .tup [.str (Str.ofString "world"), .bl false], .tup [.str (Str.ofString "family"), .str (Str.ofString "a"), .tup []], .tup [.str (Str.ofString "family"), .str (Str.ofString "a"), .lst []], .tup [.str (Str.ofString "call"), .str (Str.ofString "a")]] : List DL.D)).length ≤ 18 := by rw [List.length_append]; exact Nat.add_le_add n1 (by decide : _ ≤ 5)
    revert g2 n2
    generalize L1 ++ ([.tup [.str (Str.ofString "at"), .bl true], .tup [.str (Str.ofString "world"), .bl false], .tup [.str (Str.ofString "family"), .str (Str.ofString "a"), .tup []], .tup [.str (Str.ofString "family"), .str (Str.ofString "a"), .lst []], .tup [.str (Str.ofString "call"), .str (Str.ofString "a")]] : List DL.D) = L2
    intro g2 n2
    subst hM
    refine seq_gen fun M hM => ?_
    simp only [↓DL.e_next, ↓DL.e_seq, ↓DL.e_drop, ↓DL.e_ret, ↓DL.e_retN, ↓DL.e_if, ↓DL.e_cont, ↓DL.e_break, ↓DL.e_set, ↓DL.e_asg, ↓DL.e_par, ↓DL.e_setI, ↓DL.e_for, ↓DL.e_var, ↓DL.e_c, ↓DL.e_op, ↓DL.e_un, ↓DL.e_test, ↓DL.e_chain, ↓DL.e_and, ↓DL.e_or, ↓DL.e_not, ↓DL.e_andV, ↓DL.e_orV, ↓DL.e_notV, ↓DL.e_ife, ↓DL.e_nil, ↓DL.e_cons, ↓DL.e_tup, ↓DL.e_lst, ↓DL.e_lstM, ↓DL.e_noPart, ↓DL.e_part, ↓DL.e_sl, ↓DL.e_cb, ↓DL.e_mtL, ↓DL.e_mt0, ↓DL.e_mtS, ↓DL.e_mtS0, ↓DL.e_tru, ↓DL.e_lc, ↓DL.e_itS, ↓DL.e_itStr, ↓DL.e_rng1, ↓DL.e_rev, ↓DL.e_dic0, ↓DL.e_dic1, ↓DL.e_s0, ↓DL.e_s1, ↓DL.e_ct, ↓DL.e_cf, dstart, slot, gN, ↓asB_bl, ↓asI_int, ↓asS_str, cond_true, cond_false, List.map_cons, List.map_nil, List.length_cons, List.length_nil, List.set_cons_zero, List.set_cons_succ, Option.elim_some, Option.elim_none, List.cons_append, List.nil_append, List.replicate, Nat.sub_self, Nat.reduceSub, Nat.reduceAdd, Bool.not_true, Bool.not_false, setAll, Int.cast_ofNat_Int, Int.reduceLT, Int.reduceLE, Int.reduceBEq, Nat.reduceBEq, decide_true, decide_false, ↓DL.pred_s, ↓DL.len_str, ↓DL.len_tup, ↓DL.len_lst, ↓DL.le_ii, ↓DL.le_ss, ↓DL.cmp_ii, ↓DL.add_ii, ↓DL.add_ib, ↓DL.add_bi, ↓DL.add_ss, ↓DL.add_tt, ↓DL.add_ll, ↓DL.sub_ii, ↓DL.sub_ib, ↓DL.sub_bi, ↓DL.mul_ii, ↓DL.ii_ii, ↓DL.neg_i, ↓DL.is_bb, ↓DL.isn_bb, ↓DL.all_b, ↓DL.all_map, ↓DL.sum_i, ↓DL.eq_ii, ↓DL.eq_bi, ↓DL.eq_t0, ↓DL.eq_l0, ↓DL.ne_ss, ↓DL.ne_ii, ↓DL.ne_t0, ↓DL.ne_l0, ↓DL.ix_tup, ↓DL.ix_lst, ↓DL.ix_str, ↓DL.in_c, ↓DL.nin_c, ↓DL.sl_str, ↓DL.sl_tup, ↓DL.sl_lst, ↓DL.app_1, ↓DL.pop_0, ↓DL.ext_t, ↓DL.tuple_l, ↓DL.list_t, ↓DL.list_l, ↓DL.int_b, ↓DL.int_i, ↓DL.min_ii, ↓DL.str_i, ↓DL.str_b, ↓DL.repr_1, ↓DL.back_t, ↓DL.tru_l, ↓DL.at0, ↓DL.at1, ↓DL.at2, ↓DL.at3]
    refine ⟨by omega, by omega, by omega, by omega, by omega, by omega, by omega, ?_⟩
    show (lsts S6 _ _).elim False _
    rw [lsts_l]
    have g3 : ∀ v ∈ L2 ++ ([.tup [.str (Str.ofString "give"), .str (Str.ofString "run"), .tup [.str (Str.ofString "at"), .int 0], .tup [.str (Str.ofString "at"), .int 0]], .tup [.str (Str.ofString "give"), .tup [.str (Str.ofString "at"), .int 0], .tup [.str (Str.ofString "at"), .int 0]]] : List DL.D), spR v := spR_app g2 (by decide +kernel)
    have n3 : (L2 ++ ([.tup [.str (Str.ofString "give"), .str (Str.ofString "run"), .tup [.str (Str.ofString "at"), .int 0], .tup [.str (Str.ofString "at"), .int 0]], .tup [.str (Str.ofString "give"), .tup [.str (Str.ofString "at"), .int 0], .tup [.str (Str.ofString "at"), .int 0]]] : List DL.D)).length ≤ 20 := by rw [List.length_append]; exact Nat.add_le_add n2 (by decide : _ ≤ 2)
    show _ + _ ≤ _ ∧ _
    refine ⟨by rw [List.length_append] at n3; exact Nat.le_trans n3 (by omega), fun p np => ?_⟩
    show M [some (.lst (ns.map .int)), some (.ref a), some (.lst ys), x3, x4, x5, x6, some (.ref p), none, none, none, none] (sup S6 p (.lst (L2 ++ _)))
    revert g3 n3
    generalize L2 ++ ([.tup [.str (Str.ofString "give"), .str (Str.ofString "run"), .tup [.str (Str.ofString "at"), .int 0], .tup [.str (Str.ofString "at"), .int 0]], .tup [.str (Str.ofString "give"), .tup [.str (Str.ofString "at"), .int 0], .tup [.str (Str.ofString "at"), .int 0]]] : List DL.D) = L3
    intro g3 n3
    have k7 : (sup S6 p (.lst L3)) p = some (.lst L3) := sup_same
    generalize sup S6 p (.lst L3) = S7 at k7 ⊢
    subst hM
    refine seq_gen fun M hM => ?_
    simp only [↓DL.e_next, ↓DL.e_seq, ↓DL.e_drop, ↓DL.e_ret, ↓DL.e_retN, ↓DL.e_if, ↓DL.e_cont, ↓DL.e_break, ↓DL.e_set, ↓DL.e_asg, ↓DL.e_par, ↓DL.e_setI, ↓DL.e_for, ↓DL.e_var, ↓DL.e_c, ↓DL.e_op, ↓DL.e_un, ↓DL.e_test, ↓DL.e_chain, ↓DL.e_and, ↓DL.e_or, ↓DL.e_not, ↓DL.e_andV, ↓DL.e_orV, ↓DL.e_notV, ↓DL.e_ife, ↓DL.e_nil, ↓DL.e_cons, ↓DL.e_tup, ↓DL.e_lst, ↓DL.e_lstM, ↓DL.e_noPart, ↓DL.e_part, ↓DL.e_sl, ↓DL.e_cb, ↓DL.e_mtL, ↓DL.e_mt0, ↓DL.e_mtS, ↓DL.e_mtS0, ↓DL.e_tru, ↓DL.e_lc, ↓DL.e_itS, ↓DL.e_itStr, ↓DL.e_rng1, ↓DL.e_rev, ↓DL.e_dic0, ↓DL.e_dic1, ↓DL.e_s0, ↓DL.e_s1, ↓DL.e_ct, ↓DL.e_cf, dstart, slot, gN, ↓asB_bl, ↓asI_int, ↓asS_str, cond_true, cond_false, List.map_cons, List.map_nil, List.length_cons, List.length_nil, List.set_cons_zero, List.set_cons_succ, Option.elim_some, Option.elim_none, List.cons_append, List.nil_append, List.replicate, Nat.sub_self, Nat.reduceSub, Nat.reduceAdd, Bool.not_true, Bool.not_false, setAll, Int.cast_ofNat_Int, Int.reduceLT, Int.reduceLE, Int.reduceBEq, Nat.reduceBEq, decide_true, decide_false, ↓DL.pred_s, ↓DL.len_str, ↓DL.len_tup, ↓DL.len_lst, ↓DL.le_ii, ↓DL.le_ss, ↓DL.cmp_ii, ↓DL.add_ii, ↓DL.add_ib, ↓DL.add_bi, ↓DL.add_ss, ↓DL.add_tt, ↓DL.add_ll, ↓DL.sub_ii, ↓DL.sub_ib, ↓DL.sub_bi, ↓DL.mul_ii, ↓DL.ii_ii, ↓DL.neg_i, ↓DL.is_bb, ↓DL.isn_bb, ↓DL.all_b, ↓DL.all_map, ↓DL.sum_i, ↓DL.eq_ii, ↓DL.eq_bi, ↓DL.eq_t0, ↓DL.eq_l0, ↓DL.ne_ss, ↓DL.ne_ii, ↓DL.ne_t0, ↓DL.ne_l0, ↓DL.ix_tup, ↓DL.ix_lst, ↓DL.ix_str, ↓DL.in_c, ↓DL.nin_c, ↓DL.sl_str, ↓DL.sl_tup, ↓DL.sl_lst, ↓DL.app_1, ↓DL.pop_0, ↓DL.ext_t, ↓DL.tuple_l, ↓DL.list_t, ↓DL.list_l, ↓DL.int_b, ↓DL.int_i, ↓DL.min_ii, ↓DL.str_i, ↓DL.str_b, ↓DL.repr_1, ↓DL.back_t, ↓DL.tru_l, ↓DL.at0, ↓DL.at1, ↓DL.at2, ↓DL.at3]
    refine ⟨⟨p, _, rfl, k7⟩, by omega, by omega, ?_⟩
    rw [DL.on_ref k7]
    refine ⟨by omega, ?_⟩
    have g4 : ∀ v ∈ L3 ++ ([.tup [.str (Str.ofString "shape"), .str (Str.ofString "a"), .str (Str.ofString "b.1.c"), .tup []]] : List DL.D), spR v := spR_app g3 (by decide +kernel)
    have n4 : (L3 ++ ([.tup [.str (Str.ofString "shape"), .str (Str.ofString "a"), .str (Str.ofString "b.1.c"), .tup []]] : List DL.D)).length ≤ 21 := by rw [List.length_append]; exact Nat.add_le_add n3 (by decide : _ ≤ 1)
    show M [some (.lst (ns.map .int)), some (.ref a), some (.lst ys), x3, x4, x5, x6, some (.ref p), none, none, none, none] (sup S7 p (.lst (L3 ++ _)))
    revert g4 n4
    generalize L3 ++ ([.tup [.str (Str.ofString "shape"), .str (Str.ofString "a"), .str (Str.ofString "b.1.c"), .tup []]] : List DL.D) = L4
    intro g4 n4
    have k8 : (sup S7 p (.lst L4)) p = some (.lst L4) := sup_same
    generalize sup S7 p (.lst L4) = S8 at k8 ⊢
    subst hM
    refine seq_gen fun M hM => ?_
    simp only [↓DL.e_next, ↓DL.e_seq, ↓DL.e_drop, ↓DL.e_ret, ↓DL.e_retN, ↓DL.e_if, ↓DL.e_cont, ↓DL.e_break, ↓DL.e_set, ↓DL.e_asg, ↓DL.e_par, ↓DL.e_setI, ↓DL.e_for, ↓DL.e_var, ↓DL.e_c, ↓DL.e_op, ↓DL.e_un, ↓DL.e_test, ↓DL.e_chain, ↓DL.e_and, ↓DL.e_or, ↓DL.e_not, ↓DL.e_andV, ↓DL.e_orV, ↓DL.e_notV, ↓DL.e_ife, ↓DL.e_nil, ↓DL.e_cons, ↓DL.e_tup, ↓DL.e_lst, ↓DL.e_lstM, ↓DL.e_noPart, ↓DL.e_part, ↓DL.e_sl, ↓DL.e_cb, ↓DL.e_mtL, ↓DL.e_mt0, ↓DL.e_mtS, ↓DL.e_mtS0, ↓DL.e_tru, ↓DL.e_lc, ↓DL.e_itS, ↓DL.e_itStr, ↓DL.e_rng1, ↓DL.e_rev, ↓DL.e_dic0, ↓DL.e_dic1, ↓DL.e_s0, ↓DL.e_s1, ↓DL.e_ct, ↓DL.e_cf, dstart, slot, gN, ↓asB_bl, ↓asI_int, ↓asS_str, cond_true, cond_false, List.map_cons, List.map_nil, List.length_cons, List.length_nil, List.set_cons_zero, List.set_cons_succ, Option.elim_some, Option.elim_none, List.cons_append, List.nil_append, List.replicate, Nat.sub_self, Nat.reduceSub, Nat.reduceAdd, Bool.not_true, Bool.not_false, setAll, Int.cast_ofNat_Int, Int.reduceLT, Int.reduceLE, Int.reduceBEq, Nat.reduceBEq, decide_true, decide_false, ↓DL.pred_s, ↓DL.len_str, ↓DL.len_tup, ↓DL.len_lst, ↓DL.le_ii, ↓DL.le_ss, ↓DL.cmp_ii, ↓DL.add_ii, ↓DL.add_ib, ↓DL.add_bi, ↓DL.add_ss, ↓DL.add_tt, ↓DL.add_ll, ↓DL.sub_ii, ↓DL.sub_ib, ↓DL.sub_bi, ↓DL.mul_ii, ↓DL.ii_ii, ↓DL.neg_i, ↓DL.is_bb, ↓DL.isn_bb, ↓DL.all_b, ↓DL.all_map, ↓DL.sum_i, ↓DL.eq_ii, ↓DL.eq_bi, ↓DL.eq_t0, ↓DL.eq_l0, ↓DL.ne_ss, ↓DL.ne_ii, ↓DL.ne_t0, ↓DL.ne_l0, ↓DL.ix_tup, ↓DL.ix_lst, ↓DL.ix_str, ↓DL.in_c, ↓DL.nin_c, ↓DL.sl_str, ↓DL.sl_tup, ↓DL.sl_lst, ↓DL.app_1, ↓DL.pop_0, ↓DL.ext_t, ↓DL.tuple_l, ↓DL.list_t, ↓DL.list_l, ↓DL.int_b, ↓DL.int_i, ↓DL.min_ii, ↓DL.str_i, ↓DL.str_b, ↓DL.repr_1, ↓DL.back_t, ↓DL.tru_l, ↓DL.at0, ↓DL.at1, ↓DL.at2, ↓DL.at3]
    refine ⟨by omega, by omega, by omega, by omega, by omega, by omega, by omega, by omega, ?_⟩
    show (lsts S8 _ _).elim False _
    rw [lsts_r k8]
    have g5 : ∀ v ∈ L4 ++ ([.tup [.str (Str.ofString "hole"), .str (Str.ofString "a.1.b")], .tup [.str (Str.ofString "open"), .str (Str.ofString "a"), .tup [], .tup [.str (Str.ofString "world"), .int 0]], .tup [.str (Str.ofString "take")], .tup [.str (Str.ofString "to"), .str (Str.ofString "run"), .tup [.str (Str.ofString "at"), .int 0]]] : List DL.D), spR v := spR_app g4 (by decide +kernel)
    have n5 : (L4 ++ ([.tup [.str (Str.ofString "hole"), .str (Str.ofString "a.1.b")], .tup [.str (Str.ofString "open"), .str (Str.ofString "a"), .tup [], .tup [.str (Str.ofString "world"), .int 0]], .tup [.str (Str.ofString "take")], .tup [.str (Str.ofString "to"), .str (Str.ofString "run"), .tup [.str (Str.ofString "at"), .int 0]]] : List DL.D)).length ≤ 25 := by rw [List.length_append]; exact Nat.add_le_add n4 (by decide : _ ≤ 4)
    show _ + _ ≤ _ ∧ _
    refine ⟨by rw [List.length_append] at n5; exact Nat.le_trans n5 (by omega), ?_⟩
    show M [some (.lst (ns.map .int)), some (.ref a), some (.lst ys), x3, x4, x5, x6, some (.lst (L4 ++ _)), none, none, none, none] S8
    revert g5 n5
    generalize L4 ++ ([.tup [.str (Str.ofString "hole"), .str (Str.ofString "a.1.b")], .tup [.str (Str.ofString "open"), .str (Str.ofString "a"), .tup [], .tup [.str (Str.ofString "world"), .int 0]], .tup [.str (Str.ofString "take")], .tup [.str (Str.ofString "to"), .str (Str.ofString "run"), .tup [.str (Str.ofString "at"), .int 0]]] : List DL.D) = L5
    intro g5 n5
    subst hM
    refine seq_gen fun M hM => ?_
    simp only [↓DL.e_next, ↓DL.e_seq, ↓DL.e_drop, ↓DL.e_ret, ↓DL.e_retN, ↓DL.e_if, ↓DL.e_cont, ↓DL.e_break, ↓DL.e_set, ↓DL.e_asg, ↓DL.e_par, ↓DL.e_setI, ↓DL.e_for, ↓DL.e_var, ↓DL.e_c, ↓DL.e_op, ↓DL.e_un, ↓DL.e_test, ↓DL.e_chain, ↓DL.e_and, ↓DL.e_or, ↓DL.e_not, ↓DL.e_andV, ↓DL.e_orV, ↓DL.e_notV, ↓DL.e_ife, ↓DL.e_nil, ↓DL.e_cons, ↓DL.e_tup, ↓DL.e_lst, ↓DL.e_lstM, ↓DL.e_noPart, ↓DL.e_part, ↓DL.e_sl, ↓DL.e_cb, ↓DL.e_mtL, ↓DL.e_mt0, ↓DL.e_mtS, ↓DL.e_mtS0, ↓DL.e_tru, ↓DL.e_lc, ↓DL.e_itS, ↓DL.e_itStr, ↓DL.e_rng1, ↓DL.e_rev, ↓DL.e_dic0, ↓DL.e_dic1, ↓DL.e_s0, ↓DL.e_s1, ↓DL.e_ct, ↓DL.e_cf, dstart, slot, gN, ↓asB_bl, ↓asI_int, ↓asS_str, cond_true, cond_false, List.map_cons, List.map_nil, List.length_cons, List.length_nil, List.set_cons_zero, List.set_cons_succ, Option.elim_some, Option.elim_none, List.cons_append, List.nil_append, List.replicate, Nat.sub_self, Nat.reduceSub, Nat.reduceAdd, Bool.not_true, Bool.not_false, setAll, Int.cast_ofNat_Int, Int.reduceLT, Int.reduceLE, Int.reduceBEq, Nat.reduceBEq, decide_true, decide_false, ↓DL.pred_s, ↓DL.len_str, ↓DL.len_tup, ↓DL.len_lst, ↓DL.le_ii, ↓DL.le_ss, ↓DL.cmp_ii, ↓DL.add_ii, ↓DL.add_ib, ↓DL.add_bi, ↓DL.add_ss, ↓DL.add_tt, ↓DL.add_ll, ↓DL.sub_ii, ↓DL.sub_ib, ↓DL.sub_bi, ↓DL.mul_ii, ↓DL.ii_ii, ↓DL.neg_i, ↓DL.is_bb, ↓DL.isn_bb, ↓DL.all_b, ↓DL.all_map, ↓DL.sum_i, ↓DL.eq_ii, ↓DL.eq_bi, ↓DL.eq_t0, ↓DL.eq_l0, ↓DL.ne_ss, ↓DL.ne_ii, ↓DL.ne_t0, ↓DL.ne_l0, ↓DL.ix_tup, ↓DL.ix_lst, ↓DL.ix_str, ↓DL.in_c, ↓DL.nin_c, ↓DL.sl_str, ↓DL.sl_tup, ↓DL.sl_lst, ↓DL.app_1, ↓DL.pop_0, ↓DL.ext_t, ↓DL.tuple_l, ↓DL.list_t, ↓DL.list_l, ↓DL.int_b, ↓DL.int_i, ↓DL.min_ii, ↓DL.str_i, ↓DL.str_b, ↓DL.repr_1, ↓DL.back_t, ↓DL.tru_l, ↓DL.at0, ↓DL.at1, ↓DL.at2, ↓DL.at3]
    refine ⟨by omega, by omega, by omega, by omega, by omega, by omega, ?_⟩
    have g6 : ∀ v ∈ L5 ++ ([.tup [.tup [.str (Str.ofString "at"), .int 0]], .tup [.str (Str.ofString "open"), .int 0], .tup [.str (Str.ofString "due")]] : List DL.D), spR v := spR_app g5 (by decide +kernel)
    have n6 : (L5 ++ ([.tup [.tup [.str (Str.ofString "at"), .int 0]], .tup [.str (Str.ofString "open"), .int 0], .tup [.str (Str.ofString "due")]] : List DL.D)).length ≤ 28 := by rw [List.length_append]; exact Nat.add_le_add n5 (by decide : _ ≤ 3)
    revert g6 n6
    generalize L5 ++ ([.tup [.tup [.str (Str.ofString "at"), .int 0]], .tup [.str (Str.ofString "open"), .int 0], .tup [.str (Str.ofString "due")]] : List DL.D) = L6
    intro g6 n6
    subst hM
    refine seq_gen fun M hM => ?_
    simp only [↓DL.e_next, ↓DL.e_seq, ↓DL.e_drop, ↓DL.e_ret, ↓DL.e_retN, ↓DL.e_if, ↓DL.e_cont, ↓DL.e_break, ↓DL.e_set, ↓DL.e_asg, ↓DL.e_par, ↓DL.e_setI, ↓DL.e_for, ↓DL.e_var, ↓DL.e_c, ↓DL.e_op, ↓DL.e_un, ↓DL.e_test, ↓DL.e_chain, ↓DL.e_and, ↓DL.e_or, ↓DL.e_not, ↓DL.e_andV, ↓DL.e_orV, ↓DL.e_notV, ↓DL.e_ife, ↓DL.e_nil, ↓DL.e_cons, ↓DL.e_tup, ↓DL.e_lst, ↓DL.e_lstM, ↓DL.e_noPart, ↓DL.e_part, ↓DL.e_sl, ↓DL.e_cb, ↓DL.e_mtL, ↓DL.e_mt0, ↓DL.e_mtS, ↓DL.e_mtS0, ↓DL.e_tru, ↓DL.e_lc, ↓DL.e_itS, ↓DL.e_itStr, ↓DL.e_rng1, ↓DL.e_rev, ↓DL.e_dic0, ↓DL.e_dic1, ↓DL.e_s0, ↓DL.e_s1, ↓DL.e_ct, ↓DL.e_cf, dstart, slot, gN, ↓asB_bl, ↓asI_int, ↓asS_str, cond_true, cond_false, List.map_cons, List.map_nil, List.length_cons, List.length_nil, List.set_cons_zero, List.set_cons_succ, Option.elim_some, Option.elim_none, List.cons_append, List.nil_append, List.replicate, Nat.sub_self, Nat.reduceSub, Nat.reduceAdd, Bool.not_true, Bool.not_false, setAll, Int.cast_ofNat_Int, Int.reduceLT, Int.reduceLE, Int.reduceBEq, Nat.reduceBEq, decide_true, decide_false, ↓DL.pred_s, ↓DL.len_str, ↓DL.len_tup, ↓DL.len_lst, ↓DL.le_ii, ↓DL.le_ss, ↓DL.cmp_ii, ↓DL.add_ii, ↓DL.add_ib, ↓DL.add_bi, ↓DL.add_ss, ↓DL.add_tt, ↓DL.add_ll, ↓DL.sub_ii, ↓DL.sub_ib, ↓DL.sub_bi, ↓DL.mul_ii, ↓DL.ii_ii, ↓DL.neg_i, ↓DL.is_bb, ↓DL.isn_bb, ↓DL.all_b, ↓DL.all_map, ↓DL.sum_i, ↓DL.eq_ii, ↓DL.eq_bi, ↓DL.eq_t0, ↓DL.eq_l0, ↓DL.ne_ss, ↓DL.ne_ii, ↓DL.ne_t0, ↓DL.ne_l0, ↓DL.ix_tup, ↓DL.ix_lst, ↓DL.ix_str, ↓DL.in_c, ↓DL.nin_c, ↓DL.sl_str, ↓DL.sl_tup, ↓DL.sl_lst, ↓DL.app_1, ↓DL.pop_0, ↓DL.ext_t, ↓DL.tuple_l, ↓DL.list_t, ↓DL.list_l, ↓DL.int_b, ↓DL.int_i, ↓DL.min_ii, ↓DL.str_i, ↓DL.str_b, ↓DL.repr_1, ↓DL.back_t, ↓DL.tru_l, ↓DL.at0, ↓DL.at1, ↓DL.at2, ↓DL.at3]
    refine ⟨by omega, by omega, by omega, by omega, ?_⟩
    refine ⟨fun j δ' S' => ∃ T x8 x9 x10, δ' = [some (.lst (ns.map .int)), some (.ref a), some (.lst ys), x3, x4, x5, x6, some (.lst T), x8, x9, x10, none] ∧ (∀ v ∈ T, spR v) ∧ T.length ≤ 28 + 2 * j, ⟨L6, none, none, none, rfl, g6, n6⟩, fun i d8 δ' S9 hd' ⟨T, x8, x9, x10, e, gT, nT⟩ => ?_, fun δ' S9 ⟨T, x8, x9, x10, e, gT, nT⟩ => ?_⟩
    · clear hM
      have hi := (List.getElem?_eq_some_iff.mp hd').1
      have hi : i < 3 := hi
      have q8 : good 3 d8 = true ∧ sz d8 ≤ 10 ∧ dp d8 ≤ 2 := by
        have q : (([.tup [.str (Str.ofString "at"), .int 0], .tup [.str (Str.ofString "at"), .int (-1)], .tup [.str (Str.ofString "at"), .bl true]] : List DL.D).all fun d => good 3 d && (decide (sz d ≤ 10) && decide (dp d ≤ 2))) = true := by decide +kernel
        have q := List.all_eq_true.mp q d8 (List.mem_of_getElem? hd')
        rw [Bool.and_eq_true, Bool.and_eq_true] at q
        exact ⟨q.1, of_decide_eq_true q.2.1, of_decide_eq_true q.2.2⟩
      subst e
      show dSeq _ _ _ _ _
      refine seq_gen fun M hM => ?_
      simp only [↓DL.e_next, ↓DL.e_seq, ↓DL.e_drop, ↓DL.e_ret, ↓DL.e_retN, ↓DL.e_if, ↓DL.e_cont, ↓DL.e_break, ↓DL.e_set, ↓DL.e_asg, ↓DL.e_par, ↓DL.e_setI, ↓DL.e_for, ↓DL.e_var, ↓DL.e_c, ↓DL.e_op, ↓DL.e_un, ↓DL.e_test, ↓DL.e_chain, ↓DL.e_and, ↓DL.e_or, ↓DL.e_not, ↓DL.e_andV, ↓DL.e_orV, ↓DL.e_notV, ↓DL.e_ife, ↓DL.e_nil, ↓DL.e_cons, ↓DL.e_tup, ↓DL.e_lst, ↓DL.e_lstM, ↓DL.e_noPart, ↓DL.e_part, ↓DL.e_sl, ↓DL.e_cb, ↓DL.e_mtL, ↓DL.e_mt0, ↓DL.e_mtS, ↓DL.e_mtS0, ↓DL.e_tru, ↓DL.e_lc, ↓DL.e_itS, ↓DL.e_itStr, ↓DL.e_rng1, ↓DL.e_rev, ↓DL.e_dic0, ↓DL.e_dic1, ↓DL.e_s0, ↓DL.e_s1, ↓DL.e_ct, ↓DL.e_cf, dstart, slot, gN, ↓asB_bl, ↓asI_int, ↓asS_str, cond_true, cond_false, List.map_cons, List.map_nil, List.length_cons, List.length_nil, List.set_cons_zero, List.set_cons_succ, Option.elim_some, Option.elim_none, List.cons_append, List.nil_append, List.replicate, Nat.sub_self, Nat.reduceSub, Nat.reduceAdd, Bool.not_true, Bool.not_false, setAll, Int.cast_ofNat_Int, Int.reduceLT, Int.reduceLE, Int.reduceBEq, Nat.reduceBEq, decide_true, decide_false, ↓DL.pred_s, ↓DL.len_str, ↓DL.len_tup, ↓DL.len_lst, ↓DL.le_ii, ↓DL.le_ss, ↓DL.cmp_ii, ↓DL.add_ii, ↓DL.add_ib, ↓DL.add_bi, ↓DL.add_ss, ↓DL.add_tt, ↓DL.add_ll, ↓DL.sub_ii, ↓DL.sub_ib, ↓DL.sub_bi, ↓DL.mul_ii, ↓DL.ii_ii, ↓DL.neg_i, ↓DL.is_bb, ↓DL.isn_bb, ↓DL.all_b, ↓DL.all_map, ↓DL.sum_i, ↓DL.eq_ii, ↓DL.eq_bi, ↓DL.eq_t0, ↓DL.eq_l0, ↓DL.ne_ss, ↓DL.ne_ii, ↓DL.ne_t0, ↓DL.ne_l0, ↓DL.ix_tup, ↓DL.ix_lst, ↓DL.ix_str, ↓DL.in_c, ↓DL.nin_c, ↓DL.sl_str, ↓DL.sl_tup, ↓DL.sl_lst, ↓DL.app_1, ↓DL.pop_0, ↓DL.ext_t, ↓DL.tuple_l, ↓DL.list_t, ↓DL.list_l, ↓DL.int_b, ↓DL.int_i, ↓DL.min_ii, ↓DL.str_i, ↓DL.str_b, ↓DL.repr_1, ↓DL.back_t, ↓DL.tru_l, ↓DL.at0, ↓DL.at1, ↓DL.at2, ↓DL.at3]
      subst hM
      refine seq_gen fun M hM => ?_
      simp only [↓DL.e_next, ↓DL.e_seq, ↓DL.e_drop, ↓DL.e_ret, ↓DL.e_retN, ↓DL.e_if, ↓DL.e_cont, ↓DL.e_break, ↓DL.e_set, ↓DL.e_asg, ↓DL.e_par, ↓DL.e_setI, ↓DL.e_for, ↓DL.e_var, ↓DL.e_c, ↓DL.e_op, ↓DL.e_un, ↓DL.e_test, ↓DL.e_chain, ↓DL.e_and, ↓DL.e_or, ↓DL.e_not, ↓DL.e_andV, ↓DL.e_orV, ↓DL.e_notV, ↓DL.e_ife, ↓DL.e_nil, ↓DL.e_cons, ↓DL.e_tup, ↓DL.e_lst, ↓DL.e_lstM, ↓DL.e_noPart, ↓DL.e_part, ↓DL.e_sl, ↓DL.e_cb, ↓DL.e_mtL, ↓DL.e_mt0, ↓DL.e_mtS, ↓DL.e_mtS0, ↓DL.e_tru, ↓DL.e_lc, ↓DL.e_itS, ↓DL.e_itStr, ↓DL.e_rng1, ↓DL.e_rev, ↓DL.e_dic0, ↓DL.e_dic1, ↓DL.e_s0, ↓DL.e_s1, ↓DL.e_ct, ↓DL.e_cf, dstart, slot, gN, ↓asB_bl, ↓asI_int, ↓asS_str, cond_true, cond_false, List.map_cons, List.map_nil, List.length_cons, List.length_nil, List.set_cons_zero, List.set_cons_succ, Option.elim_some, Option.elim_none, List.cons_append, List.nil_append, List.replicate, Nat.sub_self, Nat.reduceSub, Nat.reduceAdd, Bool.not_true, Bool.not_false, setAll, Int.cast_ofNat_Int, Int.reduceLT, Int.reduceLE, Int.reduceBEq, Nat.reduceBEq, decide_true, decide_false, ↓DL.pred_s, ↓DL.len_str, ↓DL.len_tup, ↓DL.len_lst, ↓DL.le_ii, ↓DL.le_ss, ↓DL.cmp_ii, ↓DL.add_ii, ↓DL.add_ib, ↓DL.add_bi, ↓DL.add_ss, ↓DL.add_tt, ↓DL.add_ll, ↓DL.sub_ii, ↓DL.sub_ib, ↓DL.sub_bi, ↓DL.mul_ii, ↓DL.ii_ii, ↓DL.neg_i, ↓DL.is_bb, ↓DL.isn_bb, ↓DL.all_b, ↓DL.all_map, ↓DL.sum_i, ↓DL.eq_ii, ↓DL.eq_bi, ↓DL.eq_t0, ↓DL.eq_l0, ↓DL.ne_ss, ↓DL.ne_ii, ↓DL.ne_t0, ↓DL.ne_l0, ↓DL.ix_tup, ↓DL.ix_lst, ↓DL.ix_str, ↓DL.in_c, ↓DL.nin_c, ↓DL.sl_str, ↓DL.sl_tup, ↓DL.sl_lst, ↓DL.app_1, ↓DL.pop_0, ↓DL.ext_t, ↓DL.tuple_l, ↓DL.list_t, ↓DL.list_l, ↓DL.int_b, ↓DL.int_i, ↓DL.min_ii, ↓DL.str_i, ↓DL.str_b, ↓DL.repr_1, ↓DL.back_t, ↓DL.tru_l, ↓DL.at0, ↓DL.at1, ↓DL.at2, ↓DL.at3]
      refine ⟨⟨by decide, by decide⟩, ?_⟩
      refine ⟨fun j δ' S' => ∃ ch x10, δ' = [some (.lst (ns.map .int)), some (.ref a), some (.lst ys), x3, x4, x5, x6, some (.lst T), some d8, some ch, x10, none] ∧ good 3 ch = true ∧ sz ch ≤ 10 + 6 * j ∧ dp ch ≤ 2 + j, ⟨d8, x10, rfl, q8.1, q8.2.1, q8.2.2⟩, fun j dj δ' S10 hj ⟨ch, x10, e, c1, c2, c3⟩ => ?_, fun δ' S10 ⟨ch, x10, e, c1, c2, c3⟩ => ?_⟩
      · clear hM
        subst e
        simp only [↓DL.e_next, ↓DL.e_seq, ↓DL.e_drop, ↓DL.e_ret, ↓DL.e_retN, ↓DL.e_if, ↓DL.e_cont, ↓DL.e_break, ↓DL.e_set, ↓DL.e_asg, ↓DL.e_par, ↓DL.e_setI, ↓DL.e_for, ↓DL.e_var, ↓DL.e_c, ↓DL.e_op, ↓DL.e_un, ↓DL.e_test, ↓DL.e_chain, ↓DL.e_and, ↓DL.e_or, ↓DL.e_not, ↓DL.e_andV, ↓DL.e_orV, ↓DL.e_notV, ↓DL.e_ife, ↓DL.e_nil, ↓DL.e_cons, ↓DL.e_tup, ↓DL.e_lst, ↓DL.e_lstM, ↓DL.e_noPart, ↓DL.e_part, ↓DL.e_sl, ↓DL.e_cb, ↓DL.e_mtL, ↓DL.e_mt0, ↓DL.e_mtS, ↓DL.e_mtS0, ↓DL.e_tru, ↓DL.e_lc, ↓DL.e_itS, ↓DL.e_itStr, ↓DL.e_rng1, ↓DL.e_rev, ↓DL.e_dic0, ↓DL.e_dic1, ↓DL.e_s0, ↓DL.e_s1, ↓DL.e_ct, ↓DL.e_cf, dstart, slot, gN, ↓asB_bl, ↓asI_int, ↓asS_str, cond_true, cond_false, List.map_cons, List.map_nil, List.length_cons, List.length_nil, List.set_cons_zero, List.set_cons_succ, Option.elim_some, Option.elim_none, List.cons_append, List.nil_append, List.replicate, Nat.sub_self, Nat.reduceSub, Nat.reduceAdd, Bool.not_true, Bool.not_false, setAll, Int.cast_ofNat_Int, Int.reduceLT, Int.reduceLE, Int.reduceBEq, Nat.reduceBEq, decide_true, decide_false, ↓DL.pred_s, ↓DL.len_str, ↓DL.len_tup, ↓DL.len_lst, ↓DL.le_ii, ↓DL.le_ss, ↓DL.cmp_ii, ↓DL.add_ii, ↓DL.add_ib, ↓DL.add_bi, ↓DL.add_ss, ↓DL.add_tt, ↓DL.add_ll, ↓DL.sub_ii, ↓DL.sub_ib, ↓DL.sub_bi, ↓DL.mul_ii, ↓DL.ii_ii, ↓DL.neg_i, ↓DL.is_bb, ↓DL.isn_bb, ↓DL.all_b, ↓DL.all_map, ↓DL.sum_i, ↓DL.eq_ii, ↓DL.eq_bi, ↓DL.eq_t0, ↓DL.eq_l0, ↓DL.ne_ss, ↓DL.ne_ii, ↓DL.ne_t0, ↓DL.ne_l0, ↓DL.ix_tup, ↓DL.ix_lst, ↓DL.ix_str, ↓DL.in_c, ↓DL.nin_c, ↓DL.sl_str, ↓DL.sl_tup, ↓DL.sl_lst, ↓DL.app_1, ↓DL.pop_0, ↓DL.ext_t, ↓DL.tuple_l, ↓DL.list_t, ↓DL.list_l, ↓DL.int_b, ↓DL.int_i, ↓DL.min_ii, ↓DL.str_i, ↓DL.str_b, ↓DL.repr_1, ↓DL.back_t, ↓DL.tru_l, ↓DL.at0, ↓DL.at1, ↓DL.at2, ↓DL.at3]
        refine ⟨by omega, by omega, _, _, rfl, ?_, ?_, ?_⟩
        · simp only [good, goodA_cons, goodA, c1, Bool.and_true, Bool.and_eq_true]
          decide +kernel
        · simp only [sz, szA]; omega
        · simp only [dp, dpA]; omega
      · subst e
        subst hM
        dsimp only
        simp only [↓DL.e_next, ↓DL.e_seq, ↓DL.e_drop, ↓DL.e_ret, ↓DL.e_retN, ↓DL.e_if, ↓DL.e_cont, ↓DL.e_break, ↓DL.e_set, ↓DL.e_asg, ↓DL.e_par, ↓DL.e_setI, ↓DL.e_for, ↓DL.e_var, ↓DL.e_c, ↓DL.e_op, ↓DL.e_un, ↓DL.e_test, ↓DL.e_chain, ↓DL.e_and, ↓DL.e_or, ↓DL.e_not, ↓DL.e_andV, ↓DL.e_orV, ↓DL.e_notV, ↓DL.e_ife, ↓DL.e_nil, ↓DL.e_cons, ↓DL.e_tup, ↓DL.e_lst, ↓DL.e_lstM, ↓DL.e_noPart, ↓DL.e_part, ↓DL.e_sl, ↓DL.e_cb, ↓DL.e_mtL, ↓DL.e_mt0, ↓DL.e_mtS, ↓DL.e_mtS0, ↓DL.e_tru, ↓DL.e_lc, ↓DL.e_itS, ↓DL.e_itStr, ↓DL.e_rng1, ↓DL.e_rev, ↓DL.e_dic0, ↓DL.e_dic1, ↓DL.e_s0, ↓DL.e_s1, ↓DL.e_ct, ↓DL.e_cf, dstart, slot, gN, ↓asB_bl, ↓asI_int, ↓asS_str, cond_true, cond_false, List.map_cons, List.map_nil, List.length_cons, List.length_nil, List.set_cons_zero, List.set_cons_succ, Option.elim_some, Option.elim_none, List.cons_append, List.nil_append, List.replicate, Nat.sub_self, Nat.reduceSub, Nat.reduceAdd, Bool.not_true, Bool.not_false, setAll, Int.cast_ofNat_Int, Int.reduceLT, Int.reduceLE, Int.reduceBEq, Nat.reduceBEq, decide_true, decide_false, ↓DL.pred_s, ↓DL.len_str, ↓DL.len_tup, ↓DL.len_lst, ↓DL.le_ii, ↓DL.le_ss, ↓DL.cmp_ii, ↓DL.add_ii, ↓DL.add_ib, ↓DL.add_bi, ↓DL.add_ss, ↓DL.add_tt, ↓DL.add_ll, ↓DL.sub_ii, ↓DL.sub_ib, ↓DL.sub_bi, ↓DL.mul_ii, ↓DL.ii_ii, ↓DL.neg_i, ↓DL.is_bb, ↓DL.isn_bb, ↓DL.all_b, ↓DL.all_map, ↓DL.sum_i, ↓DL.eq_ii, ↓DL.eq_bi, ↓DL.eq_t0, ↓DL.eq_l0, ↓DL.ne_ss, ↓DL.ne_ii, ↓DL.ne_t0, ↓DL.ne_l0, ↓DL.ix_tup, ↓DL.ix_lst, ↓DL.ix_str, ↓DL.in_c, ↓DL.nin_c, ↓DL.sl_str, ↓DL.sl_tup, ↓DL.sl_lst, ↓DL.app_1, ↓DL.pop_0, ↓DL.ext_t, ↓DL.tuple_l, ↓DL.list_t, ↓DL.list_l, ↓DL.int_b, ↓DL.int_i, ↓DL.min_ii, ↓DL.str_i, ↓DL.str_b, ↓DL.repr_1, ↓DL.back_t, ↓DL.tru_l, ↓DL.at0, ↓DL.at1, ↓DL.at2, ↓DL.at3]
        rw [iota_len] at c2 c3
        simp only [show Int.toNat 70 = 70 from rfl] at c2 c3
        refine ⟨by omega, by omega, ⟨nofun, by decide, by decide, by decide⟩, ?_⟩
        obtain ⟨r1, r2, r3, r4⟩ := rep_facts (.tup [.str (Str.ofString "at"), .int 0]) (Int.toNat 449)
        have r3 := r3 (by decide +kernel)
        have r1 : szA _ = 449 * 3 := r1
        have r2 : dpA _ ≤ 1 := r2
        have r4 : List.length _ = 449 := r4
        revert r1 r2 r3 r4
        generalize (List.replicate (Int.toNat 449) ([.tup [.str (Str.ofString "at"), .int 0]] : List DL.D)).flatten = R
        intro r3 r1 r2 r4
        simp only [↓DL.e_next, ↓DL.e_seq, ↓DL.e_drop, ↓DL.e_ret, ↓DL.e_retN, ↓DL.e_if, ↓DL.e_cont, ↓DL.e_break, ↓DL.e_set, ↓DL.e_asg, ↓DL.e_par, ↓DL.e_setI, ↓DL.e_for, ↓DL.e_var, ↓DL.e_c, ↓DL.e_op, ↓DL.e_un, ↓DL.e_test, ↓DL.e_chain, ↓DL.e_and, ↓DL.e_or, ↓DL.e_not, ↓DL.e_andV, ↓DL.e_orV, ↓DL.e_notV, ↓DL.e_ife, ↓DL.e_nil, ↓DL.e_cons, ↓DL.e_tup, ↓DL.e_lst, ↓DL.e_lstM, ↓DL.e_noPart, ↓DL.e_part, ↓DL.e_sl, ↓DL.e_cb, ↓DL.e_mtL, ↓DL.e_mt0, ↓DL.e_mtS, ↓DL.e_mtS0, ↓DL.e_tru, ↓DL.e_lc, ↓DL.e_itS, ↓DL.e_itStr, ↓DL.e_rng1, ↓DL.e_rev, ↓DL.e_dic0, ↓DL.e_dic1, ↓DL.e_s0, ↓DL.e_s1, ↓DL.e_ct, ↓DL.e_cf, dstart, slot, gN, ↓asB_bl, ↓asI_int, ↓asS_str, cond_true, cond_false, List.map_cons, List.map_nil, List.length_cons, List.length_nil, List.set_cons_zero, List.set_cons_succ, Option.elim_some, Option.elim_none, List.cons_append, List.nil_append, List.replicate, Nat.sub_self, Nat.reduceSub, Nat.reduceAdd, Bool.not_true, Bool.not_false, setAll, Int.cast_ofNat_Int, Int.reduceLT, Int.reduceLE, Int.reduceBEq, Nat.reduceBEq, decide_true, decide_false, ↓DL.pred_s, ↓DL.len_str, ↓DL.len_tup, ↓DL.len_lst, ↓DL.le_ii, ↓DL.le_ss, ↓DL.cmp_ii, ↓DL.add_ii, ↓DL.add_ib, ↓DL.add_bi, ↓DL.add_ss, ↓DL.add_tt, ↓DL.add_ll, ↓DL.sub_ii, ↓DL.sub_ib, ↓DL.sub_bi, ↓DL.mul_ii, ↓DL.ii_ii, ↓DL.neg_i, ↓DL.is_bb, ↓DL.isn_bb, ↓DL.all_b, ↓DL.all_map, ↓DL.sum_i, ↓DL.eq_ii, ↓DL.eq_bi, ↓DL.eq_t0, ↓DL.eq_l0, ↓DL.ne_ss, ↓DL.ne_ii, ↓DL.ne_t0, ↓DL.ne_l0, ↓DL.ix_tup, ↓DL.ix_lst, ↓DL.ix_str, ↓DL.in_c, ↓DL.nin_c, ↓DL.sl_str, ↓DL.sl_tup, ↓DL.sl_lst, ↓DL.app_1, ↓DL.pop_0, ↓DL.ext_t, ↓DL.tuple_l, ↓DL.list_t, ↓DL.list_l, ↓DL.int_b, ↓DL.int_i, ↓DL.min_ii, ↓DL.str_i, ↓DL.str_b, ↓DL.repr_1, ↓DL.back_t, ↓DL.tru_l, ↓DL.at0, ↓DL.at1, ↓DL.at2, ↓DL.at3]
        refine ⟨by omega, by rw [r4]; omega, by omega, by omega, by omega, _, _, _, _, rfl, fun v hv => ?_, by rw [List.length_append, show ([ch, .tup [.str (Str.ofString "call"), .str (Str.ofString "a"), .tup (R ++ [d8])]] : List DL.D).length = 2 from rfl]; omega⟩
        rcases List.mem_append.mp hv with hv | hv
        · exact gT v hv
        simp only [List.mem_cons, List.not_mem_nil, or_false] at hv
        rcases hv with rfl | rfl
        · exact ⟨c1, by omega, by omega⟩
        · refine ⟨?_, ?_, ?_⟩
          · simp only [good, goodA_cons, goodA, goodA_append, q8.1, Bool.and_true]
            rw [show goodA 3 R = true from r3]
            decide +kernel
          · have := q8.2.1
            simp only [sz, szA, szA_append, r1]; omega
          · have := q8.2.2
            simp only [dp, dpA, dpA_append]; omega
    · subst e
      subst hM
      dsimp only
      simp only [↓DL.e_next, ↓DL.e_seq, ↓DL.e_drop, ↓DL.e_ret, ↓DL.e_retN, ↓DL.e_if, ↓DL.e_cont, ↓DL.e_break, ↓DL.e_set, ↓DL.e_asg, ↓DL.e_par, ↓DL.e_setI, ↓DL.e_for, ↓DL.e_var, ↓DL.e_c, ↓DL.e_op, ↓DL.e_un, ↓DL.e_test, ↓DL.e_chain, ↓DL.e_and, ↓DL.e_or, ↓DL.e_not, ↓DL.e_andV, ↓DL.e_orV, ↓DL.e_notV, ↓DL.e_ife, ↓DL.e_nil, ↓DL.e_cons, ↓DL.e_tup, ↓DL.e_lst, ↓DL.e_lstM, ↓DL.e_noPart, ↓DL.e_part, ↓DL.e_sl, ↓DL.e_cb, ↓DL.e_mtL, ↓DL.e_mt0, ↓DL.e_mtS, ↓DL.e_mtS0, ↓DL.e_tru, ↓DL.e_lc, ↓DL.e_itS, ↓DL.e_itStr, ↓DL.e_rng1, ↓DL.e_rev, ↓DL.e_dic0, ↓DL.e_dic1, ↓DL.e_s0, ↓DL.e_s1, ↓DL.e_ct, ↓DL.e_cf, dstart, slot, gN, ↓asB_bl, ↓asI_int, ↓asS_str, cond_true, cond_false, List.map_cons, List.map_nil, List.length_cons, List.length_nil, List.set_cons_zero, List.set_cons_succ, Option.elim_some, Option.elim_none, List.cons_append, List.nil_append, List.replicate, Nat.sub_self, Nat.reduceSub, Nat.reduceAdd, Bool.not_true, Bool.not_false, setAll, Int.cast_ofNat_Int, Int.reduceLT, Int.reduceLE, Int.reduceBEq, Nat.reduceBEq, decide_true, decide_false, ↓DL.pred_s, ↓DL.len_str, ↓DL.len_tup, ↓DL.len_lst, ↓DL.le_ii, ↓DL.le_ss, ↓DL.cmp_ii, ↓DL.add_ii, ↓DL.add_ib, ↓DL.add_bi, ↓DL.add_ss, ↓DL.add_tt, ↓DL.add_ll, ↓DL.sub_ii, ↓DL.sub_ib, ↓DL.sub_bi, ↓DL.mul_ii, ↓DL.ii_ii, ↓DL.neg_i, ↓DL.is_bb, ↓DL.isn_bb, ↓DL.all_b, ↓DL.all_map, ↓DL.sum_i, ↓DL.eq_ii, ↓DL.eq_bi, ↓DL.eq_t0, ↓DL.eq_l0, ↓DL.ne_ss, ↓DL.ne_ii, ↓DL.ne_t0, ↓DL.ne_l0, ↓DL.ix_tup, ↓DL.ix_lst, ↓DL.ix_str, ↓DL.in_c, ↓DL.nin_c, ↓DL.sl_str, ↓DL.sl_tup, ↓DL.sl_lst, ↓DL.app_1, ↓DL.pop_0, ↓DL.ext_t, ↓DL.tuple_l, ↓DL.list_t, ↓DL.list_l, ↓DL.int_b, ↓DL.int_i, ↓DL.min_ii, ↓DL.str_i, ↓DL.str_b, ↓DL.repr_1, ↓DL.back_t, ↓DL.tru_l, ↓DL.at0, ↓DL.at1, ↓DL.at2, ↓DL.at3]
      have nT : T.length ≤ 34 := nT
      refine lc_grow (fun _ => false) (fun d => d) (by omega) (fun d hd S2 Q q => ?_) (fun d hd e => absurd e Bool.false_ne_true) fun S' s' => ?_
      · simp only [↓DL.e_next, ↓DL.e_seq, ↓DL.e_drop, ↓DL.e_ret, ↓DL.e_retN, ↓DL.e_if, ↓DL.e_cont, ↓DL.e_break, ↓DL.e_set, ↓DL.e_asg, ↓DL.e_par, ↓DL.e_setI, ↓DL.e_for, ↓DL.e_var, ↓DL.e_c, ↓DL.e_op, ↓DL.e_un, ↓DL.e_test, ↓DL.e_chain, ↓DL.e_and, ↓DL.e_or, ↓DL.e_not, ↓DL.e_andV, ↓DL.e_orV, ↓DL.e_notV, ↓DL.e_ife, ↓DL.e_nil, ↓DL.e_cons, ↓DL.e_tup, ↓DL.e_lst, ↓DL.e_lstM, ↓DL.e_noPart, ↓DL.e_part, ↓DL.e_sl, ↓DL.e_cb, ↓DL.e_mtL, ↓DL.e_mt0, ↓DL.e_mtS, ↓DL.e_mtS0, ↓DL.e_tru, ↓DL.e_lc, ↓DL.e_itS, ↓DL.e_itStr, ↓DL.e_rng1, ↓DL.e_rev, ↓DL.e_dic0, ↓DL.e_dic1, ↓DL.e_s0, ↓DL.e_s1, ↓DL.e_ct, ↓DL.e_cf, dstart, slot, gN, ↓asB_bl, ↓asI_int, ↓asS_str, cond_true, cond_false, List.map_cons, List.map_nil, List.length_cons, List.length_nil, List.set_cons_zero, List.set_cons_succ, Option.elim_some, Option.elim_none, List.cons_append, List.nil_append, List.replicate, Nat.sub_self, Nat.reduceSub, Nat.reduceAdd, Bool.not_true, Bool.not_false, setAll, Int.cast_ofNat_Int, Int.reduceLT, Int.reduceLE, Int.reduceBEq, Nat.reduceBEq, decide_true, decide_false, ↓DL.pred_s, ↓DL.len_str, ↓DL.len_tup, ↓DL.len_lst, ↓DL.le_ii, ↓DL.le_ss, ↓DL.cmp_ii, ↓DL.add_ii, ↓DL.add_ib, ↓DL.add_bi, ↓DL.add_ss, ↓DL.add_tt, ↓DL.add_ll, ↓DL.sub_ii, ↓DL.sub_ib, ↓DL.sub_bi, ↓DL.mul_ii, ↓DL.ii_ii, ↓DL.neg_i, ↓DL.is_bb, ↓DL.isn_bb, ↓DL.all_b, ↓DL.all_map, ↓DL.sum_i, ↓DL.eq_ii, ↓DL.eq_bi, ↓DL.eq_t0, ↓DL.eq_l0, ↓DL.ne_ss, ↓DL.ne_ii, ↓DL.ne_t0, ↓DL.ne_l0, ↓DL.ix_tup, ↓DL.ix_lst, ↓DL.ix_str, ↓DL.in_c, ↓DL.nin_c, ↓DL.sl_str, ↓DL.sl_tup, ↓DL.sl_lst, ↓DL.app_1, ↓DL.pop_0, ↓DL.ext_t, ↓DL.tuple_l, ↓DL.list_t, ↓DL.list_l, ↓DL.int_b, ↓DL.int_i, ↓DL.min_ii, ↓DL.str_i, ↓DL.str_b, ↓DL.repr_1, ↓DL.back_t, ↓DL.tru_l, ↓DL.at0, ↓DL.at1, ↓DL.at2, ↓DL.at3]
        exact ⟨d, rfl, gT d hd, q⟩
      · refine ⟨by omega, ?_⟩
        rw [List.filter_eq_nil_iff.mpr (fun _ _ => Bool.false_ne_true)]
        exact h S'
end
end K01
set_option Elab.async false
set_option linter.all false
set_option maxRecDepth 100000
set_option maxHeartbeats 1000000
namespace K01
open PySem PySem.Spec PyProof.Rows L2 DL
theorem small1 {n : Nat} (h : n ≤ 1000) : n ≤ sizeLine := Nat.le_of_lt (small1000 h)
theorem def_mk {K : PySem.W.Frag} {h : Heap} {mg : Str → Option Value} {x : Str} {st : Stmt} {ps : List Str} {f : Addr} {oc kV doc pm cdv ct : Value} {od an : Option Addr} {osl : Array (Option Value)} (X : K.In h) (G : h.Ns mainGlobals mg)
    (a : PySem.W.nsIn K mainGlobals x = some (some (.ref f))) (l : K.lookup f = some ⟨oc, od, .func (PySem.W.fnOf x x (defArgs st) (defBody st) (defScope st) .none kV doc pm an cdv ct), osl⟩) (c : PySem.W.codeIn K cdv x = true) (k : PySem.W.keepIn K (.ref f) = true)
    (hb : ∀ (kV doc pm : Value) (an : Option Addr) (cdv ct : Value) (us : List Value), us.length = ps.length → bindArgs (PySem.W.fnOf x x (defArgs st) (defBody st) (defScope st) .none kV doc pm an cdv ct) ⟨us, []⟩ = pure (ps.zip us)) : DL.Def K mg x st ps :=
  ⟨f, _, fun_mk l c k, (fun_mk l c k).binds hb, PySem.W.mg_of X G a⟩
theorem all_mk {l : PySem.W.OpenLaw} {w : World} {K : PySem.W.Frag} {h : Heap} {mg : Str → Option Value} {fa : Addr} (X : K.In h) (G : h.Ns mainGlobals mg) (hfa : mg "law" = some (.ref fa))
    {f_is_count : Addr} {od_is_count an_is_count : Option Addr} {sl_is_count : Array (Option Value)} {oc_is_count kV_is_count dc_is_count pm_is_count cd_is_count ct_is_count : Value}
    (a_is_count : PySem.W.nsIn K mainGlobals "is_count" = some (some (.ref f_is_count))) (l_is_count : K.lookup f_is_count = some ⟨oc_is_count, od_is_count, .func (PySem.W.fnOf "is_count" "is_count" (defArgs st_is_count) (defBody st_is_count) (defScope st_is_count) .none kV_is_count dc_is_count pm_is_count an_is_count cd_is_count ct_is_count), sl_is_count⟩) (c_is_count : PySem.W.codeIn K cd_is_count "is_count" = true) (k_is_count : PySem.W.keepIn K (.ref f_is_count) = true)
    {f_is_figures : Addr} {od_is_figures an_is_figures : Option Addr} {sl_is_figures : Array (Option Value)} {oc_is_figures kV_is_figures dc_is_figures pm_is_figures cd_is_figures ct_is_figures : Value}
    (a_is_figures : PySem.W.nsIn K mainGlobals "is_figures" = some (some (.ref f_is_figures))) (l_is_figures : K.lookup f_is_figures = some ⟨oc_is_figures, od_is_figures, .func (PySem.W.fnOf "is_figures" "is_figures" (defArgs st_is_figures) (defBody st_is_figures) (defScope st_is_figures) .none kV_is_figures dc_is_figures pm_is_figures an_is_figures cd_is_figures ct_is_figures), sl_is_figures⟩) (c_is_figures : PySem.W.codeIn K cd_is_figures "is_figures" = true) (k_is_figures : PySem.W.keepIn K (.ref f_is_figures) = true)
    {f_is_name : Addr} {od_is_name an_is_name : Option Addr} {sl_is_name : Array (Option Value)} {oc_is_name kV_is_name dc_is_name pm_is_name cd_is_name ct_is_name : Value}
    (a_is_name : PySem.W.nsIn K mainGlobals "is_name" = some (some (.ref f_is_name))) (l_is_name : K.lookup f_is_name = some ⟨oc_is_name, od_is_name, .func (PySem.W.fnOf "is_name" "is_name" (defArgs st_is_name) (defBody st_is_name) (defScope st_is_name) .none kV_is_name dc_is_name pm_is_name an_is_name cd_is_name ct_is_name), sl_is_name⟩) (c_is_name : PySem.W.codeIn K cd_is_name "is_name" = true) (k_is_name : PySem.W.keepIn K (.ref f_is_name) = true)
    {f_is_far : Addr} {od_is_far an_is_far : Option Addr} {sl_is_far : Array (Option Value)} {oc_is_far kV_is_far dc_is_far pm_is_far cd_is_far ct_is_far : Value}
    (a_is_far : PySem.W.nsIn K mainGlobals "is_far" = some (some (.ref f_is_far))) (l_is_far : K.lookup f_is_far = some ⟨oc_is_far, od_is_far, .func (PySem.W.fnOf "is_far" "is_far" (defArgs st_is_far) (defBody st_is_far) (defScope st_is_far) .none kV_is_far dc_is_far pm_is_far an_is_far cd_is_far ct_is_far), sl_is_far⟩) (c_is_far : PySem.W.codeIn K cd_is_far "is_far" = true) (k_is_far : PySem.W.keepIn K (.ref f_is_far) = true)
    {f_is_near_or_far : Addr} {od_is_near_or_far an_is_near_or_far : Option Addr} {sl_is_near_or_far : Array (Option Value)} {oc_is_near_or_far kV_is_near_or_far dc_is_near_or_far pm_is_near_or_far cd_is_near_or_far ct_is_near_or_far : Value}
    (a_is_near_or_far : PySem.W.nsIn K mainGlobals "is_near_or_far" = some (some (.ref f_is_near_or_far))) (l_is_near_or_far : K.lookup f_is_near_or_far = some ⟨oc_is_near_or_far, od_is_near_or_far, .func (PySem.W.fnOf "is_near_or_far" "is_near_or_far" (defArgs st_is_near_or_far) (defBody st_is_near_or_far) (defScope st_is_near_or_far) .none kV_is_near_or_far dc_is_near_or_far pm_is_near_or_far an_is_near_or_far cd_is_near_or_far ct_is_near_or_far), sl_is_near_or_far⟩) (c_is_near_or_far : PySem.W.codeIn K cd_is_near_or_far "is_near_or_far" = true) (k_is_near_or_far : PySem.W.keepIn K (.ref f_is_near_or_far) = true)
    {f_is_mark : Addr} {od_is_mark an_is_mark : Option Addr} {sl_is_mark : Array (Option Value)} {oc_is_mark kV_is_mark dc_is_mark pm_is_mark cd_is_mark ct_is_mark : Value}
    (a_is_mark : PySem.W.nsIn K mainGlobals "is_mark" = some (some (.ref f_is_mark))) (l_is_mark : K.lookup f_is_mark = some ⟨oc_is_mark, od_is_mark, .func (PySem.W.fnOf "is_mark" "is_mark" (defArgs st_is_mark) (defBody st_is_mark) (defScope st_is_mark) .none kV_is_mark dc_is_mark pm_is_mark an_is_mark cd_is_mark ct_is_mark), sl_is_mark⟩) (c_is_mark : PySem.W.codeIn K cd_is_mark "is_mark" = true) (k_is_mark : PySem.W.keepIn K (.ref f_is_mark) = true)
    {f_is_leaf : Addr} {od_is_leaf an_is_leaf : Option Addr} {sl_is_leaf : Array (Option Value)} {oc_is_leaf kV_is_leaf dc_is_leaf pm_is_leaf cd_is_leaf ct_is_leaf : Value}
    (a_is_leaf : PySem.W.nsIn K mainGlobals "is_leaf" = some (some (.ref f_is_leaf))) (l_is_leaf : K.lookup f_is_leaf = some ⟨oc_is_leaf, od_is_leaf, .func (PySem.W.fnOf "is_leaf" "is_leaf" (defArgs st_is_leaf) (defBody st_is_leaf) (defScope st_is_leaf) .none kV_is_leaf dc_is_leaf pm_is_leaf an_is_leaf cd_is_leaf ct_is_leaf), sl_is_leaf⟩) (c_is_leaf : PySem.W.codeIn K cd_is_leaf "is_leaf" = true) (k_is_leaf : PySem.W.keepIn K (.ref f_is_leaf) = true)
    {f_formed_parts : Addr} {od_formed_parts an_formed_parts : Option Addr} {sl_formed_parts : Array (Option Value)} {oc_formed_parts kV_formed_parts dc_formed_parts pm_formed_parts cd_formed_parts ct_formed_parts : Value}
    (a_formed_parts : PySem.W.nsIn K mainGlobals "formed_parts" = some (some (.ref f_formed_parts))) (l_formed_parts : K.lookup f_formed_parts = some ⟨oc_formed_parts, od_formed_parts, .func (PySem.W.fnOf "formed_parts" "formed_parts" (defArgs st_formed_parts) (defBody st_formed_parts) (defScope st_formed_parts) .none kV_formed_parts dc_formed_parts pm_formed_parts an_formed_parts cd_formed_parts ct_formed_parts), sl_formed_parts⟩) (c_formed_parts : PySem.W.codeIn K cd_formed_parts "formed_parts" = true) (k_formed_parts : PySem.W.keepIn K (.ref f_formed_parts) = true)
    {f_told_holes : Addr} {od_told_holes an_told_holes : Option Addr} {sl_told_holes : Array (Option Value)} {oc_told_holes kV_told_holes dc_told_holes pm_told_holes cd_told_holes ct_told_holes : Value}
    (a_told_holes : PySem.W.nsIn K mainGlobals "told_holes" = some (some (.ref f_told_holes))) (l_told_holes : K.lookup f_told_holes = some ⟨oc_told_holes, od_told_holes, .func (PySem.W.fnOf "told_holes" "told_holes" (defArgs st_told_holes) (defBody st_told_holes) (defScope st_told_holes) .none kV_told_holes dc_told_holes pm_told_holes an_told_holes cd_told_holes ct_told_holes), sl_told_holes⟩) (c_told_holes : PySem.W.codeIn K cd_told_holes "told_holes" = true) (k_told_holes : PySem.W.keepIn K (.ref f_told_holes) = true)
    {f_is_term : Addr} {od_is_term an_is_term : Option Addr} {sl_is_term : Array (Option Value)} {oc_is_term kV_is_term dc_is_term pm_is_term cd_is_term ct_is_term : Value}
    (a_is_term : PySem.W.nsIn K mainGlobals "is_term" = some (some (.ref f_is_term))) (l_is_term : K.lookup f_is_term = some ⟨oc_is_term, od_is_term, .func (PySem.W.fnOf "is_term" "is_term" (defArgs st_is_term) (defBody st_is_term) (defScope st_is_term) .none kV_is_term dc_is_term pm_is_term an_is_term cd_is_term ct_is_term), sl_is_term⟩) (c_is_term : PySem.W.codeIn K cd_is_term "is_term" = true) (k_is_term : PySem.W.keepIn K (.ref f_is_term) = true)
    {f_l_deck : Addr} {od_l_deck an_l_deck : Option Addr} {sl_l_deck : Array (Option Value)} {oc_l_deck kV_l_deck dc_l_deck pm_l_deck cd_l_deck ct_l_deck : Value}
    (a_l_deck : PySem.W.nsIn K mainGlobals "_law_deck" = some (some (.ref f_l_deck))) (l_l_deck : K.lookup f_l_deck = some ⟨oc_l_deck, od_l_deck, .func (PySem.W.fnOf "_law_deck" "_law_deck" (defArgs st_l_deck) (defBody st_l_deck) (defScope st_l_deck) .none kV_l_deck dc_l_deck pm_l_deck an_l_deck cd_l_deck ct_l_deck), sl_l_deck⟩) (c_l_deck : PySem.W.codeIn K cd_l_deck "_law_deck" = true) (k_l_deck : PySem.W.keepIn K (.ref f_l_deck) = true)
    {f_l_draw : Addr} {od_l_draw an_l_draw : Option Addr} {sl_l_draw : Array (Option Value)} {oc_l_draw kV_l_draw dc_l_draw pm_l_draw cd_l_draw ct_l_draw : Value}
    (a_l_draw : PySem.W.nsIn K mainGlobals "_law_draw" = some (some (.ref f_l_draw))) (l_l_draw : K.lookup f_l_draw = some ⟨oc_l_draw, od_l_draw, .func (PySem.W.fnOf "_law_draw" "_law_draw" (defArgs st_l_draw) (defBody st_l_draw) (defScope st_l_draw) .none kV_l_draw dc_l_draw pm_l_draw an_l_draw cd_l_draw ct_l_draw), sl_l_draw⟩) (c_l_draw : PySem.W.codeIn K cd_l_draw "_law_draw" = true) (k_l_draw : PySem.W.keepIn K (.ref f_l_draw) = true)
    {f_l_name : Addr} {od_l_name an_l_name : Option Addr} {sl_l_name : Array (Option Value)} {oc_l_name kV_l_name dc_l_name pm_l_name cd_l_name ct_l_name : Value}
    (a_l_name : PySem.W.nsIn K mainGlobals "_law_name" = some (some (.ref f_l_name))) (l_l_name : K.lookup f_l_name = some ⟨oc_l_name, od_l_name, .func (PySem.W.fnOf "_law_name" "_law_name" (defArgs st_l_name) (defBody st_l_name) (defScope st_l_name) .none kV_l_name dc_l_name pm_l_name an_l_name cd_l_name ct_l_name), sl_l_name⟩) (c_l_name : PySem.W.codeIn K cd_l_name "_law_name" = true) (k_l_name : PySem.W.keepIn K (.ref f_l_name) = true)
    {f_l_far : Addr} {od_l_far an_l_far : Option Addr} {sl_l_far : Array (Option Value)} {oc_l_far kV_l_far dc_l_far pm_l_far cd_l_far ct_l_far : Value}
    (a_l_far : PySem.W.nsIn K mainGlobals "_law_far" = some (some (.ref f_l_far))) (l_l_far : K.lookup f_l_far = some ⟨oc_l_far, od_l_far, .func (PySem.W.fnOf "_law_far" "_law_far" (defArgs st_l_far) (defBody st_l_far) (defScope st_l_far) .none kV_l_far dc_l_far pm_l_far an_l_far cd_l_far ct_l_far), sl_l_far⟩) (c_l_far : PySem.W.codeIn K cd_l_far "_law_far" = true) (k_l_far : PySem.W.keepIn K (.ref f_l_far) = true)
    {f_l_called : Addr} {od_l_called an_l_called : Option Addr} {sl_l_called : Array (Option Value)} {oc_l_called kV_l_called dc_l_called pm_l_called cd_l_called ct_l_called : Value}
    (a_l_called : PySem.W.nsIn K mainGlobals "_law_called" = some (some (.ref f_l_called))) (l_l_called : K.lookup f_l_called = some ⟨oc_l_called, od_l_called, .func (PySem.W.fnOf "_law_called" "_law_called" (defArgs st_l_called) (defBody st_l_called) (defScope st_l_called) .none kV_l_called dc_l_called pm_l_called an_l_called cd_l_called ct_l_called), sl_l_called⟩) (c_l_called : PySem.W.codeIn K cd_l_called "_law_called" = true) (k_l_called : PySem.W.keepIn K (.ref f_l_called) = true)
    {f_l_leaf : Addr} {od_l_leaf an_l_leaf : Option Addr} {sl_l_leaf : Array (Option Value)} {oc_l_leaf kV_l_leaf dc_l_leaf pm_l_leaf cd_l_leaf ct_l_leaf : Value}
    (a_l_leaf : PySem.W.nsIn K mainGlobals "_law_leaf" = some (some (.ref f_l_leaf))) (l_l_leaf : K.lookup f_l_leaf = some ⟨oc_l_leaf, od_l_leaf, .func (PySem.W.fnOf "_law_leaf" "_law_leaf" (defArgs st_l_leaf) (defBody st_l_leaf) (defScope st_l_leaf) .none kV_l_leaf dc_l_leaf pm_l_leaf an_l_leaf cd_l_leaf ct_l_leaf), sl_l_leaf⟩) (c_l_leaf : PySem.W.codeIn K cd_l_leaf "_law_leaf" = true) (k_l_leaf : PySem.W.keepIn K (.ref f_l_leaf) = true)
    {f_l_term : Addr} {od_l_term an_l_term : Option Addr} {sl_l_term : Array (Option Value)} {oc_l_term kV_l_term dc_l_term pm_l_term cd_l_term ct_l_term : Value}
    (a_l_term : PySem.W.nsIn K mainGlobals "_law_term" = some (some (.ref f_l_term))) (l_l_term : K.lookup f_l_term = some ⟨oc_l_term, od_l_term, .func (PySem.W.fnOf "_law_term" "_law_term" (defArgs st_l_term) (defBody st_l_term) (defScope st_l_term) .none kV_l_term dc_l_term pm_l_term an_l_term cd_l_term ct_l_term), sl_l_term⟩) (c_l_term : PySem.W.codeIn K cd_l_term "_law_term" = true) (k_l_term : PySem.W.keepIn K (.ref f_l_term) = true)
    {f_l_odd : Addr} {od_l_odd an_l_odd : Option Addr} {sl_l_odd : Array (Option Value)} {oc_l_odd kV_l_odd dc_l_odd pm_l_odd cd_l_odd ct_l_odd : Value}
    (a_l_odd : PySem.W.nsIn K mainGlobals "_law_odd" = some (some (.ref f_l_odd))) (l_l_odd : K.lookup f_l_odd = some ⟨oc_l_odd, od_l_odd, .func (PySem.W.fnOf "_law_odd" "_law_odd" (defArgs st_l_odd) (defBody st_l_odd) (defScope st_l_odd) .none kV_l_odd dc_l_odd pm_l_odd an_l_odd cd_l_odd ct_l_odd), sl_l_odd⟩) (c_l_odd : PySem.W.codeIn K cd_l_odd "_law_odd" = true) (k_l_odd : PySem.W.keepIn K (.ref f_l_odd) = true)
    {f_l_bent : Addr} {od_l_bent an_l_bent : Option Addr} {sl_l_bent : Array (Option Value)} {oc_l_bent kV_l_bent dc_l_bent pm_l_bent cd_l_bent ct_l_bent : Value}
    (a_l_bent : PySem.W.nsIn K mainGlobals "_law_bent" = some (some (.ref f_l_bent))) (l_l_bent : K.lookup f_l_bent = some ⟨oc_l_bent, od_l_bent, .func (PySem.W.fnOf "_law_bent" "_law_bent" (defArgs st_l_bent) (defBody st_l_bent) (defScope st_l_bent) .none kV_l_bent dc_l_bent pm_l_bent an_l_bent cd_l_bent ct_l_bent), sl_l_bent⟩) (c_l_bent : PySem.W.codeIn K cd_l_bent "_law_bent" = true) (k_l_bent : PySem.W.keepIn K (.ref f_l_bent) = true)
    {f_l_is_whole : Addr} {od_l_is_whole an_l_is_whole : Option Addr} {sl_l_is_whole : Array (Option Value)} {oc_l_is_whole kV_l_is_whole dc_l_is_whole pm_l_is_whole cd_l_is_whole ct_l_is_whole : Value}
    (a_l_is_whole : PySem.W.nsIn K mainGlobals "_law_is_whole" = some (some (.ref f_l_is_whole))) (l_l_is_whole : K.lookup f_l_is_whole = some ⟨oc_l_is_whole, od_l_is_whole, .func (PySem.W.fnOf "_law_is_whole" "_law_is_whole" (defArgs st_l_is_whole) (defBody st_l_is_whole) (defScope st_l_is_whole) .none kV_l_is_whole dc_l_is_whole pm_l_is_whole an_l_is_whole cd_l_is_whole ct_l_is_whole), sl_l_is_whole⟩) (c_l_is_whole : PySem.W.codeIn K cd_l_is_whole "_law_is_whole" = true) (k_l_is_whole : PySem.W.keepIn K (.ref f_l_is_whole) = true)
    {f_l_is_name : Addr} {od_l_is_name an_l_is_name : Option Addr} {sl_l_is_name : Array (Option Value)} {oc_l_is_name kV_l_is_name dc_l_is_name pm_l_is_name cd_l_is_name ct_l_is_name : Value}
    (a_l_is_name : PySem.W.nsIn K mainGlobals "_law_is_name" = some (some (.ref f_l_is_name))) (l_l_is_name : K.lookup f_l_is_name = some ⟨oc_l_is_name, od_l_is_name, .func (PySem.W.fnOf "_law_is_name" "_law_is_name" (defArgs st_l_is_name) (defBody st_l_is_name) (defScope st_l_is_name) .none kV_l_is_name dc_l_is_name pm_l_is_name an_l_is_name cd_l_is_name ct_l_is_name), sl_l_is_name⟩) (c_l_is_name : PySem.W.codeIn K cd_l_is_name "_law_is_name" = true) (k_l_is_name : PySem.W.keepIn K (.ref f_l_is_name) = true)
    {f_l_is_far : Addr} {od_l_is_far an_l_is_far : Option Addr} {sl_l_is_far : Array (Option Value)} {oc_l_is_far kV_l_is_far dc_l_is_far pm_l_is_far cd_l_is_far ct_l_is_far : Value}
    (a_l_is_far : PySem.W.nsIn K mainGlobals "_law_is_far" = some (some (.ref f_l_is_far))) (l_l_is_far : K.lookup f_l_is_far = some ⟨oc_l_is_far, od_l_is_far, .func (PySem.W.fnOf "_law_is_far" "_law_is_far" (defArgs st_l_is_far) (defBody st_l_is_far) (defScope st_l_is_far) .none kV_l_is_far dc_l_is_far pm_l_is_far an_l_is_far cd_l_is_far ct_l_is_far), sl_l_is_far⟩) (c_l_is_far : PySem.W.codeIn K cd_l_is_far "_law_is_far" = true) (k_l_is_far : PySem.W.keepIn K (.ref f_l_is_far) = true)
    {f_l_is_mark : Addr} {od_l_is_mark an_l_is_mark : Option Addr} {sl_l_is_mark : Array (Option Value)} {oc_l_is_mark kV_l_is_mark dc_l_is_mark pm_l_is_mark cd_l_is_mark ct_l_is_mark : Value}
    (a_l_is_mark : PySem.W.nsIn K mainGlobals "_law_is_mark" = some (some (.ref f_l_is_mark))) (l_l_is_mark : K.lookup f_l_is_mark = some ⟨oc_l_is_mark, od_l_is_mark, .func (PySem.W.fnOf "_law_is_mark" "_law_is_mark" (defArgs st_l_is_mark) (defBody st_l_is_mark) (defScope st_l_is_mark) .none kV_l_is_mark dc_l_is_mark pm_l_is_mark an_l_is_mark cd_l_is_mark ct_l_is_mark), sl_l_is_mark⟩) (c_l_is_mark : PySem.W.codeIn K cd_l_is_mark "_law_is_mark" = true) (k_l_is_mark : PySem.W.keepIn K (.ref f_l_is_mark) = true)
    {f_l_are_terms : Addr} {od_l_are_terms an_l_are_terms : Option Addr} {sl_l_are_terms : Array (Option Value)} {oc_l_are_terms kV_l_are_terms dc_l_are_terms pm_l_are_terms cd_l_are_terms ct_l_are_terms : Value}
    (a_l_are_terms : PySem.W.nsIn K mainGlobals "_law_are_terms" = some (some (.ref f_l_are_terms))) (l_l_are_terms : K.lookup f_l_are_terms = some ⟨oc_l_are_terms, od_l_are_terms, .func (PySem.W.fnOf "_law_are_terms" "_law_are_terms" (defArgs st_l_are_terms) (defBody st_l_are_terms) (defScope st_l_are_terms) .none kV_l_are_terms dc_l_are_terms pm_l_are_terms an_l_are_terms cd_l_are_terms ct_l_are_terms), sl_l_are_terms⟩) (c_l_are_terms : PySem.W.codeIn K cd_l_are_terms "_law_are_terms" = true) (k_l_are_terms : PySem.W.keepIn K (.ref f_l_are_terms) = true)
    {f_l_is_term : Addr} {od_l_is_term an_l_is_term : Option Addr} {sl_l_is_term : Array (Option Value)} {oc_l_is_term kV_l_is_term dc_l_is_term pm_l_is_term cd_l_is_term ct_l_is_term : Value}
    (a_l_is_term : PySem.W.nsIn K mainGlobals "_law_is_term" = some (some (.ref f_l_is_term))) (l_l_is_term : K.lookup f_l_is_term = some ⟨oc_l_is_term, od_l_is_term, .func (PySem.W.fnOf "_law_is_term" "_law_is_term" (defArgs st_l_is_term) (defBody st_l_is_term) (defScope st_l_is_term) .none kV_l_is_term dc_l_is_term pm_l_is_term an_l_is_term cd_l_is_term ct_l_is_term), sl_l_is_term⟩) (c_l_is_term : PySem.W.codeIn K cd_l_is_term "_law_is_term" = true) (k_l_is_term : PySem.W.keepIn K (.ref f_l_is_term) = true)
    {f_l_right : Addr} {od_l_right an_l_right : Option Addr} {sl_l_right : Array (Option Value)} {oc_l_right kV_l_right dc_l_right pm_l_right cd_l_right ct_l_right : Value}
    (a_l_right : PySem.W.nsIn K mainGlobals "_law_right" = some (some (.ref f_l_right))) (l_l_right : K.lookup f_l_right = some ⟨oc_l_right, od_l_right, .func (PySem.W.fnOf "_law_right" "_law_right" (defArgs st_l_right) (defBody st_l_right) (defScope st_l_right) .none kV_l_right dc_l_right pm_l_right an_l_right cd_l_right ct_l_right), sl_l_right⟩) (c_l_right : PySem.W.codeIn K cd_l_right "_law_right" = true) (k_l_right : PySem.W.keepIn K (.ref f_l_right) = true)
    {f_l_names_right : Addr} {od_l_names_right an_l_names_right : Option Addr} {sl_l_names_right : Array (Option Value)} {oc_l_names_right kV_l_names_right dc_l_names_right pm_l_names_right cd_l_names_right ct_l_names_right : Value}
    (a_l_names_right : PySem.W.nsIn K mainGlobals "_law_names_right" = some (some (.ref f_l_names_right))) (l_l_names_right : K.lookup f_l_names_right = some ⟨oc_l_names_right, od_l_names_right, .func (PySem.W.fnOf "_law_names_right" "_law_names_right" (defArgs st_l_names_right) (defBody st_l_names_right) (defScope st_l_names_right) .none kV_l_names_right dc_l_names_right pm_l_names_right an_l_names_right cd_l_names_right ct_l_names_right), sl_l_names_right⟩) (c_l_names_right : PySem.W.codeIn K cd_l_names_right "_law_names_right" = true) (k_l_names_right : PySem.W.keepIn K (.ref f_l_names_right) = true)
    {f_law : Addr} {od_law an_law : Option Addr} {sl_law : Array (Option Value)} {oc_law kV_law dc_law pm_law cd_law ct_law : Value}
    (a_law : PySem.W.nsIn K mainGlobals "law" = some (some (.ref f_law))) (l_law : K.lookup f_law = some ⟨oc_law, od_law, .func (PySem.W.fnOf "law" "law" (defArgs st_law) (defBody st_law) (defScope st_law) .none kV_law dc_law pm_law an_law cd_law ct_law), sl_law⟩) (c_law : PySem.W.codeIn K cd_law "law" = true) (k_law : PySem.W.keepIn K (.ref f_law) = true)
    (z_isinstance : PySem.W.nsIn K mainGlobals "isinstance" = some none)
    (z_bool : PySem.W.nsIn K mainGlobals "bool" = some none)
    (z_int : PySem.W.nsIn K mainGlobals "int" = some none)
    (z_len : PySem.W.nsIn K mainGlobals "len" = some none)
    (z_str : PySem.W.nsIn K mainGlobals "str" = some none)
    (z_tuple : PySem.W.nsIn K mainGlobals "tuple" = some none)
    (z_sum : PySem.W.nsIn K mainGlobals "sum" = some none)
    (z_list : PySem.W.nsIn K mainGlobals "list" = some none)
    (z_range : PySem.W.nsIn K mainGlobals "range" = some none)
    (z_min : PySem.W.nsIn K mainGlobals "min" = some none)
    (z_repr : PySem.W.nsIn K mainGlobals "repr" = some none)
    {u_LONGEST_NAME : _} (v_LONGEST_NAME : PySem.W.nsIn K mainGlobals "LONGEST_NAME" = some (some (.int 8 u_LONGEST_NAME)))
    {u_MOST_FIGURES : _} (v_MOST_FIGURES : PySem.W.nsIn K mainGlobals "MOST_FIGURES" = some (some (.int 40 u_MOST_FIGURES)))
    {u_HIGHEST_WORLD : _} (v_HIGHEST_WORLD : PySem.W.nsIn K mainGlobals "HIGHEST_WORLD" = some (some (.int 9 u_HIGHEST_WORLD)))
    {r_MARKS : Addr} {t0_MARKS t1_MARKS : _} {w_MARKS : Option Addr} {n_MARKS : Nat} {s_MARKS : Array (Option Value)} (v_MARKS : PySem.W.nsIn K mainGlobals "MARKS" = some (some (.ref r_MARKS))) (x_MARKS : K.lookup r_MARKS = some ⟨.type "tuple", w_MARKS, .seq #[.str "run" t0_MARKS, .str "gone" t1_MARKS] n_MARKS, s_MARKS⟩)
    : ∃ fd : FuncData, (∀ (s : Shared) (v : Value), BindsTo s fd ⟨[v], []⟩ [("_law_script", v)]) ∧ ∀ base : Heap, K.In base → base.Ns mainGlobals mg → FnD l.prog w K mg base 200 fa fd ["_law_script"] sp_law := by
  have e := hfa.symm.trans (PySem.W.mg_of X G a_law)
  cases e
  have D_is_count := def_mk (st := st_is_count) (ps := ["thing"]) X G a_is_count l_is_count c_is_count k_is_count fun _ _ _ _ _ _ us hl => match us, hl with | [_], _ => rfl
  have D_is_figures := def_mk (st := st_is_figures) (ps := ["text"]) X G a_is_figures l_is_figures c_is_figures k_is_figures fun _ _ _ _ _ _ us hl => match us, hl with | [_], _ => rfl
  have D_is_name := def_mk (st := st_is_name) (ps := ["thing"]) X G a_is_name l_is_name c_is_name k_is_name fun _ _ _ _ _ _ us hl => match us, hl with | [_], _ => rfl
  have D_is_far := def_mk (st := st_is_far) (ps := ["thing"]) X G a_is_far l_is_far c_is_far k_is_far fun _ _ _ _ _ _ us hl => match us, hl with | [_], _ => rfl
  have D_is_near_or_far := def_mk (st := st_is_near_or_far) (ps := ["thing"]) X G a_is_near_or_far l_is_near_or_far c_is_near_or_far k_is_near_or_far fun _ _ _ _ _ _ us hl => match us, hl with | [_], _ => rfl
  have D_is_mark := def_mk (st := st_is_mark) (ps := ["thing"]) X G a_is_mark l_is_mark c_is_mark k_is_mark fun _ _ _ _ _ _ us hl => match us, hl with | [_], _ => rfl
  have D_is_leaf := def_mk (st := st_is_leaf) (ps := ["word", "told"]) X G a_is_leaf l_is_leaf c_is_leaf k_is_leaf fun _ _ _ _ _ _ us hl => match us, hl with | [_, _], _ => rfl
  have D_formed_parts := def_mk (st := st_formed_parts) (ps := ["thing"]) X G a_formed_parts l_formed_parts c_formed_parts k_formed_parts fun _ _ _ _ _ _ us hl => match us, hl with | [_], _ => rfl
  have D_told_holes := def_mk (st := st_told_holes) (ps := ["things"]) X G a_told_holes l_told_holes c_told_holes k_told_holes fun _ _ _ _ _ _ us hl => match us, hl with | [_], _ => rfl
  have D_is_term := def_mk (st := st_is_term) (ps := ["thing"]) X G a_is_term l_is_term c_is_term k_is_term fun _ _ _ _ _ _ us hl => match us, hl with | [_], _ => rfl
  have D_l_deck := def_mk (st := st_l_deck) (ps := ["_law_script"]) X G a_l_deck l_l_deck c_l_deck k_l_deck fun _ _ _ _ _ _ us hl => match us, hl with | [_], _ => rfl
  have D_l_draw := def_mk (st := st_l_draw) (ps := ["_law_deck_here", "_law_ways"]) X G a_l_draw l_l_draw c_l_draw k_l_draw fun _ _ _ _ _ _ us hl => match us, hl with | [_, _], _ => rfl
  have D_l_name := def_mk (st := st_l_name) (ps := ["_law_deck_here"]) X G a_l_name l_l_name c_l_name k_l_name fun _ _ _ _ _ _ us hl => match us, hl with | [_], _ => rfl
  have D_l_far := def_mk (st := st_l_far) (ps := ["_law_deck_here"]) X G a_l_far l_l_far c_l_far k_l_far fun _ _ _ _ _ _ us hl => match us, hl with | [_], _ => rfl
  have D_l_called := def_mk (st := st_l_called) (ps := ["_law_deck_here"]) X G a_l_called l_l_called c_l_called k_l_called fun _ _ _ _ _ _ us hl => match us, hl with | [_], _ => rfl
  have D_l_leaf := def_mk (st := st_l_leaf) (ps := ["_law_deck_here"]) X G a_l_leaf l_l_leaf c_l_leaf k_l_leaf fun _ _ _ _ _ _ us hl => match us, hl with | [_], _ => rfl
  have D_l_term := def_mk (st := st_l_term) (ps := ["_law_deck_here", "_law_deep", "_law_left"]) X G a_l_term l_l_term c_l_term k_l_term fun _ _ _ _ _ _ us hl => match us, hl with | [_, _, _], _ => rfl
  have D_l_odd := def_mk (st := st_l_odd) (ps := ["_law_deck_here", "_law_thing"]) X G a_l_odd l_l_odd c_l_odd k_l_odd fun _ _ _ _ _ _ us hl => match us, hl with | [_, _], _ => rfl
  have D_l_bent := def_mk (st := st_l_bent) (ps := ["_law_deck_here", "_law_thing"]) X G a_l_bent l_l_bent c_l_bent k_l_bent fun _ _ _ _ _ _ us hl => match us, hl with | [_, _], _ => rfl
  have D_l_is_whole := def_mk (st := st_l_is_whole) (ps := ["_law_thing"]) X G a_l_is_whole l_l_is_whole c_l_is_whole k_l_is_whole fun _ _ _ _ _ _ us hl => match us, hl with | [_], _ => rfl
  have D_l_is_name := def_mk (st := st_l_is_name) (ps := ["_law_thing"]) X G a_l_is_name l_l_is_name c_l_is_name k_l_is_name fun _ _ _ _ _ _ us hl => match us, hl with | [_], _ => rfl
  have D_l_is_far := def_mk (st := st_l_is_far) (ps := ["_law_thing"]) X G a_l_is_far l_l_is_far c_l_is_far k_l_is_far fun _ _ _ _ _ _ us hl => match us, hl with | [_], _ => rfl
  have D_l_is_mark := def_mk (st := st_l_is_mark) (ps := ["_law_thing"]) X G a_l_is_mark l_l_is_mark c_l_is_mark k_l_is_mark fun _ _ _ _ _ _ us hl => match us, hl with | [_], _ => rfl
  have D_l_are_terms := def_mk (st := st_l_are_terms) (ps := ["_law_thing"]) X G a_l_are_terms l_l_are_terms c_l_are_terms k_l_are_terms fun _ _ _ _ _ _ us hl => match us, hl with | [_], _ => rfl
  have D_l_is_term := def_mk (st := st_l_is_term) (ps := ["_law_thing"]) X G a_l_is_term l_l_is_term c_l_is_term k_l_is_term fun _ _ _ _ _ _ us hl => match us, hl with | [_], _ => rfl
  have D_l_right := def_mk (st := st_l_right) (ps := ["_law_thing"]) X G a_l_right l_l_right c_l_right k_l_right fun _ _ _ _ _ _ us hl => match us, hl with | [_], _ => rfl
  have D_l_names_right := def_mk (st := st_l_names_right) (ps := ["_law_deck_here"]) X G a_l_names_right l_l_names_right c_l_names_right k_l_names_right fun _ _ _ _ _ _ us hl => match us, hl with | [_], _ => rfl
  have F_law := fun_mk (st := st_law) l_law c_law k_law
  have m_isinstance := PySem.W.mg_none_of X G z_isinstance
  have m_bool := PySem.W.mg_none_of X G z_bool
  have m_int := PySem.W.mg_none_of X G z_int
  have m_len := PySem.W.mg_none_of X G z_len
  have m_str := PySem.W.mg_none_of X G z_str
  have m_tuple := PySem.W.mg_none_of X G z_tuple
  have m_sum := PySem.W.mg_none_of X G z_sum
  have m_list := PySem.W.mg_none_of X G z_list
  have m_range := PySem.W.mg_none_of X G z_range
  have m_min := PySem.W.mg_none_of X G z_min
  have m_repr := PySem.W.mg_none_of X G z_repr
  have C_LONGEST_NAME : Con K mg "LONGEST_NAME" co_LONGEST_NAME := ⟨.int 8, _, PySem.W.mg_of X G v_LONGEST_NAME, ⟨_, rfl⟩, fun _ => rfl⟩
  have C_MOST_FIGURES : Con K mg "MOST_FIGURES" co_MOST_FIGURES := ⟨.int 40, _, PySem.W.mg_of X G v_MOST_FIGURES, ⟨_, rfl⟩, fun _ => rfl⟩
  have C_HIGHEST_WORLD : Con K mg "HIGHEST_WORLD" co_HIGHEST_WORLD := ⟨.int 9, _, PySem.W.mg_of X G v_HIGHEST_WORLD, ⟨_, rfl⟩, fun _ => rfl⟩
  have C_MARKS : Con K mg "MARKS" co_MARKS := ⟨.ref r_MARKS, _, PySem.W.mg_of X G v_MARKS, rfl, fun _ => ⟨_, _, rfl, .inr ⟨_, _, _, x_MARKS, rfl, rfl, small1 (by show 2 ≤ 1000; decide), (.cons (show RelV (.str "run") _ from ⟨_, rfl⟩) (.cons (show RelV (.str "gone") _ from ⟨_, rfl⟩) .nil))⟩, ⟨_, _, rfl, rfl, ⟨_, _, rfl, rfl, rfl⟩⟩⟩⟩
  refine ⟨PySem.W.fnOf "law" "law" (defArgs st_law) (defBody st_law) (defScope st_law) .none kV_law dc_law pm_law an_law cd_law ct_law, fun s v => .of_eq rfl, fun base _ _ => ?_⟩
  have g_cnt := (ok_is_count (P := l.prog) (w := w) (base := base) (k := 0) D_is_count m_isinstance m_bool m_int)
  have g_fig := (ok_is_figures (P := l.prog) (w := w) (base := base) (k := 0) D_is_figures m_len C_MOST_FIGURES)
  have g_name := (ok_is_name (P := l.prog) (w := w) (base := base) (k := 0) D_is_name m_len m_isinstance m_str C_LONGEST_NAME)
  have g_far := ok_is_far (k := 1) D_is_far g_name g_fig m_len m_isinstance m_str
  have g_nf := ok_is_near_or_far (k := 2) D_is_near_or_far g_far (g_name.mono (by omega))
  have g_mark := (ok_is_mark (P := l.prog) (w := w) (base := base) (k := 0) D_is_mark C_MARKS)
  have g_leafy := ok_is_leaf (k := 1) D_is_leaf g_name g_cnt C_HIGHEST_WORLD
  have g_form := ok_formed_parts (k := 3) D_formed_parts (g_mark.mono (by omega)) (g_name.mono (by omega)) g_nf (g_leafy.mono (by omega)) m_isinstance m_tuple m_len
  have g_told := ok_told_holes (k := 4) D_told_holes g_form m_list
  have g_term := ok_is_term (k := 5) D_is_term g_told
  have d_deck := (ok_l_deck (P := l.prog) (w := w) (base := base) (k := 0) D_l_deck m_sum m_len m_list)
  have d_draw := (ok_l_draw (P := l.prog) (w := w) (base := base) (k := 0) D_l_draw)
  have d_name := ok_l_name (k := 1) D_l_name d_draw m_range
  have d_far := ok_l_far (k := 2) D_l_far d_name (d_draw.mono (by omega)) m_str
  have d_called := ok_l_called (k := 3) D_l_called (d_draw.mono (by omega)) d_far (d_name.mono (by omega))
  have d_leaf := ok_l_leaf (k := 2) D_l_leaf d_name (d_draw.mono (by omega))
  have d_term := all_term (k := 4) D_l_term d_called (d_name.mono (by omega)) (d_draw.mono (by omega)) (d_leaf.mono (by omega)) m_tuple m_range m_min 12
  have d_odd := ok_l_odd (k := 1) D_l_odd d_draw m_list m_len m_isinstance m_tuple m_int m_str
  have d_bent := all_bent (k := 2) D_l_bent d_odd (d_draw.mono (by omega)) m_isinstance m_tuple m_len m_int 30
  have e_whole := (ok_l_is_whole (P := l.prog) (w := w) (base := base) (k := 0) D_l_is_whole m_isinstance m_bool m_int)
  have e_name := (ok_l_is_name (P := l.prog) (w := w) (base := base) (k := 0) D_l_is_name m_len m_isinstance m_str)
  have e_far := ok_l_is_far (k := 1) D_l_is_far e_name m_len m_isinstance m_str
  have e_mark := (ok_l_is_mark (P := l.prog) (w := w) (base := base) (k := 0) D_l_is_mark m_isinstance m_str)
  have e_term := (all_look (k := 2) D_l_is_term D_l_are_terms (e_name.mono (by omega)) e_far (e_mark.mono (by omega)) (e_whole.mono (by omega)) m_int m_len m_isinstance m_str m_tuple 145).1
  have e_right := ok_l_right (k := 147) D_l_right (g_far.mono (by omega)) (g_name.mono (by omega)) (g_term.mono (by omega)) (e_far.mono (by omega)) (e_name.mono (by omega)) e_term m_range m_repr
  have e_names := ok_l_names_right (k := 148) D_l_names_right (d_far.mono (by omega)) (d_name.mono (by omega)) (g_far.mono (by omega)) (g_name.mono (by omega)) (d_odd.mono (by omega)) e_right
  exact (ok_law (k := 149) F_law (e_right.mono (by omega)) e_names (d_bent.mono (by omega)) (g_term.mono (by omega)) (d_term.mono (by omega)) (d_draw.mono (by omega)) (d_deck.mono (by omega)) m_range).mono (by omega)
end K01
open PySem PySem.W PyProof.Rows
set_option maxRecDepth 100000 in
set_option maxHeartbeats 0 in
theorem PySem.Challenge.cw_kindsbyworth_k01_terms_of_anything_holds : PySem.Challenge.rw_kindsbyworth_k01_terms_of_anything.Holds := by
  w_on; o_law; k_head; (case hw => w_witness2)
  k_fill
  refine DL.walkD (l := PySem.Challenge.rw_kindsbyworth_k01_terms_of_anything) (n := 63) (k := 200) (x := "_law_script") (sp := K01.sp_law) rfl (by decide) rfl ⟨rfl, by decide, by decide⟩ (fun w h Y => PySem.W.kIn_of Y) ?F (fun ns h => ⟨ns, rfl, h, fun _ => rfl⟩)
  case F =>
    intro w mg fa h KX G hmg
    refine' K01.all_mk KX G hmg ?a_is_count ?l_is_count ?c_is_count ?k_is_count ?a_is_figures ?l_is_figures ?c_is_figures ?k_is_figures ?a_is_name ?l_is_name ?c_is_name ?k_is_name ?a_is_far ?l_is_far ?c_is_far ?k_is_far ?a_is_near_or_far ?l_is_near_or_far ?c_is_near_or_far ?k_is_near_or_far ?a_is_mark ?l_is_mark ?c_is_mark ?k_is_mark ?a_is_leaf ?l_is_leaf ?c_is_leaf ?k_is_leaf ?a_formed_parts ?l_formed_parts ?c_formed_parts ?k_formed_parts ?a_told_holes ?l_told_holes ?c_told_holes ?k_told_holes ?a_is_term ?l_is_term ?c_is_term ?k_is_term ?a_l_deck ?l_l_deck ?c_l_deck ?k_l_deck ?a_l_draw ?l_l_draw ?c_l_draw ?k_l_draw ?a_l_name ?l_l_name ?c_l_name ?k_l_name ?a_l_far ?l_l_far ?c_l_far ?k_l_far ?a_l_called ?l_l_called ?c_l_called ?k_l_called ?a_l_leaf ?l_l_leaf ?c_l_leaf ?k_l_leaf ?a_l_term ?l_l_term ?c_l_term ?k_l_term ?a_l_odd ?l_l_odd ?c_l_odd ?k_l_odd ?a_l_bent ?l_l_bent ?c_l_bent ?k_l_bent ?a_l_is_whole ?l_l_is_whole ?c_l_is_whole ?k_l_is_whole ?a_l_is_name ?l_l_is_name ?c_l_is_name ?k_l_is_name ?a_l_is_far ?l_l_is_far ?c_l_is_far ?k_l_is_far ?a_l_is_mark ?l_l_is_mark ?c_l_is_mark ?k_l_is_mark ?a_l_are_terms ?l_l_are_terms ?c_l_are_terms ?k_l_are_terms ?a_l_is_term ?l_l_is_term ?c_l_is_term ?k_l_is_term ?a_l_right ?l_l_right ?c_l_right ?k_l_right ?a_l_names_right ?l_l_names_right ?c_l_names_right ?k_l_names_right ?a_law ?l_law ?c_law ?k_law ?z_isinstance ?z_bool ?z_int ?z_len ?z_str ?z_tuple ?z_sum ?z_list ?z_range ?z_min ?z_repr ?v_LONGEST_NAME ?v_MOST_FIGURES ?v_HIGHEST_WORLD ?v_MARKS ?x_MARKS
    (case a_is_count => k_is); (case l_is_count => k_is); (case c_is_count => k_is); (case k_is_count => k_is); (case a_is_figures => k_is); (case l_is_figures => k_is)
    (case c_is_figures => k_is); (case k_is_figures => k_is); (case a_is_name => k_is); (case l_is_name => k_is); (case c_is_name => k_is); (case k_is_name => k_is)
    (case a_is_far => k_is); (case l_is_far => k_is); (case c_is_far => k_is); (case k_is_far => k_is); (case a_is_near_or_far => k_is); (case l_is_near_or_far => k_is)
    (case c_is_near_or_far => k_is); (case k_is_near_or_far => k_is); (case a_is_mark => k_is); (case l_is_mark => k_is); (case c_is_mark => k_is); (case k_is_mark => k_is)
    (case a_is_leaf => k_is); (case l_is_leaf => k_is); (case c_is_leaf => k_is); (case k_is_leaf => k_is); (case a_formed_parts => k_is); (case l_formed_parts => k_is)
    (case c_formed_parts => k_is); (case k_formed_parts => k_is); (case a_told_holes => k_is); (case l_told_holes => k_is); (case c_told_holes => k_is); (case k_told_holes => k_is)
    (case a_is_term => k_is); (case l_is_term => k_is); (case c_is_term => k_is); (case k_is_term => k_is); (case a_l_deck => k_is); (case l_l_deck => k_is)
    (case c_l_deck => k_is); (case k_l_deck => k_is); (case a_l_draw => k_is); (case l_l_draw => k_is); (case c_l_draw => k_is); (case k_l_draw => k_is)
    (case a_l_name => k_is); (case l_l_name => k_is); (case c_l_name => k_is); (case k_l_name => k_is); (case a_l_far => k_is); (case l_l_far => k_is)
    (case c_l_far => k_is); (case k_l_far => k_is); (case a_l_called => k_is); (case l_l_called => k_is); (case c_l_called => k_is); (case k_l_called => k_is)
    (case a_l_leaf => k_is); (case l_l_leaf => k_is); (case c_l_leaf => k_is); (case k_l_leaf => k_is); (case a_l_term => k_is); (case l_l_term => k_is)
    (case c_l_term => k_is); (case k_l_term => k_is); (case a_l_odd => k_is); (case l_l_odd => k_is); (case c_l_odd => k_is); (case k_l_odd => k_is)
    (case a_l_bent => k_is); (case l_l_bent => k_is); (case c_l_bent => k_is); (case k_l_bent => k_is); (case a_l_is_whole => k_is); (case l_l_is_whole => k_is)
    (case c_l_is_whole => k_is); (case k_l_is_whole => k_is); (case a_l_is_name => k_is); (case l_l_is_name => k_is); (case c_l_is_name => k_is); (case k_l_is_name => k_is)
    (case a_l_is_far => k_is); (case l_l_is_far => k_is); (case c_l_is_far => k_is); (case k_l_is_far => k_is); (case a_l_is_mark => k_is); (case l_l_is_mark => k_is)
    (case c_l_is_mark => k_is); (case k_l_is_mark => k_is); (case a_l_are_terms => k_is); (case l_l_are_terms => k_is); (case c_l_are_terms => k_is); (case k_l_are_terms => k_is)
    (case a_l_is_term => k_is); (case l_l_is_term => k_is); (case c_l_is_term => k_is); (case k_l_is_term => k_is); (case a_l_right => k_is); (case l_l_right => k_is)
    (case c_l_right => k_is); (case k_l_right => k_is); (case a_l_names_right => k_is); (case l_l_names_right => k_is); (case c_l_names_right => k_is); (case k_l_names_right => k_is)
    (case a_law => k_is); (case l_law => k_is); (case c_law => k_is); (case k_law => k_is); (case z_isinstance => k_is); (case z_bool => k_is)
    (case z_int => k_is); (case z_len => k_is); (case z_str => k_is); (case z_tuple => k_is); (case z_sum => k_is); (case z_list => k_is)
    (case z_range => k_is); (case z_min => k_is); (case z_repr => k_is); (case v_LONGEST_NAME => k_is); (case v_MOST_FIGURES => k_is); (case v_HIGHEST_WORLD => k_is)
    (case v_MARKS => k_is); (case x_MARKS => k_is)
