import PyProof.Rows.All
import Wide.All
import OpenK.AllK
import Wide.FinOn
import Lean
import PyProof.EqAt
import PyProof.EqKinds
import PyProof.TupleCall
import PySem.Challenge.RW_coinrows_k06_a_turn_made
set_option Elab.async false
set_option linter.all false
set_option maxRecDepth 100000
namespace L2
open PySem PySem.Spec PyProof.Rows
abbrev Key := Sum Int Str
def keyIs : Key → Value → Bool
  | .inl k, v => Value.isInt k v
  | .inr x, v => Value.isStrOf x v
def keyH (w : World) : Key → Int
  | .inl k => hashInt k
  | .inr x => hashStr w x
theorem keyIs_shape : ∀ {k : Key} {v : Value}, keyIs k v = true → (∃ i t, k = Sum.inl i ∧ v = Value.int i t) ∨ (∃ x t, k = Sum.inr x ∧ v = Value.str x t)
  | .inl i, v, h => by
    obtain ⟨t, e⟩ := Value.isInt_shape (k := i) (v := v) h
    exact .inl ⟨i, t, rfl, e⟩
  | .inr x, v, h => by
    obtain ⟨t, e⟩ := Value.isStrOf_shape (x := x) (v := v) h
    exact .inr ⟨x, t, rfl, e⟩
theorem keyIs_int (i : Int) (t : Tok) : keyIs (.inl i) (.int i t) = true := by simp [keyIs, Value.isInt]
theorem keyIs_str (x : Str) (t : Tok) : keyIs (.inr x) (.str x t) = true := by simp [keyIs, Value.isStrOf]
theorem key_ll (a b : Int) : decide ((Sum.inl a : Key) = Sum.inl b) = (a == b) := by
  by_cases e : a = b
  · subst e; simp
  · have h : ¬ (Sum.inl a : Key) = Sum.inl b := fun q => e (Sum.inl.inj q)
    rw [decide_eq_false h]
    exact (beq_eq_false_iff_ne.mpr e).symm
theorem key_rr (a b : Str) : decide ((Sum.inr a : Key) = Sum.inr b) = decide (a = b) := by
  by_cases e : a = b
  · subst e; simp
  · have h : ¬ (Sum.inr a : Key) = Sum.inr b := fun q => e (Sum.inr.inj q)
    rw [decide_eq_false h, decide_eq_false e]
theorem key_lr (a : Int) (b : Str) : decide ((Sum.inl a : Key) = Sum.inr b) = false := decide_eq_false (fun q => nomatch q)
theorem key_rl (a : Str) (b : Int) : decide ((Sum.inr a : Key) = Sum.inl b) = false := decide_eq_false (fun q => nomatch q)
def mixKind (prog : Program) (w : World) : PySem.KeyKind prog w Key where
  is := keyIs
  hash := keyH w
  inj := fun v a b ha hb => by
    rcases keyIs_shape ha with ⟨i, t, rfl, rfl⟩ | ⟨x, t, rfl, rfl⟩
    · rcases keyIs_shape hb with ⟨j, u, rfl, e⟩ | ⟨y, u, rfl, e⟩
      · injection e with e1 _; rw [e1]
      · exact nomatch e
    · rcases keyIs_shape hb with ⟨j, u, rfl, e⟩ | ⟨y, u, rfl, e⟩
      · exact nomatch e
      · injection e with e1 _; rw [e1]
  byValue := fun k v h => by
    rcases keyIs_shape h with ⟨i, t, rfl, rfl⟩ | ⟨x, t, rfl, rfl⟩ <;> rfl
  pyHash := fun hv h => by
    rcases keyIs_shape hv with ⟨i, t, rfl, rfl⟩ | ⟨x, t, rfl, rfl⟩
    · exact wpAny_pyHash_int h
    · exact wpAny_pyHash_str h
  eqBool := fun hu hv h => by
    rcases keyIs_shape hu with ⟨i, t, rfl, rfl⟩ | ⟨x, t, rfl, rfl⟩
    · rcases keyIs_shape hv with ⟨j, u, rfl, rfl⟩ | ⟨y, u, rfl, rfl⟩
      · rw [key_ll] at h; exact wpAny_eqBool_int h
      · rw [key_lr] at h; exact SeqAt.EqAt.int_str i t y u _ _ _ _ h
    · rcases keyIs_shape hv with ⟨j, u, rfl, rfl⟩ | ⟨y, u, rfl, rfl⟩
      · rw [key_rl] at h; exact SeqAt.EqAt.str_int x t j u _ _ _ _ h
      · rw [key_rr] at h; exact wpAny_eqBool_str h
  «strs» := fun k x t v h => by
    rcases keyIs_shape h with ⟨i, u, rfl, e⟩ | ⟨y, u, rfl, e⟩
    · exact nomatch e
    · injection e with e1 _
      subst e1
      cases v <;> rfl
theorem mixKind_int (prog : Program) (w : World) (i : Int) (t : Tok) : (mixKind prog w).is (.inl i) (.int i t) = true := keyIs_int i t
theorem mixKind_str (prog : Program) (w : World) (x : Str) (t : Tok) : (mixKind prog w).is (.inr x) (.str x t) = true := keyIs_str x t
end L2
namespace L2
open PySem PySem.Spec PyProof.Rows
inductive V where
  | non | bl (b : Bool) | int (i : Int) | str (x : Str) | byt (b : Array UInt8) | flt (b : UInt64) | ref (a : Addr) | ty (n : String)
  deriving DecidableEq
def RelV : V → Value → Prop
  | .non, u => u = Value.none
  | .bl b, u => u = Value.bool b
  | .int i, u => ∃ t, u = Value.int i t
  | .str x, u => ∃ t, u = Value.str x t
  | .byt b, u => ∃ t, u = Value.bytes b t
  | .flt b, u => ∃ t, u = Value.float b t
  | .ref a, u => u = Value.ref a
  | .ty n, u => u = Value.type n
abbrev Vals : List V → List Value → Prop := Paired RelV
theorem Vals.length {xs : List V} {us : List Value} (r : Vals xs us) : xs.length = us.length := Paired.length r
theorem Vals.get : ∀ {xs : List V} {us : List Value} {i : Nat} {x : V}, Vals xs us → xs[i]? = some x → ∃ u, us[i]? = some u ∧ RelV x u
  | _, _, _, _, .nil, e => by simp at e
  | _, _, 0, _, .cons r _, e => by simp at e; subst e; exact ⟨_, rfl, r⟩
  | _, _, i + 1, x, .cons _ t, e => by
    obtain ⟨u, h1, h2⟩ := Vals.get (i := i) (x := x) t (by simpa using e)
    exact ⟨u, by simpa using h1, h2⟩
theorem Vals.set {x : V} {u : Value} (r : RelV x u) : ∀ {xs : List V} {us : List Value} (i : Nat), Vals xs us → Vals (xs.set i x) (us.set i u)
  | _, _, _, .nil => .nil
  | _, _, 0, .cons _ t => .cons r t
  | _, _, i + 1, .cons q t => .cons q (Vals.set r i t)
theorem Vals.append : ∀ {xs ys : List V} {us ws : List Value}, Vals xs us → Vals ys ws → Vals (xs ++ ys) (us ++ ws)
  | _, _, _, _, .nil, s => s
  | _, _, _, _, .cons r t, s => .cons r (Vals.append t s)
theorem Vals.take : ∀ {xs : List V} {us : List Value} (n : Nat), Vals xs us → Vals (xs.take n) (us.take n)
  | _, _, 0, _ => .nil
  | _, _, _ + 1, .nil => .nil
  | _, _, n + 1, .cons r t => .cons r (Vals.take n t)
theorem Vals.drop : ∀ {xs : List V} {us : List Value} (n : Nat), Vals xs us → Vals (xs.drop n) (us.drop n)
  | _, _, 0, r => r
  | _, _, _ + 1, .nil => .nil
  | _, _, n + 1, .cons _ t => Vals.drop n t
theorem Vals.none_of : ∀ {xs : List V} {us : List Value} {i : Nat}, Vals xs us → xs[i]? = none → us[i]? = none := fun {xs us i} r e => by
  have h1 := r.length
  have h2 : xs.length ≤ i := List.getElem?_eq_none_iff.mp e
  exact List.getElem?_eq_none_iff.mpr (by omega)
def RelO : Option V → Option Value → Prop
  | some v, some u => RelV v u
  | none, none => True
  | _, _ => False
def KV {κ : Type} : List (κ × V) → List (κ × Value) → Prop := Paired fun (p : κ × V) (q : κ × Value) => p.1 = q.1 ∧ RelV p.2 q.2
def kV : Key → V
  | .inl i => .int i
  | .inr x => .str x
inductive HO where
    | lst (xs : List V)
    | tup (xs : List V)
    | dK (kvs : List (Key × V)) | dT (kvs : List (List Key × V))
    | set (S : Int → Bool) (n : Nat)
    | ins (C dx : Addr) (fs : List (Str × V))
    | own (x : Addr)
    | xd (fs : List (Str × V))
    | met (f x : Addr)
    | rng (lo hi : Int)
    | frz (o : Obj) (u : HO)
    | tbl (ps : Array Value)
    | ext (φ : Heap → Prop)
abbrev Hp := Addr → Option HO
def upd (H : Hp) (a : Addr) (o : HO) : Hp := fun b => if b = a then some o else H b
theorem upd_same {H : Hp} {a : Addr} {o : HO} : upd H a o a = some o := by unfold upd; rw [if_pos rfl]
theorem upd_ne {H : Hp} {a b : Addr} {o : HO} (h : b ≠ a) : upd H a o b = H b := by unfold upd; rw [if_neg h]
theorem upd_upd {H : Hp} {a : Addr} {o u : HO} : upd (upd H a o) a u = upd H a u := by
  funext b; unfold upd; split <;> rfl
theorem ne_of {H : Hp} {a b : Addr} {o u : HO} (h : H a = some o) (h' : H b = some u) (d : o ≠ u) : a ≠ b := by
  intro e; subst e; rw [h] at h'; exact d (Option.some.inj h')
theorem ne_of_none {H : Hp} {a b : Addr} {o : HO} (h : H a = some o) (h' : H b = none) : a ≠ b := by
  intro e; subst e; rw [h] at h'; cases h'
section
variable (P : Program) (w : World)
def ObjOk (H : Hp) (h : Heap) (a : Addr) : HO → Prop
  | .lst xs => xs.length ≤ sizeLine ∧ ∃ (its : List Value) (n : Nat), Vals xs its ∧ h.get? a = some { cls := .type "list", data := .seq its.toArray n }
  | .tup xs => xs.length ≤ sizeLine ∧ ∃ its : List Value, Vals xs its ∧ IsTup h a its.toArray
  | .dK kvs => kvs.length ≤ sizeLine ∧ (a == sysModules) = false ∧ ∃ vs, KV kvs vs ∧ h.DictOf (mixKind P w) a vs
  | .dT kvs => kvs.length ≤ sizeLine ∧ (a == sysModules) = false ∧ ∃ xs : List (List Key × Addr × Value),
      Paired (fun (p : List Key × V) (q : List Key × Addr × Value) => p.1 = q.1 ∧ H q.2.1 = some (.tup (p.1.map kV)) ∧ RelV p.2 q.2.2) kvs xs ∧
      ∃ o es ep, h.get? a = some o ∧ o.ExactDict ∧ o.data = .dict es ep ∧ es.toList = xs.map (entryOfKey (tupleKind (mixKind P w))) ∧ (xs.map (·.1)).Nodup
  | .set S n => h.SetOf (intKind P w) a S n
  | .ins C dx fs => H dx = some (.own a) ∧ fs.length ≤ 1000 ∧ dx ≠ a ∧ h.get? a = some (PySem.W.instObj C dx) ∧
      ∃ mA, h.Ns1 dx mA ∧ (∀ f, RelO (fs.lookup f) (mA f)) ∧ PySem.Within mA (fs.map (·.1))
  | .own _ => ∃ o, h.get? a = some o
  | .xd fs => ∃ mA, h.Ns1 a mA ∧ ∀ f, RelO (fs.lookup f) (mA f)
  | .rng lo hi => ∃ t u v, h.get? a = some { cls := .type "range", data := .fields #[.int lo t, .int hi u, .int 1 v] }
  | .frz o u => h.get? a = some o ∧ ObjOk H h a u
  | .tbl ps => h.get? a = some { cls := .none, data := .fields ps }
  | .met f x => h.get? a = some (PySem.W.methodObj (.ref f) (.ref x))
  | .ext φ => φ h ∧ (∃ o, h.get? a = some o) ∧ ∀ h1 h2 : Heap, φ h1 → (∀ o, h1.get? a = some o → h2.get? a = some o) → φ h2
def HOk (H : Hp) (h : Heap) : Prop := ∀ a o, H a = some o → ObjOk P w H h a o
end
section
variable {P : Program} {w : World} {H H' : Hp} {h h' : Heap} {a : Addr} {o : HO}
theorem ObjOk.lt (x : ObjOk P w H h a o) : a < h.objs.size := by
  cases o with
  | lst xs => obtain ⟨_, _, _, _, e⟩ := x; exact Heap.lt_size e
  | tup xs => obtain ⟨_, _, _, p⟩ := x; exact p.lt
  | dK kvs => obtain ⟨_, _, _, _, o, _, _, e, _⟩ := x; exact Heap.lt_size e
  | dT kvs => obtain ⟨_, _, _, _, o, _, _, e, _⟩ := x; exact Heap.lt_size e
  | set S n => obtain ⟨o, _, _, _, e, _⟩ := x; exact Heap.lt_size e
  | ins C dx fs => obtain ⟨_, _, _, e, _⟩ := x; exact Heap.lt_size e
  | own y => obtain ⟨_, e⟩ := x; exact Heap.lt_size e
  | xd fs => obtain ⟨_, ⟨_, _, _, e, _⟩, _⟩ := x; exact Heap.lt_size e
  | rng lo hi => obtain ⟨_, _, _, e⟩ := x; exact Heap.lt_size e
  | frz ob u => obtain ⟨e, _⟩ := x; exact Heap.lt_size e
  | tbl ps => exact Heap.lt_size (show h.get? a = some _ from x)
  | met f y => exact Heap.lt_size (show h.get? a = some _ from x)
  | ext φ => obtain ⟨_, ⟨_, e⟩, _⟩ := x; exact Heap.lt_size e
theorem Paired.mapP {α β : Type} {F G : α → β → Prop} : ∀ {l₁ : List α} {l₂ : List β}, Paired F l₁ l₂ → (∀ a b, F a b → G a b) → Paired G l₁ l₂
  | _, _, .nil, _ => .nil
  | _, _, .cons r t, f => .cons (f _ _ r) (Paired.mapP t f)
theorem ObjOk.stay (x : ObjOk P w H h a o) (k : ∀ b u, (b = a ∨ H b = some (.own a)) → h.get? b = some u → h'.get? b = some u)
    (ho : ∀ b, H b = some (.own a) → H' b = some (.own a)) (ht : ∀ b xs, H b = some (.tup xs) → H' b = some (.tup xs)) : ObjOk P w H' h' a o := by
  induction o with
  | lst xs => obtain ⟨z, its, n, r, e⟩ := x; exact ⟨z, its, n, r, k _ _ (.inl rfl) e⟩
  | tup xs => obtain ⟨z, its, r, ob, e, c⟩ := x; exact ⟨z, its, r, ob, k _ _ (.inl rfl) e, c⟩
  | dK kvs => obtain ⟨z, y, vs, r, ob, es, ep, e, c⟩ := x; exact ⟨z, y, vs, r, ob, es, ep, k _ _ (.inl rfl) e, c⟩
  | dT kvs =>
    obtain ⟨z, y, xs, r, ob, es, ep, e, c⟩ := x
    exact ⟨z, y, xs, Paired.mapP r fun p q z => ⟨z.1, ht _ _ z.2.1, z.2.2⟩, ob, es, ep, k _ _ (.inl rfl) e, c⟩
  | set S n => obtain ⟨ob, es, ep, t, e, c⟩ := x; exact ⟨ob, es, ep, t, k _ _ (.inl rfl) e, c⟩
  | ins C dx fs =>
    obtain ⟨d, z, ne, e, mA, ⟨od, es, ep, e2, c⟩, r⟩ := x
    exact ⟨ho _ d, z, ne, k _ _ (.inl rfl) e, mA, ⟨od, es, ep, k _ _ (.inr d) e2, c⟩, r⟩
  | own y => obtain ⟨ob, e⟩ := x; exact ⟨ob, k _ _ (.inl rfl) e⟩
  | xd fs => obtain ⟨mA, ⟨od, es, ep, e, c⟩, r⟩ := x; exact ⟨mA, ⟨od, es, ep, k _ _ (.inl rfl) e, c⟩, r⟩
  | rng lo hi => obtain ⟨t, u, v, e⟩ := x; exact ⟨t, u, v, k _ _ (.inl rfl) e⟩
  | frz ob u ih => obtain ⟨e, q⟩ := x; exact ⟨k _ _ (.inl rfl) e, ih q⟩
  | tbl ps =>
    have e : h.get? a = some { cls := .none, data := .fields ps } := x
    show h'.get? a = some { cls := .none, data := .fields ps }
    exact k a _ (.inl rfl) e
  | met f y =>
    have e : h.get? a = some (PySem.W.methodObj (.ref f) (.ref y)) := x
    show h'.get? a = some (PySem.W.methodObj (.ref f) (.ref y))
    exact k a _ (.inl rfl) e
  | ext φ => obtain ⟨p, ⟨o, e⟩, st⟩ := x; exact ⟨st _ _ p fun o q => k _ _ (.inl rfl) q, ⟨o, k _ _ (.inl rfl) e⟩, st⟩
theorem HOk.lt (x : HOk P w H h) (e : H a = some o) : a < h.objs.size := (x a o e).lt
theorem HOk.fresh (x : HOk P w H h) (e : h.objs.size ≤ a) : H a = none := by
  cases q : H a with
  | none => rfl
  | some u => exact absurd (Nat.lt_of_lt_of_le (x.lt q) e) (Nat.lt_irrefl _)
theorem HOk.kept (x : HOk P w H h) (k : ∀ b u, h.get? b = some u → h'.get? b = some u) : HOk P w H h' := fun a o e =>
  (x a o e).stay (fun b u _ q => k b u q) (fun _ q => q) fun _ _ q => q
theorem HOk.laid (x : HOk P w H h) (k : ∀ b u, h.get? b = some u → h'.get? b = some u) (hp : h.objs.size ≤ a) (new : ObjOk P w (upd H a o) h' a o) : HOk P w (upd H a o) h' := fun b u e => by
  have hn := x.fresh hp
  by_cases hb : b = a
  · subst hb; rw [upd_same] at e; cases e; exact new
  · rw [upd_ne hb] at e
    exact (x b u e).stay (fun c v _ q => k c v q) (fun c q => by rw [upd_ne (ne_of_none q hn)]; exact q) fun c xs q => by rw [upd_ne (ne_of_none q hn)]; exact q
end
def Rd (H : Hp) (a : Addr) (u : HO) : Prop := H a = some u ∨ ∃ o, H a = some (.frz o u)
theorem Rd.of {H : Hp} {a : Addr} {u : HO} (h : H a = some u) : Rd H a u := .inl h
theorem Rd.ok {P : Program} {w : World} {H : Hp} {h : Heap} {a : Addr} {u : HO} (r : Rd H a u) (x : HOk P w H h) : ObjOk P w H h a u := by
  rcases r with r | ⟨o, r⟩
  · exact x a u r
  · obtain ⟨_, q⟩ := x a _ r
    exact q
def Mut : Option HO → Prop
  | some (.lst _) => True
  | some (.dK _) => True
  | some (.dT _) => True
  | some (.set _ _) => True
  | some (.ins _ _ _) => True
  | some (.ext _) => True
  | _ => False
section
variable {P : Program} {w : World} {H : Hp} {h h' : Heap} {x e : Addr} {o' : HO}
theorem HOk.write (ok : HOk P w H h) (mu : Mut (H x)) (he : e = x ∨ H e = some (.own x)) (k : ∀ b u, b ≠ e → h.get? b = some u → h'.get? b = some u) (heo : ∃ u, h'.get? e = some u)
    (new : ObjOk P w (upd H x o') h' x o') : HOk P w (upd H x o') h' := fun b u q => by
  have nown : ∀ c y, H c = some (.own y) → c ≠ x := fun c y r z => by subst z; rw [r] at mu; exact mu
  have ntup : ∀ c xs, H c = some (.tup xs) → c ≠ x := fun c xs r z => by subst z; rw [r] at mu; exact mu
  by_cases hb : b = x
  · subst hb; rw [upd_same] at q; cases q; exact new
  · rw [upd_ne hb] at q
    by_cases hbe : b = e
    · have q' : H b = some (.own x) := by
        rcases he with z | z
        · exact absurd (hbe.trans z) hb
        · rw [hbe]; exact z
      rw [q] at q'; cases q'
      obtain ⟨v, hv⟩ := heo
      exact ⟨v, by rw [hbe]; exact hv⟩
    · refine (ok b u q).stay (fun c v hc r => k c v ?_ r) (fun c r => by rw [upd_ne (nown c b r)]; exact r) fun c xs r => by rw [upd_ne (ntup c xs r)]; exact r
      rcases hc with rfl | hc
      · exact hbe
      · rintro rfl
        rcases he with z | z
        · exact nown c b hc z
        · rw [hc] at z; cases z; exact hb rfl
end
structure Un (fs ex : List Addr) (H H' : Hp) (h h' : Heap) : Prop where
  keep : ∀ b o, h.get? b = some o → H b = none → b ∉ fs → b ∉ ex → h'.get? b = some o
  slot : ∀ b o, h.get? b = some o → H b = none → b ∈ fs → b ∉ ex → ∃ sl, h'.get? b = some { o with slots := sl }
  free : ∀ b o, h.get? b = some o → H b = none → b ∉ ex → H' b = none
  there : ∀ b o, h.get? b = some o → b ∉ ex → ∃ o', h'.get? b = some o'
  tups : ∀ b xs, H b = some (.tup xs) → H' b = some (.tup xs)
  frzs : ∀ b o u, H b = some (.frz o u) → H' b = some (.frz o u)
  tbls : ∀ b ps, H b = some (.tbl ps) → ∃ more, H' b = some (.tbl (ps ++ more))
section
variable {fs fs' ex ex' : List Addr} {H H1 H2 : Hp} {h h1 h2 h' : Heap} {a x e : Addr} {o : HO}
theorem Un.any (u : Un fs ex H H1 h h1) {b : Addr} {ob : Obj} (q : h.get? b = some ob) (n : H b = none) (hx : b ∉ ex) : ∃ sl, h1.get? b = some { ob with slots := sl } := by
  by_cases hb : b ∈ fs
  · exact u.slot b ob q n hb hx
  · exact ⟨ob.slots, u.keep b ob q n hb hx⟩
theorem Un.trans (a : Un fs ex H H1 h h1) (b : Un fs ex H1 H2 h1 h2) : Un fs ex H H2 h h2 where
  keep := fun c ob q n hc hx => b.keep c ob (a.keep c ob q n hc hx) (a.free c ob q n hx) hc hx
  slot := fun c ob q n hc hx => by
    obtain ⟨sl, e1⟩ := a.slot c ob q n hc hx
    obtain ⟨sl', e2⟩ := b.slot c _ e1 (a.free c ob q n hx) hc hx
    exact ⟨sl', e2⟩
  free := fun c ob q n hx => by
    obtain ⟨o', e1⟩ := a.there c ob q hx
    exact b.free c o' e1 (a.free c ob q n hx) hx
  there := fun c ob q hx => by
    obtain ⟨o', e1⟩ := a.there c ob q hx
    exact b.there c o' e1 hx
  tups := fun c xs q => b.tups c xs (a.tups c xs q)
  frzs := fun c ob xs q => b.frzs c ob xs (a.frzs c ob xs q)
  tbls := fun c ps q => by
    obtain ⟨m1, e1⟩ := a.tbls c ps q
    obtain ⟨m2, e2⟩ := b.tbls c _ e1
    exact ⟨m1 ++ m2, by rw [e2, Array.append_assoc]⟩
theorem Un.kept (k : ∀ b u, h.get? b = some u → h'.get? b = some u) : Un fs ex H H h h' :=
  ⟨fun b ob q _ _ _ => k b ob q, fun b ob q _ _ _ => ⟨ob.slots, k b ob q⟩, fun _ _ _ n _ => n, fun b ob q _ => ⟨ob, k b ob q⟩, fun _ _ q => q, fun _ _ _ q => q, fun _ ps q => ⟨#[], by rw [q]; simp⟩⟩
theorem Un.refl : Un fs ex H H h h := Un.kept fun _ _ q => q
theorem Un.laid (k : ∀ b u, h.get? b = some u → h'.get? b = some u) (hp : h.objs.size ≤ a) (hn : H a = none) : Un fs ex H (upd H a o) h h' where
  keep := fun b u q _ _ _ => k b u q
  slot := fun b u q _ _ _ => ⟨u.slots, k b u q⟩
  free := fun b u q n _ => by rw [upd_ne (Nat.ne_of_lt (Nat.lt_of_lt_of_le (Heap.lt_size q) hp))]; exact n
  there := fun b u q _ => ⟨u, k b u q⟩
  tups := fun b xs q => by rw [upd_ne (ne_of_none q hn)]; exact q
  frzs := fun b u xs q => by rw [upd_ne (ne_of_none q hn)]; exact q
  tbls := fun b ps q => ⟨#[], by rw [upd_ne (ne_of_none q hn), q]; simp⟩
theorem Un.write (mu : Mut (H x)) (he : e = x ∨ H e = some (.own x)) (k : ∀ b u, b ≠ e → h.get? b = some u → h'.get? b = some u) (heo : ∃ u, h'.get? e = some u) : Un fs ex H (upd H x o) h h' := by
  have hx : ∀ b, H b = none → b ≠ x := fun b n z => by subst z; rw [n] at mu; exact mu
  have hb : ∀ b, H b = none → b ≠ e := fun b n z => by
    subst z
    rcases he with r | r
    · exact hx b n r
    · rw [n] at r; cases r
  have hm : ∀ b u, H b = some u → ¬ Mut (some u) → b ≠ x := fun b u q nm z => by subst z; rw [q] at mu; exact nm mu
  refine ⟨fun b u q n _ _ => k b u (hb b n) q, fun b u q n _ _ => ⟨u.slots, k b u (hb b n) q⟩, fun b u q n _ => by rw [upd_ne (hx b n)]; exact n, fun b u q _ => ?_,
    fun b xs q => by rw [upd_ne (hm b _ q fun z => z)]; exact q, fun b u xs q => by rw [upd_ne (hm b _ q fun z => z)]; exact q, fun b ps q => ⟨#[], by rw [upd_ne (hm b _ q fun z => z), q]; simp⟩⟩
  by_cases hbe : b = e
  · subst hbe; exact heo
  · exact ⟨u, k b u hbe q⟩
theorem Un.mono (u : Un fs ex H H1 h h1) (hs : ∀ b ∈ fs, b ∈ fs') (hx : ∀ b ∈ ex, b ∈ ex') : Un fs' ex' H H1 h h1 :=
  ⟨fun b ob q n hb he => u.keep b ob q n (fun z => hb (hs b z)) fun z => he (hx b z), fun _ _ q n _ he => u.any q n fun z => he (hx _ z), fun b ob q n he => u.free b ob q n fun z => he (hx b z), fun b ob q he => u.there b ob q fun z => he (hx b z), u.tups, u.frzs, u.tbls⟩
end
def trk (h : Heap) (H : Hp) : List Addr := (List.range h.objs.size).filter fun a => (H a).isSome
def hidT (h : Heap) (H : Hp) : Heap := PySem.W.hideAll h (trk h H)
theorem hidT_size (h : Heap) (H : Hp) : (hidT h H).objs.size = h.objs.size := PySem.W.hideAll_size _ _
theorem hidT_get {h : Heap} {H : Hp} {b : Addr} {o : Obj} (e : h.get? b = some o) (n : H b = none) : (hidT h H).get? b = some o :=
  PySem.W.hideAll_get _ e fun hm => by
    have q : (H b).isSome = true := (List.mem_filter.mp hm).2
    rw [n] at q; simp at q
theorem of_hidT {h : Heap} {H : Hp} {b : Addr} {o : Obj} (e : (hidT h H).get? b = some o) : h.get? b = some o ∧ H b = none := by
  have e' : h.get? b = some o := PySem.W.of_hideAll (trk h H) e
  refine ⟨e', ?_⟩
  cases q : H b with
  | none => rfl
  | some x =>
    have hm : b ∈ trk h H := List.mem_filter.mpr ⟨List.mem_range.mpr (Heap.lt_size e'), by simp [q]⟩
    have z : (hidT h H).get? b = none := PySem.W.hideAll_none (trk h H) hm
    rw [z] at e; cases e
def allNews (g h : Heap) (L : Addr) : List (Addr × Obj) := (List.range h.objs.size).filterMap fun a => if a = L ∨ (g.get? a).isSome = true then none else (h.get? a).map fun o => (a, o)
def rest (g h : Heap) (L d : Addr) : List (Addr × Obj) := (allNews g h L).filter fun p => decide (p.1 ≠ d)
end L2
namespace L2
open PySem PySem.Spec PyProof.Rows
structure Mod (K : PySem.W.Frag) (mg : Str → Option Value) (base : Heap) : Prop where
  kin : K.In base
  glob : base.Ns mainGlobals mg
  blt : ∃ mb, base.Ns builtinsNs mb ∧ ∀ x : Str, x ≠ "__name__" → mb x = bootBuiltins x
  nolimit : base.NoLimit
structure Cx where
  prog : Program
  w : World
  K : PySem.W.Frag
  mg : Str → Option Value
  base : Heap
  A : Around
  N : List Str
  s₀ : Shared
  H₀ : Hp
  env : Env
  outer : List Env
  stack : List Env
  ex : List Addr
  fn : Str → Bool
  calm : Bool
  pn : List (Addr × Obj)
  xe : Value → Shared → Prop
def frs (l : List Env) : List Addr := l.filterMap (·.frame)
abbrev Cx.fs (X : Cx) : List Addr := frs X.outer
def Vis (sc : Scope) (x : Str) : Prop := sc.names.lookup x = some .local ∨ sc.names.lookup x = some .cell ∨ sc.names.lookup x = some .free
def Loc (sc : Scope) (x : Str) : Prop := sc.names.lookup x = some .local ∨ sc.names.lookup x = some .cell
def Look (env : Env) (h : Heap) (m : Str → Option Value) (x : Str) (u : Value) : Prop :=
  (env.kindOf x = some .local ∧ m x = some u) ∨ ((env.kindOf x = some .cell ∨ env.kindOf x = some .free) ∧ ∃ c, env.cells.lookup x = some c ∧ h.IsCell c (some u))
structure Cx.Ok (X : Cx) : Prop where
  mod : Mod X.K X.mg X.base
  kind : X.env.scope.kind = .function
  glob : X.env.globals = mainGlobals
  blt : X.env.builtins = builtinsNs
  above : X.s₀.heap.objs.size ≤ X.env.locals
  inj : ∀ x y c, X.env.cells.lookup x = some c → X.env.cells.lookup y = some c → x = y
  has : ∀ x, (X.env.kindOf x = some .cell ∨ X.env.kindOf x = some .free) → ∃ c, X.env.cells.lookup x = some c
  cab : ∀ x c, X.fn x = true → X.env.cells.lookup x = some c → X.s₀.heap.objs.size ≤ c
  hd : X.calm = true → X.A.handled = none
  frames : X.A.frames = some X.stack
  stk : X.stack = X.outer ∨ (X.stack = X.env :: X.outer ∧ X.env.frame = some X.env.locals)
  exf : ∀ b ∈ X.ex, b ≠ X.env.locals ∧ ∀ x c, X.env.cells.lookup x = some c → c ≠ b
  bs : ∀ b o, X.base.get? b = some o → X.s₀.heap.get? b = some o ∧ X.H₀ b = none
  bsz : X.base.objs.size ≤ X.s₀.heap.objs.size
  noex : ∀ b o, X.base.get? b = some o → b ∉ X.ex
  exfs : ∀ b ∈ X.ex, b ∉ X.fs
  funs : X.s₀.heap.FunFrames X.base X.outer
  frf : ∀ b ∈ X.fs, X.H₀ b = none
structure Inv (X : Cx) (pins : List (Addr × Obj)) (σ : List (Option V)) (H : Hp) (s : Shared) : Prop where
  ok : X.Ok
  os : s.os = X.s₀.os
  bare : AllBare s.gens
  base : Un X.fs X.ex X.H₀ H X.s₀.heap s.heap
  loc : ∃ m, s.heap.Ns X.env.locals m ∧ ∀ (i : Nat) (x : Str) (v : V), X.N[i]? = some x → σ[i]? = some (some v) → Vis X.env.scope x → ∃ u, RelV v u ∧ Look X.env s.heap m x u
  cell : ∀ x c, X.env.cells.lookup x = some c → ∃ v, s.heap.IsCell c v
  free : H X.env.locals = none
  freeC : ∀ x c, X.env.cells.lookup x = some c → H c = none
  pin : ∀ p ∈ X.pn ++ pins, s.heap.get? p.1 = some p.2 ∧ H p.1 = none ∧ p.1 ≠ X.env.locals ∧ p.1 ∉ X.fs ∧ ∀ v, p.2.data ≠ .cell v
  hok : HOk X.prog X.w H s.heap
  len : σ.length = X.N.length
section
variable {X : Cx} {pins : List (Addr × Obj)} {σ : List (Option V)} {H H' : Hp} {s : Shared} {h' : Heap}
theorem Cx.Ok.nofr (ok : X.Ok) {b : Addr} {o : Obj} (e : X.base.get? b = some o) : b ∉ X.fs := fun hb => by
  have := (ok.funs.mem hb).1
  rw [e] at this; cases this
theorem Inv.bs (I : Inv X pins σ H s) : ∀ b o, X.base.get? b = some o → s.heap.get? b = some o ∧ H b = none := fun b o e =>
  ⟨I.base.keep b o (I.ok.bs b o e).1 (I.ok.bs b o e).2 (I.ok.nofr e) (I.ok.noex b o e), I.base.free b o (I.ok.bs b o e).1 (I.ok.bs b o e).2 (I.ok.noex b o e)⟩
theorem Inv.bk (I : Inv X pins σ H s) : ∀ b o, X.base.get? b = some o → s.heap.get? b = some o := fun b o e => (I.bs b o e).1
theorem Inv.mod (I : Inv X pins σ H s) : Mod X.K X.mg X.base := I.ok.mod
theorem Inv.kIn (I : Inv X pins σ H s) : X.K.In s.heap := I.ok.mod.kin.keeps I.bk
theorem Inv.nolimit (I : Inv X pins σ H s) : s.heap.NoLimit := I.ok.mod.nolimit.keeps I.bk
theorem Inv.fr (I : Inv X pins σ H s) : ∃ m, Fr X.base X.env.locals s.heap m :=
  let ⟨m, hn, _⟩ := I.loc
  ⟨m, hn, I.bk, Nat.le_trans I.ok.bsz I.ok.above⟩
theorem Inv.lt (I : Inv X pins σ H s) : X.env.locals < s.heap.objs.size := let ⟨_, hn, _⟩ := I.loc; hn.lt
theorem Inv.sz (I : Inv X pins σ H s) : X.s₀.heap.objs.size ≤ s.heap.objs.size := Nat.le_trans I.ok.above (Nat.le_of_lt I.lt)
theorem Inv.nofs (I : Inv X pins σ H s) {a : Addr} (h : s.heap.objs.size ≤ a) : a ∉ X.fs := fun hb => by
  obtain ⟨_, o, ho, _⟩ := I.ok.funs.mem hb
  exact absurd (Nat.lt_of_lt_of_le (Heap.lt_size ho) (Nat.le_trans I.sz h)) (Nat.lt_irrefl _)
theorem Inv.cne (I : Inv X pins σ H s) : ∀ x c, X.env.cells.lookup x = some c → c ≠ X.env.locals := fun x c e z => by
  obtain ⟨v, o, ho, hd⟩ := I.cell x c e
  obtain ⟨m, ⟨o', es, ep, ho', hd', _⟩, _⟩ := I.loc
  rw [z, ho'] at ho; cases ho; rw [hd'] at hd; cases hd
theorem Inv.funs (I : Inv X pins σ H s) : s.heap.FunFrames X.base X.outer := by
  have all : ∀ (l : List Env), (∀ b ∈ frs l, b ∈ X.fs) → X.s₀.heap.FunFrames X.base l → s.heap.FunFrames X.base l := by
    intro l
    induction l with
    | nil => intro _ _; trivial
    | cons env r ih =>
      intro hs hl
      obtain ⟨hk, ⟨L, o, hf, hn, ho, hd⟩, hr⟩ := hl
      have hL : L ∈ X.fs := hs L (by unfold frs; rw [List.filterMap_cons, hf]; exact List.mem_cons_self)
      obtain ⟨sl, e⟩ := I.base.slot L o ho (I.ok.frf L hL) hL fun z => I.ok.exfs L z hL
      exact ⟨hk, ⟨L, _, hf, hn, e, hd⟩, ih (fun b hb => hs b (by unfold frs; rw [List.filterMap_cons, hf]; exact List.mem_cons_of_mem _ hb)) hr⟩
  exact all X.outer (fun _ hb => hb) I.ok.funs
theorem Inv.stack (I : Inv X pins σ H s) : s.heap.FunFrames X.base X.stack := by
  rcases I.ok.stk with e | ⟨e, hf⟩
  · rw [e]; exact I.funs
  · rw [e]
    obtain ⟨m, hn, _⟩ := I.loc
    refine .cons (by rw [I.ok.kind]; decide) hf hn ?_ I.funs
    exact Heap.get?_none_of_le (Nat.le_trans I.ok.bsz I.ok.above)
theorem Inv.stkSub (I : Inv X pins σ H s) : ∀ b ∈ frs X.stack, b ∈ X.env.locals :: X.fs := fun b hb => by
  rcases I.ok.stk with e | ⟨e, hf⟩
  · rw [e] at hb; exact List.mem_cons_of_mem _ hb
  · rw [e] at hb
    unfold frs at hb
    rw [List.filterMap_cons, hf] at hb
    exact hb
theorem Inv.stkFree (I : Inv X pins σ H s) : ∀ b ∈ frs X.stack, H b = none := fun b hb => by
  rcases List.mem_cons.mp (I.stkSub b hb) with e | hb
  · rw [e]; exact I.free
  · obtain ⟨_, o, ho, _⟩ := I.ok.funs.mem hb
    exact I.base.free b o ho (I.ok.frf b hb) fun z => I.ok.exfs b z hb
theorem Inv.step {g' : Array GenState} {t' : Nat} {d' : Drawn} {ch : List Addr} (I : Inv X pins σ H s)
    (hch : ∀ b ∈ ch, (b ∈ X.ex ∨ X.s₀.heap.objs.size ≤ b) ∧ b ≠ X.env.locals ∧ (∀ x c, X.env.cells.lookup x = some c → c ≠ b) ∧ ∀ p ∈ X.pn ++ pins, p.1 ≠ b)
    (keep : ∀ b o, b ≠ X.env.locals → b ∉ X.fs → b ∉ ch → s.heap.get? b = some o → H b = none → h'.get? b = some o)
    (slot : ∀ b o, b ≠ X.env.locals → b ∈ X.fs → b ∉ ch → s.heap.get? b = some o → H b = none → ∃ sl, h'.get? b = some { o with slots := sl }) (free : ∀ b o, b ∉ ch → s.heap.get? b = some o → H b = none → H' b = none)
    (there : ∀ b o, b ∉ ch → s.heap.get? b = some o → ∃ o', h'.get? b = some o')
    (tups : ∀ b xs, H b = some (.tup xs) → H' b = some (.tup xs)) (frzs : ∀ b o u, H b = some (.frz o u) → H' b = some (.frz o u)) (tbls : ∀ b ps, H b = some (.tbl ps) → ∃ more, H' b = some (.tbl (ps ++ more)))
    (ns : ∀ m, s.heap.Ns X.env.locals m → h'.Ns X.env.locals m) (hok : HOk X.prog X.w H' h') (hg : AllBare g') :
    Inv X pins σ H' { s with heap := h', gens := g', drawn := d', toks := t' } := by
  have neL : ∀ b o, X.s₀.heap.get? b = some o → b ≠ X.env.locals := fun b o e => Nat.ne_of_lt (Nat.lt_of_lt_of_le (Heap.lt_size e) I.ok.above)
  have neC : ∀ b o, X.s₀.heap.get? b = some o → b ∉ X.ex → b ∉ ch := fun b o e hx hb => by
    rcases (hch b hb).1 with z | z
    · exact hx z
    · exact absurd (Nat.lt_of_lt_of_le (Heap.lt_size e) z) (Nat.lt_irrefl _)
  have cellK : ∀ x c, X.env.cells.lookup x = some c → ∀ v, s.heap.IsCell c v → h'.IsCell c v := fun x c e v ⟨o, ho, hd⟩ => by
    have nch : c ∉ ch := fun z => (hch c z).2.2.1 x c e rfl
    by_cases hc : c ∈ X.fs
    · obtain ⟨sl, q⟩ := slot c o (I.cne x c e) hc nch ho (I.freeC x c e)
      exact ⟨_, q, hd⟩
    · exact ⟨o, keep c o (I.cne x c e) hc nch ho (I.freeC x c e), hd⟩
  refine ⟨I.ok, I.os, hg, ⟨fun b o e n hb hx => ?_, fun b o e n hb hx => ?_, fun b o e n hx => ?_, fun b o e hx => ?_, fun b xs e => tups b xs (I.base.tups b xs e), fun b o xs e => frzs b o xs (I.base.frzs b o xs e), fun b ps e => ?_⟩, ?_, fun x c e => ?_, ?_, fun x c e => ?_, fun p hp => ?_, hok, I.len⟩
  · exact keep b o (neL b o e) hb (neC b o e hx) (I.base.keep b o e n hb hx) (I.base.free b o e n hx)
  · obtain ⟨sl, e1⟩ := I.base.slot b o e n hb hx
    obtain ⟨sl', e2⟩ := slot b _ (neL b o e) hb (neC b o e hx) e1 (I.base.free b o e n hx)
    exact ⟨sl', e2⟩
  · obtain ⟨o', e1⟩ := I.base.there b o e hx
    exact free b o' (neC b o e hx) e1 (I.base.free b o e n hx)
  · obtain ⟨o', e1⟩ := I.base.there b o e hx
    exact there b o' (neC b o e hx) e1
  · obtain ⟨m1, e1⟩ := I.base.tbls b ps e
    obtain ⟨m2, e2⟩ := tbls b _ e1
    exact ⟨m1 ++ m2, by rw [e2, Array.append_assoc]⟩
  · obtain ⟨m, hn, hl⟩ := I.loc
    refine ⟨m, ns m hn, fun i x v e1 e2 e3 => ?_⟩
    obtain ⟨u, r, l⟩ := hl i x v e1 e2 e3
    refine ⟨u, r, ?_⟩
    rcases l with l | ⟨k, c, e, z⟩
    · exact .inl l
    · exact .inr ⟨k, c, e, cellK x c e _ z⟩
  · obtain ⟨v, z⟩ := I.cell x c e
    exact ⟨v, cellK x c e v z⟩
  · obtain ⟨m, ⟨o, _, _, ho, _⟩, _⟩ := I.loc
    exact free _ o (fun z => (hch _ z).2.1 rfl) ho I.free
  · obtain ⟨v, o, ho, hd⟩ := I.cell x c e
    exact free c o (fun z => (hch c z).2.2.1 x c e rfl) ho (I.freeC x c e)
  · obtain ⟨e, n, ne, nf, d⟩ := I.pin p hp
    have nch : p.1 ∉ ch := fun z => (hch p.1 z).2.2.2 p hp rfl
    exact ⟨keep p.1 p.2 ne nf nch e n, free p.1 p.2 nch e n, ne, nf, d⟩
theorem Inv.un {t' : Nat} (I : Inv X pins σ H s) (u : Un X.fs [] H H' s.heap h') (hok : HOk X.prog X.w H' h') : Inv X pins σ H' { s with heap := h', toks := t' } := by
  obtain ⟨m, ⟨o, es, ep, ho, r⟩, _⟩ := id I.loc
  obtain ⟨sl, hL⟩ := u.any ho I.free (by simp)
  exact I.step (g' := s.gens) (d' := s.drawn) (ch := []) (fun _ z => nomatch z) (fun b o _ hb _ e n => u.keep b o e n hb (by simp)) (fun b o _ hb _ e n => u.slot b o e n hb (by simp)) (fun b o _ e n => u.free b o e n (by simp)) (fun b o _ e => u.there b o e (by simp)) u.tups u.frzs u.tbls (fun m' hm => by
    obtain ⟨o', es', ep', ho', r'⟩ := hm
    rw [ho] at ho'; cases ho'
    exact ⟨_, es', ep', hL, r'⟩) hok I.bare
theorem Inv.call {g' : Array GenState} {t' : Nat} {d' : Drawn} {ch : List Addr} (I : Inv X pins σ H s) (u : Un (frs X.stack) ch H H' s.heap h') (hok : HOk X.prog X.w H' h') (hg : AllBare g')
    (hch : ∀ b ∈ ch, (b ∈ X.ex ∨ X.s₀.heap.objs.size ≤ b) ∧ b ≠ X.env.locals ∧ (∀ x c, X.env.cells.lookup x = some c → c ≠ b) ∧ ∀ p ∈ X.pn ++ pins, p.1 ≠ b) :
    Inv X pins σ H' { s with heap := h', gens := g', drawn := d', toks := t' } := by
  obtain ⟨m, ⟨o, es, ep, ho, r⟩, _⟩ := id I.loc
  obtain ⟨sl, hL⟩ := u.any ho I.free fun z => (hch _ z).2.1 rfl
  exact I.step (ch := ch) hch (fun b o hL hb hc e n => u.keep b o e n (fun z => (List.mem_cons.mp (I.stkSub b z)).elim hL hb) hc) (fun b o _ _ hc e n => u.any e n hc) (fun b o hc e n => u.free b o e n hc) (fun b o hc e => u.there b o e hc) u.tups u.frzs u.tbls (fun m' hm => by
    obtain ⟨o', es', ep', ho', r'⟩ := hm
    rw [ho] at ho'; cases ho'
    exact ⟨_, es', ep', hL, r'⟩) hok hg
theorem Inv.turned {t' : Nat} {it : Addr} (I : Inv X pins σ H s) (k : ∀ b o, b ≠ it → s.heap.get? b = some o → h'.get? b = some o) (hn : H it = none) (hL : it ≠ X.env.locals)
    (h1 : it ∈ X.ex ∨ X.s₀.heap.objs.size ≤ it) (h2 : ∀ x c, X.env.cells.lookup x = some c → c ≠ it) (h3 : ∀ p ∈ X.pn ++ pins, p.1 ≠ it) : Inv X pins σ H { s with heap := h', toks := t' } := by
  have nit : ∀ b u, H b = some u → b ≠ it := fun b u e z => by rw [z, hn] at e; cases e
  refine I.step (g' := s.gens) (d' := s.drawn) (ch := [it]) (fun b hb => ?_) (fun b o _ _ hc e _ => k b o (fun z => hc (by simp [z])) e) (fun b o _ _ hc e _ => ⟨o.slots, k b o (fun z => hc (by simp [z])) e⟩) (fun _ _ _ _ n => n)
    (fun b o hc e => ⟨o, k b o (fun z => hc (by simp [z])) e⟩) (fun _ _ e => e) (fun _ _ _ e => e) (fun b ps e => ⟨#[], by rw [e]; simp⟩) (fun m hm => ?_) (fun b u e => ?_) I.bare
  · have e : b = it := by simpa using hb
    subst e
    exact ⟨h1, hL, h2, h3⟩
  · obtain ⟨o, es, ep, ho, r⟩ := hm
    exact ⟨o, es, ep, k _ o (Ne.symm hL) ho, r⟩
  · refine (I.hok b u e).stay (fun c v hc q => k c v ?_ q) (fun _ q => q) fun _ _ q => q
    rcases hc with z | z
    · rw [z]; exact nit b u e
    · exact nit c _ z
theorem Inv.tok (I : Inv X pins σ H s) (t : Nat) : Inv X pins σ H { s with toks := t } := I.un (h' := s.heap) (t' := t) Un.refl I.hok
theorem Inv.kept {t' : Nat} (I : Inv X pins σ H s) (k : ∀ b u, s.heap.get? b = some u → h'.get? b = some u) : Inv X pins σ H { s with heap := h', toks := t' } := I.un (Un.kept k) (I.hok.kept k)
theorem Inv.laid {a : Addr} {o : HO} {t' : Nat} (I : Inv X pins σ H s) (k : ∀ b u, s.heap.get? b = some u → h'.get? b = some u) (hp : s.heap.objs.size ≤ a) (new : ObjOk X.prog X.w (upd H a o) h' a o) :
    Inv X pins σ (upd H a o) { s with heap := h', toks := t' } := I.un (Un.laid k hp (I.hok.fresh hp)) (I.hok.laid k hp new)
theorem Inv.write {x e : Addr} {o : HO} {t' : Nat} (I : Inv X pins σ H s) (mu : Mut (H x)) (he : e = x ∨ H e = some (.own x)) (k : ∀ b u, b ≠ e → s.heap.get? b = some u → h'.get? b = some u) (heo : ∃ u, h'.get? e = some u)
    (new : ObjOk X.prog X.w (upd H x o) h' x o) : Inv X pins σ (upd H x o) { s with heap := h', toks := t' } := I.un (Un.write mu he k heo) (I.hok.write mu he k heo new)
theorem Inv.weak {σ' : List (Option V)} (I : Inv X pins σ H s) (hl : σ'.length = σ.length) (w : ∀ (i : Nat) v, σ'[i]? = some (some v) → σ[i]? = some (some v)) : Inv X pins σ' H s :=
  ⟨I.ok, I.os, I.bare, I.base, let ⟨m, hn, hl'⟩ := I.loc; ⟨m, hn, fun i x v e1 e2 e3 => hl' i x v e1 (w i v e2) e3⟩, I.cell, I.free, I.freeC, I.pin, I.hok, hl.trans I.len⟩
theorem Inv.pins_of {pins' : List (Addr × Obj)} (I : Inv X pins σ H s) (h : ∀ p ∈ pins', s.heap.get? p.1 = some p.2 ∧ H p.1 = none ∧ p.1 ≠ X.env.locals ∧ p.1 ∉ X.fs ∧ ∀ v, p.2.data ≠ .cell v) : Inv X pins' σ H s :=
  ⟨I.ok, I.os, I.bare, I.base, I.loc, I.cell, I.free, I.freeC, fun p hp => (List.mem_append.mp hp).elim (fun z => I.pin p (List.mem_append_left _ z)) (h p), I.hok, I.len⟩
theorem nodup_ix {N : List Str} (hN : N.Nodup) {i j : Nat} {x : Str} (a : N[i]? = some x) (b : N[j]? = some x) : i = j := by
  obtain ⟨h1, e1⟩ := List.getElem?_eq_some_iff.mp a
  obtain ⟨h2, e2⟩ := List.getElem?_eq_some_iff.mp b
  exact (List.getElem_inj hN).mp (e1.trans e2.symm)
theorem store_ok2 {M : Model} {A : Around} {E : Value → Shared → Prop} {i : Nat} {x : Str} {v : V} {u : Value} {Q : Unit → Shared → Prop} (I : Inv X pins σ H s) (hN : X.N.Nodup) (hi : X.N[i]? = some x) (hx : Loc X.env.scope x) (r : RelV v u)
    (h : ∀ s', Inv X pins (σ.set i (some v)) H s' → (∃ a, Heap.SameBut a s.heap s'.heap ∧ (a = X.env.locals ∨ X.env.cells.lookup x = some a)) → Q () s') (hf : X.fn x = true ∨ X.env.scope.names.lookup x = some .local := by first | exact .inl rfl | exact .inr rfl | assumption) : wpAny M A (storeName X.env x u) Q E s := by
  obtain ⟨m, hn, hl⟩ := id I.loc
  have hcls : (X.env.scope.kind == .class || (X.env.scope.kind == .module && X.env.locals != X.env.globals)) = false := by rw [I.ok.kind]; rfl
  have hiσ : i < σ.length := by rw [I.len]; exact (List.getElem?_eq_some_iff.mp hi).1
  have cne := I.cne
  have tracked : ∀ {a : Addr} {h' : Heap}, (∃ o, s.heap.get? a = some o ∧ H a = none) → Heap.SameBut a s.heap h' → HOk X.prog X.w H h' := fun {a h'} ha hs b ob e => by
    obtain ⟨_, _, hfree⟩ := ha
    refine (I.hok b ob e).stay (fun c w' hc q => (hs.2 c ?_).trans q) (fun _ q => q) fun _ _ q => q
    rintro rfl
    rcases hc with rfl | hc
    · rw [hfree] at e; cases e
    · rw [hfree] at hc; cases hc
  rcases hx with hk | hk
  · refine wpAny_storeName_local hk hn (fun h' hn' hs => ?_) hcls
    obtain ⟨oL, _, _, hoL, _⟩ := id hn
    refine h _ ⟨I.ok, I.os, I.bare, ⟨fun b o e n hb hx => ?_, fun b o e n hb hx => ?_, I.base.free, fun b o e hx => ?_, I.base.tups, I.base.frzs, I.base.tbls⟩, ⟨_, hn', fun j y v' e1 e2 e3 => ?_⟩, fun y c e => ?_, I.free, I.freeC, fun p hp => ?_, tracked ⟨oL, hoL, I.free⟩ hs, by simpa using I.len⟩ ⟨_, hs, .inl rfl⟩
    · exact (hs.2 b (Nat.ne_of_lt (Nat.lt_of_lt_of_le (Heap.lt_size e) I.ok.above))).trans (I.base.keep b o e n hb hx)
    · obtain ⟨sl, e1⟩ := I.base.slot b o e n hb hx
      exact ⟨sl, (hs.2 b (Nat.ne_of_lt (Nat.lt_of_lt_of_le (Heap.lt_size e) I.ok.above))).trans e1⟩
    · obtain ⟨o', e1⟩ := I.base.there b o e hx
      exact ⟨o', (hs.2 b (Nat.ne_of_lt (Nat.lt_of_lt_of_le (Heap.lt_size e) I.ok.above))).trans e1⟩
    · by_cases hj : j = i
      · subst hj
        rw [hi] at e1; cases e1
        rw [List.getElem?_set_self hiσ] at e2
        cases e2
        exact ⟨u, r, .inl ⟨hk, by simp⟩⟩
      · rw [List.getElem?_set_ne (Ne.symm hj)] at e2
        obtain ⟨u', r', q⟩ := hl j y v' e1 e2 e3
        refine ⟨u', r', ?_⟩
        rcases q with ⟨k, e⟩ | ⟨k, c, e, z⟩
        · refine .inl ⟨k, ?_⟩
          have : y ≠ x := fun e => hj (nodup_ix hN e1 (e ▸ hi))
          simp [this, e]
        · exact .inr ⟨k, c, e, z.sameBut hs (cne y c e)⟩
    · obtain ⟨w', z⟩ := I.cell y c e
      exact ⟨w', z.sameBut hs (cne y c e)⟩
    · obtain ⟨e, n, ne, nf, d⟩ := I.pin p hp
      exact ⟨(hs.2 p.1 ne).trans e, n, ne, nf, d⟩
  · have hfn : X.fn x = true := by
      rcases hf with z | z
      · exact z
      · rw [z] at hk; cases hk
    obtain ⟨c, hc⟩ := I.ok.has x (.inl hk)
    obtain ⟨w', z⟩ := I.cell x c hc
    refine wpAny_storeName_cell I.ok.kind hk hc z (fun h' hc' hs => ?_)
    obtain ⟨oc, hoc, hocd⟩ := id z
    refine h { s with heap := h' } ⟨I.ok, I.os, I.bare, ⟨fun b o e n hb hx => ?_, fun b o e n hb hx => ?_, I.base.free, fun b o e hx => ?_, I.base.tups, I.base.frzs, I.base.tbls⟩, ⟨m, hn.sameBut hs (Ne.symm (cne x c hc)), fun j y v' e1 e2 e3 => ?_⟩, fun y c' e => ?_, I.free, I.freeC, fun p hp => ?_, tracked ⟨oc, hoc, I.freeC x c hc⟩ hs, by simpa using I.len⟩ ⟨c, hs, .inr hc⟩
    · exact (hs.2 b (Nat.ne_of_lt (Nat.lt_of_lt_of_le (Heap.lt_size e) (I.ok.cab x c hfn hc)))).trans (I.base.keep b o e n hb hx)
    · obtain ⟨sl, e1⟩ := I.base.slot b o e n hb hx
      exact ⟨sl, (hs.2 b (Nat.ne_of_lt (Nat.lt_of_lt_of_le (Heap.lt_size e) (I.ok.cab x c hfn hc)))).trans e1⟩
    · obtain ⟨o', e1⟩ := I.base.there b o e hx
      exact ⟨o', (hs.2 b (Nat.ne_of_lt (Nat.lt_of_lt_of_le (Heap.lt_size e) (I.ok.cab x c hfn hc)))).trans e1⟩
    · by_cases hj : j = i
      · subst hj
        rw [hi] at e1; cases e1
        rw [List.getElem?_set_self hiσ] at e2
        cases e2
        exact ⟨u, r, .inr ⟨.inl hk, c, hc, hc'⟩⟩
      · rw [List.getElem?_set_ne (Ne.symm hj)] at e2
        obtain ⟨u', r', q⟩ := hl j y v' e1 e2 e3
        refine ⟨u', r', ?_⟩
        rcases q with q | ⟨k, c', e, z'⟩
        · exact .inl q
        · refine .inr ⟨k, c', e, z'.sameBut hs ?_⟩
          rintro rfl
          exact hj (nodup_ix hN e1 (I.ok.inj _ _ _ e hc ▸ hi))
    · by_cases hcc : c' = c
      · subst hcc; exact ⟨_, hc'⟩
      · obtain ⟨w2, z2⟩ := I.cell y c' e
        exact ⟨w2, z2.sameBut hs hcc⟩
    · obtain ⟨e, n, ne, nf, d⟩ := I.pin p hp
      refine ⟨(hs.2 p.1 ?_).trans e, n, ne, nf, d⟩
      intro q
      rw [q, hoc] at e
      have q' : oc = p.2 := Option.some.inj e
      exact d w' (by rw [← q']; exact hocd)
theorem store_ok {M : Model} {A : Around} {E : Value → Shared → Prop} {i : Nat} {x : Str} {v : V} {u : Value} {Q : Unit → Shared → Prop} (I : Inv X pins σ H s) (hN : X.N.Nodup) (hi : X.N[i]? = some x) (hx : Loc X.env.scope x) (r : RelV v u)
    (h : ∀ s', Inv X pins (σ.set i (some v)) H s' → Q () s') (hf : X.fn x = true ∨ X.env.scope.names.lookup x = some .local := by first | exact .inl rfl | exact .inr rfl | assumption) : wpAny M A (storeName X.env x u) Q E s :=
  store_ok2 I hN hi hx r (fun s' I' _ => h s' I') hf
theorem Inv.call' {s' : Shared} {ch : List Addr} (I : Inv X pins σ H s) (ho : s'.os = s.os) (u : Un (frs X.stack) ch H H' s.heap s'.heap) (hok : HOk X.prog X.w H' s'.heap) (hg : AllBare s'.gens)
    (hch : ∀ b ∈ ch, (b ∈ X.ex ∨ X.s₀.heap.objs.size ≤ b) ∧ b ≠ X.env.locals ∧ (∀ x c, X.env.cells.lookup x = some c → c ≠ b) ∧ ∀ p ∈ X.pn ++ pins, p.1 ≠ b) : Inv X pins σ H' s' := by
  obtain ⟨h', g', d', t', o'⟩ := s'
  have e : o' = s.os := ho
  subst e
  exact I.call (g' := g') (t' := t') (d' := d') u hok hg hch
end
abbrev XK := Value → Option Addr → Hp → Prop
abbrev St := List (Option V)
abbrev VK := V → Hp → Prop
abbrev TE := St → Hp → VK → Prop
abbrev TT := St → Hp → (Bool → Hp → Prop) → Prop
abbrev TA := St → Hp → (List V → Hp → Prop) → Prop
structure Ends where
  nx : St → Hp → Prop
  rt : VK
  bk : St → Hp → Prop := fun _ _ => False
  ct : St → Hp → Prop := fun _ _ => False
abbrev TS := Ends → St → Hp → Prop
def EP (X : Cx) (pins : List (Addr × Obj)) (σ : St) (Q : VK) (u : Value) (s' : Shared) : Prop := ∃ v H', Inv X pins σ H' s' ∧ RelV v u ∧ Q v H'
def TP (X : Cx) (pins : List (Addr × Obj)) (σ : St) (Q : Bool → Hp → Prop) (b : Bool) (s' : Shared) : Prop := ∃ H', Inv X pins σ H' s' ∧ Q b H'
def AP (X : Cx) (pins : List (Addr × Obj)) (σ : St) (Q : List V → Hp → Prop) (us : List Value) (s' : Shared) : Prop := ∃ vs H', Inv X pins σ H' s' ∧ Vals vs us ∧ Q vs H'
def SP (X : Cx) (pins : List (Addr × Obj)) (D : Ends) (f : Flow) (s' : Shared) : Prop :=
  match f with
  | .next => ∃ σ' H', Inv X pins σ' H' s' ∧ D.nx σ' H'
  | .brk => ∃ σ' H', Inv X pins σ' H' s' ∧ D.bk σ' H'
  | .cont => ∃ σ' H', Inv X pins σ' H' s' ∧ D.ct σ' H'
  | .ret u => ∃ v σ' H', Inv X pins σ' H' s' ∧ RelV v u ∧ D.rt v H'
def PE (X : Cx) (e : Expr) (t : TE) : Prop :=
  ∀ (pins : List (Addr × Obj)) (s : Shared) (σ : St) (H : Hp) (Q : VK), Inv X pins σ H s → t σ H Q → wpAny (model X.prog X.w) X.A (eval e X.env) (EP X pins σ Q) X.xe s
def PT (X : Cx) (e : Expr) (t : TT) : Prop :=
  ∀ (pins : List (Addr × Obj)) (s : Shared) (σ : St) (H : Hp) (Q : Bool → Hp → Prop), Inv X pins σ H s → t σ H Q → wpAny (model X.prog X.w) X.A (isTrue e X.env (eval e X.env)) (TP X pins σ Q) X.xe s
def PW (X : Cx) (e : Expr) (t : TT) : Prop :=
  ∀ (whole : Sem Value) (pins : List (Addr × Obj)) (s : Shared) (σ : St) (H : Hp) (Q : Bool → Hp → Prop), Inv X pins σ H s → t σ H Q → wpAny (model X.prog X.w) X.A (isTrue e X.env whole) (TP X pins σ Q) X.xe s
theorem PW.pt {X : Cx} {e : Expr} {t : TT} (h : PW X e t) : PT X e t := h _
def PA (X : Cx) (es : List Expr) (t : TA) : Prop :=
  ∀ (pos : Pos) (pins : List (Addr × Obj)) (s : Shared) (σ : St) (H : Hp) (Q : List V → Hp → Prop), Inv X pins σ H s → t σ H Q → wpAny (model X.prog X.w) X.A (spliced (backTo pos (starEach es X.env))) (AP X pins σ Q) X.xe s
def PS (X : Cx) (st : Stmt) (t : TS) : Prop :=
  ∀ (pins : List (Addr × Obj)) (s : Shared) (σ : St) (H : Hp) (D : Ends), Inv X pins σ H s → t D σ H → wpAny (model X.prog X.w) X.A (exec st X.env) (SP X pins D) X.xe s
def PSs (X : Cx) (st : List Stmt) (t : TS) : Prop :=
  ∀ (pins : List (Addr × Obj)) (s : Shared) (σ : St) (H : Hp) (D : Ends), Inv X pins σ H s → t D σ H → wpAny (model X.prog X.w) X.A (execs st X.env) (SP X pins D) X.xe s
theorem thn {α : Type} {t : Sem α} {Q Q' : α → Shared → Prop} {M : Model} {A : Around} {E : Value → Shared → Prop} {s : Shared} (h : wpAny M A t Q E s) (hQ : ∀ a s, Q a s → Q' a s) : wpAny M A t Q' E s := wpAny_mono h hQ fun _ _ x => x
end L2
namespace L2
open PySem PySem.Spec PyProof.Rows
section
variable {X : Cx}
def tVar (i : Nat) : TE := fun σ H Q => ∃ v, σ[i]? = some (some v) ∧ Q v H
def tC (v : V) : TE := fun _ H Q => Q v H
theorem pe_var {i : Nat} {x : Str} {pos : Pos} (hN : X.N[i]? = some x) (hv : Vis X.env.scope x) (hd : (x == ("__debug__" : Str)) = false := by decide) (hcd : (x == ("__classdict__" : Str)) = false := by decide) : PE X (.Name x pos) (tVar i) := by
  intro pins s σ H Q I h
  obtain ⟨v, e, h⟩ := h
  obtain ⟨m, hn, hl⟩ := I.loc
  obtain ⟨u, r, l⟩ := hl i x v hN e hv
  have fin : EP X pins σ Q u s := ⟨v, H, I, r, h⟩
  rcases l with ⟨hk, hm⟩ | ⟨hk, c, hc, hcell⟩
  · exact wpAny_Name (wpAny_loadName_local I.ok.kind hk hn hm fin) hd
  · rcases hk with hk | hk
    · exact wpAny_Name (wpAny_loadName_cell I.ok.kind hk hc hcell fin) hd
    · exact wpAny_Name (wpAny_loadName_free I.ok.kind hk hc hcell fin hcd) hd
theorem pe_int {i j pos} : PE X (.Constant (.int i) j pos) (tC (.int i)) := fun _ _ _ H _ I h => wpAny_Constant_int ⟨.int i, H, I.tok _, ⟨_, rfl⟩, h⟩
theorem pe_bl {b j pos} : PE X (.Constant (.bool b) j pos) (tC (.bl b)) := fun _ _ _ H _ I h => Constant_bool ⟨.bl b, H, I, rfl, h⟩
theorem pe_str {x j pos} : PE X (.Constant (.str x) j pos) (tC (.str x)) := fun _ _ _ H _ I h => Calls.Constant_str ⟨.str x, H, I.tok _, ⟨_, rfl⟩, h⟩
def Gl (X : Cx) (x : Str) : Prop := X.env.kindOf x = some .globalImplicit
theorem ld_glob {E : Value → Shared → Prop} {pins : List (Addr × Obj)} {s : Shared} {σ : St} {H : Hp} {x : Str} {u : Value} {pos : Pos} {Q : Value → Shared → Prop} (I : Inv X pins σ H s) (hg : Gl X x) (hm : X.mg x = some u) (h : Q u s)
    (hd : (x == ("__debug__" : Str)) = false := by decide) : wpAny (model X.prog X.w) X.A (eval (.Name x pos) X.env) Q E s :=
  Calls.Name_function_global I.ok.kind hg (Calls.loadGlobal_global (by rw [I.ok.glob]; exact I.mod.glob.keeps I.bk) hm h) hd
theorem ld_blt {E : Value → Shared → Prop} {pins : List (Addr × Obj)} {s : Shared} {σ : St} {H : Hp} {x : Str} {u : Value} {pos : Pos} {Q : Value → Shared → Prop} (I : Inv X pins σ H s) (hg : Gl X x) (hm : X.mg x = none) (hv : bootBuiltins x = some u) (h : Q u s)
    (hn : x ≠ "__name__" := by decide) (hd : (x == ("__debug__" : Str)) = false := by decide) : wpAny (model X.prog X.w) X.A (eval (.Name x pos) X.env) Q E s := by
  obtain ⟨mb, h1, h2⟩ := I.mod.blt
  exact Calls.Name_function_global I.ok.kind hg (Calls.loadGlobal_builtin (by rw [I.ok.glob]; exact I.mod.glob.keeps I.bk) hm (by rw [I.ok.blt]; exact h1.keeps I.bk) ((h2 x hn).trans hv) h) hd
theorem pe_glob {x : Str} {v : V} {u : Value} {pos : Pos} (hg : Gl X x) (hm : X.mg x = some u) (r : RelV v u) (hd : (x == ("__debug__" : Str)) = false := by decide) : PE X (.Name x pos) (tC v) :=
  fun _ _ _ H _ I h => ld_glob I hg hm ⟨v, H, I, r, h⟩ hd
theorem pe_bltn {x : Str} {v : V} {u : Value} {pos : Pos} (hg : Gl X x) (hm : X.mg x = none) (hv : bootBuiltins x = some u) (r : RelV v u) (hn : x ≠ "__name__" := by decide) (hd : (x == ("__debug__" : Str)) = false := by decide) : PE X (.Name x pos) (tC v) :=
  fun _ _ _ H _ I h => ld_blt I hg hm hv ⟨v, H, I, r, h⟩ hn hd
def t2I (ta tb : TE) (k : Int → Int → Hp → Prop) : St → Hp → Prop := fun σ H => ta σ H fun x H1 => tb σ H1 fun y H2 => ∃ i j, x = .int i ∧ y = .int j ∧ k i j H2
def tAdd (ta tb : TE) : TE := fun σ H Q => t2I ta tb (fun i j H2 => Q (.int (i + j)) H2) σ H
def tSub (ta tb : TE) : TE := fun σ H Q => t2I ta tb (fun i j H2 => Q (.int (i - j)) H2) σ H
def tMul (ta tb : TE) : TE := fun σ H Q => t2I ta tb (fun i j H2 => (-(2 ^ 64) < i ∧ i < 2 ^ 64) ∧ Q (.int (i * j)) H2) σ H
variable {a b : Expr} {ta tb : TE} {pos : Pos}
def PC (X : Cx) (op : CmpOp) (a b : Expr) (t : TE) : Prop :=
  ∀ (pins : List (Addr × Obj)) (s : Shared) (σ : St) (H : Hp) (Q : VK), Inv X pins σ H s → t σ H Q →
    wpAny (model X.prog X.w) X.A (eval a X.env) (fun v s₁ => wpAny (model X.prog X.w) X.A (eval b X.env) (fun u s₂ => wpAny (model X.prog X.w) X.A (compareOp op v u) (EP X pins σ Q) X.xe s₂) X.xe s₁) X.xe s
theorem nobehind (b : Expr) {op : CmpOp} (h : op ≠ .In) (h2 : op ≠ .NotIn) : behindInMarks op b = false := by
  have e1 : (op == CmpOp.In) = false := by cases op <;> first | rfl | exact absurd rfl h
  have e2 : (op == CmpOp.NotIn) = false := by cases op <;> first | rfl | exact absurd rfl h2
  cases b <;> simp [behindInMarks, e1, e2]
def tCmp (p : Int → Int → Bool) (ta tb : TE) : TE := fun σ H Q => t2I ta tb (fun i j H2 => Q (.bl (p i j)) H2) σ H
abbrev tLt : TE → TE → TE := tCmp fun i j => decide (i < j)
abbrev tLe : TE → TE → TE := tCmp fun i j => decide (i ≤ j)
abbrev tGt : TE → TE → TE := tCmp fun i j => decide (j < i)
abbrev tGe : TE → TE → TE := tCmp fun i j => decide (j ≤ i)
abbrev tEqI : TE → TE → TE := tCmp fun i j => decide (i = j)
abbrev tNeI : TE → TE → TE := tCmp fun i j => !decide (i = j)
def tIsN (ta : TE) : TE := fun σ H Q => ta σ H fun x H1 => Q (.bl (decide (x = .non))) H1
def tNotN (ta : TE) : TE := fun σ H Q => ta σ H fun x H1 => Q (.bl (!decide (x = .non))) H1
def tB (t : TE) : TT := fun σ H Q => t σ H fun x H1 => ∃ c, x = .bl c ∧ Q c H1
theorem pt_cmp {op : CmpOp} {t : TE} (h : PC X op a b t) (h1 : behindInMarks op b = false := by first | exact nobehind _ (by decide) (by decide) | rfl) : PT X (.Compare a [op] [b] pos) (tB t) := by
  intro pins s σ H Q I hw
  refine wpAny_isTrue_Compare1 (thn (h pins s σ H _ I hw) fun v s1 h1 => thn h1 fun u s2 h2 => thn h2 fun c s3 ⟨x, H1, I1, r1, q1⟩ => ?_) h1
  obtain ⟨d, rfl, q⟩ := q1
  cases r1
  exact wpAny_truthy_bool ⟨H1, I1, q⟩
theorem pt_val {e : Expr} {t : TE} (h : PE X e t) (he : ∀ whole, isTrue e X.env whole = (do let v ← whole; standAt e.pos; holding [v] (truthy v)) := by intro _; rfl) : PT X e (tB t) := by
  intro pins s σ H Q I hw
  refine isTrue_plain (thn (h pins s σ H _ I hw) fun v s1 ⟨x, H1, I1, r1, q1⟩ => ?_) (he _)
  obtain ⟨d, rfl, q⟩ := q1
  cases r1
  exact wpAny_truthy_bool ⟨H1, I1, q⟩
variable {tA tB' : TT} {rest : List Expr}
def tAnd (t u : TT) : TT := fun σ H Q => t σ H fun c H1 => if c = true then u σ H1 Q else Q false H1
def tOr (t u : TT) : TT := fun σ H Q => t σ H fun c H1 => if c = true then Q true H1 else u σ H1 Q
def tNot (t : TT) : TT := fun σ H Q => t σ H fun c H1 => Q (!c) H1
theorem pw_and1 (ha : PT X a tA) : PW X (.BoolOp .And [a] pos) tA := by
  intro wh pins s σ H Q I h
  refine isTrue_and (thn (ha pins s σ H Q I h) fun c s1 e => ?_)
  cases c with
  | true => exact isTrue_and_nil e
  | false => exact e
theorem pw_or1 (ha : PT X a tA) : PW X (.BoolOp .Or [a] pos) tA := by
  intro wh pins s σ H Q I h
  refine isTrue_or (thn (ha pins s σ H Q I h) fun c s1 e => ?_)
  cases c with
  | false => exact isTrue_or_nil e
  | true => exact e
theorem pw_and (ha : PT X a tA) (hb : PW X (.BoolOp .And (b :: rest) pos) tB') : PW X (.BoolOp .And (a :: b :: rest) pos) (tAnd tA tB') := by
  intro wh pins s σ H Q I h
  refine isTrue_and (thn (ha pins s σ H _ I h) fun c s1 ⟨H1, I1, q1⟩ => ?_)
  cases c with
  | true => exact hb wh pins s1 σ H1 Q I1 q1
  | false => exact ⟨H1, I1, q1⟩
theorem pw_or (ha : PT X a tA) (hb : PW X (.BoolOp .Or (b :: rest) pos) tB') : PW X (.BoolOp .Or (a :: b :: rest) pos) (tOr tA tB') := by
  intro wh pins s σ H Q I h
  refine isTrue_or (thn (ha pins s σ H _ I h) fun c s1 ⟨H1, I1, q1⟩ => ?_)
  cases c with
  | true => exact ⟨H1, I1, q1⟩
  | false => exact hb wh pins s1 σ H1 Q I1 q1
theorem pt_not (ha : PT X a tA) : PT X (.UnaryOp .Not a pos) (tNot tA) := by
  intro pins s σ H Q I h
  exact isTrue_not (ha pins s σ H (fun c H1 => Q (!c) H1) I h)
def tAndV (ta tb : TE) : TE := fun σ H Q => ta σ H fun x H1 => ∃ c, x = .bl c ∧ if c = true then tb σ H1 Q else Q (.bl false) H1
def tOrV (ta tb : TE) : TE := fun σ H Q => ta σ H fun x H1 => ∃ c, x = .bl c ∧ if c = true then Q (.bl true) H1 else tb σ H1 Q
def tNotV (ta : TE) : TE := fun σ H Q => ta σ H fun x H1 => ∃ c, x = .bl c ∧ Q (.bl (!c)) H1
theorem pe_one {op} {t : TE} (h : PE X a t) : PE X (.BoolOp op [a] pos) t := fun pins s σ H Q I hw => BoolOp_one (h pins s σ H Q I hw)
theorem pe_and (ha : PE X a ta) (hb : PE X (.BoolOp .And (b :: rest) pos) tb) : PE X (.BoolOp .And (a :: b :: rest) pos) (tAndV ta tb) := by
  intro pins s σ H Q I h
  refine BoolOp_and (thn (ha pins s σ H _ I h) fun v s1 ⟨x, H1, I1, r1, q1⟩ => ?_)
  obtain ⟨c, rfl, q1⟩ := q1
  cases r1
  refine wpAny_truthy_bool ?_
  cases c with
  | true => exact hb pins s1 σ H1 Q I1 q1
  | false => exact ⟨.bl false, H1, I1, rfl, q1⟩
theorem pe_or (ha : PE X a ta) (hb : PE X (.BoolOp .Or (b :: rest) pos) tb) : PE X (.BoolOp .Or (a :: b :: rest) pos) (tOrV ta tb) := by
  intro pins s σ H Q I h
  refine BoolOp_or (thn (ha pins s σ H _ I h) fun v s1 ⟨x, H1, I1, r1, q1⟩ => ?_)
  obtain ⟨c, rfl, q1⟩ := q1
  cases r1
  refine wpAny_truthy_bool ?_
  cases c with
  | false => exact hb pins s1 σ H1 Q I1 q1
  | true => exact ⟨.bl true, H1, I1, rfl, q1⟩
def tIf (t : TT) (ta tb : TE) : TE := fun σ H Q => t σ H fun c H1 => if c = true then ta σ H1 Q else tb σ H1 Q
end
end L2
namespace L2
open PySem PySem.Spec PyProof.Rows
def SqL (K : PySem.W.Frag) (H : Hp) (a : Addr) (xs : List V) : Prop :=
  Rd H a (.lst xs) ∨
    ∃ (o : Obj) (its : Array Value) (n : Nat), K.lookup a = some o ∧ o.cls = .type "list" ∧ o.dict = none ∧ o.data = .seq its n ∧ its.size ≤ sizeLine ∧ Vals xs its.toList
def SqT (K : PySem.W.Frag) (H : Hp) (a : Addr) (xs : List V) : Prop :=
  Rd H a (.tup xs) ∨
    ∃ (o : Obj) (its : Array Value) (n : Nat), K.lookup a = some o ∧ o.cls = .type "tuple" ∧ o.data = .seq its n ∧ its.size ≤ sizeLine ∧ Vals xs its.toList
def absV : Value → Option V
  | .none => some .non
  | .bool b => some (.bl b)
  | .int i _ => some (.int i)
  | .str x _ => some (.str x)
  | .bytes b _ => some (.byt b)
  | .float b _ => some (.flt b)
  | .ref a => some (.ref a)
  | .type n => some (.ty n)
  | _ => none
theorem RelV.abs {x : V} {u : Value} (r : RelV x u) : absV u = some x := by
  cases x with
  | non => cases r; rfl
  | bl _ => cases r; rfl
  | int _ => obtain ⟨t, rfl⟩ := r; rfl
  | str _ => obtain ⟨t, rfl⟩ := r; rfl
  | byt _ => obtain ⟨t, rfl⟩ := r; rfl
  | flt _ => obtain ⟨t, rfl⟩ := r; rfl
  | ref _ => cases r; rfl
  | ty _ => cases r; rfl
theorem RelV.inj {x y : V} {u : Value} (r : RelV x u) (q : RelV y u) : x = y := Option.some.inj (r.abs.symm.trans q.abs)
theorem Vals.inj : ∀ {xs ys : List V} {us : List Value}, Vals xs us → Vals ys us → xs = ys
  | _, _, _, .nil, .nil => rfl
  | _, _, _, .cons r t, .cons r' t' => by rw [r.inj r', Vals.inj t t']
section
variable {X : Cx} {pins : List (Addr × Obj)} {σ : St} {H : Hp} {s : Shared} {a : Addr} {xs ys : List V}
theorem SqL.of {K : PySem.W.Frag} (h : H a = some (.lst xs)) : SqL K H a xs := .inl (.inl h)
theorem SqT.of {K : PySem.W.Frag} (h : H a = some (.tup xs)) : SqT K H a xs := .inl (.inl h)
theorem Inv.list (I : Inv X pins σ H s) (h : SqL X.K H a xs) : ∃ its : List Value, Vals xs its ∧ PlainL s.heap a its.toArray ∧ xs.length ≤ sizeLine := by
  rcases h with h | ⟨o, its, n, hk, hc, hd, hs, hz, r⟩
  · obtain ⟨z, its, n, r, e⟩ := h.ok I.hok
    exact ⟨its, r, ⟨_, n, e, rfl, rfl, rfl⟩, z⟩
  · refine ⟨its.toList, r, ⟨o, n, I.kIn a o hk, hc, hd, by simpa using hs⟩, ?_⟩
    have e := r.length
    simp only [Array.length_toList] at e
    omega
theorem Inv.tuple (I : Inv X pins σ H s) (h : SqT X.K H a xs) : ∃ its : List Value, Vals xs its ∧ IsTup s.heap a its.toArray ∧ xs.length ≤ sizeLine := by
  rcases h with h | ⟨o, its, n, hk, hc, hs, hz, r⟩
  · obtain ⟨z, its, r, p⟩ := h.ok I.hok
    exact ⟨its, r, p, z⟩
  · refine ⟨its.toList, r, ⟨o, I.kIn a o hk, hc, n, by simpa using hs⟩, ?_⟩
    have e := r.length
    simp only [Array.length_toList] at e
    omega
theorem Inv.list_inj (I : Inv X pins σ H s) (h : SqL X.K H a xs) (h' : SqL X.K H a ys) : xs = ys := by
  obtain ⟨its, r, ⟨o, n, e, _, _, d⟩, _⟩ := I.list h
  obtain ⟨its', r', ⟨o', n', e', _, _, d'⟩, _⟩ := I.list h'
  rw [e] at e'; cases e'
  rw [d] at d'
  injection d' with d1 _
  have : its = its' := by simpa using congrArg Array.toList d1
  subst this
  exact r.inj r'
theorem Inv.tuple_inj (I : Inv X pins σ H s) (h : SqT X.K H a xs) (h' : SqT X.K H a ys) : xs = ys := by
  obtain ⟨its, r, ⟨o, e, _, n, d⟩, _⟩ := I.tuple h
  obtain ⟨its', r', ⟨o', e', _, n', d'⟩, _⟩ := I.tuple h'
  rw [e] at e'; cases e'
  rw [d] at d'
  injection d' with d1 _
  have : its = its' := by simpa using congrArg Array.toList d1
  subst this
  exact r.inj r'
end
abbrev Cx.wish (X : Cx) (E : Value → Shared → Prop) : Cx := { X with xe := E }
abbrev Cx.nox (X : Cx) : Cx := X.wish fun _ _ => False
theorem Cx.Ok.wish {X : Cx} (ok : X.Ok) (E : Value → Shared → Prop) : (X.wish E).Ok :=
  ⟨ok.mod, ok.kind, ok.glob, ok.blt, ok.above, ok.inj, ok.has, ok.cab, ok.hd, ok.frames, ok.stk, ok.exf, ok.bs, ok.bsz, ok.noex, ok.exfs, ok.funs, ok.frf⟩
theorem Cx.Ok.unwish {X : Cx} {E : Value → Shared → Prop} (ok : (X.wish E).Ok) : X.Ok :=
  ⟨ok.mod, ok.kind, ok.glob, ok.blt, ok.above, ok.inj, ok.has, ok.cab, ok.hd, ok.frames, ok.stk, ok.exf, ok.bs, ok.bsz, ok.noex, ok.exfs, ok.funs, ok.frf⟩
section
variable {X : Cx} {pins : List (Addr × Obj)} {σ : St} {H : Hp} {s : Shared} {E : Value → Shared → Prop}
theorem Inv.wish (I : Inv X pins σ H s) (E : Value → Shared → Prop) : Inv (X.wish E) pins σ H s := ⟨I.ok.wish E, I.os, I.bare, I.base, I.loc, I.cell, I.free, I.freeC, I.pin, I.hok, I.len⟩
theorem Inv.unwish (I : Inv (X.wish E) pins σ H s) : Inv X pins σ H s := ⟨I.ok.unwish, I.os, I.bare, I.base, I.loc, I.cell, I.free, I.freeC, I.pin, I.hok, I.len⟩
theorem SP.unwish {D : Ends} {f : Flow} {s' : Shared} (h : SP (X.wish E) pins D f s') : SP X pins D f s' := by
  cases f with
  | next => obtain ⟨σ', H', I, q⟩ := h; exact ⟨σ', H', I.unwish, q⟩
  | brk => obtain ⟨σ', H', I, q⟩ := h; exact ⟨σ', H', I.unwish, q⟩
  | cont => obtain ⟨σ', H', I, q⟩ := h; exact ⟨σ', H', I.unwish, q⟩
  | ret u => obtain ⟨v, σ', H', I, r, q⟩ := h; exact ⟨v, σ', H', I.unwish, r, q⟩
theorem PE.nox {e : Expr} {t : TE} (h : PE X.nox e t) : PE X e t := fun pins s σ H Q I hw =>
  wpAny_mono (h pins s σ H Q (I.wish _) hw) (fun _ _ ⟨v, H', I', r, q⟩ => ⟨v, H', I'.unwish, r, q⟩) fun _ _ z => False.elim z
theorem PT.nox {e : Expr} {t : TT} (h : PT X.nox e t) : PT X e t := fun pins s σ H Q I hw =>
  wpAny_mono (h pins s σ H Q (I.wish _) hw) (fun _ _ ⟨H', I', q⟩ => ⟨H', I'.unwish, q⟩) fun _ _ z => False.elim z
theorem PSs.nox {st : List Stmt} {t : TS} (h : PSs X.nox st t) : PSs X st t := fun pins s σ H D I hw =>
  wpAny_mono (h pins s σ H D (I.wish _) hw) (fun _ _ q => q.unwish) fun _ _ z => False.elim z
end
section
variable {X : Cx} {st : Stmt} {rest : List Stmt} {t u : TS} {e : Expr} {te : TE} {pos : Pos}
def tNext : TS := fun D σ H => D.nx σ H
def tSeq (t u : TS) : TS := fun D σ H => t { D with nx := u D } σ H
theorem pss_nil : PSs X [] tNext := fun _ _ σ H _ I h => wpAny_execs_nil ⟨σ, H, I, h⟩
theorem pss_cons (h1 : PS X st t) (h2 : PSs X rest u) : PSs X (st :: rest) (tSeq t u) := by
  intro pins s σ H D I h
  refine wpAny_execs_cons (thn (h1 pins s σ H { D with nx := u D } I h) fun f s1 q => ?_)
  cases f with
  | next =>
    obtain ⟨σ', H', I', q⟩ := q
    exact h2 pins s1 σ' H' D I' q
  | ret v => exact q
  | brk => exact q
  | cont => exact q
theorem pss_one (h1 : PS X st t) : PSs X [st] t := by
  intro pins s σ H D I h
  refine wpAny_execs_cons (thn (h1 pins s σ H D I h) fun f s1 q => ?_)
  cases f with
  | next => exact wpAny_execs_nil q
  | ret v => exact q
  | brk => exact q
  | cont => exact q
def tBreak : TS := fun D σ H => D.bk σ H
def tCont : TS := fun D σ H => D.ct σ H
theorem Inv.quiet {pins : List (Addr × Obj)} {σ : St} {H : Hp} {s : Shared} (I : Inv X pins σ H s) : interactive X.env = false := by simp [interactive, I.ok.kind]
def tDrop (te : TE) : TS := fun D σ H => te σ H fun _ H1 => D.nx σ H1
theorem ps_expr (he : PE X e te) (hs : swapsWith e none pos.line X.env = pure false := by rfl) : PS X (.Expr e pos) (tDrop te) := by
  intro pins s σ H D I h
  exact wpAny_Expr_any (thn (he pins s σ H _ I h) fun v s1 ⟨x, H1, I1, r1, q1⟩ => ⟨σ, H1, I1, q1⟩) I.quiet hs
def tRet (te : TE) : TS := fun D σ H => te σ H D.rt
theorem ps_ret (he : PE X e te) : PS X (.Return (some e) pos) (tRet te) := by
  intro pins s σ H D I h
  exact wpAny_Return_some (thn (he pins s σ H _ I h) fun v s1 ⟨x, H1, I1, r1, q1⟩ => ⟨x, σ, H1, I1, r1, q1⟩)
def tRetN : TS := fun D _ H => D.rt .non H
def tIfS (c : TT) (t u : TS) : TS := fun D σ H => c σ H fun b H1 => if b = true then t D σ H1 else u D σ H1
theorem ps_if {c : Expr} {a b : List Stmt} {tc : TT} (hc : PT X c tc) (ha : PSs X a t) (hb : PSs X b u) : PS X (.If c a b pos) (tIfS tc t u) := by
  intro pins s σ H D I h
  refine wpAny_If (thn (hc pins s σ H _ I h) fun d s1 ⟨H1, I1, q1⟩ => ?_)
  cases d with
  | true => exact ha pins s1 σ H1 D I1 q1
  | false => exact hb pins s1 σ H1 D I1 q1
def tNever : TS := fun _ _ _ => False
theorem ps_never : PS X st tNever := fun _ _ _ _ _ _ h => h.elim
end
abbrev TG := V → St → Hp → (St → Hp → Prop) → Prop
abbrev TGs := List V → St → Hp → (St → Hp → Prop) → Prop
def PG (X : Cx) (target : Expr) (t : TG) : Prop :=
  ∀ (pins : List (Addr × Obj)) (s : Shared) (σ : St) (H : Hp) (v : V) (u : Value) (Q : St → Hp → Prop), Inv X pins σ H s → RelV v u → t v σ H Q →
    wpAny (model X.prog X.w) X.A (assign target X.env u) (fun _ s' => ∃ σ' H', Inv X pins σ' H' s' ∧ Q σ' H') X.xe s
def PGs (X : Cx) (ts : List Expr) (t : TGs) : Prop :=
  ∀ (pins : List (Addr × Obj)) (s : Shared) (σ : St) (H : Hp) (vs : List V) (us : List Value) (Q : St → Hp → Prop), Inv X pins σ H s → Vals vs us → t vs σ H Q →
    wpAny (model X.prog X.w) X.A (assignInOrder ((assignEach ts X.env).map (·.2)) us) (fun _ s' => ∃ σ' H', Inv X pins σ' H' s' ∧ Q σ' H') X.xe s
abbrev TSet := V → V → V → Hp → (Hp → Prop) → Prop
def PSet (X : Cx) (t : TSet) : Prop :=
  ∀ (pins : List (Addr × Obj)) (s : Shared) (σ : St) (H : Hp) (o i v : V) (ov iv u : Value) (Q : Hp → Prop), Inv X pins σ H s → RelV o ov → RelV i iv → RelV v u → t o i v H Q →
    wpAny (model X.prog X.w) X.A (setItem ov iv u) (fun _ s' => ∃ H', Inv X pins σ H' s' ∧ Q H') X.xe s
abbrev TIp := V → V → Hp → VK → Prop
def PIp (X : Cx) (op : Operator) (t : TIp) : Prop :=
  ∀ (pins : List (Addr × Obj)) (s : Shared) (σ : St) (H : Hp) (x y : V) (v u : Value) (Q : VK), Inv X pins σ H s → RelV x v → RelV y u → t x y H Q →
    wpAny (model X.prog X.w) X.A (inplaceOp op v u) (EP X pins σ Q) X.xe s
section
variable {X : Cx} {pos : Pos}
def gName (i : Nat) : TG := fun v σ H Q => Q (σ.set i (some v)) H
theorem pg_name {i : Nat} {x : Str} (hN : X.N.Nodup) (hi : X.N[i]? = some x) (hx : Loc X.env.scope x) (hf : X.fn x = true ∨ X.env.scope.names.lookup x = some .local := by first | exact .inl rfl | exact .inr rfl | assumption) : PG X (.Name x pos) (gName i) := by
  intro pins s σ H v u Q I r h
  exact wpAny_assign_Name (store_ok I hN hi hx r (fun s' I' => ⟨_, H, I', h⟩) hf)
def gNil : TGs := fun vs σ H Q => vs = [] ∧ Q σ H
def gCons (t : TG) (u : TGs) : TGs := fun vs σ H Q => ∃ v r, vs = v :: r ∧ t v σ H fun σ' H' => u r σ' H' Q
def gTup (K : PySem.W.Frag) (n : Nat) (t : TGs) : TG := fun v σ H Q => ∃ a xs, v = .ref a ∧ SqT K H a xs ∧ xs.length = n ∧ t xs σ H Q
def gSub (to ti : TE) (t : TSet) : TG := fun v σ H Q => to σ H fun o H1 => ti σ H1 fun i H2 => t o i v H2 fun H3 => Q σ H3
def tAsg (te : TE) (g : TG) : TS := fun D σ H => te σ H fun x H1 => g x σ H1 D.nx
theorem ps_set {i : Nat} {x : Str} {e : Expr} {te : TE} {pos' : Pos} (hN : X.N.Nodup) (hi : X.N[i]? = some x) (hx : Loc X.env.scope x) (he : PE X e te) (hs : swapsWith e (some (.Name x pos')) pos.line X.env = pure false := by rfl) (hf : X.fn x = true ∨ X.env.scope.names.lookup x = some .local := by first | exact .inl rfl | exact .inr rfl | assumption) :
    PS X (.Assign [.Name x pos'] e pos) (tAsg te (gName i)) := by
  intro pins s σ H D I h
  refine wpAny_Assign_Name (thn (he pins s σ H _ I h) fun v s1 ⟨y, H1, I1, r1, q1⟩ => ?_) hs
  exact store_ok I1 hN hi hx r1 (fun s2 I2 => ⟨_, H1, I2, q1⟩) hf
def tPar (i j : Nat) (ta : TA) : TS := fun D σ H => ta σ H fun vs H1 => ∃ v w, vs = [v, w] ∧ D.nx ((σ.set i (some v)).set j (some w)) H1
def tAug (i : Nat) (te : TE) (ti : TIp) : TS := fun D σ H => ∃ x, σ[i]? = some (some x) ∧ te σ H fun y H1 => ti x y H1 fun z H2 => D.nx (σ.set i (some z)) H2
def tAugS (to ti te : TE) (tget : V → V → Hp → VK → Prop) (tip : TIp) (tset : TSet) : TS := fun D σ H => to σ H fun o H1 => ti σ H1 fun i H2 => tget o i H2 fun x H3 => te σ H3 fun y H4 => tip x y H4 fun z H5 => tset o i z H5 fun H6 => D.nx σ H6
def PGet (X : Cx) (t : V → V → Hp → VK → Prop) : Prop :=
  ∀ (pins : List (Addr × Obj)) (s : Shared) (σ : St) (H : Hp) (o i : V) (ov iv : Value) (Q : VK), Inv X pins σ H s → RelV o ov → RelV i iv → t o i H Q →
    wpAny (model X.prog X.w) X.A (getItem ov iv) (EP X pins σ Q) X.xe s
def ipI (f : Int → Int → Int) : TIp := fun x y H Q => ∃ i j, x = .int i ∧ y = .int j ∧ Q (.int (f i j)) H
end
section
variable {X : Cx} {pos : Pos}
def tWhile (c : TT) (tb : TS) : TS := fun D σ H => ∃ W : Nat → St → Hp → Prop, (∃ m, W m σ H) ∧ ∀ m σ H, W m σ H →
  c σ H fun b H1 => if b = true then ∃ N : St → Hp → Prop, (∀ σ' H', N σ' H' → ∃ m', m' < m ∧ W m' σ' H') ∧ tb { D with nx := N, ct := N, bk := D.nx } σ H1 else D.nx σ H1
end
structure It where
  go : Nat → Hp → Prop
  yld : Nat → Hp → V → Hp → Prop
  stop : Nat → Hp → Prop
def FpOk (X : Cx) (pins : List (Addr × Obj)) (H : Hp) (b : Addr) : Prop :=
  H b = none ∧ b ≠ X.env.locals ∧ b ∉ X.fs ∧ (b ∈ X.ex ∨ X.s₀.heap.objs.size ≤ b) ∧ (∀ x c, X.env.cells.lookup x = some c → c ≠ b) ∧ ∀ p ∈ X.pn ++ pins, p.1 ≠ b
theorem Inv.fpOk {X : Cx} {pins : List (Addr × Obj)} {σ : St} {H H' : Hp} {s : Shared} {b : Addr} (I : Inv X pins σ H s) (hb : s.heap.objs.size ≤ b) (hn : H' b = none) : FpOk X pins H' b := by
  refine ⟨hn, Nat.ne_of_gt (Nat.lt_of_lt_of_le I.lt hb), I.nofs hb, .inr (Nat.le_trans I.sz hb), fun x c e z => ?_, fun p hp z => ?_⟩
  · obtain ⟨v, q⟩ := I.cell x c e
    exact absurd (Nat.lt_of_lt_of_le q.lt (by rw [z]; exact hb)) (Nat.lt_irrefl _)
  · exact absurd (Nat.lt_of_lt_of_le (Heap.lt_size (I.pin p hp).1) (by rw [z]; exact hb)) (Nat.lt_irrefl _)
structure Turn (P : Program) (w : World) (K : PySem.W.Frag) (tg : Expr) (J : It) (fp : List Addr) (it : Addr) (tn : Nat → Heap → Prop) : Prop where
  mem : it ∈ fp
  obj : ∀ i h, tn i h → ∀ b ∈ fp, ∃ o, h.get? b = some o ∧ ∀ v, o.data ≠ .cell v
  keep : ∀ i h h', tn i h → (∀ b ∈ fp, ∀ o, h.get? b = some o → h'.get? b = some o) → tn i h'
  item : ∀ (X : Cx), X.prog = P → X.w = w → X.K = K → X.calm = true → ∀ (i : Nat) (pins : List (Addr × Obj)) (s : Shared) (σ : St) (H : Hp) (E : Value → Shared → Prop), Inv X pins σ H s → (∀ b ∈ fp, FpOk X pins H b) → tn i s.heap → J.go i H →
    wpAny (model P w) X.A (pyNext (.ref it)) (fun r s1 => ∃ u, r = some u ∧
      wpAny (model P w) X.A (letOwnedTupleGo tg (.ref it) u) (fun _ s2 => ∃ x H', Inv X pins σ H' s2 ∧ RelV x u ∧ J.yld i H x H' ∧ tn (i + 1) s2.heap ∧ ∀ b ∈ fp, H' b = none) E s1) E s
  done : ∀ (X : Cx), X.prog = P → X.w = w → X.K = K → X.calm = true → ∀ (i : Nat) (pins : List (Addr × Obj)) (s : Shared) (σ : St) (H : Hp) (E : Value → Shared → Prop), Inv X pins σ H s → (∀ b ∈ fp, FpOk X pins H b) → tn i s.heap → J.stop i H →
    wpAny (model P w) X.A (pyNext (.ref it)) (fun r s1 => r = none ∧ Inv X pins σ H s1) E s
  self : ∀ (A : Around) (i : Nat) (s : Shared) (Q : Value → Shared → Prop) (E : Value → Shared → Prop), tn i s.heap → Q (.ref it) s → wpAny (model P w) A (pyIter (.ref it)) Q E s
abbrev TI := St → Hp → (It → Hp → Prop) → Prop
def PIE (X : Cx) (pins : List (Addr × Obj)) (σ : St) (tg : Expr) (R : It → Hp → Prop) (itv : Value) (s2 : Shared) : Prop :=
  ∃ (it : Addr) (fp : List Addr) (tn : Nat → Heap → Prop) (J : It) (H' : Hp), itv = .ref it ∧ Inv X pins σ H' s2 ∧ Turn X.prog X.w X.K tg J fp it tn ∧ tn 0 s2.heap ∧ (∀ b ∈ fp, FpOk X pins H' b) ∧ R J H'
def PI (X : Cx) (tg iter : Expr) (wi : TI) : Prop :=
  ∀ (pins : List (Addr × Obj)) (s : Shared) (σ : St) (H : Hp) (R : It → Hp → Prop), Inv X pins σ H s → wi σ H R →
    wpAny (model X.prog X.w) X.A (eval iter X.env) (fun v s1 => wpAny (model X.prog X.w) X.A (pyIter v) (PIE X pins σ tg R) X.xe s1) X.xe s
theorem go_of {M : Model} {A : Around} {E : Value → Shared → Prop} {s : Shared} {tg : Expr} {it : Addr} {u : Value} {o : Obj} {n : String} {vs : Array Value} {Q : Unit → Shared → Prop} (ho : s.heap.get? it = some o) (hc : o.cls = .type n) (hd : o.data = .fields vs)
    (hn : ["enumerate", "zip", "dict_itemiterator", "dict_reverseitemiterator", "odict_iterator", "itertools.zip_longest", "itertools.pairwise"].contains n = false) (hQ : Q () s) : wpAny M A (letOwnedTupleGo tg (.ref it) u) Q E s := by
  unfold letOwnedTupleGo
  cases tg <;> first
    | exact wpAny_pure hQ
    | (cases u <;> first
        | exact wpAny_pure hQ
        | (refine wpAny_bind (wpAny_load ho ?_)
           rw [hc, hd]
           show wpAny M A (if (["enumerate", "zip", "dict_itemiterator", "dict_reverseitemiterator", "odict_iterator", "itertools.zip_longest", "itertools.pairwise"].contains n && vs[0]? == some (rawInt _)) = true then _ else _) Q E s
           rw [if_neg (by intro h; rw [hn, Bool.false_and] at h; cases h)]
           exact wpAny_pure hQ))
def Itl (K : PySem.W.Frag) (a : Addr) : It :=
  ⟨fun i H => ∃ xs x, SqL K H a xs ∧ xs[i]? = some x, fun i H x H' => H' = H ∧ ∀ xs, SqL K H a xs → xs[i]? = some x, fun i H => ∃ xs, SqL K H a xs ∧ xs.length ≤ i⟩
def Itt (K : PySem.W.Frag) (a : Addr) : It :=
  ⟨fun i H => ∃ xs x, SqT K H a xs ∧ xs[i]? = some x, fun i H x H' => H' = H ∧ ∀ xs, SqT K H a xs → xs[i]? = some x, fun i H => ∃ xs, SqT K H a xs ∧ xs.length ≤ i⟩
def Itr (lo : Int) (n : Nat) : It := ⟨fun i _ => i < n, fun i H x H' => H' = H ∧ x = .int (lo + i), fun i _ => n ≤ i⟩
theorem turn_list {P : Program} {w : World} {K : PySem.W.Frag} {tg : Expr} (a it : Addr) : Turn P w K tg (Itl K a) [it] it (fun i h => h.IsListIter it a i) where
  mem := by simp
  obj := fun i h st b hb => by
    have e : b = it := by simpa using hb
    subst e
    obtain ⟨o, e, c, d⟩ := st
    exact ⟨o, e, fun v z => by rw [d] at z; cases z⟩
  keep := fun i h h' st k => st.at fun o e => k it (by simp) o e
  item := by
    intro X hP hw hK hc i pins s σ H E I hf st hg
    subst hP hw hK
    obtain ⟨xs, x, hq, hx⟩ := hg
    obtain ⟨its, rv, p, hz⟩ := I.list hq
    obtain ⟨u, hu, ru⟩ := rv.get hx
    obtain ⟨f0, f1, f2, f3, f4, f5⟩ := hf it (by simp)
    refine wpAny_pyNext_list_item st p.isList (x := u) (by simpa using hu) fun h' st' sb => ?_
    have I1 : Inv X pins σ H { s with heap := h' } := I.turned (t' := s.toks) (fun b o hb e => (sb.2 b hb).trans e) f0 f1 f3 f4 f5
    obtain ⟨o, e, c, d⟩ := id st'
    exact ⟨u, rfl, go_of (s := { s with heap := h' }) e c d (by decide) ⟨x, H, I1, ru, ⟨rfl, fun ys hy => by rw [I.list_inj hy hq]; exact hx⟩, st', fun b hb => (hf b hb).1⟩⟩
  done := by
    intro X hP hw hK hc i pins s σ H E I hf st hg
    subst hP hw hK
    obtain ⟨xs, hq, hx⟩ := hg
    obtain ⟨its, rv, p, hz⟩ := I.list hq
    obtain ⟨f0, f1, f2, f3, f4, f5⟩ := hf it (by simp)
    have hl := rv.length
    exact wpAny_pyNext_list_end (I.ok.hd hc) st p.isList (by simp; omega) fun h' eb => ⟨rfl, I.turned (t' := s.toks) (fun b o hb e => eb b o hb e) f0 f1 f3 f4 f5⟩
  self := fun _ _ _ _ _ st h => wpAny_pyIter_listiter st h
theorem turn_range {P : Program} {w : World} {K : PySem.W.Frag} {tg : Expr} (it : Addr) (lo : Int) (n : Nat) : Turn P w K tg (Itr lo n) [it] it (fun i h => IsRangeIter h it (lo + (i : Nat) * 1) ((n : Int) - (i : Nat)) 1) where
  mem := by simp
  obj := fun i h st b hb => by
    have e : b = it := by simpa using hb
    subst e
    exact ⟨_, st, fun v z => by
      have z' : Data.fields _ = Data.cell v := z
      cases z'⟩
  keep := fun i h h' st k => k it (by simp) _ st
  item := by
    intro X hP hw hK hc i pins s σ H E I hf st hg
    subst hP hw hK
    obtain ⟨f0, f1, f2, f3, f4, f5⟩ := hf it (by simp)
    have W := Walks.range (prog := X.prog) (w := X.w) (I.ok.hd hc) it lo 1 n
    refine W.item i s _ _ hg st fun v h' tk hv st' kk => ?_
    obtain ⟨t, rfl⟩ := hv
    have I1 : Inv X pins σ H { s with heap := h', toks := tk } := I.turned (fun b o hb e => kk b o (by simpa using hb) e) f0 f1 f3 f4 f5
    refine ⟨_, rfl, go_of (s := { s with heap := h', toks := tk }) (n := "range_iterator") st' rfl rfl (by decide) ⟨.int (lo + i), H, I1, ⟨t, ?_⟩, ⟨rfl, rfl⟩, st', fun b hb => (hf b hb).1⟩⟩
    rw [Int.mul_one]
  done := by
    intro X hP hw hK hc i pins s σ H E I hf st hg
    subst hP hw hK
    obtain ⟨f0, f1, f2, f3, f4, f5⟩ := hf it (by simp)
    exact wpAny_pyNext_range_end (I.ok.hd hc) st (by have : n ≤ i := hg; omega) fun h' eb => ⟨rfl, I.turned (t' := s.toks) (fun b o hb e => eb b o hb e) f0 f1 f3 f4 f5⟩
  self := fun _ _ _ _ _ st h => wpAny_pyIter_rangeiter st h
end L2
namespace L2
open PySem PySem.Spec PyProof.Rows
section
variable {X : Cx} {tg : Expr}
def iList (K : PySem.W.Frag) (tl : TE) : TI := fun σ H R => tl σ H fun x H1 => ∃ a, x = .ref a ∧ (∃ xs, SqL K H1 a xs) ∧ R (Itl K a) H1
def iTup (K : PySem.W.Frag) (tl : TE) : TI := fun σ H R => tl σ H fun x H1 => ∃ a, x = .ref a ∧ (∃ xs, SqT K H1 a xs) ∧ R (Itt K a) H1
theorem pi_list {l : Expr} {tl : TE} (hl : PE X l tl) : PI X tg l (iList X.K tl) := by
  intro pins s σ H R I h
  refine thn (hl pins s σ H _ I h) fun v s1 ⟨x, H1, I1, r1, q1⟩ => ?_
  obtain ⟨a, e, ⟨xs, hq⟩, q⟩ := q1
  subst e
  cases r1
  obtain ⟨its, rv, p, hz⟩ := I1.list hq
  refine wpAny_pyIter_list p.isList ?_
  refine ⟨s1.heap.objs.size, [s1.heap.objs.size], _, _, H1, rfl, I1.kept (t' := s1.toks) fun b o e => Heap.get?_push_of_some _ e, turn_list a _, ⟨_, Heap.get?_push_size _ rfl, rfl, rfl⟩, fun b hb => ?_, q⟩
  have e : b = s1.heap.objs.size := by simpa using hb
  subst e
  exact I1.fpOk (Nat.le_refl _) (I1.hok.fresh (Nat.le_refl _))
theorem range_it {pins : List (Addr × Obj)} {σ : St} {H : Hp} {s : Shared} {R : It → Hp → Prop} {E : Value → Shared → Prop} {lo hi : Int} {t u v : Tok} {tk : Nat} (I : Inv X pins σ H s) (h1 : -(2 ^ 62) ≤ lo) (h2 : lo < 2 ^ 62) (h3 : -(2 ^ 62) ≤ hi) (h4 : hi < 2 ^ 62)
    (q : R (Itr lo (hi - lo).toNat) H) : wpAny (model X.prog X.w) X.A (pyIter (.ref s.heap.objs.size)) (PIE X pins σ tg R) E { s with heap := s.heap.push { cls := .type "range", data := .fields #[.int lo t, .int hi u, .int 1 v] }, toks := tk } := by
  refine wpAny_pyIter_range (IsRange.new ..) (small_one h1 h2 h3 h4) ?_
  have I1 : Inv X pins σ H { s with heap := s.heap.push { cls := .type "range", data := .fields #[.int lo t, .int hi u, .int 1 v] }, toks := tk } := I.kept fun b o e => Heap.get?_push_of_some _ e
  refine ⟨(s.heap.push { cls := .type "range", data := .fields #[.int lo t, .int hi u, .int 1 v] }).objs.size, [(s.heap.push { cls := .type "range", data := .fields #[.int lo t, .int hi u, .int 1 v] }).objs.size], _, _, H, rfl,
    I1.kept (t' := tk) fun b o e => Heap.get?_push_of_some _ e, turn_range _ lo (hi - lo).toNat, ?_, fun b hb => ?_, q⟩
  · have e1 : lo + ((0 : Nat) : Int) * 1 = lo := by simp
    have e2 : (((hi - lo).toNat : Nat) : Int) - ((0 : Nat) : Int) = Builtin.Range.rangeSize lo hi 1 := by rw [rangeSize_one]; split <;> omega
    show IsRangeIter _ _ (lo + ((0 : Nat) : Int) * 1) ((((hi - lo).toNat : Nat) : Int) - ((0 : Nat) : Int)) 1
    rw [e1, e2]
    exact Heap.get?_push_size _ rfl
  · have e : b = (s.heap.push { cls := .type "range", data := .fields #[.int lo t, .int hi u, .int 1 v] }).objs.size := by simpa using hb
    subst e
    exact I1.fpOk (Nat.le_refl _) (I1.hok.fresh (Nat.le_refl _))
def iRng1 (ta : TA) : TI := fun σ H R => ta σ H fun vs H1 => ∃ j : Int, vs = [.int j] ∧ -(2 ^ 62) ≤ j ∧ j < 2 ^ 62 ∧ R (Itr 0 j.toNat) H1
def iRng2 (ta : TA) : TI := fun σ H R => ta σ H fun vs H1 => ∃ i j : Int, vs = [.int i, .int j] ∧ (-(2 ^ 62) ≤ i ∧ i < 2 ^ 62 ∧ -(2 ^ 62) ≤ j ∧ j < 2 ^ 62) ∧ R (Itr i (j - i).toNat) H1
theorem pi_range1 {a : Expr} {ta : TA} {p pos : Pos} (hg : Gl X "range") (hm : X.mg "range" = none) (ha : PA X [a] ta) (hs : starEach [a] X.env = [(false, eval a X.env)] := by rfl) : PI X tg (.Call (.Name "range" p) [a] [] pos) (iRng1 ta) := by
  intro pins s σ H R I h
  refine Call_ (ld_blt I hg hm boot_range (PyProof.Rows.callWith_type1 (thn (ha pos pins s σ H _ I h) fun us s1 ⟨vs, H1, I1, r1, q1⟩ => ?_) hs rfl))
  obtain ⟨j, e, q1, q2, q⟩ := q1
  subst e
  cases r1 with
  | cons r rr =>
    cases rr
    obtain ⟨t, rfl⟩ := r
    exact call_range_1 (range_it I1 (by omega) (by omega) q1 q2 (by simpa using q))
theorem pi_range2 {a b : Expr} {ta : TA} {p pos : Pos} (hg : Gl X "range") (hm : X.mg "range" = none) (ha : PA X [a, b] ta) (hs : starEach [a, b] X.env = [(false, eval a X.env), (false, eval b X.env)] := by rfl) (hs2 : starEach [b] X.env = [(false, eval b X.env)] := by rfl) :
    PI X tg (.Call (.Name "range" p) [a, b] [] pos) (iRng2 ta) := by
  intro pins s σ H R I h
  refine Call_ (ld_blt I hg hm boot_range (PyProof.Rows.callWith_type1 (thn (ha pos pins s σ H _ I h) fun us s1 ⟨vs, H1, I1, r1, q1⟩ => ?_) (by rw [hs, hs2]) (by rw [hs2]; rfl)))
  obtain ⟨i, j, e, ⟨q1, q2, q3, q4⟩, q⟩ := q1
  subst e
  cases r1 with
  | cons r rr =>
    cases rr with
    | cons r' rr =>
      cases rr
      obtain ⟨t, rfl⟩ := r
      obtain ⟨t', rfl⟩ := r'
      exact call_range_2 (range_it I1 q1 q2 q3 q4 q)
def tFor (wi : TI) (g : TG) (tb : TS) : TS := fun D σ H => wi σ H fun J H1 => ∃ W : Nat → Nat → St → Hp → Prop, (∃ m, W 0 m σ H1) ∧ ∀ i m σ H, W i m σ H →
  (J.stop i H ∧ D.nx σ H) ∨ (J.go i H ∧ ∃ N : St → Hp → Prop, (∀ σ' H', N σ' H' → ∃ m', m' < m ∧ W (i + 1) m' σ' H') ∧ ∀ x H', J.yld i H x H' → g x σ H' fun σ2 H2 => tb { D with nx := N, ct := N, bk := D.nx } σ2 H2)
def pinsAt (fp : List Addr) (h : Heap) : List (Addr × Obj) := fp.filterMap fun b => (h.get? b).map fun o => (b, o)
theorem mem_pinsAt {fp : List Addr} {h : Heap} {b : Addr} {o : Obj} (hb : b ∈ fp) (e : h.get? b = some o) : (b, o) ∈ pinsAt fp h := List.mem_filterMap.mpr ⟨b, hb, by rw [e]; rfl⟩
theorem of_pinsAt {fp : List Addr} {h : Heap} {p : Addr × Obj} (hp : p ∈ pinsAt fp h) : p.1 ∈ fp ∧ h.get? p.1 = some p.2 := by
  obtain ⟨b, hb, e⟩ := List.mem_filterMap.mp hp
  cases q : h.get? b with
  | none => rw [q] at e; cases e
  | some o =>
    rw [q] at e
    have e' : (b, o) = p := Option.some.inj e
    subst e'
    exact ⟨hb, q⟩
theorem Inv.pinned {pins : List (Addr × Obj)} {σ : St} {H : Hp} {s : Shared} {fp : List Addr} (I : Inv X pins σ H s) (hf : ∀ b ∈ fp, FpOk X pins H b) (ho : ∀ b ∈ fp, ∃ o, s.heap.get? b = some o ∧ ∀ v, o.data ≠ .cell v) : Inv X (pins ++ pinsAt fp s.heap) σ H s :=
  I.pins_of fun p hp => (List.mem_append.mp hp).elim (fun z => I.pin p (List.mem_append_right _ z)) fun z => by
    obtain ⟨hb, e⟩ := of_pinsAt z
    obtain ⟨f0, f1, f2, _⟩ := hf p.1 hb
    obtain ⟨o, e', d⟩ := ho p.1 hb
    rw [e] at e'; cases e'
    exact ⟨e, f0, f1, f2, d⟩
theorem Inv.unpinned {pins pl : List (Addr × Obj)} {σ : St} {H : Hp} {s : Shared} (I : Inv X (pins ++ pl) σ H s) : Inv X pins σ H s := I.pins_of fun p hp => I.pin p (List.mem_append_right _ (List.mem_append_left _ hp))
theorem ps_for {iter : Expr} {body : List Stmt} {wi : TI} {g : TG} {tb : TS} {pos : Pos} (hp : PassesOwn (model X.prog X.w) X.A X.env X.xe) (hc : X.calm = true) (hi : PI X tg iter wi) (hg : PG X tg g) (hb : PSs X body tb)
    (hs : ∀ x, foldedSetIterable iter X.env x = pure x := by intro _; rfl) : PS X (.For tg iter body [] pos) (tFor wi g tb) := by
  intro pins s σ H D I h
  refine wpAny_For (thn (hi pins s σ H _ I h) fun v s1 h1 => thn h1 fun itv s2 h2 => ?_) hs
  obtain ⟨it, fp, tn, J, H2, e, I2, T, st2, f2, W, ⟨m0, w0⟩, turn⟩ := h2
  subst e
  have stat : ∀ {H' : Hp}, (∀ b ∈ fp, H' b = none) → ∀ b ∈ fp, FpOk X pins H' b := fun hn b hb => ⟨hn b hb, (f2 b hb).2⟩
  refine codeAny_forLoop_any (fun n s' => ∃ i σ' H', Inv X pins σ' H' s' ∧ tn i s'.heap ∧ (∀ b ∈ fp, H' b = none) ∧ W i n σ' H') ?_ m0 ⟨0, σ, H2, I2, st2, fun b hb => (f2 b hb).1, w0⟩
  rintro n s3 ⟨i, σ3, H3, I3, st3, fr3, w3⟩
  rcases turn i n σ3 H3 w3 with ⟨stop, qn⟩ | ⟨go, N, hN, step⟩
  · refine wpAny_passesOwn hp (thn (T.done X rfl rfl rfl hc i pins s3 σ3 H3 X.xe I3 (stat fr3) st3 stop) fun r s4 ⟨hr, I4⟩ => ?_)
    subst hr
    exact wpAny_execs_nil ⟨σ3, H3, I4, qn⟩
  · refine wpAny_passesOwn hp (thn (T.item X rfl rfl rfl hc i pins s3 σ3 H3 X.xe I3 (stat fr3) st3 go) fun r s4 ⟨u, hr, h4⟩ => ?_)
    subst hr
    refine wpAny_passesOwn hp (thn h4 fun _ s5 ⟨x, H5, I5, r5, y5, st5, fr5⟩ => ?_)
    have I5' := I5.pinned (stat fr5) (T.obj _ _ st5)
    refine wpAny_passesOwn hp (thn (hg _ s5 σ3 H5 x u _ I5' r5 (step x H5 y5)) fun _ s6 ⟨σ6, H6, I6, q6⟩ => ?_)
    refine wpAny_passesOwn hp (thn (hb _ s6 σ6 H6 _ I6 q6) fun f s7 q7 => ?_)
    have again : ∀ {σ7 : St} {H7 : Hp}, Inv X (pins ++ pinsAt fp s5.heap) σ7 H7 s7 → N σ7 H7 → ∃ m, m < n ∧ ∃ i σ' H', Inv X pins σ' H' s7 ∧ tn i s7.heap ∧ (∀ b ∈ fp, H' b = none) ∧ W i m σ' H' := fun {σ7 H7} I7 n7 => by
      obtain ⟨m', hm, w7⟩ := hN σ7 H7 n7
      refine ⟨m', hm, i + 1, σ7, H7, I7.unpinned, T.keep _ _ _ st5 fun b hb o e => (I7.pin (b, o) (List.mem_append_right _ (List.mem_append_right _ (mem_pinsAt hb e)))).1, fun b hb => ?_, w7⟩
      obtain ⟨o, e, d⟩ := T.obj _ _ st5 b hb
      exact (I7.pin (b, o) (List.mem_append_right _ (List.mem_append_right _ (mem_pinsAt hb e)))).2.1
    cases f with
    | next => obtain ⟨σ7, H7, I7, n7⟩ := q7; exact again I7 n7
    | cont => obtain ⟨σ7, H7, I7, n7⟩ := q7; exact again I7 n7
    | brk => obtain ⟨σ7, H7, I7, q7⟩ := q7; exact ⟨σ7, H7, I7.unpinned, q7⟩
    | ret v => obtain ⟨x7, σ7, H7, I7, r7, q7⟩ := q7; exact ⟨x7, σ7, H7, I7.unpinned, r7, q7⟩
end
theorem for_list {K : PySem.W.Frag} {a : Addr} {xs : List V} {g : TG} {tb : TS} {D : Ends} {σ : St} {H : Hp} (Pv : Nat → St → Hp → Prop) (h0 : Pv 0 σ H) (hl : ∀ i σ H, i ≤ xs.length → Pv i σ H → SqL K H a xs)
    (hs : ∀ i x σ H, xs[i]? = some x → Pv i σ H → g x σ H fun σ2 H2 => tb { D with nx := Pv (i + 1), ct := Pv (i + 1), bk := D.nx } σ2 H2) (hd : ∀ σ H, Pv xs.length σ H → D.nx σ H) :
    ∃ W : Nat → Nat → St → Hp → Prop, (∃ m, W 0 m σ H) ∧ ∀ i m σ H, W i m σ H →
      ((Itl K a).stop i H ∧ D.nx σ H) ∨ ((Itl K a).go i H ∧ ∃ N : St → Hp → Prop, (∀ σ' H', N σ' H' → ∃ m', m' < m ∧ W (i + 1) m' σ' H') ∧ ∀ x H', (Itl K a).yld i H x H' → g x σ H' fun σ2 H2 => tb { D with nx := N, ct := N, bk := D.nx } σ2 H2) := by
  refine ⟨fun i m σ H => m = xs.length - i ∧ i ≤ xs.length ∧ Pv i σ H, ⟨xs.length, by simp, Nat.zero_le _, h0⟩, ?_⟩
  rintro i m σ H ⟨rfl, hi, p⟩
  have q := hl i σ H hi p
  by_cases hlt : i < xs.length
  · refine .inr ⟨⟨xs, xs[i], q, by simp [hlt]⟩, Pv (i + 1), fun σ' H' p' => ⟨xs.length - (i + 1), by omega, rfl, hlt, p'⟩, fun x H' y => ?_⟩
    obtain ⟨e, y⟩ := y
    subst e
    exact hs i x σ _ (y xs q) p
  · have e : i = xs.length := by omega
    subst e
    exact .inl ⟨⟨xs, q, Nat.le_refl _⟩, hd σ H p⟩
theorem for_range {lo : Int} {n : Nat} {g : TG} {tb : TS} {D : Ends} {σ : St} {H : Hp} (Pv : Nat → St → Hp → Prop) (h0 : Pv 0 σ H)
    (hs : ∀ i σ H, i < n → Pv i σ H → g (.int (lo + i)) σ H fun σ2 H2 => tb { D with nx := Pv (i + 1), ct := Pv (i + 1), bk := D.nx } σ2 H2) (hd : ∀ σ H, Pv n σ H → D.nx σ H) :
    ∃ W : Nat → Nat → St → Hp → Prop, (∃ m, W 0 m σ H) ∧ ∀ i m σ H, W i m σ H →
      ((Itr lo n).stop i H ∧ D.nx σ H) ∨ ((Itr lo n).go i H ∧ ∃ N : St → Hp → Prop, (∀ σ' H', N σ' H' → ∃ m', m' < m ∧ W (i + 1) m' σ' H') ∧ ∀ x H', (Itr lo n).yld i H x H' → g x σ H' fun σ2 H2 => tb { D with nx := N, ct := N, bk := D.nx } σ2 H2) := by
  refine ⟨fun i m σ H => m = n - i ∧ i ≤ n ∧ Pv i σ H, ⟨n, by simp, Nat.zero_le _, h0⟩, ?_⟩
  rintro i m σ H ⟨rfl, hi, p⟩
  by_cases hlt : i < n
  · refine .inr ⟨hlt, Pv (i + 1), fun σ' H' p' => ⟨n - (i + 1), by omega, rfl, hlt, p'⟩, fun x H' y => ?_⟩
    obtain ⟨e, y⟩ := y
    subst e y
    exact hs i σ _ hlt p
  · have e : i = n := by omega
    subst e
    exact .inl ⟨Nat.le_refl _, hd σ H p⟩
end L2
namespace L2
open PySem PySem.Spec PyProof.Rows
abbrev R2 := V → V → Hp → VK → Prop
def OpR (X : Cx) (f : Value → Value → Sem Value) (r : R2) : Prop :=
  ∀ (pins : List (Addr × Obj)) (s : Shared) (σ : St) (H : Hp) (x y : V) (v u : Value) (Q : VK), Inv X pins σ H s → RelV x v → RelV y u → r x y H Q →
    wpAny (model X.prog X.w) X.A (f v u) (EP X pins σ Q) X.xe s
def UnR (X : Cx) (f : Value → Sem Value) (r : V → Hp → VK → Prop) : Prop :=
  ∀ (pins : List (Addr × Obj)) (s : Shared) (σ : St) (H : Hp) (x : V) (v : Value) (Q : VK), Inv X pins σ H s → RelV x v → r x H Q →
    wpAny (model X.prog X.w) X.A (f v) (EP X pins σ Q) X.xe s
def CallR (X : Cx) (f : Value) (r : List V → Hp → VK → Prop) : Prop :=
  ∀ (pins : List (Addr × Obj)) (s : Shared) (σ : St) (H : Hp) (xs : List V) (us : List Value) (Q : VK), Inv X pins σ H s → Vals xs us → r xs H Q →
    wpAny (model X.prog X.w) X.A (call f us) (EP X pins σ Q) X.xe s
def TruR (X : Cx) (r : V → Hp → (Bool → Hp → Prop) → Prop) : Prop :=
  ∀ (pins : List (Addr × Obj)) (s : Shared) (σ : St) (H : Hp) (x : V) (v : Value) (Q : Bool → Hp → Prop), Inv X pins σ H s → RelV x v → r x H Q →
    wpAny (model X.prog X.w) X.A (truthy v) (TP X pins σ Q) X.xe s
def tOp (r : R2) (ta tb : TE) : TE := fun σ H Q => ta σ H fun x H1 => tb σ H1 fun y H2 => r x y H2 Q
def tUn (r : V → Hp → VK → Prop) (ta : TE) : TE := fun σ H Q => ta σ H fun x H1 => r x H1 Q
def rI (C : Int → Int → Prop) (g : Int → Int → V) : R2 := fun x y H Q => ∃ i j, x = .int i ∧ y = .int j ∧ C i j ∧ Q (g i j) H
def rI0 (g : Int → Int → V) : R2 := fun x y H Q => ∃ i j, x = .int i ∧ y = .int j ∧ Q (g i j) H
def rU (g : Int → V) : V → Hp → VK → Prop := fun x H Q => ∃ i, x = .int i ∧ Q (g i) H
section
variable {X : Cx} {a b c : Expr} {ta tb tc : TE} {pos : Pos}
theorem binT (ha : PE X a ta) (hb : PE X b tb) {pins : List (Addr × Obj)} {s : Shared} {σ : St} {H : Hp} {R : V → V → Hp → Prop} (I : Inv X pins σ H s)
    (h : ta σ H fun x H1 => tb σ H1 fun y H2 => R x y H2) {Q : Value → Shared → Prop} {f : Value → Value → Sem Value}
    (hf : ∀ v u s2 x y H2, Inv X pins σ H2 s2 → RelV x v → RelV y u → R x y H2 → wpAny (model X.prog X.w) X.A (f v u) Q X.xe s2) :
    wpAny (model X.prog X.w) X.A (eval a X.env) (fun v s₁ => wpAny (model X.prog X.w) X.A (eval b X.env) (fun u s₂ => wpAny (model X.prog X.w) X.A (f v u) Q X.xe s₂) X.xe s₁) X.xe s := by
  refine thn (ha pins s σ H _ I h) fun v s1 ⟨x, H1, I1, r1, q1⟩ => ?_
  refine thn (hb pins s1 σ H1 _ I1 q1) fun u s2 ⟨y, H2, I2, r2, q2⟩ => ?_
  exact hf v u s2 x y H2 I2 r1 r2 q2
theorem pe_op {op : Operator} {r : R2} (ho : OpR X (binaryOp op) r) (ha : PE X a ta) (hb : PE X b tb) : PE X (.BinOp a op b pos) (tOp r ta tb) := by
  intro pins s σ H Q I h
  exact wpAny_BinOp (binT ha hb I h fun v u s2 x y H2 I2 rx ry q => ho pins s2 σ H2 x y v u Q I2 rx ry q)
theorem pe_un {op : UnaryOp} {r : V → Hp → VK → Prop} (ho : UnR X (unaryOp op) r) (ha : PE X a ta) : PE X (.UnaryOp op a pos) (tUn r ta) := by
  intro pins s σ H Q I h
  exact UnaryOp_ (thn (ha pins s σ H _ I h) fun v s1 ⟨x, H1, I1, r1, q1⟩ => ho pins s1 σ H1 x v Q I1 r1 q1)
theorem opI {f : Value → Value → Sem Value} {C : Int → Int → Prop} {g : Int → Int → Int}
    (rule : ∀ (i j : Int) (t u : Tok) (s : Shared) (Q : Value → Shared → Prop) (E : Value → Shared → Prop), C i j → Q (.int (g i j) s.toks) { s with toks := s.toks + 1 } → wpAny (model X.prog X.w) X.A (f (.int i t) (.int j u)) Q E s) :
    OpR X f (rI C fun i j => .int (g i j)) := by
  intro pins s σ H x y v u Q I rx ry h
  obtain ⟨i, j, rfl, rfl, hc, q⟩ := h
  obtain ⟨t, rfl⟩ := rx
  obtain ⟨t', rfl⟩ := ry
  exact rule i j t t' s _ _ hc ⟨.int (g i j), H, I.tok _, ⟨_, rfl⟩, q⟩
theorem opI0 {f : Value → Value → Sem Value} {g : Int → Int → Int}
    (rule : ∀ (i j : Int) (t u : Tok) (s : Shared) (Q : Value → Shared → Prop) (E : Value → Shared → Prop), Q (.int (g i j) s.toks) { s with toks := s.toks + 1 } → wpAny (model X.prog X.w) X.A (f (.int i t) (.int j u)) Q E s) :
    OpR X f (rI0 fun i j => .int (g i j)) := by
  intro pins s σ H x y v u Q I rx ry h
  obtain ⟨i, j, rfl, rfl, q⟩ := h
  obtain ⟨t, rfl⟩ := rx
  obtain ⟨t', rfl⟩ := ry
  exact rule i j t t' s _ _ ⟨.int (g i j), H, I.tok _, ⟨_, rfl⟩, q⟩
theorem opB0 {f : Value → Value → Sem Value} {g : Int → Int → Bool}
    (rule : ∀ (i j : Int) (t u : Tok) (s : Shared) (Q : Value → Shared → Prop) (E : Value → Shared → Prop), Q (.bool (g i j)) s → wpAny (model X.prog X.w) X.A (f (.int i t) (.int j u)) Q E s) :
    OpR X f (rI0 fun i j => .bl (g i j)) := by
  intro pins s σ H x y v u Q I rx ry h
  obtain ⟨i, j, rfl, rfl, q⟩ := h
  obtain ⟨t, rfl⟩ := rx
  obtain ⟨t', rfl⟩ := ry
  exact rule i j t t' s _ _ ⟨.bl (g i j), H, I, rfl, q⟩
def CDiv (i j : Int) : Prop := 0 < j ∧ j < 1073741824
def CDivN (i j : Int) : Prop := j ≠ 0 ∧ j.natAbs < 1073741824
def CPow (i j : Int) : Prop := 0 ≤ j ∧ j ≤ 1000000 ∧ i.natAbs < 2 ^ 64
def CMul (i j : Int) : Prop := (-(2 ^ 64) < i ∧ i < 2 ^ 64) ∨ (-(2 ^ 64) < j ∧ j < 2 ^ 64)
theorem CMul.ok {i j : Int} (h : CMul i j) : IntMulOk i j := by
  rcases h with ⟨h1, h2⟩ | ⟨h1, h2⟩
  · exact .of_left (intBits_le_64 h1 h2)
  · exact .of_right (intBits_le_64 h1 h2)
theorem op_add : OpR X (binaryOp .Add) (rI0 fun i j => .int (i + j)) := opI0 fun _ _ _ _ _ _ _ q => add_int q
theorem op_sub : OpR X (binaryOp .Sub) (rI0 fun i j => .int (i - j)) := opI0 fun _ _ _ _ _ _ _ q => sub_int q
theorem op_fdiv : OpR X (binaryOp .FloorDiv) (rI CDiv fun i j => .int (i / j)) := opI fun i j _ _ _ _ _ hc q => by
  have h1 : (0 : Int) < j := hc.1
  have h2 : j < 1073741824 := hc.2
  exact floordiv_int (by omega) (by rw [Int.fdiv_eq_ediv_of_nonneg i (by omega)]; exact q) (.inl (PyProof.noPylong_small (by omega)))
theorem op_mod : OpR X (binaryOp .Mod) (rI (fun _ j => 0 < j) fun i j => .int (i % j)) := opI fun i j _ _ _ _ _ hc q => by
  have h1 : (0 : Int) < j := hc
  exact mod_int' (by omega) (by rw [Int.fmod_eq_emod_of_nonneg i (by omega)]; exact q)
theorem unI {f : Value → Sem Value} {g : Int → Int}
    (rule : ∀ (i : Int) (t : Tok) (s : Shared) (Q : Value → Shared → Prop) (E : Value → Shared → Prop), Q (.int (g i) s.toks) { s with toks := s.toks + 1 } → wpAny (model X.prog X.w) X.A (f (.int i t)) Q E s) :
    UnR X f (rU fun i => .int (g i)) := by
  intro pins s σ H x v Q I rx h
  obtain ⟨i, rfl, q⟩ := h
  obtain ⟨t, rfl⟩ := rx
  exact rule i t s _ _ ⟨.int (g i), H, I.tok _, ⟨_, rfl⟩, q⟩
theorem un_neg : UnR X (unaryOp .USub) (rU fun i => .int (-i)) := unI fun _ _ _ _ _ q => neg_int q
end
def scal : V → V → Bool
  | .non, .non => true | .non, .int _ => true | .int _, .non => true | .non, .bl _ => true | .bl _, .non => true | .non, .str _ => true | .str _, .non => true
  | .int _, .int _ => true | .bl _, .bl _ => true | .str _, .str _ => true | .byt _, .byt _ => true
  | .int _, .str _ => true | .str _, .int _ => true | .bl _, .str _ => true | .str _, .bl _ => true
  | _, _ => false
def rEq : R2 := fun x y H Q => scal x y = true ∧ Q (.bl (decide (x = y))) H
def rNe : R2 := fun x y H Q => scal x y = true ∧ Q (.bl (!decide (x = y))) H
theorem dec_int {i j : Int} : decide (V.int i = V.int j) = (i == j) := by
  rw [Bool.eq_iff_iff]
  simp
theorem dec_bl {i j : Bool} : decide (V.bl i = V.bl j) = (i == j) := by
  rw [Bool.eq_iff_iff]
  simp
theorem dec_str {i j : Str} : decide (V.str i = V.str j) = (i == j) := by
  rw [Bool.eq_iff_iff]
  simp
theorem dec_byt {i j : Array UInt8} : decide (V.byt i = V.byt j) = (i.toList == j.toList) := by
  rw [Bool.eq_iff_iff]
  cases i
  cases j
  simp
section
variable {X : Cx} {a b c : Expr} {ta tb tc : TE} {pos : Pos}
theorem fin_bl {pins : List (Addr × Obj)} {σ : St} {H : Hp} {s : Shared} {Q : VK} {k k' : Bool} (I : Inv X pins σ H s) (q : Q (.bl k) H) (e : k = k') : EP X pins σ Q (.bool k') s := by
  subst e
  exact ⟨.bl k, H, I, rfl, q⟩
theorem op_eq : OpR X (compareOp .Eq) rEq := by
  intro pins s σ H x y v u Q I rx ry h
  obtain ⟨hs, q⟩ := h
  cases x with
  | non =>
    cases rx
    cases y with
    | non => cases ry; exact PySem.EqNone.eq_none_none (fin_bl I q (by simp))
    | bl j => cases ry; exact PySem.EqNone.eq_none_bool (fin_bl I q (by simp))
    | int j => obtain ⟨t', rfl⟩ := ry; exact PySem.EqNone.eq_none_int (fin_bl I q (by simp))
    | str j => obtain ⟨t', rfl⟩ := ry; exact PySem.EqNone.eq_none_str (fin_bl I q (by simp))
    | _ => exact absurd (show false = true from hs) Bool.false_ne_true
  | bl i =>
    cases rx
    cases y with
    | non => cases ry; exact PySem.EqNone.eq_bool_none (fin_bl I q (by simp))
    | bl j => cases ry; exact eq_bool (fin_bl I q dec_bl)
    | str j => obtain ⟨t', rfl⟩ := ry; exact PySem.EqMixed.eq_bool_str (fin_bl I q (by simp))
    | _ => exact absurd (show false = true from hs) Bool.false_ne_true
  | int i =>
    obtain ⟨t, rfl⟩ := rx
    cases y with
    | non => cases ry; exact PySem.EqNone.eq_int_none (fin_bl I q (by simp))
    | int j => obtain ⟨t', rfl⟩ := ry; exact eq_int (fin_bl I q dec_int)
    | str j => obtain ⟨t', rfl⟩ := ry; exact PySem.EqMixed.eq_int_str (fin_bl I q (by simp))
    | _ => exact absurd (show false = true from hs) Bool.false_ne_true
  | str i =>
    obtain ⟨t, rfl⟩ := rx
    cases y with
    | non => cases ry; exact PySem.EqNone.eq_str_none (fin_bl I q (by simp))
    | bl j => cases ry; exact PySem.EqMixed.eq_str_bool (fin_bl I q (by simp))
    | int j => obtain ⟨t', rfl⟩ := ry; exact PySem.EqMixed.eq_str_int (fin_bl I q (by simp))
    | str j => obtain ⟨t', rfl⟩ := ry; exact eq_str (fin_bl I q dec_str)
    | _ => exact absurd (show false = true from hs) Bool.false_ne_true
  | byt i =>
    obtain ⟨t, rfl⟩ := rx
    cases y with
    | byt j => obtain ⟨t', rfl⟩ := ry; exact PySem.W.eq_bytes (fin_bl I q dec_byt)
    | _ => exact absurd (show false = true from hs) Bool.false_ne_true
  | _ => cases y <;> exact absurd (show false = true from hs) Bool.false_ne_true
theorem op_ne : OpR X (compareOp .NotEq) rNe := by
  intro pins s σ H x y v u Q I rx ry h
  obtain ⟨hs, q⟩ := h
  cases x with
  | non =>
    cases rx
    cases y with
    | non => cases ry; exact PySem.EqNone.ne_none_none (fin_bl I q (by simp))
    | bl j => cases ry; exact PySem.EqNone.ne_none_bool (fin_bl I q (by simp))
    | int j => obtain ⟨t', rfl⟩ := ry; exact PySem.EqNone.ne_none_int (fin_bl I q (by simp))
    | str j => obtain ⟨t', rfl⟩ := ry; exact PySem.EqNone.ne_none_str (fin_bl I q (by simp))
    | _ => exact absurd (show false = true from hs) Bool.false_ne_true
  | bl i =>
    cases rx
    cases y with
    | non => cases ry; exact PySem.EqNone.ne_bool_none (fin_bl I q (by simp))
    | bl j => cases ry; exact ne_bool (fin_bl I q (congrArg not dec_bl))
    | str j => obtain ⟨t', rfl⟩ := ry; exact PySem.EqMixed.ne_bool_str (fin_bl I q (by simp))
    | _ => exact absurd (show false = true from hs) Bool.false_ne_true
  | int i =>
    obtain ⟨t, rfl⟩ := rx
    cases y with
    | non => cases ry; exact PySem.EqNone.ne_int_none (fin_bl I q (by simp))
    | int j => obtain ⟨t', rfl⟩ := ry; exact ne_int (fin_bl I q (congrArg not dec_int))
    | str j => obtain ⟨t', rfl⟩ := ry; exact PySem.EqMixed.ne_int_str (fin_bl I q (by simp))
    | _ => exact absurd (show false = true from hs) Bool.false_ne_true
  | str i =>
    obtain ⟨t, rfl⟩ := rx
    cases y with
    | non => cases ry; exact PySem.EqNone.ne_str_none (fin_bl I q (by simp))
    | bl j => cases ry; exact PySem.EqMixed.ne_str_bool (fin_bl I q (by simp))
    | int j => obtain ⟨t', rfl⟩ := ry; exact PySem.EqMixed.ne_str_int (fin_bl I q (by simp))
    | str j => obtain ⟨t', rfl⟩ := ry; exact ne_str (fin_bl I q (congrArg not dec_str))
    | _ => exact absurd (show false = true from hs) Bool.false_ne_true
  | byt i =>
    obtain ⟨t, rfl⟩ := rx
    cases y with
    | byt j => obtain ⟨t', rfl⟩ := ry; exact PySem.W.ne_bytes (fin_bl I q (congrArg not dec_byt))
    | _ => exact absurd (show false = true from hs) Bool.false_ne_true
  | _ => cases y <;> exact absurd (show false = true from hs) Bool.false_ne_true
theorem op_lt : OpR X (compareOp .Lt) (rI0 fun i j => .bl (decide (i < j))) := opB0 fun _ _ _ _ _ _ _ q => lt_int q
theorem op_le : OpR X (compareOp .LtE) (rI0 fun i j => .bl (decide (i ≤ j))) := opB0 fun _ _ _ _ _ _ _ q => le_int q
theorem op_gt : OpR X (compareOp .Gt) (rI0 fun i j => .bl (decide (j < i))) := opB0 fun _ _ _ _ _ _ _ q => gt_int q
theorem op_ge : OpR X (compareOp .GtE) (rI0 fun i j => .bl (decide (j ≤ i))) := opB0 fun _ _ _ _ _ _ _ q => ge_int q
def isObj : HO → Bool
  | .lst _ => true
  | .ins _ _ _ => true
  | _ => false
theorem OpR.or {f : Value → Value → Sem Value} {r r' : R2} (h : OpR X f r) (h' : OpR X f r') : OpR X f (fun x y H Q => r x y H Q ∨ r' x y H Q) := by
  intro pins s σ H x y v u Q I rx ry q
  rcases q with q | q
  · exact h pins s σ H x y v u Q I rx ry q
  · exact h' pins s σ H x y v u Q I rx ry q
theorem nomark (b : Expr) {op : CmpOp} (h : op ≠ .In := by decide) (h2 : op ≠ .NotIn := by decide) : behindInMarks op b = false := by
  have e1 : (op == CmpOp.In) = false := by cases op <;> first | rfl | exact absurd rfl h
  have e2 : (op == CmpOp.NotIn) = false := by cases op <;> first | rfl | exact absurd rfl h2
  cases b <;> simp [behindInMarks, e1, e2]
theorem pe_cmpR {op : CmpOp} {r : R2} (ho : OpR X (compareOp op) r) (ha : PE X a ta) (hb : PE X b tb) (hm : behindInMarks op b = false) : PE X (.Compare a [op] [b] pos) (tOp r ta tb) := by
  intro pins s σ H Q I h
  exact wpAny_Compare1 (binT ha hb I h fun v u s2 x y H2 I2 rx ry q => ho pins s2 σ H2 x y v u Q I2 rx ry q) hm
def tTest (t : TE) : TT := fun σ H Q => t σ H fun x H' => ∃ k, x = .bl k ∧ Q k H'
theorem pt_cmpR {op : CmpOp} {r : R2} (ho : OpR X (compareOp op) r) (ha : PE X a ta) (hb : PE X b tb) (hm : behindInMarks op b = false) : PT X (.Compare a [op] [b] pos) (tTest (tOp r ta tb)) := by
  intro pins s σ H Q I h
  refine wpAny_isTrue_Compare1 (thn (ha pins s σ H _ I h) fun v s1 ⟨x, H1, I1, r1, q1⟩ => thn (hb pins s1 σ H1 _ I1 q1) fun u s2 ⟨y, H2, I2, r2, q2⟩ =>
    thn (ho pins s2 σ H2 x y v u _ I2 r1 r2 q2) fun c s3 ⟨z, H3, I3, r3, k, e, q3⟩ => ?_) hm
  subst e
  cases r3
  exact wpAny_truthy_bool ⟨H3, I3, q3⟩
def tChain (r r' : R2) (ta tb tc : TE) : TE := fun σ H Q => ta σ H fun x H1 => tb σ H1 fun y H2 => r x y H2 fun z H3 => ∃ k, z = .bl k ∧
  (if k = true then tc σ H3 fun w' H4 => r' y w' H4 Q else Q (.bl false) H3)
def TruV (K : PySem.W.Frag) (x : V) (H : Hp) (k : Bool) : Prop :=
  match x with
  | .non => k = false
  | .bl b => k = b
  | .int i => k = (i != 0)
  | .str y => y.length ≤ sizeLine ∧ k = ((y.length : Int) != 0)
  | .byt y => y.size ≤ sizeLine ∧ k = ((y.size : Int) != 0)
  | .ref p => (∃ xs, SqL K H p xs ∧ k = !xs.isEmpty) ∨ (∃ xs, SqT K H p xs ∧ k = !xs.isEmpty) ∨ ∃ kvs, H p = some (.dK kvs) ∧ k = !kvs.isEmpty
  | _ => False
theorem line63 : (sizeLine : Nat) < 2 ^ 63 := by rw [sizeLine_eq]; decide
def PlainIxT (b : Expr) : Prop := ∀ o i, subscripted b false o i = operate [o, i] (getItem o i)
theorem vals1 {x : V} {us : List Value} (r : Vals [x] us) : ∃ u, us = [u] ∧ RelV x u := by
  cases r with
  | cons r1 r2 => cases r2; exact ⟨_, rfl, r1⟩
theorem vals2 {x y : V} {us : List Value} (r : Vals [x, y] us) : ∃ u w', us = [u, w'] ∧ RelV x u ∧ RelV y w' := by
  cases r with
  | cons r1 r2 =>
    cases r2 with
    | cons r3 r4 => cases r4; exact ⟨_, _, rfl, r1, r3⟩
theorem call_int1 : CallR X (.type "int") (fun xs H Q => (∃ i, xs = [.int i] ∧ Q (.int i) H) ∨ ∃ k, xs = [.bl k] ∧ Q (.int (if k then 1 else 0)) H) := by
  intro pins s σ H xs us Q I r h
  rcases h with ⟨i, rfl, q⟩ | ⟨k, rfl, q⟩
  · obtain ⟨u, rfl, t, rfl⟩ := vals1 r
    exact call_int_int ⟨.int i, H, I, ⟨_, rfl⟩, q⟩
  · obtain ⟨u, rfl, r1⟩ := vals1 r
    cases r1
    exact call_int_bool ⟨.int (if k then 1 else 0), H, I.tok _, ⟨_, rfl⟩, q⟩
def LenV (K : PySem.W.Frag) (x : V) (H : Hp) (n : Nat) : Prop :=
  match x with
  | .str y => y.length ≤ sizeLine ∧ n = y.length
  | .byt y => y.size ≤ sizeLine ∧ n = y.size
  | .ref p => (∃ xs, SqL K H p xs ∧ n = xs.length) ∨ ∃ xs, SqT K H p xs ∧ n = xs.length
  | _ => False
end
end L2
namespace L2
open PySem PySem.Spec PyProof.Rows
structure ObjM (h : Heap) (x dx C : Addr) (mA : Str → Option Value) : Prop where
  obj : h.get? x = some (PySem.W.instObj C dx)
  ns : h.Ns1 dx mA
  ne : dx ≠ x
theorem lookIn_ns {h : Heap} {dx : Addr} {mA : Str → Option Value} (n : h.Ns1 dx mA) : ∃ od, h.get? dx = some od ∧ ∀ name, PySem.W.lookIn name od = some (mA name) := by
  obtain ⟨o, es, ep, ho, hd, hk, _, hm⟩ := n
  refine ⟨o, ho, fun name => ?_⟩
  have e := hm name
  unfold nsFind findBy at e
  rw [← Array.find?_toList] at e
  unfold PySem.W.lookIn
  rw [hd]
  dsimp only
  split
  · rename_i y q
    rw [q] at e
    exact congrArg some e
  · rename_i q
    rw [q] at e
    have a : es.toList.any (·.refKey) = false := by
      rw [List.any_eq_false]
      intro y hy
      obtain ⟨z, t, hkey⟩ := hk y (Array.mem_toList_iff.mp hy)
      simp [DictEntry.refKey, hkey]
    have a' : ¬ es.toList.any (·.refKey) = true := by rw [a]; exact Bool.false_ne_true
    rw [if_neg a']
    exact congrArg some e
theorem ObjM.look {h : Heap} {x dx C : Addr} {mA : Str → Option Value} (I : ObjM h x dx C mA) : ∃ od, PySem.W.InstAt h x (PySem.W.instObj C dx) C (some od) ∧ ∀ name, PySem.W.lookIn name od = some (mA name) :=
  let ⟨od, ho, hl⟩ := lookIn_ns I.ns
  ⟨od, ⟨I.obj, rfl, rfl, ho⟩, hl⟩
section
variable {prog : Program} {w : World} {A : Around} {E : Value → Shared → Prop} {s : Shared} {K : PySem.W.Frag} {x dx C f : Addr} {mA : Str → Option Value} {name : Str} {v : Value}
end
def putF (f : Str) (v : V) : List (Str × V) → List (Str × V)
  | [] => [(f, v)]
  | (g, x) :: r => if g = f then (g, v) :: r else (g, x) :: putF f v r
theorem RelO.some_of {v : V} {o : Option Value} (r : RelO (some v) o) : ∃ u, o = some u ∧ RelV v u := by
  cases o with
  | none => exact (show False from r).elim
  | some u => exact ⟨u, rfl, r⟩
theorem RelO.none_of {o : Option Value} (r : RelO none o) : o = none := by
  cases o with
  | none => rfl
  | some u => exact (show False from r).elim
section
variable {P : Program} {w : World} {H H' : Hp} {h h' : Heap} {a C dx : Addr} {fs fs' : List (Str × V)}
theorem ins_get (hok : HOk P w H h) (e : H a = some (.ins C dx fs)) : ∃ mA, ObjM h a dx C mA ∧ (∀ f, RelO (fs.lookup f) (mA f)) ∧ PySem.Within mA (fs.map (·.1)) ∧ fs.length ≤ 1000 ∧ H dx = some (.own a) := by
  obtain ⟨d, z, ne, ob, mA, n, r, q⟩ := (show ObjOk P w H h a (.ins C dx fs) from hok a _ e)
  exact ⟨mA, ⟨ob, n, ne⟩, r, q, z, d⟩
end
structure Cls (K : PySem.W.Frag) (C : Addr) : Prop where
  pg : PySem.W.plainGet K C Str.empty = true
  hd : PySem.W.hasDictIn K C = true
  po : PySem.W.plainOver K C = true
  sa : PySem.W.findIn K (.ref C) "__setattr__" = some (some (.builtin "object.__setattr__"))
theorem Cls.get {K : PySem.W.Frag} {C : Addr} (c : Cls K C) (f : Str) : PySem.W.plainGet K C f = true := c.pg
def NoAttr (K : PySem.W.Frag) (C : Addr) (f : Str) : Prop := PySem.W.findIn K (.ref C) f = some none
structure Con (K : PySem.W.Frag) (C : Addr) (f : Str) (v : V) (u : Value) : Prop where
  at_ : PySem.W.findIn K (.ref C) f = some (some u)
  rel : RelV v u
  get : PySem.W.specialIn K u "__get__" = some none
  cp : PySem.W.copiedNames.contains f = false
structure Meth (K : PySem.W.Frag) (C : Addr) (m : Str) (f : Addr) : Prop where
  at_ : PySem.W.findIn K (.ref C) m = some (some (.ref f))
  fn : PySem.W.isFn K (.ref f) = true
  kp : PySem.W.keepIn K (.ref f) = true
section
variable {X : Cx} {pins : List (Addr × Obj)} {σ : St} {H : Hp} {s : Shared} {a C dx : Addr} {fs : List (Str × V)} {f : Str} {v : V} {A : Around} {E : Value → Shared → Prop}
theorem Inv.made (I : Inv X pins σ H s) : Inv X pins σ (upd (upd H s.heap.objs.size (.own (s.heap.objs.size + 1))) (s.heap.objs.size + 1) (.ins C s.heap.objs.size []))
    { s with heap := (s.heap.push PySem.W.emptyDict).push (PySem.W.instObj C s.heap.objs.size) } := by
  have e1 : (s.heap.push PySem.W.emptyDict).get? s.heap.objs.size = some PySem.W.emptyDict := Heap.get?_push_size s.heap rfl
  have e2 : ((s.heap.push PySem.W.emptyDict).push (PySem.W.instObj C s.heap.objs.size)).get? (s.heap.objs.size + 1) = some (PySem.W.instObj C s.heap.objs.size) := by
    have := Heap.get?_push_size (s.heap.push PySem.W.emptyDict) (o := PySem.W.instObj C s.heap.objs.size) rfl
    rwa [Heap.size_push] at this
  have e3 : (s.heap.push PySem.W.emptyDict).Ns s.heap.objs.size (fun _ => none) := ⟨PySem.W.emptyDict, #[], _, e1, rfl, (fun e he => absurd he (by simp)), fun _ => rfl⟩
  have I1 := I.laid (a := s.heap.objs.size) (o := .own (s.heap.objs.size + 1)) (h' := s.heap.push PySem.W.emptyDict) (t' := s.toks) (fun b u q => Heap.get?_push_of_some _ q) (Nat.le_refl _) ⟨_, e1⟩
  refine I1.laid (a := s.heap.objs.size + 1) (o := .ins C s.heap.objs.size []) (t' := s.toks) (fun b u q => Heap.get?_push_of_some _ q) (Nat.le_of_eq (Heap.size_push _ _)) ?_
  have ne : s.heap.objs.size ≠ s.heap.objs.size + 1 := Nat.ne_of_lt (Nat.lt_succ_self _)
  refine ⟨by rw [upd_ne ne, upd_same], Nat.zero_le _, ne, e2, fun _ => none, (Heap.Ns1.of_empty e3).at fun o q => Heap.get?_push_of_some _ q, fun _ => True.intro, fun y hy => absurd rfl hy⟩
end
def tFld (K : PySem.W.Frag) (ta : TE) (f : Str) : TE := fun σ H Q => ta σ H fun x H1 => ∃ a C dx fs v, x = .ref a ∧ H1 a = some (.ins C dx fs) ∧ Cls K C ∧ NoAttr K C f ∧ fs.lookup f = some v ∧ Q v H1
def tCon (K : PySem.W.Frag) (ta : TE) (f : Str) : TE := fun σ H Q => ta σ H fun x H1 => ∃ a C dx fs v u, x = .ref a ∧ H1 a = some (.ins C dx fs) ∧ Cls K C ∧ Con K C f v u ∧ fs.lookup f = none ∧ Q v H1
def sFld (K : PySem.W.Frag) (ta tv : TE) (f : Str) : TS := fun D σ H => tv σ H fun y H1 => ta σ H1 fun x H2 => ∃ a C dx fs, x = .ref a ∧ H2 a = some (.ins C dx fs) ∧ Cls K C ∧ NoAttr K C f ∧ fs.length < 1000 ∧
  D.nx σ (upd H2 a (.ins C dx (putF f y fs)))
def InOp (X : Cx) (op : Operator) (rd : V → V → Hp → VK → Prop) : Prop :=
  ∀ (pins : List (Addr × Obj)) (s : Shared) (σ : St) (H : Hp) (x y : V) (u v : Value) (Q : VK), Inv X pins σ H s → RelV x u → RelV y v → rd x y H Q → wpAny (model X.prog X.w) X.A (inplaceOp op u v) (EP X pins σ Q) X.xe s
def sFldAug (K : PySem.W.Frag) (ta tv : TE) (rd : V → V → Hp → VK → Prop) (f : Str) : TS := fun D σ H => ta σ H fun x H1 => ∃ a C dx fs v, x = .ref a ∧ H1 a = some (.ins C dx fs) ∧ Cls K C ∧ NoAttr K C f ∧ fs.lookup f = some v ∧
  tv σ H1 fun y H2 => rd v y H2 fun z H3 => ∃ dx' fs', H3 a = some (.ins C dx' fs') ∧ fs'.length < 1000 ∧ D.nx σ (upd H3 a (.ins C dx' (putF f z fs')))
section
variable {X : Cx} {o e value : Expr} {f : Str} {pos pos' tpos : Pos} {ta tv : TE}
def rAdd : V → V → Hp → VK → Prop := fun x y H Q => ∃ i j, x = .int i ∧ y = .int j ∧ Q (.int (i + j)) H
def rSub : V → V → Hp → VK → Prop := fun x y H Q => ∃ i j, x = .int i ∧ y = .int j ∧ Q (.int (i - j)) H
end
section
variable {X : Cx} {pins : List (Addr × Obj)} {σ : St} {H : Hp} {s : Shared} {A : Around} {E : Value → Shared → Prop} {Q : Value → Shared → Prop} {c : Value} {b : Bool}
inductive TyOf (K : PySem.W.Frag) (H : Hp) : V → Value → Prop where
  | non : TyOf K H .non (.type "NoneType")
  | bl (x : Bool) : TyOf K H (.bl x) (.type "bool")
  | int (i : Int) : TyOf K H (.int i) (.type "int")
  | str (x : Str) : TyOf K H (.str x) (.type "str")
  | flt (x : UInt64) : TyOf K H (.flt x) (.type "float")
  | lst {a : Addr} {xs : List V} (e : H a = some (.lst xs)) : TyOf K H (.ref a) (.type "list")
  | frz {a : Addr} {o : Obj} {xs : List V} (e : H a = some (.frz o (.lst xs))) : TyOf K H (.ref a) (.type "list")
  | tup {a : Addr} {xs : List V} (e : H a = some (.tup xs)) : TyOf K H (.ref a) (.type "tuple")
  | dK {a : Addr} {kvs : List (Key × V)} (e : H a = some (.dK kvs)) : TyOf K H (.ref a) (.type "dict")
  | dT {a : Addr} {kvs : List (List Key × V)} (e : H a = some (.dT kvs)) : TyOf K H (.ref a) (.type "dict")
  | ins {a C dx : Addr} {fs : List (Str × V)} (e : H a = some (.ins C dx fs)) (cl : Cls K C) (ha : PySem.W.findIn K (.ref C) "__class__" = some (some (.builtin "object.__class__")))
      (hn : PySem.W.specialIn K (.builtin "object.__class__") "__get__" = some (some (.builtin "getset_descriptor.__get__"))) (htk : PySem.W.takesIn K (.builtin "object.__class__") = some true)
      (hm : PySem.W.mroIn K C (.type "object") = some true) : TyOf K H (.ref a) (.ref C)
theorem isinst_ok {x : V} {u t : Value} (I : Inv X pins σ H s) (rx : RelV x u) (ty : TyOf X.K H x t) (e : PySem.W.kitOne X.K t c = some b) (h : ∀ tk, Q (.bool b) { s with toks := tk }) :
    wpAny (model X.prog X.w) A (call (.builtin "isinstance") [u, c]) Q E s := by
  cases ty with
  | non => cases (show u = Value.none from rx); exact PySem.W.kia_one PySem.W.kitx_none I.kIn True.intro e (fun z => nomatch z) h
  | bl y => cases (show u = Value.bool y from rx); exact PySem.W.kia_one PySem.W.kitx_bool I.kIn True.intro e (fun z => nomatch z) h
  | int i => obtain ⟨t, q⟩ := (show ∃ t, u = Value.int i t from rx); cases q; exact PySem.W.kia_one PySem.W.kitx_int I.kIn True.intro e (fun z => nomatch z) h
  | str y => obtain ⟨t, q⟩ := (show ∃ t, u = Value.str y t from rx); cases q; exact PySem.W.kia_one PySem.W.kitx_str I.kIn True.intro e (fun z => nomatch z) h
  | flt y => obtain ⟨t, q⟩ := (show ∃ t, u = Value.float y t from rx); cases q; exact PySem.W.kia_one PySem.W.kitx_float I.kIn True.intro e (fun z => nomatch z) h
  | @lst a xs ea =>
    cases (show u = Value.ref a from rx)
    obtain ⟨_, _, n, _, h1⟩ := (show ObjOk X.prog X.w H s.heap a (.lst xs) from I.hok a _ ea)
    exact PySem.W.kia_one PySem.W.kitx_list I.kIn ⟨_, h1, rfl⟩ e (fun z => nomatch z) h
  | @frz a ob xs ea =>
    cases (show u = Value.ref a from rx)
    obtain ⟨_, _, _, n, _, h1⟩ := (show ObjOk X.prog X.w H s.heap a (.frz ob (.lst xs)) from I.hok a _ ea)
    exact PySem.W.kia_one PySem.W.kitx_list I.kIn ⟨_, h1, rfl⟩ e (fun z => nomatch z) h
  | @tup a xs ea =>
    cases (show u = Value.ref a from rx)
    obtain ⟨_, _, _, p⟩ := (show ObjOk X.prog X.w H s.heap a (.tup xs) from I.hok a _ ea)
    obtain ⟨o, h1, h2, _⟩ := p
    exact PySem.W.kia_one PySem.W.kitx_tuple I.kIn ⟨o, h1, h2⟩ e (fun z => nomatch z) h
  | @dK a kvs ea =>
    cases (show u = Value.ref a from rx)
    obtain ⟨_, _, vs, _, p⟩ := (show ObjOk X.prog X.w H s.heap a (.dK kvs) from I.hok a _ ea)
    obtain ⟨o, es, ep, h1, h2, _⟩ := p
    exact PySem.W.kia_one PySem.W.kitx_dict I.kIn ⟨o, h1, h2.1⟩ e (fun z => nomatch z) h
  | @dT a kvs ea =>
    cases (show u = Value.ref a from rx)
    obtain ⟨_, _, xs, _, o, es, ep, h1, h2, _⟩ := (show ObjOk X.prog X.w H s.heap a (.dT kvs) from I.hok a _ ea)
    exact PySem.W.kia_one PySem.W.kitx_dict I.kIn ⟨o, h1, h2.1⟩ e (fun z => nomatch z) h
  | @ins a C dx fs ea cl ha hn htk hm =>
    cases (show u = Value.ref a from rx)
    obtain ⟨mA, O, _⟩ := ins_get I.hok ea
    obtain ⟨od, J, _⟩ := O.look
    exact PySem.W.kia_one (PySem.W.kitx_own (cl.get _) cl.hd ha hn htk hm) I.kIn J e (fun z => nomatch z) h
end
end L2
namespace L2
open PySem PySem.Spec PyProof.Rows
structure Room (k : Nat) (A : Around) : Prop where
  hd : A.handled = none
  dp : A.depth + 3 * k + 5 < recursionLimit
  un : A.units + 16 * k + 200 < cLine
theorem Room.mono {j k : Nat} {A : Around} (r : Room k A) (h : j ≤ k) : Room j A := ⟨r.hd, by have := r.dp; omega, by have := r.un; omega⟩
theorem Room.deeper {k : Nat} {A : Around} (r : Room (k + 1) A) (env : Env) : Room k (A.deeper env) :=
  ⟨r.hd, by have := r.dp; show A.depth + 1 + 3 * k + 5 < _; omega, by have := r.un; show A.units + 3 + 16 * k + 200 < _; omega⟩
theorem Room.in1 {k : Nat} {A : Around} (r : Room (k + 1) A) : Room k A.in1 :=
  ⟨r.hd, by have := r.dp; show A.depth + 3 * k + 5 < _; omega, by have := r.un; show A.units + 1 + 16 * k + 200 < _; omega⟩
theorem make_depth {A : Around} {C : Addr} {us : List Value} {kw : List (Str × Value)} : (A.under (.builtin "type.__call__" ⟨.ref C :: us, kw⟩)).depth = A.depth + 1 := by
  first | rfl | simp [Around.under, Code.weight, Code.isCreation, Code.isGuard, Code.isCaller, Code.frames, Code.isFrame, guardIds]
theorem make_units {A : Around} {C : Addr} {us : List Value} {kw : List (Str × Value)} : (A.under (.builtin "type.__call__" ⟨.ref C :: us, kw⟩)).units = A.units + 1 := by
  first | rfl | simp [Around.under, Code.cUnits, Code.frames, Code.isFrame]
theorem Room.make {k : Nat} {A : Around} (r : Room (k + 1) A) (C : Addr) (us : List Value) (kw : List (Str × Value)) : Room k (A.under (.builtin "type.__call__" ⟨.ref C :: us, kw⟩)) :=
  ⟨r.hd, by have := r.dp; rw [make_depth]; omega, by have := r.un; rw [make_units]; omega⟩
theorem Room.depth {k : Nat} {A : Around} (r : Room k A) : A.depth < recursionLimit := by have := r.dp; omega
theorem Room.units {k : Nat} {A : Around} (r : Room k A) : A.units + 64 < cLine := by have := r.un; omega
def tNil : TA := fun _ H Q => Q [] H
def tCons (ta : TE) (tr : TA) : TA := fun σ H Q => ta σ H fun x H1 => tr σ H1 fun xs H2 => Q (x :: xs) H2
section
variable {X : Cx} {e : Expr} {es : List Expr} {te : TE} {t : TA} {pos : Pos}
theorem pa_nil : PA X [] tNil := fun _ _ _ _ H Q I h => Calls.spliced_nil ⟨[], H, I, .nil, h⟩
theorem pa_cons (ha : PE X e te) (hr : PA X es t) (hs : starEach (e :: es) X.env = (false, eval e X.env) :: starEach es X.env := by rfl) : PA X (e :: es) (tCons te t) := by
  intro pos pins s σ H Q I h
  rw [hs]
  show wpAny _ _ (spliced ((false, eval e X.env) :: backTo pos (starEach es X.env))) _ _ s
  refine Calls.spliced_cons (thn (ha pins s σ H _ I h) fun u s1 ⟨x, H1, I1, r1, q1⟩ => ?_)
  exact thn (hr pos pins s1 σ H1 _ I1 q1) fun us s2 ⟨xs, H2, I2, r2, q2⟩ => ⟨x :: xs, H2, I2, .cons r1 r2, q2⟩
def tTup (t : TA) : TE := fun σ H Q => t σ H fun xs H1 => xs.length ≤ sizeLine ∧ ∀ p, H1 p = none → Q (.ref p) (upd H1 p (.tup xs))
def tLst (t : TA) : TE := fun σ H Q => t σ H fun xs H1 => xs.length ≤ sizeLine ∧ ∀ p, H1 p = none → Q (.ref p) (upd H1 p (.lst xs))
theorem pe_tup {x1} (h : PA X es t) : PE X (.Tuple es x1 pos) (tTup t) := by
  intro pins s σ H Q I hq
  refine wpAny_Tuple_spliced (thn (h pos pins s σ H _ I hq) fun us s1 ⟨xs, H1, I1, r, z, q⟩ => ⟨by rw [← r.length]; exact z, ?_⟩)
  have hf : H1 s1.heap.objs.size = none := I1.hok.fresh (Nat.le_refl _)
  refine ⟨.ref s1.heap.objs.size, upd H1 s1.heap.objs.size (.tup xs), I1.laid (t' := s1.toks) (fun b u e => Heap.get?_push_of_some _ e) (Nat.le_refl _) ?_, rfl, q _ hf⟩
  exact ⟨z, us, r, ⟨_, Heap.get?_push_size _ rfl, rfl, _, rfl⟩⟩
theorem pe_lst (h : PA X es t) : PE X (.List es pos) (tLst t) := by
  intro pins s σ H Q I hq
  refine wpAny_List_spliced (thn (h pos pins s σ H _ I hq) fun us s1 ⟨xs, H1, I1, r, z, q⟩ => ⟨by rw [← r.length]; exact z, ?_⟩)
  have hf : H1 s1.heap.objs.size = none := I1.hok.fresh (Nat.le_refl _)
  refine ⟨.ref s1.heap.objs.size, upd H1 s1.heap.objs.size (.lst xs), I1.laid (t' := s1.toks) (fun b u e => Heap.get?_push_of_some _ e) (Nat.le_refl _) ?_, rfl, q _ hf⟩
  exact ⟨z, us, 0, r, Heap.get?_push_size _ rfl⟩
end
abbrev Sp := List V → Hp → VK → XK → Prop
abbrev CXT := List Env → Hp → Shared → XK → Value → Shared → Prop
structure Env0 (P : Program) (w : World) (K : PySem.W.Frag) (mg : Str → Option Value) (base : Heap) (A : Around) (outer : List Env) (s : Shared) (H : Hp) : Prop where
  frames : A.frames = some outer
  mod : Mod K mg base
  bs : ∀ b o, base.get? b = some o → s.heap.get? b = some o ∧ H b = none
  bsz : base.objs.size ≤ s.heap.objs.size
  funs : s.heap.FunFrames base outer
  frf : ∀ b ∈ frs outer, H b = none
  hok : HOk P w H s.heap
  bare : AllBare s.gens
def CE (outer : List Env) (P : Program) (w : World) (H : Hp) (s : Shared) (Q : VK) (u : Value) (s' : Shared) : Prop :=
  ∃ v H', s'.os = s.os ∧ AllBare s'.gens ∧ Un (frs outer) [] H H' s.heap s'.heap ∧ HOk P w H' s'.heap ∧ RelV v u ∧ Q v H'
def CR (CX : CXT) (outer : List Env) (P : Program) (w : World) (H : Hp) (s : Shared) (Q : VK) (E : XK) (r : Result) (s' : Shared) : Prop :=
  match r with
  | .ok (.ret u) => CE outer P w H s Q u s'
  | .ok _ => False
  | .error e => CX outer H s E e s'
structure FnOk (P : Program) (w : World) (K : PySem.W.Frag) (mg : Str → Option Value) (base : Heap) (CX : CXT) (k : Nat) (f : Addr) (fd : FuncData) (ps : List Str) (sp : Sp) : Prop where
  len : ∀ vs H Q E, sp vs H Q E → vs.length = ps.length
  run : ∀ (A : Around) (outer : List Env) (s : Shared) (H : Hp) (args : Args) (us : List Value) (vs : List V) (Q : VK) (E : XK), Room k A → Env0 P w K mg base A outer s H → BindsTo s fd args (ps.zip us) → Vals vs us → sp vs H Q E →
    codeAny (model P w) A (.call (.ref f) args) (CR CX outer P w H s Q E) s
theorem FnOk.mono {P : Program} {w : World} {K : PySem.W.Frag} {mg : Str → Option Value} {base : Heap} {CX : CXT} {j k : Nat} {f : Addr} {fd : FuncData} {ps : List Str} {sp : Sp} (F : FnOk P w K mg base CX j f fd ps sp) (h : j ≤ k) :
    FnOk P w K mg base CX k f fd ps sp := ⟨F.len, fun A outer s H args us vs Q E hr => F.run A outer s H args us vs Q E (hr.mono h)⟩
theorem FnOk.imp {P : Program} {w : World} {K : PySem.W.Frag} {mg : Str → Option Value} {base : Heap} {CX : CXT} {k : Nat} {f : Addr} {fd : FuncData} {ps : List Str} {sp sp' : Sp} (F : FnOk P w K mg base CX k f fd ps sp)
    (h : ∀ vs H Q E, sp' vs H Q E → sp vs H Q E) : FnOk P w K mg base CX k f fd ps sp' :=
  ⟨fun vs H Q E q => F.len vs H Q E (h _ _ _ _ q), fun A outer s H args us vs Q E hr he hb hv hs => F.run A outer s H args us vs Q E hr he hb hv (h _ _ _ _ hs)⟩
theorem Env0.make {P : Program} {w : World} {K : PySem.W.Frag} {mg : Str → Option Value} {base : Heap} {A : Around} {outer : List Env} {s : Shared} {H : Hp} (e : Env0 P w K mg base A outer s H) (C : Addr) (us : List Value) (kw : List (Str × Value)) :
    Env0 P w K mg base (A.under (.builtin "type.__call__" ⟨.ref C :: us, kw⟩)) outer s H := ⟨by first | exact e.frames | (simpa [Around.under, Code.envs, Code.isFrame, pushEnvs] using e.frames), e.mod, e.bs, e.bsz, e.funs, e.frf, e.hok, e.bare⟩
theorem Env0.in1 {P : Program} {w : World} {K : PySem.W.Frag} {mg : Str → Option Value} {base : Heap} {A : Around} {outer : List Env} {s : Shared} {H : Hp} (e : Env0 P w K mg base A outer s H) :
    Env0 P w K mg base A.in1 outer s H := ⟨e.frames, e.mod, e.bs, e.bsz, e.funs, e.frf, e.hok, e.bare⟩
section
variable {X : Cx} {pins : List (Addr × Obj)} {σ : St} {H : Hp} {s s' : Shared}
theorem Inv.env0 (I : Inv X pins σ H s) : Env0 X.prog X.w X.K X.mg X.base X.A X.stack s H :=
  ⟨I.ok.frames, I.ok.mod, I.bs, Nat.le_trans I.ok.bsz I.sz, I.stack, I.stkFree, I.hok, I.bare⟩
theorem Inv.after {Q : VK} {u : Value} (I : Inv X pins σ H s) (h : CE X.stack X.prog X.w H s Q u s') : EP X pins σ Q u s' := by
  obtain ⟨v, H', os, bare, un, hok, r, q⟩ := h
  obtain ⟨hh, g, d, t, os'⟩ := s'
  obtain rfl : os' = s.os := os
  exact ⟨v, H', I.call (h' := hh) (g' := g) (d' := d) (t' := t) (ch := []) un hok bare (fun b z => absurd z (by simp)), r, q⟩
end
def tCall (sp : Sp) (dvs : List V) (E : XK) (t : TA) : TE := fun σ H Q => t σ H fun vs H1 => sp (vs ++ dvs) H1 Q E
def tMeth (C : Addr) (m : Str) (sp : Sp) (dvs : List V) (E : XK) (ta : TE) (t : TA) : TE := fun σ H Q => ta σ H fun x H1 => ∃ a dx fs, x = .ref a ∧ H1 a = some (.ins C dx fs) ∧ fs.lookup m = none ∧
  t σ H1 fun vs H2 => sp (x :: (vs ++ dvs)) H2 Q E
def tMake (C : Addr) (sp : Sp) (dvs : List V) (E : XK) (t : TA) : TE := fun σ H Q => t σ H fun vs H1 => ∀ x dx, H1 x = none → H1 dx = none → dx ≠ x →
  sp (.ref x :: (vs ++ dvs)) (upd (upd H1 dx (.own x)) x (.ins C dx [])) (fun v H2 => v = .non ∧ Q (.ref x) H2) E
def Binds (K : PySem.W.Frag) (fd : FuncData) (ps : List Str) (ds : List Value) : Prop :=
  ∀ (s : Shared) (us : List Value), K.In s.heap → (us ++ ds).length = ps.length → BindsTo s fd ⟨us, []⟩ (ps.zip (us ++ ds))
theorem Binds.all {K : PySem.W.Frag} {fd : FuncData} {ps : List Str} (h : ∀ us : List Value, us.length = ps.length → bindArgs fd ⟨us, []⟩ = pure (ps.zip us)) : Binds K fd ps [] := fun s us _ hl => by
  rw [List.append_nil] at hl ⊢
  exact .of_eq (h us hl)
def Passes (CX : CXT) (X : Cx) (E : XK) : Prop := ∀ (pins : List (Addr × Obj)) (σ : St) (H : Hp) (s : Shared) (e : Value) (s' : Shared), Inv X pins σ H s → CX X.stack H s E e s' → X.xe e s'
section
variable {X : Cx} {CX : CXT} {k : Nat} {f C : Addr} {fd : FuncData} {ps : List Str} {sp : Sp} {dvs : List V} {ds : List Value} {E : XK} {x m : Str} {p pos apos : Pos} {e o : Expr} {es : List Expr} {ta : TE} {t : TA}
theorem run_fn {pins : List (Addr × Obj)} {σ : St} {H : Hp} {s : Shared} {Q : VK} {us : List Value} {vs : List V} (F : FnOk X.prog X.w X.K X.mg X.base CX k f fd ps sp) (hr : Room k X.A) (hb : Binds X.K fd ps ds) (hd : Vals dvs ds) (hx : Passes CX X E)
    (I : Inv X pins σ H s) (r : Vals vs us) (h : sp (vs ++ dvs) H Q E) : wpAny (model X.prog X.w) X.A (call (.ref f) us) (EP X pins σ Q) X.xe s := by
  have r2 : Vals (vs ++ dvs) (us ++ ds) := r.append hd
  have hl : (us ++ ds).length = ps.length := by rw [← r2.length]; exact F.len _ _ _ _ h
  refine wpAny_call (codeAny_mono (F.run X.A X.stack s H ⟨us, []⟩ (us ++ ds) (vs ++ dvs) Q E hr I.env0 (hb s us I.kIn hl) r2 h) fun r s' hq => ?_)
  cases r with
  | error e => exact hx pins σ H s e s' I hq
  | ok fl =>
    cases fl with
    | ret u => exact I.after hq
    | next => exact False.elim hq
    | brk => exact False.elim hq
    | cont => exact False.elim hq
theorem pe_call (F : FnOk X.prog X.w X.K X.mg X.base CX k f fd ps sp) (hr : Room k X.A) (hg : Gl X x) (hm : X.mg x = some (.ref f)) (hk : PySem.W.keepIn X.K (.ref f) = true) (hb : Binds X.K fd ps ds) (hd : Vals dvs ds) (hx : Passes CX X E)
    (ha : PA X (e :: es) t) (hdb : (x == ("__debug__" : Str)) = false := by decide) (he : starEach (e :: es) X.env = (false, eval e X.env) :: starEach es X.env := by rfl) (hpl : (backTo pos (starEach es X.env)).any (·.1) = false := by rfl) :
    PE X (.Call (.Name x p) (e :: es) [] pos) (tCall sp dvs E t) := by
  intro pins s σ H Q I h
  refine wpAny_Call_Name_kw (ld_glob I hg hm ?_ hdb)
  refine PySem.W.callWith_K (h₀ := X.base) I.ok.mod.kin hk (thn (ha pos pins s σ H _ I h) fun us s1 ⟨vs, H1, I1, r, q⟩ => ⟨I1.kIn, ?_⟩) he hpl
  exact run_fn F hr hb hd hx I1 r q
structure Mk (K : PySem.W.Frag) (C f : Addr) : Prop where
  makes : PySem.W.makesIn K C = true
  init : PySem.W.findIn K (.ref C) "__init__" = some (some (.ref f))
  fn : PySem.W.isFn K (.ref f) = true
  kp : PySem.W.keepIn K (.ref C) = true
end
def PK (X : Cx) (kws : List Keyword) (t : TA) : Prop :=
  ∀ (pos : Pos) (pins : List (Addr × Obj)) (s : Shared) (σ : St) (H : Hp) (Q : List V → Hp → Prop), Inv X pins σ H s → t σ H Q → wpAny (model X.prog X.w) X.A (evalAll ((backToKw pos (keywordEach kws X.env)).map (·.2))) (AP X pins σ Q) X.xe s
section
variable {X : Cx} {CX : CXT} {k : Nat} {f C : Addr} {fd : FuncData} {ps ks : List Str} {sp : Sp} {E : XK} {x m : Str} {p pos apos kpos : Pos} {e o : Expr} {es : List Expr} {kws : List Keyword} {te ta : TE} {t tk : TA} {nm : Option Str}
structure KBinds (K : PySem.W.Frag) (fd : FuncData) (ps ks : List Str) (g : List Value → List Value → List Value) (gV : List V → List V → List V) : Prop where
  to : ∀ (s : Shared) (us ws : List Value), K.In s.heap → (g us ws).length = ps.length → BindsTo s fd ⟨us, ks.zip ws⟩ (ps.zip (g us ws))
  rel : ∀ {vs : List V} {us : List Value} {zs : List V} {ws : List Value}, Vals vs us → Vals zs ws → Vals (gV vs zs) (g us ws)
def tCallK (sp : Sp) (gV : List V → List V → List V) (E : XK) (t tk : TA) : TE := fun σ H Q => t σ H fun vs H1 => tk σ H1 fun zs H2 => sp (gV vs zs) H2 Q E
variable {g : List Value → List Value → List Value} {gV : List V → List V → List V}
end
structure FnScope (N P : List Str) (sc : Scope) : Prop where
  kind : sc.kind = .function
  co : sc.isCoroutine = false
  gen : sc.isGenerator = false
  nd : N.Nodup
  pre : N.take P.length = P
  par : ∀ x ∈ P, sc.names.lookup x = some .local ∨ sc.names.lookup x = some .cell
  nofree : ∀ y ∈ sc.names, y.2 ≠ .free
theorem bindL_out {kindOf : Str → Option NameKind} {x : Str} : ∀ {binds : List (Str × Value)} {m : Str → Option Value}, (∀ v, (x, v) ∉ binds) → bindL kindOf binds m x = m x
  | [], _, _ => rfl
  | (n, v) :: r, m, h => by
    unfold bindL
    rw [bindL_out fun w hw => h w (List.mem_cons_of_mem _ hw)]
    split
    · have : x ≠ n := by rintro rfl; exact h v List.mem_cons_self
      simp [this]
    · rfl
theorem bindC_out {kindOf : Str → Option NameKind} {x : Str} : ∀ {binds : List (Str × Value)} {m : Str → Option Value}, (∀ v, (x, v) ∉ binds) → bindC kindOf binds m x = m x
  | [], _, _ => rfl
  | (n, v) :: r, m, h => by
    unfold bindC
    rw [bindC_out fun w hw => h w (List.mem_cons_of_mem _ hw)]
    split
    · rfl
    · have : x ≠ n := by rintro rfl; exact h v List.mem_cons_self
      simp [this]
theorem bindL_get {kindOf : Str → Option NameKind} {x : Str} {v : Value} : ∀ {P : List Str} {vs : List Value} {i : Nat} {m : Str → Option Value}, P.Nodup → P[i]? = some x → vs[i]? = some v → kindOf x = some .local →
    bindL kindOf (P.zip vs) m x = some v
  | [], _, _, _, _, h, _, _ => by simp at h
  | _ :: _, [], _, _, _, _, h, _ => by simp at h
  | p :: P, w :: vs, 0, m, nd, h1, h2, hk => by
    simp at h1 h2; subst h1; subst h2
    show bindL kindOf ((p, w) :: P.zip vs) m p = _
    unfold bindL
    rw [bindL_out fun v hv => (List.nodup_cons.mp nd).1 (List.of_mem_zip hv).1, if_pos hk]
    simp
  | p :: P, w :: vs, i + 1, m, nd, h1, h2, hk => by
    show bindL kindOf ((p, w) :: P.zip vs) m x = _
    unfold bindL
    exact bindL_get (i := i) (List.nodup_cons.mp nd).2 (by simpa using h1) (by simpa using h2) hk
theorem bindC_get {kindOf : Str → Option NameKind} {x : Str} {v : Value} : ∀ {P : List Str} {vs : List Value} {i : Nat} {m : Str → Option Value}, P.Nodup → P[i]? = some x → vs[i]? = some v → kindOf x ≠ some .local →
    bindC kindOf (P.zip vs) m x = some v
  | [], _, _, _, _, h, _, _ => by simp at h
  | _ :: _, [], _, _, _, _, h, _ => by simp at h
  | p :: P, w :: vs, 0, m, nd, h1, h2, hk => by
    simp at h1 h2; subst h1; subst h2
    show bindC kindOf ((p, w) :: P.zip vs) m p = _
    unfold bindC
    rw [bindC_out fun v hv => (List.nodup_cons.mp nd).1 (List.of_mem_zip hv).1, if_neg hk]
    simp
  | p :: P, w :: vs, i + 1, m, nd, h1, h2, hk => by
    show bindC kindOf ((p, w) :: P.zip vs) m x = _
    unfold bindC
    exact bindC_get (i := i) (List.nodup_cons.mp nd).2 (by simpa using h1) (by simpa using h2) hk
def start (N : List Str) (vs : List V) : St := vs.map some ++ List.replicate (N.length - vs.length) none
def cxOf (CX : CXT) (P : Program) (w : World) (K : PySem.W.Frag) (mg : Str → Option Value) (base : Heap) (N : List Str) (qual : Str) (scope : Scope) (f : Addr) (cd : Value) (A : Around) (outer : List Env) (s : Shared) (H : Hp) (E : XK) : Cx where
  prog := P
  w := w
  K := K
  mg := mg
  base := base
  A := A.deeper (envOfC qual scope s.heap.objs.size f cd)
  N := N
  s₀ := s
  H₀ := H
  env := envOfC qual scope s.heap.objs.size f cd
  outer := outer
  stack := envOfC qual scope s.heap.objs.size f cd :: outer
  ex := []
  calm := true
  fn := fun _ => true
  pn := []
  xe := fun e s' => wpAny (model P w) (A.deeper (envOfC qual scope s.heap.objs.size f cd)) (leaving (envOfC qual scope s.heap.objs.size f cd) e) (fun _ s'' => CX outer H s E e s'') (fun e' s'' => CX outer H s E e' s'') s'
theorem cell_has {sc : Scope} {n : Nat} {x : Str} (h : sc.names.lookup x = some .cell) : ∃ c, (cellsFrom n sc.names []).lookup x = some c := by
  have q := PySem.W.cellsFrom_some sc.names n [] (.inl h)
  exact Option.isSome_iff_exists.mp q
theorem inv_start {CX : CXT} {P : Program} {w : World} {K : PySem.W.Frag} {mg : Str → Option Value} {base : Heap} {N ps : List Str} {qual : Str} {scope : Scope} {f : Addr} {cd : Value} {A : Around} {outer : List Env} {s s1 : Shared} {H : Hp} {E : XK} {us : List Value} {vs : List V}
    (S : FnScope N ps scope) (hd : A.handled = none) (e0 : Env0 P w K mg base A outer s H) (hl : vs.length = ps.length) (r : Vals vs us)
    (x : InCallC s s.heap.objs.size (bindL (envOfC qual scope s.heap.objs.size f cd).kindOf (ps.zip us) fun _ => none) (cellsFrom (s.heap.objs.size + 1) scope.names []) (bindC (envOfC qual scope s.heap.objs.size f cd).kindOf (ps.zip us) fun _ => none) s1) :
    Inv (cxOf CX P w K mg base N qual scope f cd A outer s H E) [] (start N vs) H s1 := by
  have hpl : ps.length ≤ N.length := by have := congrArg List.length S.pre; rw [List.length_take] at this; omega
  obtain ⟨h1, tk, rfl, hk⟩ := x.done
  have noA : ∀ b : Addr, b ∉ (cxOf CX P w K mg base N qual scope f cd A outer s H E).ex := fun b z => absurd (show b ∈ ([] : List Addr) from z) (by simp)
  refine ⟨⟨e0.mod, S.kind, rfl, rfl, Nat.le_refl _, fun y z c h1 h2 => ?_, fun y hy => ?_, fun y c _ h => ?_, fun _ => hd, Around.frames_deeper e0.frames, .inr ⟨rfl, rfl⟩, fun b z => absurd z (noA b), e0.bs, e0.bsz, fun b _ _ => noA b, fun b z => absurd z (noA b), e0.funs, e0.frf⟩,
    rfl, e0.bare, Un.kept hk, ⟨_, x.toInCall.ns, fun i y v h1 h2 h3 => ?_⟩, fun y c h => ⟨_, x.cell y c h⟩, e0.hok.fresh (Nat.le_refl _), fun y c h => ?_, fun p hp => absurd (show p ∈ ([] : List (Addr × Obj)) from hp) (by simp), e0.hok.kept hk, ?_⟩
  · exact name_of_addr x.apart (PySem.mem_of_lookup h1) (PySem.mem_of_lookup h2)
  · have hy : scope.names.lookup y = some .cell ∨ scope.names.lookup y = some .free := hy
    rcases hy with hy | hy
    · exact cell_has hy
    · exact absurd rfl (S.nofree _ (PySem.mem_of_lookup hy))
  · exact Nat.le_of_lt (x.above y c (PySem.mem_of_lookup h))
  · have hi : i < vs.length := by
      unfold start at h2
      by_cases hi : i < vs.length
      · exact hi
      · rw [List.getElem?_append_right (by simpa using hi)] at h2
        rw [List.getElem?_replicate] at h2
        split at h2 <;> cases h2
    have ha : vs[i]? = some v := by
      unfold start at h2
      rw [List.getElem?_append_left (by simpa using hi), List.getElem?_map] at h2
      cases e : vs[i]? with
      | none => rw [e] at h2; cases h2
      | some a => rw [e] at h2; cases h2; rfl
    obtain ⟨u, hu, rv⟩ := r.get ha
    have hp : ps[i]? = some y := by
      rw [← S.pre, List.getElem?_take_of_lt (by omega)]; exact h1
    have ndP : ps.Nodup := by rw [← S.pre]; exact S.nd.sublist (List.take_sublist _ _)
    refine ⟨u, rv, ?_⟩
    rcases S.par y (List.mem_of_getElem? hp) with k | k
    · exact .inl ⟨k, bindL_get ndP hp hu k⟩
    · obtain ⟨c, e⟩ := cell_has (n := s.heap.objs.size + 1) k
      refine .inr ⟨.inl k, c, e, ?_⟩
      have q := x.cell y c e
      rw [bindC_get ndP hp hu (by show scope.names.lookup y ≠ _; rw [k]; decide)] at q
      exact q
  · exact e0.hok.fresh (Nat.le_of_lt (x.above y c (PySem.mem_of_lookup h)))
  · unfold start
    show _ = N.length
    rw [List.length_append, List.length_map, List.length_replicate]
    omega
theorem fn_of {CX : CXT} {P : Program} {w : World} {K : PySem.W.Frag} {mg : Str → Option Value} {base : Heap} {k : Nat} {f : Addr} {name qual : Str} {params : Arguments} {body : List Stmt} {scope : Scope} {dV kV doc pm cdv ct oc : Value} {an od : Option Addr}
    {osl : Array (Option Value)} {N ps : List Str} {sp : Sp} (lk : K.lookup f = some ⟨oc, od, .func (PySem.W.fnOf name qual params body scope dV kV doc pm an cdv ct), osl⟩) (hcd : PySem.W.codeIn K cdv qual = true) (S : FnScope N ps scope)
    (len : ∀ vs H Q E, sp vs H Q E → vs.length = ps.length)
    (hbody : ∀ (A : Around) (outer : List Env) (s : Shared) (H : Hp) (vs : List V) (Q : VK) (E : XK), Room k (A.deeper (envOfC qual scope s.heap.objs.size f cdv)) → sp vs H Q E →
      ∃ t, PSs (cxOf CX P w K mg base N qual scope f cdv A outer s H E) body t ∧ t { nx := fun _ H' => Q .non H', rt := Q } (start N vs) H) :
    FnOk P w K mg base CX (k + 1) f (PySem.W.fnOf name qual params body scope dV kV doc pm an cdv ct) ps sp := by
  refine ⟨len, fun A outer s H args us vs Q E hr e0 hb r hsp => ?_⟩
  have hl := len _ _ _ _ hsp
  have KX : K.In s.heap := e0.mod.kin.keeps fun b o e => (e0.bs b o e).1
  have lim : s.heap.NoLimit := e0.mod.nolimit.keeps fun b o e => (e0.bs b o e).1
  have hkind : ∀ y ∈ ps.zip us, scope.names.lookup y.1 = some .local ∨ (scope.names.lookup y.1 = some .cell ∧ ((cellsFrom (s.heap.objs.size + 1) scope.names []).lookup y.1).isSome = true) := fun ⟨n, v⟩ hy => by
    rcases S.par n (List.of_mem_zip hy).1 with q | q
    · exact .inl q
    · exact .inr ⟨q, PySem.W.cellsFrom_some _ _ _ (.inl q)⟩
  refine codeAny_call_function hr.depth (KX _ _ lk) rfl S.co S.gen rfl (PySem.W.codeRec_of KX hcd) (hb _ _ _ _ ?_)
  refine wpAny_newFunctionEnv_cells S.kind hkind fun env he s1 x => ?_
  subst he
  refine ⟨lim.keeps x.toInCall.keep, codeAny_func ?_⟩
  obtain ⟨t, ht, hq⟩ := hbody A outer s H vs Q E (hr.deeper _) hsp
  have I : Inv (cxOf CX P w K mg base N qual scope f cdv A outer s H E) [] (start N vs) H s1 := inv_start S hr.hd e0 hl r x
  refine wpAny_mono (ht [] s1 (start N vs) H _ I hq) (fun fl s' hs => ?_) fun e s' hs => hs
  have fin : ∀ {σ' : St} {H' : Hp} {v : V} {u : Value}, Inv (cxOf CX P w K mg base N qual scope f cdv A outer s H E) [] σ' H' s' → RelV v u → Q v H' → CE outer P w H s Q u s' :=
    fun {σ' H' v u} J rv q => ⟨v, H', J.os, J.bare, J.base, J.hok, rv, q⟩
  cases fl with
  | ret u =>
    obtain ⟨v, σ', H', J, rv, q⟩ := hs
    exact fin J rv q
  | next =>
    obtain ⟨σ', H', J, q⟩ := hs
    exact fin (v := V.non) (u := Value.none) J rfl q
  | brk =>
    obtain ⟨_, _, _, q⟩ := hs
    exact False.elim q
  | cont =>
    obtain ⟨_, _, _, q⟩ := hs
    exact False.elim q
end L2
namespace L2
open PySem PySem.Spec PyProof.Rows
section
variable {X : Cx} {x : Str} {p pos : Pos} {e : Expr} {es : List Expr} {t : TA} {id T : String} {r : List V → Hp → VK → Prop}
def tCB (r : List V → Hp → VK → Prop) (t : TA) : TE := fun σ H Q => t σ H fun vs H1 => r vs H1 Q
theorem pe_callB (hc : CallR X (.builtin id) r) (hg : Gl X x) (hm : X.mg x = none) (hv : bootBuiltins x = some (.builtin id)) (ha : PA X (e :: es) t) (hn : x ≠ "__name__" := by decide) (hdb : (x == ("__debug__" : Str)) = false := by decide)
    (he : starEach (e :: es) X.env = (false, eval e X.env) :: starEach es X.env := by rfl) (hpl : (backTo pos (starEach es X.env)).any (·.1) = false := by rfl) : PE X (.Call (.Name x p) (e :: es) [] pos) (tCB r t) := by
  intro pins s σ H Q I h
  refine wpAny_Call_Name_kw (ld_blt I hg hm hv ?_ hn hdb)
  exact PyProof.Rows.callWith_builtin1 (thn (ha pos pins s σ H _ I h) fun us s1 ⟨vs, H1, I1, r1, q1⟩ => hc pins s1 σ H1 vs us Q I1 r1 q1) he hpl
theorem pe_callTy (hc : CallR X (.type T) r) (hg : Gl X x) (hm : X.mg x = none) (hv : bootBuiltins x = some (.type T)) (ha : PA X (e :: es) t) (hn : x ≠ "__name__" := by decide) (hdb : (x == ("__debug__" : Str)) = false := by decide)
    (he : starEach (e :: es) X.env = (false, eval e X.env) :: starEach es X.env := by rfl) (hpl : (backTo pos (starEach es X.env)).any (·.1) = false := by rfl) : PE X (.Call (.Name x p) (e :: es) [] pos) (tCB r t) := by
  intro pins s σ H Q I h
  refine wpAny_Call_Name_kw (ld_blt I hg hm hv ?_ hn hdb)
  exact PyProof.Rows.callWith_type1 (thn (ha pos pins s σ H _ I h) fun us s1 ⟨vs, H1, I1, r1, q1⟩ => hc pins s1 σ H1 vs us Q I1 r1 q1) he hpl
end
end L2
namespace HT
open PySem PyProof.Rows
def lexLt : List Int → List Int → Bool
  | [], [] => false
  | [], _ :: _ => true
  | _ :: _, [] => false
  | x :: xs, y :: ys => if x = y then lexLt xs ys else decide (x < y)
section
open PySem.SeqAt
open PySem.AutoSeq1 (wpAny_loadPart')
open PySem.MeetsSeq PySem.MeetsSeq2 PySem.MeetsSeq3
end
section
variable {prog : Program} {w : World} {A : Around} {E : Value → Shared → Prop} {s : Shared}
def sIx (n d : Nat) : Option Int → Nat
  | none => d
  | some v => if v < 0 then (v + (n : Int)).toNat else min v.toNat n
end
end HT
namespace L2
open PySem PySem.Spec PyProof.Rows
abbrev TO := St → Hp → (Option Int → Hp → Prop) → Prop
def PO (X : Cx) (e : Option Expr) (t : TO) : Prop :=
  ∀ (pins : List (Addr × Obj)) (s : Shared) (σ : St) (H : Hp) (Q : Option Int → Hp → Prop), Inv X pins σ H s → t σ H Q →
    wpAny (model X.prog X.w) X.A (evalPart e X.env) (fun u s' => ∃ o H', Inv X pins σ H' s' ∧ IsPart u o ∧ Q o H') X.xe s
def tNoPart : TO := fun _ H Q => Q none H
def tPart (t : TE) : TO := fun σ H Q => t σ H fun x H1 => ∃ i, x = .int i ∧ Q (some i) H1
section
variable {X : Cx} {e : Expr} {te : TE} {lo hi : Option Expr} {tl th : TO} {pos p2 : Pos}
def SlR (X : Cx) (r : V → Option Int → Option Int → Hp → VK → Prop) : Prop :=
  ∀ (pins : List (Addr × Obj)) (s : Shared) (σ : St) (H : Hp) (x : V) (v vl vu : Value) (lo hi : Option Int) (sl : Addr) (Q : VK), Inv X pins σ H s → RelV x v → s.heap.IsSliceOf sl vl vu .none → IsPart vl lo → IsPart vu hi → r x lo hi H Q →
    ∃ T id, typeLookup (.type T) "__getitem__" = pure (some (.builtin id)) ∧ s.TypeIs v T ∧ wpAny (model X.prog X.w) X.A (getItem v (.ref sl)) (EP X pins σ Q) X.xe s
theorem SlR.or {r r' : V → Option Int → Option Int → Hp → VK → Prop} (h : SlR X r) (h' : SlR X r') : SlR X (fun x lo hi H Q => r x lo hi H Q ∨ r' x lo hi H Q) := by
  intro pins s σ H x v vl vu lo hi sl Q I rx hs pl pu q
  rcases q with q | q
  · exact h pins s σ H x v vl vu lo hi sl Q I rx hs pl pu q
  · exact h' pins s σ H x v vl vu lo hi sl Q I rx hs pl pu q
def tSl (r : V → Option Int → Option Int → Hp → VK → Prop) (te : TE) (tl th : TO) : TE := fun σ H Q => te σ H fun x H1 => tl σ H1 fun l H2 => th σ H2 fun u H3 => r x l u H3 Q
def cutV (xs : List V) (lo hi : Option Int) : List V := (xs.drop (HT.sIx xs.length 0 lo)).take (HT.sIx xs.length xs.length hi - HT.sIx xs.length 0 lo)
def rSlT (K : PySem.W.Frag) : V → Option Int → Option Int → Hp → VK → Prop := fun x lo hi H Q => ∃ a xs, x = .ref a ∧ SqT K H a xs ∧
  ¬ (HT.sIx xs.length 0 lo = 0 ∧ HT.sIx xs.length xs.length hi = xs.length) ∧ ∀ p, H p = none → Q (.ref p) (upd H p (.tup (cutV xs lo hi)))
def rLtT (K : PySem.W.Frag) : R2 := fun x y H Q => ∃ a b ns ms, x = .ref a ∧ y = .ref b ∧ SqT K H a (ns.map V.int) ∧ SqT K H b (ms.map V.int) ∧ Q (.bl (HT.lexLt ns ms)) H
def rCatT (K : PySem.W.Frag) : R2 := fun x y H Q => ∃ a b xs ys, x = .ref a ∧ y = .ref b ∧ SqT K H a xs ∧ SqT K H b ys ∧ xs ≠ [] ∧ xs.length + ys.length ≤ sizeLine ∧
  (ys = [] → Q (.ref a) H) ∧ (ys ≠ [] → ∀ p, H p = none → Q (.ref p) (upd H p (.tup (xs ++ ys))))
end
end L2
namespace L2
open PySem PySem.Spec PyProof.Rows
def ixN (n : Nat) (i : Int) : Option Nat := if 0 ≤ i then (if i < n then some i.toNat else none) else if -(n : Int) ≤ i then some (i + n).toNat else none
def atI {α : Type} (xs : List α) (i : Int) : Option α := (ixN xs.length i).bind fun j => xs[j]?
theorem ixN_seq {n : Nat} {i : Int} {j : Nat} (h : ixN n i = some j) : seqIndex? i n = some j ∧ j < n ∧ -(n : Int) ≤ i ∧ i < n := by
  unfold ixN at h
  by_cases h0 : 0 ≤ i
  · rw [if_pos h0] at h
    by_cases h1 : i < n
    · rw [if_pos h1] at h
      have e : i.toNat = j := Option.some.inj h
      exact ⟨by rw [seqIndex_of h0 h1, e], by omega, by omega, h1⟩
    · rw [if_neg h1] at h; cases h
  · rw [if_neg h0] at h
    by_cases h1 : -(n : Int) ≤ i
    · rw [if_pos h1] at h
      have e : (i + n).toNat = j := Option.some.inj h
      exact ⟨by rw [seqIndex_neg (by omega) h1, e], by omega, h1, by omega⟩
    · rw [if_neg h1] at h; cases h
theorem atI_get {α : Type} {xs : List α} {i : Int} {v : α} (h : atI xs i = some v) : ∃ j, seqIndex? i xs.length = some j ∧ xs[j]? = some v ∧ j < xs.length ∧ -(xs.length : Int) ≤ i ∧ i < xs.length := by
  unfold atI at h
  cases e : ixN xs.length i with
  | none => rw [e] at h; cases h
  | some j =>
    rw [e] at h
    obtain ⟨h1, h2, h3, h4⟩ := ixN_seq e
    exact ⟨j, h1, h, h2, h3, h4⟩
theorem atI_nat {α : Type} {xs : List α} {j : Nat} {v : α} (h : xs[j]? = some v) : atI xs (j : Int) = some v := by
  have hj : j < xs.length := (List.getElem?_eq_some_iff.mp h).1
  have e : ixN xs.length (j : Int) = some j := by
    unfold ixN
    rw [if_pos (by omega), if_pos (by omega)]; simp
  unfold atI; rw [e]; exact h
theorem atI_last {α : Type} (xs : List α) (v : α) : atI (xs ++ [v]) (-1) = some v := by
  have hl : (xs ++ [v]).length = xs.length + 1 := by simp
  have e : ixN (xs ++ [v]).length (-1) = some xs.length := by
    unfold ixN
    rw [hl, if_neg (by decide), if_pos (by omega)]
    congr 1
    omega
  unfold atI
  rw [e]
  show (xs ++ [v])[xs.length]? = some v
  simp
def PlainIx (b : Expr) : Prop := ∀ o i, subscripted b false o i = operate [o, i] (getItem o i)
def IxR (X : Cx) (r : R2) : Prop :=
  ∀ (value slice : Expr) (pins : List (Addr × Obj)) (s : Shared) (σ : St) (H : Hp) (x y : V) (v u : Value) (Q : VK), Inv X pins σ H s → RelV x v → RelV y u → r x y H Q →
    subscripted slice false v u = operate [v, u] (getItem v u) → wpAny (model X.prog X.w) X.A (subscriptTail value slice v u) (EP X pins σ Q) X.xe s
def MtR (X : Cx) (id : String) (r : V → List V → Hp → VK → Prop) : Prop :=
  ∀ (pins : List (Addr × Obj)) (s : Shared) (σ : St) (H : Hp) (x : V) (xs : List V) (v : Value) (us : List Value) (Q : VK), Inv X pins σ H s → RelV x v → Vals xs us → r x xs H Q →
    wpAny (model X.prog X.w) X.A (call (.builtin id) (v :: us)) (EP X pins σ Q) X.xe s
section
variable {X : Cx} {a b : Expr} {ta tb : TE} {pos : Pos}
theorem IxR.or {r r' : R2} (h : IxR X r) (h' : IxR X r') : IxR X (fun x y H Q => r x y H Q ∨ r' x y H Q) := by
  intro value slice pins s σ H x y v u Q I rx ry q hs
  rcases q with q | q
  · exact h value slice pins s σ H x y v u Q I rx ry q hs
  · exact h' value slice pins s σ H x y v u Q I rx ry q hs
theorem MtR.or {id : String} {r r' : V → List V → Hp → VK → Prop} (h : MtR X id r) (h' : MtR X id r') : MtR X id (fun x xs H Q => r x xs H Q ∨ r' x xs H Q) := by
  intro pins s σ H x xs v us Q I rx rs q
  rcases q with q | q
  · exact h pins s σ H x xs v us Q I rx rs q
  · exact h' pins s σ H x xs v us Q I rx rs q
theorem pe_ix {r : R2} (hr : IxR X r) (ha : PE X a ta) (hb : PE X b tb) (hs : PlainIx b) : PE X (.Subscript a b pos) (tOp r ta tb) := by
  intro pins s σ H Q I h
  exact Subscript_ (binT ha hb I h fun v u s2 x y H2 I2 rx ry q => hr a b pins s2 σ H2 x y v u Q I2 rx ry q (hs _ _))
def rIxL (K : PySem.W.Frag) : R2 := fun x y H Q => ∃ p xs i v, x = .ref p ∧ y = .int i ∧ SqL K H p xs ∧ atI xs i = some v ∧ Q v H
def rIxT (K : PySem.W.Frag) : R2 := fun x y H Q => ∃ p xs i v, x = .ref p ∧ y = .int i ∧ SqT K H p xs ∧ atI xs i = some v ∧ Q v H
def rIxS : R2 := fun x y H Q => ∃ z i c, x = .str z ∧ y = .int i ∧ z.length ≤ sizeLine ∧ atI z.cps.toList i = some c ∧ Q (.str ⟨#[c]⟩) H
theorem ix_list : IxR X (rIxL X.K) := by
  intro value slice pins s σ H x y v u Q I rx ry h hs
  obtain ⟨p, xs, i, z, rfl, rfl, hq, he, q⟩ := h
  cases rx
  obtain ⟨t, rfl⟩ := ry
  obtain ⟨its, r, pl, hz⟩ := I.list hq
  obtain ⟨j, h1, h2, h3, h4, h5⟩ := atI_get he
  obtain ⟨w, ew, rw'⟩ := r.get h2
  have hl := r.length
  have hn := line63
  have fin : EP X pins σ Q w s := ⟨z, H, I, rw', q⟩
  by_cases h0 : 0 ≤ i
  · have hj : i.toNat = j := by
      rw [seqIndex_of h0 h5] at h1
      exact Option.some.inj h1
    exact item_listR pl.isList h0 (by omega) (by rw [hj]; simpa using ew) fin hs
  · have hj : (i + (its.toArray.size : Int)).toNat = j := by
      rw [seqIndex_neg (by omega) h4] at h1
      rw [List.size_toArray, ← hl]
      exact Option.some.inj h1
    exact subscriptTail_builtinR (x := w) pl.isList.typeIs slot_list_getitem.lookup
      (wpAny_getItem_list_neg (Q := fun r s' => r = w ∧ EP X pins σ Q r s') pl.isList (by omega) (by rw [List.size_toArray] <;> omega) (by omega) (by rw [hj]; simpa using ew) ⟨rfl, fin⟩) hs
theorem ix_tup : IxR X (rIxT X.K) := by
  intro value slice pins s σ H x y v u Q I rx ry h hs
  obtain ⟨p, xs, i, z, rfl, rfl, hq, he, q⟩ := h
  cases rx
  obtain ⟨t, rfl⟩ := ry
  obtain ⟨its, r, pl, hz⟩ := I.tuple hq
  obtain ⟨j, h1, h2, h3, h4, h5⟩ := atI_get he
  obtain ⟨w, ew, rw'⟩ := r.get h2
  have hl := r.length
  have hn := line63
  have fin : EP X pins σ Q w s := ⟨z, H, I, rw', q⟩
  exact subscriptTail_builtinR (x := w) pl.typeIs slot_tuple_getitem.lookup
    (getItem_tuple (j := j) (Q := fun r s' => r = w ∧ EP X pins σ Q r s') pl (by omega) (by omega) (by rw [List.size_toArray, ← hl]; exact h1) (by simpa using ew) ⟨rfl, fin⟩) hs
def rIx (K : PySem.W.Frag) : R2 := fun x y H Q => rIxL K x y H Q ∨ rIxT K x y H Q ∨ rIxS x y H Q
theorem Inv.lst {pins : List (Addr × Obj)} {σ : St} {H : Hp} {s : Shared} {p : Addr} {xs : List V} (I : Inv X pins σ H s) (h : H p = some (.lst xs)) :
    ∃ (its : List Value) (n : Nat), Vals xs its ∧ s.heap.get? p = some { cls := .type "list", data := .seq its.toArray n } ∧ xs.length ≤ sizeLine := by
  obtain ⟨z, its, n, r, e⟩ := I.hok p _ h
  exact ⟨its, n, r, e, z⟩
def rSetL : V → V → V → Hp → (Hp → Prop) → Prop := fun o i v H Q => ∃ p xs k j, o = .ref p ∧ i = .int k ∧ H p = some (.lst xs) ∧ ixN xs.length k = some j ∧ Q (upd H p (.lst (xs.set j v)))
def rSlL (K : PySem.W.Frag) : V → Option Int → Option Int → Hp → VK → Prop := fun x lo hi H Q => ∃ a xs, x = .ref a ∧ SqL K H a xs ∧ ∀ p, H p = none → Q (.ref p) (upd H p (.lst (cutV xs lo hi)))
def flatV : V → Bool
  | .non => true
  | .bl _ => true
  | .int _ => true
  | .str _ => true
  | _ => false
def eqV : V → V → Bool
  | .non, .non => true
  | .bl a, .bl b => a == b
  | .bl a, .int b => (if a then 1 else 0) == b
  | .int a, .bl b => a == (if b then 1 else 0)
  | .int a, .int b => a == b
  | .str a, .str b => a == b
  | _, _ => false
theorem eqAt_V {A : Around} {s : Shared} {y x : V} {u v : Value} (ry : RelV y u) (rx : RelV x v) (fy : flatV y = true) (fx : flatV x = true) : SeqAt.EqAt A s u v (eqV y x) := by
  cases y with
  | non =>
    cases ry
    cases x with
    | non => cases rx; exact SeqAt.EqAt.same _
    | bl b => cases rx; exact SeqAt.EqAt.none_bool b
    | int b => obtain ⟨t, rfl⟩ := rx; exact SeqAt.EqAt.none_int b t
    | str b => obtain ⟨t, rfl⟩ := rx; exact SeqAt.EqAt.none_str b t
    | _ => exact absurd (show false = true from fx) Bool.false_ne_true
  | bl a =>
    cases ry
    cases x with
    | non => cases rx; exact SeqAt.EqAt.bool_none a
    | bl b => cases rx; exact SeqAt.EqAt.bool_bool a b
    | int b => obtain ⟨t, rfl⟩ := rx; exact SeqAt.EqAt.bool_int a b t
    | str b => obtain ⟨t, rfl⟩ := rx; exact SeqAt.EqAt.bool_str a b t
    | _ => exact absurd (show false = true from fx) Bool.false_ne_true
  | int a =>
    obtain ⟨t', rfl⟩ := ry
    cases x with
    | non => cases rx; exact SeqAt.EqAt.int_none a t'
    | bl b => cases rx; exact SeqAt.EqAt.int_bool a t' b
    | int b => obtain ⟨t, rfl⟩ := rx; exact SeqAt.EqAt.int_int a t' b t
    | str b => obtain ⟨t, rfl⟩ := rx; exact SeqAt.EqAt.int_str a t' b t
    | _ => exact absurd (show false = true from fx) Bool.false_ne_true
  | str a =>
    obtain ⟨t', rfl⟩ := ry
    cases x with
    | non => cases rx; exact SeqAt.EqAt.str_none a t'
    | bl b => cases rx; exact SeqAt.EqAt.str_bool a t' b
    | int b => obtain ⟨t, rfl⟩ := rx; exact SeqAt.EqAt.str_int a t' b t
    | str b => obtain ⟨t, rfl⟩ := rx; exact SeqAt.EqAt.str_str a t' b t
    | _ => exact absurd (show false = true from fx) Bool.false_ne_true
  | _ => exact absurd (show false = true from fy) Bool.false_ne_true
def eqU (x : V) (u : Value) : Bool := match u with
  | .none => eqV .non x
  | .bool b => eqV (.bl b) x
  | .int i _ => eqV (.int i) x
  | .str z _ => eqV (.str z) x
  | _ => false
theorem eqU_of {x y : V} {u : Value} (r : RelV y u) (f : flatV y = true) : eqU x u = eqV y x := by
  cases y with
  | non => cases r; rfl
  | bl b => cases r; rfl
  | int i => obtain ⟨t, rfl⟩ := r; rfl
  | str z => obtain ⟨t, rfl⟩ := r; rfl
  | _ => exact absurd (show false = true from f) Bool.false_ne_true
theorem any_eqU {x : V} : ∀ {xs : List V} {us : List Value}, Vals xs us → xs.all flatV = true → us.any (eqU x) = xs.any fun y => eqV y x
  | _, _, .nil, _ => rfl
  | y :: xs, u :: us, .cons r t, f => by
    rw [List.all_cons, Bool.and_eq_true] at f
    rw [List.any_cons, List.any_cons, eqU_of r f.1, any_eqU t f.2]
theorem mem_eqAt {A : Around} {s : Shared} {x : V} {v : Value} (rx : RelV x v) (fx : flatV x = true) : ∀ {xs : List V} {us : List Value}, Vals xs us → xs.all flatV = true → ∀ u ∈ us, SeqAt.EqAt A s u v (eqU x u)
  | _, _, .nil, _ => fun u hu => by cases hu
  | y :: xs, u :: us, .cons r t, f => fun u' hu => by
    rw [List.all_cons, Bool.and_eq_true] at f
    rcases List.mem_cons.mp hu with rfl | hu
    · rw [eqU_of r f.1]; exact eqAt_V r rx f.1 fx
    · exact mem_eqAt rx fx t f.2 u' hu
def inV (x : V) (xs : List V) : Bool := xs.any fun y => eqV y x
def rIn (K : PySem.W.Frag) (neg : Bool) : R2 := fun x y H Q => ∃ p xs, y = .ref p ∧ (SqL K H p xs ∨ SqT K H p xs) ∧ flatV x = true ∧ xs.all flatV = true ∧ Q (.bl (if neg then !inV x xs else inV x xs)) H
theorem op_in_seq : OpR X (compareOp .In) (rIn X.K false) := by
  intro pins s σ H x y v u Q I rx ry h
  obtain ⟨p, xs, rfl, hq, fx, fs, q⟩ := h
  cases ry
  rcases hq with hq | hq
  · obtain ⟨its, r, pl, hz⟩ := I.list hq
    refine SeqAt.in_listAt (eqU x) pl.isList (fun w hw => mem_eqAt rx fx r fs w (by simpa using hw)) ⟨.bl _, H, I, rfl, ?_⟩
    rw [show its.toArray.any (eqU x) = its.any (eqU x) by simp, any_eqU r fs]
    exact q
  · obtain ⟨its, r, pl, hz⟩ := I.tuple hq
    refine SeqAt.in_tupleAt (eqU x) pl (fun w hw => mem_eqAt rx fx r fs w (by simpa using hw)) ⟨.bl _, H, I, rfl, ?_⟩
    rw [show its.toArray.any (eqU x) = its.any (eqU x) by simp, any_eqU r fs]
    exact q
theorem op_notIn_seq : OpR X (compareOp .NotIn) (rIn X.K true) := by
  intro pins s σ H x y v u Q I rx ry h
  obtain ⟨p, xs, rfl, hq, fx, fs, q⟩ := h
  cases ry
  rcases hq with hq | hq
  · obtain ⟨its, r, pl, hz⟩ := I.list hq
    refine SeqAt.notIn_listAt (eqU x) pl.isList (fun w hw => mem_eqAt rx fx r fs w (by simpa using hw)) ⟨.bl _, H, I, rfl, ?_⟩
    rw [show its.toArray.any (eqU x) = its.any (eqU x) by simp, any_eqU r fs]
    exact q
  · obtain ⟨its, r, pl, hz⟩ := I.tuple hq
    refine SeqAt.notIn_tupleAt (eqU x) pl (fun w hw => mem_eqAt rx fx r fs w (by simpa using hw)) ⟨.bl _, H, I, rfl, ?_⟩
    rw [show its.toArray.any (eqU x) = its.any (eqU x) by simp, any_eqU r fs]
    exact q
theorem call_len_seq : CallR X (.builtin "len") (fun xs H Q => ∃ p ys, xs = [.ref p] ∧ (SqL X.K H p ys ∨ SqT X.K H p ys) ∧ Q (.int ys.length) H) := by
  intro pins s σ H xs us Q I r h
  obtain ⟨p, ys, rfl, hq, q⟩ := h
  obtain ⟨u, rfl, rx⟩ := vals1 r
  cases rx
  have hn := line63
  rcases hq with hq | hq
  · obtain ⟨its, r', pl, hz⟩ := I.list hq
    have hlen := r'.length
    exact Calls.call_len_list pl.isList (by simp only [List.size_toArray] <;> omega) ⟨.int ys.length, H, I.tok _, ⟨s.toks + 1, by rw [List.size_toArray, hlen]⟩, q⟩
  · obtain ⟨its, r', pl, hz⟩ := I.tuple hq
    have hlen := r'.length
    exact len_tuple pl (by simp only [List.size_toArray] <;> omega) ⟨.int ys.length, H, I.tok _, ⟨s.toks + 1, by rw [List.size_toArray, hlen]⟩, q⟩
theorem CallR.or {f : Value} {r r' : List V → Hp → VK → Prop} (h : CallR X f r) (h' : CallR X f r') : CallR X f (fun xs H Q => r xs H Q ∨ r' xs H Q) := by
  intro pins s σ H xs us Q I rs q
  rcases q with q | q
  · exact h pins s σ H xs us Q I rs q
  · exact h' pins s σ H xs us Q I rs q
theorem call_list_of : CallR X (.type "list") (fun xs H Q => ∃ p ys, xs = [.ref p] ∧ (SqL X.K H p ys ∨ SqT X.K H p ys) ∧ ∀ l, H l = none → Q (.ref l) (upd H l (.lst ys))) := by
  intro pins s σ H xs us Q I r h
  obtain ⟨p, ys, rfl, hq, q⟩ := h
  obtain ⟨u, rfl, rx⟩ := vals1 r
  cases rx
  have fin : ∀ (its : List Value), Vals ys its → ys.length ≤ sizeLine → ∀ (h' : Heap) (c' : Nat), (∀ b o', s.heap.get? b = some o' → h'.get? b = some o') →
      h'.get? s.heap.objs.size = some { cls := .type "list", dict := none, data := .seq its.toArray c', slots := #[] } → EP X pins σ Q (.ref s.heap.objs.size) { s with heap := h' } := fun its r' hz h' c' kp e =>
    ⟨.ref s.heap.objs.size, _, I.laid (t' := s.toks) kp (Nat.le_refl _) (show ObjOk X.prog X.w _ h' _ (.lst ys) from ⟨hz, its, c', r', e⟩), rfl, q _ (I.hok.fresh (Nat.le_refl _))⟩
  rcases hq with hq | hq
  · obtain ⟨its, r', pl, hz⟩ := I.list hq
    have hlen := r'.length
    obtain ⟨o, ho, hc, n, hd⟩ := pl.isList
    exact call_list_seq p (.inl rfl) ho hc hd (fun h' c' kp e => fin its r' hz h' c' kp e) (by simp only [List.size_toArray] <;> omega)
  · obtain ⟨its, r', pl, hz⟩ := I.tuple hq
    have hlen := r'.length
    obtain ⟨o, ho, hc, n, hd⟩ := pl
    exact call_list_seq p (.inr rfl) ho hc hd (fun h' c' kp e => fin its r' hz h' c' kp e) (by simp only [List.size_toArray] <;> omega)
def tyV (K : PySem.W.Frag) (T : String) (x : V) (H : Hp) : Prop := match x with
  | .str _ => T = "str"
  | .int _ => T = "int"
  | .ref p => (T = "list" ∧ ∃ xs, SqL K H p xs) ∨ (T = "tuple" ∧ ∃ o, K.lookup p = some o ∧ o.cls = .type "tuple" ∧ o.dict = none) ∨
      (T = "dict" ∧ ((∃ kvs, H p = some (.dK kvs)) ∨ ∃ kvs, H p = some (.dT kvs))) ∨ (T = "set" ∧ ∃ S n, H p = some (.set S n))
  | _ => False
theorem tyV_is {pins : List (Addr × Obj)} {σ : St} {H : Hp} {s : Shared} {T : String} {x : V} {v : Value} (I : Inv X pins σ H s) (r : RelV x v) (ty : tyV X.K T x H) :
    s.TypeIs v T ∧ ∀ a, v = .ref a → ∃ ob, s.heap.get? a = some ob ∧ ob.dict = none := by
  cases x with
  | str z =>
    obtain ⟨t, rfl⟩ := r
    cases (show T = "str" from ty)
    exact ⟨typeIs_str s z t, fun _ e => nomatch e⟩
  | int i =>
    obtain ⟨t, rfl⟩ := r
    cases (show T = "int" from ty)
    exact ⟨typeIs_int s i t, fun _ e => nomatch e⟩
  | ref p =>
    cases r
    rcases ty with ⟨rfl, xs, hq⟩ | ⟨rfl, o, hk, hc, hd⟩ | ⟨rfl, hk⟩ | ⟨rfl, S, n, hk⟩
    · obtain ⟨its, _, pl, _⟩ := I.list hq
      refine ⟨pl.isList.typeIs, fun a e => ?_⟩
      cases e
      obtain ⟨o, n, e, c, hd, _⟩ := pl
      exact ⟨o, e, hd⟩
    · refine ⟨⟨o, I.kIn p o hk, hc⟩, fun a e => ?_⟩
      cases e
      exact ⟨o, I.kIn _ o hk, hd⟩
    · have z : ∃ o, s.heap.get? p = some o ∧ o.ExactDict := by
        rcases hk with ⟨kvs, hk⟩ | ⟨kvs, hk⟩
        · obtain ⟨_, _, _, _, o, _, _, e, ex, _⟩ := I.hok p _ hk
          exact ⟨o, e, ex⟩
        · obtain ⟨_, _, _, _, o, _, _, e, ex, _⟩ := I.hok p _ hk
          exact ⟨o, e, ex⟩
      obtain ⟨o, e, ex⟩ := z
      refine ⟨⟨o, e, ex.1⟩, fun a e2 => ?_⟩
      cases e2
      exact ⟨o, e, ex.2.1⟩
    · obtain ⟨o, _, _, _, e, ex, _⟩ := I.hok p _ hk
      refine ⟨⟨o, e, ex.1⟩, fun a e2 => ?_⟩
      cases e2
      exact ⟨o, e, ex.2.1⟩
  | _ => exact False.elim ty
def tBM0 (K : PySem.W.Frag) (T : String) (r : V → List V → Hp → VK → Prop) (to : TE) : TE := fun σ H Q => to σ H fun x H1 => tyV K T x H1 ∧ r x [] H1 Q
def tBM (K : PySem.W.Frag) (T : String) (r : V → List V → Hp → VK → Prop) (to : TE) (t : TA) : TE := fun σ H Q => to σ H fun x H1 => tyV K T x H1 ∧ t σ H1 fun xs H2 => r x xs H2 Q
variable {o e : Expr} {es : List Expr} {to : TE} {t : TA} {name : Str} {apos cpos : Pos} {T id : String} {r : V → List V → Hp → VK → Prop}
theorem pe_bm (pa : PlainAttrs T) (slot : Slot T name id) (hty : typeOf (.builtin id) = pure (.type "method_descriptor")) (hm : MtR X id r) (ho : PE X o to) (ha : PA X (e :: es) t)
    (hbase : attributeBase o name X.env (eval o X.env) = eval o X.env := by rfl)
    (hfew : ((backTo cpos (starEach (e :: es) X.env)).all (fun x => !x.1) && (backToKw cpos (keywordEach [] X.env)).all (fun x => x.1.isSome)
      && decide ((e :: es).length + ([] : List Keyword).length + (if ([] : List Keyword).isEmpty then 0 else 1) < 30)) = true := by rfl)
    (hline : (apos.endLine == cpos.line) = true := by rfl) (hs : starEach (e :: es) X.env = (false, eval e X.env) :: starEach es X.env := by rfl) (hplain : (backTo cpos (starEach es X.env)).any (·.1) = false := by rfl) :
    PE X (.Call (.Attribute o name apos) (e :: es) [] cpos) (tBM X.K T r to t) := by
  intro pins s σ H Q I h
  refine wpAny_Call_method_late hbase hfew hline rfl (thn (ho pins s σ H _ I h) fun v s1 ⟨x, H1, I1, r1, ty, q1⟩ => ?_)
  obtain ⟨h1, h2⟩ := tyV_is I1 r1 ty
  refine ⟨T, id, pa, slot, hty, h1, h2, ?_⟩
  have hA := ha cpos pins s1 σ H1 _ I1 q1
  rw [hs] at hA ⊢
  refine Calls.callWith_builtin (by show (false || (backTo cpos (starEach es X.env)).any (·.1)) = false; rw [hplain] <;> rfl) (Calls.evalArgs_plain ?_)
  exact thn hA fun us s2 ⟨vs, H2, I2, r2, q2⟩ => hm pins s2 σ H2 x vs v us Q I2 r1 r2 q2
/- xs.append(e), list.index on a module's tuple .. are MtR facts of 06m -/
end
end L2
namespace L2
open PySem PySem.Spec PyProof.Rows
def MtM (X : Cx) (id : String) (r : V → List V → Hp → VK → Prop) : Prop :=
  ∀ (pins : List (Addr × Obj)) (s : Shared) (σ : St) (H : Hp) (x : V) (xs : List V) (v : Value) (us : List Value) (Q : VK), Inv X pins σ H s → RelV x v → Vals xs us → r x xs H Q →
    wpAny (model X.prog X.w) X.A (call (.builtin id) (v :: us)) (EP X pins σ Q) X.xe s
theorem Vals.one : ∀ {x : V} {us : List Value}, Vals [x] us → ∃ u, us = [u] ∧ RelV x u
  | _, _, .cons r .nil => ⟨_, rfl, r⟩
theorem Vals.two : ∀ {x y : V} {us : List Value}, Vals [x, y] us → ∃ u v, us = [u, v] ∧ RelV x u ∧ RelV y v
  | _, _, _, .cons r (.cons q .nil) => ⟨_, _, rfl, r, q⟩
theorem Vals.zero : ∀ {us : List Value}, Vals [] us → us = []
  | _, .nil => rfl
theorem Vals.dropLast {xs : List V} {us : List Value} (h : Vals xs us) : Vals xs.dropLast us.dropLast := by
  induction h with
  | nil => exact .nil
  | cons r t ih =>
    cases t with
    | nil => exact .nil
    | cons q t' => exact .cons r ih
theorem Vals.eraseIdx : ∀ {xs : List V} {us : List Value} (i : Nat), Vals xs us → Vals (xs.eraseIdx i) (us.eraseIdx i)
  | _, _, _, .nil => .nil
  | _, _, 0, .cons _ t => t
  | _, _, i + 1, .cons r t => .cons r (Vals.eraseIdx i t)
theorem Vals.reverse {xs : List V} {us : List Value} (h : Vals xs us) : Vals xs.reverse us.reverse := by
  induction h with
  | nil => exact .nil
  | cons r t ih => rw [List.reverse_cons, List.reverse_cons]; exact Vals.append ih (.cons r .nil)
section
variable {X : Cx} {pins : List (Addr × Obj)} {σ : St} {H : Hp} {s : Shared} {l b : Addr} {xs ys zs : List V}
theorem Inv.lset {its its' : List Value} {n : Nat} {f : Array Value → Array Value} {t' : Nat} (I : Inv X pins σ H s) (hH : H l = some (.lst xs))
    (e : s.heap.get? l = some { cls := .type "list", data := .seq its.toArray n }) (hf : f its.toArray = its'.toArray) (hv : Vals ys its') (hz : ys.length ≤ sizeLine) :
    Inv X pins σ (upd H l (.lst ys)) { s with heap := s.heap.update l (Obj.mapSeq f), toks := t' } := by
  have q := PySem.IsL.update e f
  rw [hf] at q
  refine I.write (x := l) (e := l) (by rw [hH]; exact trivial) (.inl rfl) (fun b' u hb hu => (Heap.get?_update_other s.heap (Obj.mapSeq f) (Ne.symm hb)).trans hu) ⟨_, q⟩ ?_
  exact ⟨hz, its', _, hv, q⟩
theorem Inv.lnew {its : List Value} {t' : Nat} (I : Inv X pins σ H s) (hv : Vals ys its) (hz : ys.length ≤ sizeLine) :
    Inv X pins σ (upd H s.heap.objs.size (.lst ys)) { s with heap := s.heap.push { cls := .type "list", data := .seq its.toArray }, toks := t' } :=
  I.laid (fun _ _ q => Heap.get?_push_of_some _ q) (Nat.le_refl _) ⟨hz, its, 0, hv, Heap.get?_push_size _ rfl⟩
theorem Inv.fresh (I : Inv X pins σ H s) : H s.heap.objs.size = none := I.hok.fresh (Nat.le_refl _)
theorem Inv.lstM (I : Inv X pins σ H s) (hH : H l = some (.lst xs)) : xs.length ≤ sizeLine ∧ ∃ (its : List Value) (n : Nat), Vals xs its ∧ xs.length = its.length ∧ s.heap.get? l = some { cls := .type "list", data := .seq its.toArray n } := by
  obtain ⟨z, its, n, r, e⟩ := I.hok l _ hH
  exact ⟨z, its, n, r, r.length, e⟩
end
section
variable {X : Cx}
def rAppend : V → List V → Hp → VK → Prop := fun x vs H Q => ∃ l xs y, x = .ref l ∧ vs = [y] ∧ H l = some (.lst xs) ∧ xs.length < sizeLine ∧ Q .non (upd H l (.lst (xs ++ [y])))
theorem mt_append : MtM X "list.append" rAppend := by
  intro pins s σ H x vs v us Q I rx rv h
  obtain ⟨l, xs, y, rfl, rfl, hH, hz, q⟩ := h
  cases rx
  obtain ⟨u, rfl, ru⟩ := rv.one
  obtain ⟨z, its, n, r, hl, e⟩ := I.lstM hH
  refine call_meets F.slot_list_append ⟨_, e, rfl⟩ F.entry_list_append (F.args_list_append_2 _ _) (PySem.list_append l its.toArray n u (by rw [List.size_toArray]; omega)) ⟨e, ?_⟩
  refine ⟨.non, _, I.lset (its' := its ++ [u]) hH e (by simp) (r.append (.cons ru .nil)) ?_, rfl, q⟩
  rw [List.length_append, List.length_singleton]
  omega
def rExtend : V → List V → Hp → VK → Prop := fun x vs H Q => ∃ l b xs zs, x = .ref l ∧ vs = [.ref b] ∧ H l = some (.lst xs) ∧ H b = some (.lst zs) ∧ xs.length + zs.length ≤ sizeLine ∧ Q .non (upd H l (.lst (xs ++ zs)))
def rPop : V → List V → Hp → VK → Prop := fun x vs H Q => ∃ l xs y, x = .ref l ∧ vs = [] ∧ H l = some (.lst xs) ∧ xs[xs.length - 1]? = some y ∧ Q y (upd H l (.lst xs.dropLast))
def rPopAt : V → List V → Hp → VK → Prop := fun x vs H Q => ∃ l xs i k y, x = .ref l ∧ vs = [.int i] ∧ H l = some (.lst xs) ∧ -(2 ^ 63) ≤ i ∧ i < 2 ^ 63 ∧ seqIndex? i xs.length = some k ∧ xs[k]? = some y ∧ Q y (upd H l (.lst (xs.eraseIdx k)))
def rReverse : V → List V → Hp → VK → Prop := fun x vs H Q => ∃ l xs, x = .ref l ∧ vs = [] ∧ H l = some (.lst xs) ∧ Q .non (upd H l (.lst xs.reverse))
def rClear : V → List V → Hp → VK → Prop := fun x vs H Q => ∃ l xs, x = .ref l ∧ vs = [] ∧ H l = some (.lst xs) ∧ Q .non (upd H l (.lst []))
def rCat : R2 := fun x y H Q => ∃ l b xs zs, x = .ref l ∧ y = .ref b ∧ H l = some (.lst xs) ∧ H b = some (.lst zs) ∧ xs.length + zs.length ≤ sizeLine ∧ ∀ p, H p = none → Q (.ref p) (upd H p (.lst (xs ++ zs)))
theorem op_cat : OpR X (binaryOp .Add) rCat := by
  intro pins s σ H x y v u Q I rx ry h
  obtain ⟨l, b, xs, zs, rfl, rfl, hH, hB, hz, q⟩ := h
  cases rx
  cases ry
  obtain ⟨z, its, n, r, hl, e⟩ := I.lstM hH
  obtain ⟨z2, its2, n2, r2, hl2, e2⟩ := I.lstM hB
  refine PySem.P.add_list e e2 ?_ (by rw [List.size_toArray, List.size_toArray]; omega)
  have ea : its.toArray ++ its2.toArray = (its ++ its2).toArray := by simp
  rw [ea]
  exact ⟨.ref _, _, I.lnew (t' := s.toks) (r.append r2) (by rw [List.length_append]; omega), rfl, q _ I.fresh⟩
def rRep : R2 := fun x y H Q => ∃ l k xs, x = .ref l ∧ y = .int k ∧ H l = some (.lst xs) ∧ -(2 ^ 63) ≤ k ∧ k < 2 ^ 63 ∧ xs.length * k.toNat ≤ sizeLine ∧
  ∀ p, H p = none → Q (.ref p) (upd H p (.lst (List.replicate k.toNat xs).flatten))
end
section
variable {prog : Program} {w : World} {A : Around} {E : Value → Shared → Prop} {s : Shared}
end
section
variable {X : Cx}
end
end L2
namespace L2
open PySem PySem.Spec PyProof.Rows
section
variable {κ : Type} [DecidableEq κ]
def valV (kvs : List (κ × V)) (k : κ) : Option V := (kvs.find? fun kv => decide (kv.1 = k)).map (·.2)
def putK (kvs : List (κ × V)) (k : κ) (v : V) : List (κ × V) :=
  if (kvs.any fun kv => decide (kv.1 = k)) = true then kvs.map (fun kv => if kv.1 = k then (kv.1, v) else kv) else kvs ++ [(k, v)]
def dropK (kvs : List (κ × V)) (k : κ) : List (κ × V) := kvs.filter fun kv => decide (kv.1 ≠ k)
theorem valV_pos {p : κ × V} {r : List (κ × V)} {k : κ} (e : p.1 = k) : valV (p :: r) k = some p.2 := by simp [valV, List.find?_cons, e]
theorem valV_neg {p : κ × V} {r : List (κ × V)} {k : κ} (e : ¬ p.1 = k) : valV (p :: r) k = valV r k := by simp [valV, List.find?_cons, e]
theorem valV_any (k : κ) : ∀ kvs : List (κ × V), (kvs.any fun kv => decide (kv.1 = k)) = (valV kvs k).isSome
  | [] => rfl
  | p :: r => by
    rw [List.any_cons]
    by_cases e : p.1 = k
    · simp only [valV_pos e, decide_eq_true e, Bool.true_or, Option.isSome_some]
    · rw [valV_neg e, decide_eq_false e, Bool.false_or]; exact valV_any k r
theorem valV_map (k j : κ) (y : V) : ∀ kvs : List (κ × V), valV (kvs.map fun kv => if kv.1 = k then (kv.1, y) else kv) j = (valV kvs j).map fun x => if j = k then y else x
  | [] => rfl
  | p :: r => by
    have ih := valV_map k j y r
    rw [List.map_cons]
    by_cases h : p.1 = k
    · rw [if_pos h]
      by_cases e : p.1 = j
      · rw [valV_pos (p := (p.1, y)) e, valV_pos e, Option.map_some, if_pos (e.symm.trans h)]
      · rw [valV_neg (p := (p.1, y)) e, valV_neg e, ih]
    · rw [if_neg h]
      by_cases e : p.1 = j
      · rw [valV_pos (p := p) e, valV_pos e, Option.map_some, if_neg (fun z => h (e.trans z))]
      · rw [valV_neg (p := p) e, valV_neg e, ih]
theorem valV_snoc (k j : κ) (y : V) : ∀ kvs : List (κ × V), valV kvs k = none → valV (kvs ++ [(k, y)]) j = if j = k then some y else valV kvs j
  | [], _ => by
    by_cases e : k = j
    · rw [if_pos e.symm]; exact valV_pos (p := (k, y)) e
    · rw [if_neg (fun z => e z.symm)]; exact valV_neg (p := (k, y)) e
  | p :: r, hn => by
    rw [List.cons_append]
    have hk : ¬ p.1 = k := fun z => by rw [valV_pos z] at hn; cases hn
    rw [valV_neg hk] at hn
    have ih := valV_snoc k j y r hn
    by_cases e : p.1 = j
    · rw [valV_pos e, valV_pos e, if_neg (fun z => hk (e.trans z))]
    · rw [valV_neg e, valV_neg e, ih]
theorem valV_put (kvs : List (κ × V)) (k j : κ) (y : V) : valV (putK kvs k y) j = if j = k then some y else valV kvs j := by
  unfold putK
  by_cases a : (kvs.any fun kv => decide (kv.1 = k)) = true
  · rw [if_pos a, valV_map]
    rw [valV_any] at a
    by_cases e : j = k
    · obtain ⟨x, hx⟩ := Option.isSome_iff_exists.mp a
      rw [if_pos e, e, hx, Option.map_some, if_pos rfl]
    · rw [if_neg e]
      cases valV kvs j with
      | none => rfl
      | some x => rw [Option.map_some, if_neg e]
  · rw [if_neg a]
    refine valV_snoc k j y kvs ?_
    rw [valV_any] at a
    cases q : valV kvs k with
    | none => rfl
    | some x => rw [q] at a; exact (a rfl).elim
theorem length_putK (kvs : List (κ × V)) (k : κ) (v : V) : (putK kvs k v).length ≤ kvs.length + 1 := by
  unfold putK
  split
  · rw [List.length_map]; omega
  · rw [List.length_append, List.length_cons, List.length_nil]; omega
theorem putK_new {kvs : List (κ × V)} {k : κ} (v : V) (h : valV kvs k = none) : putK kvs k v = kvs ++ [(k, v)] := by
  unfold putK
  rw [valV_any, h]
  exact if_neg (by decide)
theorem RelO.isSome_eq {o : Option V} {u : Option Value} (r : RelO o u) : o.isSome = u.isSome := by
  cases o with
  | none => cases u with
    | none => rfl
    | some _ => exact (show False from r).elim
  | some _ => cases u with
    | none => exact (show False from r).elim
    | some _ => rfl
theorem RelO.getD {o : Option V} {u : Option Value} {d : V} {d' : Value} (r : RelO o u) (rd : RelV d d') : RelV (o.getD d) (u.getD d') := by
  cases o with
  | none => cases u with
    | none => exact rd
    | some _ => exact (show False from r).elim
  | some _ => cases u with
    | none => exact (show False from r).elim
    | some _ => exact r
theorem KV.val {kvs : List (κ × V)} {vs : List (κ × Value)} (r : KV kvs vs) (k : κ) : RelO (valV kvs k) (valueAt vs k) := by
  unfold KV at r
  induction r with
  | nil => exact True.intro
  | @cons p q ps qs h t ih =>
    obtain ⟨h1, h2⟩ := h
    by_cases e : p.1 = k
    · have e' : q.1 = k := h1.symm.trans e
      have b : valueAt (q :: qs) k = some q.2 := by simp [valueAt, List.find?_cons, e']
      rw [valV_pos e, b]; exact h2
    · have e' : ¬ q.1 = k := fun z => e (h1.trans z)
      have b : valueAt (q :: qs) k = valueAt qs k := by simp [valueAt, List.find?_cons, e']
      rw [valV_neg e, b]; exact ih
theorem KV.any {kvs : List (κ × V)} {vs : List (κ × Value)} (r : KV kvs vs) (k : κ) : (kvs.any fun kv => decide (kv.1 = k)) = vs.any fun kv => decide (kv.1 = k) := by
  unfold KV at r
  induction r with
  | nil => rfl
  | cons h t ih => rw [List.any_cons, List.any_cons, ih, h.1]
theorem KV.repl {kvs : List (κ × V)} {vs : List (κ × Value)} (r : KV kvs vs) (k : κ) {y : V} {u : Value} (ry : RelV y u) :
    KV (kvs.map fun kv => if kv.1 = k then (kv.1, y) else kv) (vs.map fun kv => if kv.1 = k then (kv.1, u) else kv) := by
  unfold KV at r ⊢
  induction r with
  | nil => exact .nil
  | @cons p q ps qs h t ih =>
    rw [List.map_cons, List.map_cons]
    refine .cons ?_ ih
    obtain ⟨h1, h2⟩ := h
    by_cases e : p.1 = k
    · rw [if_pos e, if_pos (h1.symm.trans e)]; exact ⟨h1, ry⟩
    · rw [if_neg e, if_neg (fun z => e (h1.trans z))]; exact ⟨h1, h2⟩
theorem KV.put {kvs : List (κ × V)} {vs : List (κ × Value)} (r : KV kvs vs) (k : κ) {y : V} {u : Value} (ry : RelV y u) : KV (putK kvs k y) (stored vs k u) := by
  unfold putK stored
  rw [r.any k]
  by_cases e : (vs.any fun kv => decide (kv.1 = k)) = true
  · rw [if_pos e, if_pos e]; exact r.repl k ry
  · rw [if_neg e, if_neg e]; exact Paired.snoc r ⟨rfl, ry⟩
theorem KV.drop {kvs : List (κ × V)} {vs : List (κ × Value)} (r : KV kvs vs) (k : κ) : KV (dropK kvs k) (without vs k) := by
  unfold KV at r ⊢
  unfold dropK without
  induction r with
  | nil => exact .nil
  | @cons p q ps qs h t ih =>
    obtain ⟨h1, h2⟩ := h
    rw [List.filter_cons, List.filter_cons]
    by_cases e : p.1 = k
    · have a : ¬ decide (p.1 ≠ k) = true := by simp [e]
      have b : ¬ decide (q.1 ≠ k) = true := by simp [h1.symm.trans e]
      rw [if_neg a, if_neg b]; exact ih
    · have e' : ¬ q.1 = k := fun z => e (h1.trans z)
      have a : decide (p.1 ≠ k) = true := by simp [e]
      have b : decide (q.1 ≠ k) = true := by simp [e']
      rw [if_pos a, if_pos b]; exact .cons ⟨h1, h2⟩ ih
theorem KV.keys {kvs : List (κ × V)} {vs : List (κ × Value)} (r : KV kvs vs) : kvs.map (·.1) = vs.map (·.1) := by
  unfold KV at r
  induction r with
  | nil => rfl
  | cons h t ih => rw [List.map_cons, List.map_cons, ih, h.1]
theorem KV.length {kvs : List (κ × V)} {vs : List (κ × Value)} (r : KV kvs vs) : kvs.length = vs.length := Paired.length r
end
theorem kV_is {P : Program} {w : World} {k : Key} {u : Value} (r : RelV (kV k) u) : (mixKind P w).is k u = true := by
  cases k with
  | inl i => obtain ⟨t, e⟩ := (show ∃ t, u = Value.int i t from r); subst e; exact mixKind_int P w i t
  | inr x => obtain ⟨t, e⟩ := (show ∃ t, u = Value.str x t from r); subst e; exact mixKind_str P w x t
theorem items_are {P : Program} {w : World} : ∀ {ks : List Key} {us : List Value}, Vals (ks.map kV) us → ItemsAre (mixKind P w) ks us
  | [], _, r => by rw [List.map_nil] at r; cases r; exact .nil
  | k :: ks, _, r => by
    rw [List.map_cons] at r
    cases r with
    | cons h t => exact .cons (kV_is h) (items_are t)
abbrev KT (H : Hp) : List (List Key × V) → List (List Key × Addr × Value) → Prop := Paired fun p q => p.1 = q.1 ∧ H q.2.1 = some (.tup (p.1.map kV)) ∧ RelV p.2 q.2.2
theorem KT.val {H : Hp} {kvs : List (List Key × V)} {xs : List (List Key × Addr × Value)} (r : KT H kvs xs) (k : List Key) : RelO (valV kvs k) ((atKey xs k).map (·.2)) := by
  induction r with
  | nil => exact True.intro
  | @cons p q ps qs h t ih =>
    obtain ⟨h1, _, h2⟩ := h
    by_cases e : p.1 = k
    · have e' : q.1 = k := h1.symm.trans e
      have b : atKey (q :: qs) k = some q.2 := by simp [atKey, List.find?_cons, e']
      rw [valV_pos e, b]; exact h2
    · have e' : ¬ q.1 = k := fun z => e (h1.trans z)
      have b : atKey (q :: qs) k = atKey qs k := by simp [atKey, List.find?_cons, e']
      rw [valV_neg e, b]; exact ih
theorem KT.repl {H : Hp} {kvs : List (List Key × V)} {xs : List (List Key × Addr × Value)} (r : KT H kvs xs) (k : List Key) {y : V} {u : Value} (ry : RelV y u) :
    KT H (kvs.map fun kv => if kv.1 = k then (kv.1, y) else kv) (xs.map (putAt k u)) := by
  induction r with
  | nil => exact .nil
  | @cons p q ps qs h t ih =>
    rw [List.map_cons, List.map_cons]
    refine .cons ?_ ih
    obtain ⟨h1, h2, h3⟩ := h
    unfold putAt
    by_cases e : p.1 = k
    · rw [if_pos e, if_pos (h1.symm.trans e)]; exact ⟨h1, h2, ry⟩
    · rw [if_neg e, if_neg (fun z => e (h1.trans z))]; exact ⟨h1, h2, h3⟩
theorem KT.put {H : Hp} {kvs : List (List Key × V)} {xs : List (List Key × Addr × Value)} (r : KT H kvs xs) (k : List Key) {b : Addr} {y : V} {u : Value} (hb : H b = some (.tup (k.map kV))) (ry : RelV y u) :
    KT H (putK kvs k y) (storedH xs k b u) := by
  have e : (kvs.any fun kv => decide (kv.1 = k)) = (atKey xs k).isSome := by
    rw [valV_any, (r.val k).isSome_eq, Option.isSome_map]
  unfold putK storedH
  rw [e]
  by_cases q : (atKey xs k).isSome = true
  · rw [if_pos q, if_pos q]; exact r.repl k ry
  · rw [if_neg q, if_neg q]; exact Paired.snoc r ⟨rfl, hb, ry⟩
theorem KT.keeps {H H' : Hp} {kvs : List (List Key × V)} {xs : List (List Key × Addr × Value)} (r : KT H kvs xs) (ht : ∀ b ys, H b = some (.tup ys) → H' b = some (.tup ys)) : KT H' kvs xs :=
  Paired.mapP r fun _ _ z => ⟨z.1, ht _ _ z.2.1, z.2.2⟩
section
variable {P : Program} {w : World} {H : Hp} {h : Heap} {a : Addr}
theorem rd_of {u : HO} (ok : HOk P w H h) (e : Rd H a u) : ObjOk P w H h a u := e.ok ok
theorem dk_rd {kvs : List (Key × V)} (ok : HOk P w H h) (e : Rd H a (.dK kvs)) : kvs.length ≤ sizeLine ∧ (a == sysModules) = false ∧ ∃ vs, KV kvs vs ∧ h.DictOf (mixKind P w) a vs :=
  show ObjOk P w H h a (.dK kvs) from rd_of ok e
theorem dk_of {kvs : List (Key × V)} (ok : HOk P w H h) (e : H a = some (.dK kvs)) : kvs.length ≤ sizeLine ∧ (a == sysModules) = false ∧ ∃ vs, KV kvs vs ∧ h.DictOf (mixKind P w) a vs := dk_rd ok (.inl e)
theorem key_of {ks : List Key} (ok : HOk P w H h) (e : H a = some (.tup (ks.map kV))) : (tupleKind (mixKind P w)).is h ks a := by
  obtain ⟨_, its, r, o, h1, h2, n, h3⟩ := (show ObjOk P w H h a (.tup (ks.map kV)) from ok a _ e)
  exact ⟨o, its.toArray, n, h1, h2, h3, by simpa using items_are r⟩
theorem dt_rd {kvs : List (List Key × V)} (ok : HOk P w H h) (e : Rd H a (.dT kvs)) : kvs.length ≤ sizeLine ∧ (a == sysModules) = false ∧
    ∃ xs, KT H kvs xs ∧ h.DictOfH (tupleKind (mixKind P w)) a xs := by
  obtain ⟨z, y, xs, r, o, es, ep, h1, h2, h3, h4, h5⟩ := (show ObjOk P w H h a (.dT kvs) from rd_of ok e)
  refine ⟨z, y, xs, r, o, es, ep, h1, h2, h3, h4, fun x hx => ?_, h5⟩
  have all : ∀ {l : List (List Key × V)} {m : List (List Key × Addr × Value)}, KT H l m → ∀ x ∈ m, (tupleKind (mixKind P w)).is h x.1 x.2.1 := by
    intro l m q
    induction q with
    | nil => intro x hx; exact nomatch hx
    | @cons p q ps qs hq t ih =>
      intro x hx
      rcases List.mem_cons.mp hx with e | hx
      · subst e
        exact key_of ok (by rw [← hq.1]; exact hq.2.1)
      · exact ih x hx
  exact all r x hx
theorem dt_of {kvs : List (List Key × V)} (ok : HOk P w H h) (e : H a = some (.dT kvs)) : kvs.length ≤ sizeLine ∧ (a == sysModules) = false ∧
    ∃ xs, KT H kvs xs ∧ h.DictOfH (tupleKind (mixKind P w)) a xs := dt_rd ok (.inl e)
end
def DGet (H : Hp) (a : Addr) (y : V) (r : Option V) : Prop :=
  (∃ kvs k, Rd H a (.dK kvs) ∧ y = kV k ∧ r = valV kvs k) ∨ ∃ kvs k b, Rd H a (.dT kvs) ∧ y = .ref b ∧ H b = some (.tup (k.map kV)) ∧ r = valV kvs k
def DPut (H : Hp) (a : Addr) (y v : V) (H' : Hp) : Prop :=
  (∃ kvs k, H a = some (.dK kvs) ∧ y = kV k ∧ kvs.length < sizeLine ∧ H' = upd H a (.dK (putK kvs k v))) ∨
  ∃ kvs k b, H a = some (.dT kvs) ∧ y = .ref b ∧ H b = some (.tup (k.map kV)) ∧ kvs.length < sizeLine ∧ H' = upd H a (.dT (putK kvs k v))
theorem DGet.k {H : Hp} {a : Addr} {kvs : List (Key × V)} {k : Key} (e : H a = some (.dK kvs)) : DGet H a (kV k) (valV kvs k) := .inl ⟨kvs, k, .inl e, rfl, rfl⟩
theorem DGet.t {H : Hp} {a b : Addr} {kvs : List (List Key × V)} {k : List Key} (e : H a = some (.dT kvs)) (eb : H b = some (.tup (k.map kV))) : DGet H a (.ref b) (valV kvs k) := .inr ⟨kvs, k, b, .inl e, rfl, eb, rfl⟩
theorem DPut.k {H : Hp} {a : Addr} {kvs : List (Key × V)} {k : Key} {v : V} (e : H a = some (.dK kvs)) (hl : kvs.length < sizeLine) : DPut H a (kV k) v (upd H a (.dK (putK kvs k v))) := .inl ⟨kvs, k, e, rfl, hl, rfl⟩
theorem DPut.t {H : Hp} {a b : Addr} {kvs : List (List Key × V)} {k : List Key} {v : V} (e : H a = some (.dT kvs)) (eb : H b = some (.tup (k.map kV))) (hl : kvs.length < sizeLine) :
    DPut H a (.ref b) v (upd H a (.dT (putK kvs k v))) := .inr ⟨kvs, k, b, e, rfl, eb, hl, rfl⟩
section
variable {X : Cx} {pins : List (Addr × Obj)} {σ : St} {H : Hp} {s : Shared} {a : Addr} {y v : V} {u r : Value} {o : Option V} {A : Around} {E : Value → Shared → Prop}
theorem Inv.big (I : Inv X pins σ H s) : sysModules < s.heap.objs.size := by
  have h : mainGlobals < s.heap.objs.size := (I.mod.glob.keeps I.bk).lt
  exact Nat.lt_trans (by decide) h
theorem d_in {Q : Value → Shared → Prop} (hu : A.units + 1 < cLine) (I : Inv X pins σ H s) (g : DGet H a y o) (ry : RelV y u) (h : ∀ s', Inv X pins σ H s' → Q (.bool o.isSome) s') :
    wpAny (model X.prog X.w) A (compareOp .In u (.ref a)) Q E s := by
  rcases g with ⟨kvs, k, e, ey, l⟩ | ⟨kvs, k, b, e, ey, eb, l⟩
  · subst ey
    obtain ⟨z, hd, vs, rel, dd⟩ := dk_rd I.hok e
    refine wpAny_in_of (kV_is ry) hd dd.mapOf ?_
    rw [← (rel.val k).isSome_eq, ← l]
    exact h _ (I.tok _)
  · subst ey
    cases (show u = Value.ref b from ry)
    obtain ⟨z, hd, xs, rel, dd⟩ := dt_rd I.hok e
    refine wpAny_in_heap (tupleKind_room_in1 hu) (key_of I.hok eb) hd dd ?_
    have q := (rel.val k).isSome_eq
    rw [Option.isSome_map] at q
    rw [← q, ← l]
    exact h _ (I.tok _)
theorem d_write {h' : Heap} {t' : Nat} {ob : HO} (I : Inv X pins σ H s) (mu : Mut (H a)) (hs : Heap.SameBut a s.heap h') (he : ∃ q, h'.get? a = some q) (new : ObjOk X.prog X.w (upd H a ob) h' a ob) :
    Inv X pins σ (upd H a ob) { s with heap := h', toks := t' } :=
  I.write (x := a) (e := a) mu (.inl rfl) (fun b q hb z => (hs.2 b hb).trans z) he new
theorem dk_new {P : Program} {w : World} {H' : Hp} {h' : Heap} {kvs : List (Key × V)} {vs : List (Key × Value)} (z : kvs.length ≤ sizeLine) (hd : (a == sysModules) = false) (rel : KV kvs vs) (dd : h'.DictOf (mixKind P w) a vs) :
    ObjOk P w H' h' a (.dK kvs) := ⟨z, hd, vs, rel, dd⟩
theorem d_setItem {H' : Hp} {Q : Unit → Shared → Prop} (hu : A.units + 1 < cLine) (I : Inv X pins σ H s) (g : DPut H a y v H') (ry : RelV y u) (rv : RelV v r) (h : ∀ s', Inv X pins σ H' s' → Q () s') :
    wpAny (model X.prog X.w) A (setItem (.ref a) u r) Q E s := by
  rcases g with ⟨kvs, k, e, ey, l, eH⟩ | ⟨kvs, k, b, e, ey, eb, l, eH⟩
  · subst ey eH
    obtain ⟨z, hd, vs, rel, dd⟩ := dk_of I.hok e
    have hz : vs.length ≤ sizeLine := by rw [← rel.length]; exact z
    have hl : (putK kvs k v).length ≤ sizeLine := by have := length_putK kvs k v; omega
    refine wpAny_setItem_pairs (hsz := hz) (kV_is ry) dd fun h' dd' hs => h _ ?_
    have he : ∃ q, h'.get? a = some q := let ⟨q, _, _, hq, _⟩ := dd'; ⟨q, hq⟩
    exact d_write I (by rw [e]; exact True.intro) hs he (dk_new hl hd (rel.put k rv) dd')
  · subst ey eH
    cases (show u = Value.ref b from ry)
    obtain ⟨z, hd, xs, rel, dd⟩ := dt_of I.hok e
    have hz : xs.length ≤ sizeLine := by rw [← Paired.length rel]; exact z
    have hl : (putK kvs k v).length ≤ sizeLine := by have := length_putK kvs k v; omega
    refine wpAny_setItem_heap (hsz := hz) (tupleKind_room_in1 hu) (key_of I.hok eb) dd fun h' dd' hs => h _ ?_
    obtain ⟨q, es, ep, hq, h2, h3, h4, _, h5⟩ := dd'
    refine d_write I (by rw [e]; exact True.intro) hs ⟨q, hq⟩ ⟨hl, hd, _, (rel.put k eb rv).keeps fun c ys ec => ?_, q, es, ep, hq, h2, h3, h4, h5⟩
    rw [upd_ne (ne_of ec e (fun z => nomatch z))]
    exact ec
end
section
variable {X : Cx} {pins : List (Addr × Obj)} {σ : St} {H : Hp} {s : Shared} {a : Addr} {kvs : List (Key × V)} {k : Key} {u : Value} {A : Around} {E : Value → Shared → Prop}
end
def NoSl (i : Expr) : Prop := ∀ ov iv, subscripted i false ov iv = operate [ov, iv] (getItem ov iv)
theorem subD_of {prog : Program} {w : World} {A : Around} {E : Value → Shared → Prop} {s : Shared} {env : Env} {value slice : Expr} {pos : Pos} {T id : String} {Q : Value → Shared → Prop}
    (hl : typeLookup (.type T) "__getitem__" = pure (some (.builtin id))) (hs : NoSl slice)
    (h : wpAny (model prog w) A (eval value env) (fun o s₁ => wpAny (model prog w) A (eval slice env) (fun i s₂ => s₂.TypeIs o T ∧ wpAny (model prog w) A (getItem o i) Q E s₂) E s₁) E s) :
    wpAny (model prog w) A (eval (.Subscript value slice pos) env) Q E s := by
  refine Subscript_ (wpAny_mono h (fun o s₁ h₁ => wpAny_mono h₁ (fun i s₂ h₂ => ?_) fun _ _ x => x) fun _ _ x => x)
  obtain ⟨hT, h₂⟩ := h₂
  unfold subscriptTail
  refine wpAny_bind ?_
  rw [getitemInPython_of_ne hT.not_modules]
  refine wpAny_bind (wpAny_specialOf hT hl ?_)
  have fin : wpAny (model prog w) A (subscripted slice false o i) (fun r s₃ => wpAny (model prog w) A (letTemporaryGo value o r >>= fun _ => pure r) Q E s₃) E s₂ := by
    rw [hs o i]
    exact wpAny_operating (wpAny_mono h₂ (fun r s₃ h₃ => wpAny_bind (wpAny_letTemporaryGo (wpAny_pure h₃))) fun _ _ x => x)
  first
    | exact wpAny_pure (wpAny_bind fin)
    | exact wpAny_bind (wpAny_pure (wpAny_bind fin))
    | exact wpAny_bind fin
def tDGet (td ty : TE) : TE := fun σ H Q => td σ H fun x H1 => ty σ H1 fun y H2 => ∃ a v, x = .ref a ∧ DGet H2 a y (some v) ∧ Q v H2
def tDIn (ty td : TE) : TE := fun σ H Q => ty σ H fun y H1 => td σ H1 fun x H2 => ∃ a o, x = .ref a ∧ DGet H2 a y o ∧ Q (.bl o.isSome) H2
def tDNotIn (ty td : TE) : TE := fun σ H Q => ty σ H fun y H1 => td σ H1 fun x H2 => ∃ a o, x = .ref a ∧ DGet H2 a y o ∧ Q (.bl (!o.isSome)) H2
def sDPut (td ty tv : TE) : TS := fun D σ H => tv σ H fun v H1 => td σ H1 fun x H2 => ty σ H2 fun y H3 => ∃ a H4, x = .ref a ∧ DPut H3 a y v H4 ∧ D.nx σ H4
def sDAug (td ty tv : TE) (rd : V → V → Hp → VK → Prop) : TS := fun D σ H => td σ H fun x H1 => ty σ H1 fun y H2 => ∃ a v, x = .ref a ∧ DGet H2 a y (some v) ∧
  tv σ H2 fun y2 H3 => rd v y2 H3 fun z H4 => ∃ H5, DPut H4 a y z H5 ∧ D.nx σ H5
def sDDel (td ty : TE) : TS := fun D σ H => td σ H fun x H1 => ty σ H1 fun y H2 => ∃ a kvs k, x = .ref a ∧ H2 a = some (.dK kvs) ∧ y = kV k ∧ (valV kvs k).isSome = true ∧ D.nx σ (upd H2 a (.dK (dropK kvs k)))
section
variable {X : Cx} {o i e value : Expr} {pos pos' tpos : Pos} {td ty tv : TE}
theorem pc_din (hu : X.A.units + 1 < cLine) (hi : PE X i ty) (ho : PE X o td) : PC X .In i o (tDIn ty td) := by
  intro pins s σ H Q I h
  refine thn (hi pins s σ H _ I h) fun iv s1 ⟨y, H1, I1, ry, q1⟩ => thn (ho pins s1 σ H1 _ I1 q1) fun u s2 ⟨x, H2, I2, rx, a, ov, ex, g, q2⟩ => ?_
  subst ex
  obtain rfl : u = Value.ref a := rx
  exact d_in hu I2 g ry fun s3 I3 => ⟨.bl ov.isSome, H2, I3, rfl, q2⟩
theorem ps_dput (hu : X.A.units + 1 < cLine) (ho : PE X o td) (hi : PE X i ty) (hv : PE X value tv) (hs : swapsWith value (some (.Subscript o i pos')) pos.line X.env = pure false) :
    PS X (.Assign [.Subscript o i pos'] value pos) (sDPut td ty tv) := by
  intro pins s σ H D I h
  refine wpAny_Assign_Subscript (thn (hv pins s σ H _ I h) fun r s1 ⟨v, H1, I1, rv, q1⟩ => thn (ho pins s1 σ H1 _ I1 q1) fun u s2 ⟨x, H2, I2, rx, q2⟩ => thn (hi pins s2 σ H2 _ I2 q2) fun iv s3 ⟨y, H3, I3, ry, a, H4, ex, g, q3⟩ => ?_) hs
  subst ex
  obtain rfl : u = Value.ref a := rx
  exact d_setItem hu I3 g ry rv fun s4 I4 => ⟨σ, H4, I4, q3⟩
end
theorem dk_empty {P : Program} {w : World} {H : Hp} (h : Heap) (hb : sysModules < h.objs.size) : ObjOk P w H (h.push { cls := .type "dict", data := .dict #[] }) h.objs.size (.dK []) :=
  ⟨Nat.zero_le _, beq_eq_false_iff_ne.mpr (Ne.symm (Nat.ne_of_lt hb)), [], .nil, Heap.DictOf.new h⟩
def tDNewK : TE := fun _ H Q => ∀ p, H p = none → Q (.ref p) (upd H p (.dK []))
def tDNewT : TE := fun _ H Q => ∀ p, H p = none → Q (.ref p) (upd H p (.dT []))
section
variable {X : Cx} {pos : Pos}
end
def tPairs : List (TE × TE) → St → Hp → (List (V × V) → Hp → Prop) → Prop
  | [], _, H, Q => Q [] H
  | (tk, tv) :: r, σ, H, Q => tk σ H fun x H1 => tv σ H1 fun y H2 => tPairs r σ H2 fun ps H3 => Q ((x, y) :: ps) H3
abbrev VV : List (V × V) → List (Value × Value) → Prop := Paired fun p q => RelV p.1 q.1 ∧ RelV p.2 q.2
def PPs (X : Cx) (pos : Pos) (keys : List (Option Expr)) (values : List Expr) (trs : List (TE × TE)) : Prop :=
  ∀ (pins : List (Addr × Obj)) (s : Shared) (σ : St) (H : Hp) (Q : List (V × V) → Hp → Prop), Inv X pins σ H s → tPairs trs σ H Q →
    wpAny (model X.prog X.w) X.A (evalPairs (pairTrees keys values X.env pos)) (fun vs s' => ∃ ps H', Inv X pins σ H' s' ∧ VV ps vs ∧ Q ps H') X.xe s
theorem pps_nil {X : Cx} {pos : Pos} : PPs X pos [] [] [] := fun pins s σ H Q I h => pairTrees_nil_walk ⟨[], H, I, .nil, h⟩
theorem pps_cons {X : Cx} {pos : Pos} {k v : Expr} {ks : List (Option Expr)} {vs : List Expr} {tk tv : TE} {trs : List (TE × TE)} (hk : PE X k tk) (hv : PE X v tv) (hr : PPs X pos ks vs trs) :
    PPs X pos (some k :: ks) (v :: vs) ((tk, tv) :: trs) := fun pins s σ H Q I h =>
  pairTrees_cons_walk (thn (hk pins s σ H _ I h) fun u s1 ⟨x, H1, I1, rx, q1⟩ => thn (hv pins s1 σ H1 _ I1 q1) fun w2 s2 ⟨y, H2, I2, ry, q2⟩ =>
    thn (hr pins s2 σ H2 _ I2 q2) fun ws s3 ⟨ps, H3, I3, rel, q3⟩ => ⟨(x, y) :: ps, H3, I3, .cons ⟨rx, ry⟩ rel, q3⟩)
def mergeK (kvs more : List (Key × V)) : List (Key × V) := more.foldl (fun acc kv => putK acc kv.1 kv.2) kvs
theorem KV.merge : ∀ {more : List (Key × V)} {rs : List (Key × Value)} {kvs : List (Key × V)} {vs : List (Key × Value)}, KV more rs → KV kvs vs → KV (mergeK kvs more) (merged vs rs) := by
  intro more rs kvs vs r
  unfold KV at r
  induction r generalizing kvs vs with
  | nil => intro q; exact q
  | @cons p q ps qs h t ih =>
    intro r0
    have e : KV (putK kvs p.1 p.2) (stored vs q.1 q.2) := by
      have := r0.put p.1 h.2
      rw [← h.1]; exact this
    exact ih e
theorem length_mergeK : ∀ (more kvs : List (Key × V)), (mergeK kvs more).length ≤ kvs.length + more.length
  | [], kvs => by show kvs.length ≤ kvs.length + 0; omega
  | p :: r, kvs => by
    have h1 := length_mergeK r (putK kvs p.1 p.2)
    have h2 := length_putK kvs p.1 p.2
    show (mergeK (putK kvs p.1 p.2) r).length ≤ _
    rw [List.length_cons]; omega
theorem carries_of {P : Program} {w : World} : ∀ {kvs : List (Key × V)} {ws : List (Value × Value)}, VV (kvs.map fun kv => (kV kv.1, kv.2)) ws → ∃ rs, Carries (mixKind P w) ws rs ∧ KV kvs rs
  | [], _, r => by rw [List.map_nil] at r; cases r; exact ⟨[], True.intro, .nil⟩
  | p :: kvs, _, r => by
    rw [List.map_cons] at r
    cases r with
    | @cons a b as bs h t =>
      obtain ⟨rs, c, q⟩ := carries_of (P := P) (w := w) t
      obtain ⟨b1, b2⟩ := b
      exact ⟨(p.1, b2) :: rs, ⟨kV_is h.1, rfl, c⟩, .cons ⟨rfl, h.2⟩ q⟩
def tDisp (trs : List (TE × TE)) : TE := fun σ H Q => ∀ p, H p = none → tPairs trs σ (upd H p (.dK [])) fun ps H2 => H2 p = some (.dK []) ∧ ∃ kvs : List (Key × V), ps = kvs.map (fun kv => (kV kv.1, kv.2)) ∧ kvs.length ≤ 15 ∧ Q (.ref p) (upd H2 p (.dK (mergeK [] kvs)))
theorem pe_disp {X : Cx} {pos : Pos} {keys : List (Option Expr)} {values : List Expr} {trs : List (TE × TE)} (h : PPs X pos keys values trs) (hall : keys.all (·.isSome) = true) (hl : keys.length = values.length) (h0 : keys ≠ [])
    (h15 : keys.length ≤ 15) : PE X (.Dict keys values pos) (tDisp trs) := by
  intro pins s σ H Q I q
  have hn := I.hok.fresh (Nat.le_refl s.heap.objs.size)
  have I1 := I.laid (a := s.heap.objs.size) (o := .dK []) (h' := s.heap.push { cls := .type "dict", data := .dict #[] }) (t' := s.toks) (fun _ _ q => Heap.get?_push_of_some _ q) (Nat.le_refl _) (dk_empty s.heap I.big)
  refine wpAny_Dict_walk (knd := mixKind X.prog X.w) hall hl h0 h15 (thn (h pins _ σ _ _ I1 (q _ hn)) fun ws s2 ⟨ps, H2, I2, rel, e, kvs, ep, lk, q2⟩ => ?_)
  subst ep
  obtain ⟨rs, c, rk⟩ := carries_of (P := X.prog) (w := X.w) rel
  obtain ⟨z, hd, vs0, r0, dd⟩ := dk_of I2.hok e
  cases r0
  refine ⟨rs, c, dd, fun h' dd' hs => ⟨.ref s.heap.objs.size, _, ?_, rfl, q2⟩⟩
  have hz : (mergeK [] kvs).length ≤ sizeLine := by
    have h1 := length_mergeK kvs []
    rw [List.length_nil] at h1
    rw [sizeLine_eq]; omega
  have he : ∃ q, h'.get? s.heap.objs.size = some q := let ⟨q, _, _, hq, _⟩ := dd'; ⟨q, hq⟩
  exact d_write I2 (by rw [e]; exact True.intro) hs he (dk_new hz hd (rk.merge .nil) dd')
structure M1 (X : Cx) (o : Expr) (m : Str) (apos : Pos) (e : Expr) (cpos : Pos) : Prop where
  base : attributeBase o m X.env (eval o X.env) = eval o X.env
  few : ((backTo cpos (starEach [e] X.env)).all (fun x => !x.1) && (backToKw cpos (keywordEach [] X.env)).all (fun x => x.1.isSome)
    && decide (([e] : List Expr).length + ([] : List Keyword).length + (if ([] : List Keyword).isEmpty then 0 else 1) < 30)) = true
  line : (apos.endLine == cpos.line) = true
  trees : backTo cpos (starEach [e] X.env) = [(false, eval e X.env)]
structure M2 (X : Cx) (o : Expr) (m : Str) (apos : Pos) (e f : Expr) (cpos : Pos) : Prop where
  base : attributeBase o m X.env (eval o X.env) = eval o X.env
  few : ((backTo cpos (starEach [e, f] X.env)).all (fun x => !x.1) && (backToKw cpos (keywordEach [] X.env)).all (fun x => x.1.isSome)
    && decide (([e, f] : List Expr).length + ([] : List Keyword).length + (if ([] : List Keyword).isEmpty then 0 else 1) < 30)) = true
  line : (apos.endLine == cpos.line) = true
  trees : backTo cpos (starEach [e, f] X.env) = [(false, eval e X.env), (false, eval f X.env)]
def IsD (H : Hp) (a : Addr) : Prop := (∃ kvs, Rd H a (.dK kvs)) ∨ ∃ kvs, Rd H a (.dT kvs)
section
variable {X : Cx} {pins : List (Addr × Obj)} {σ : St} {H : Hp} {s : Shared} {a : Addr} {y d : V} {u r : Value} {o : Option V} {A : Around} {E : Value → Shared → Prop}
end
def tDGet1 (td ty : TE) : TE := fun σ H Q => td σ H fun x H1 => ∃ a, x = .ref a ∧ IsD H1 a ∧ ty σ H1 fun y H2 => ∃ o, DGet H2 a y o ∧ Q (o.getD .non) H2
def tDGet2 (td ty tx : TE) : TE := fun σ H Q => td σ H fun x H1 => ∃ a, x = .ref a ∧ IsD H1 a ∧ ty σ H1 fun y H2 => tx σ H2 fun z H3 => ∃ o, DGet H3 a y o ∧ Q (o.getD z) H3
def tDPop1 (td ty : TE) : TE := fun σ H Q => td σ H fun x H1 => ∃ a, x = .ref a ∧ IsD H1 a ∧ ty σ H1 fun y H2 => ∃ kvs k v, H2 a = some (.dK kvs) ∧ y = kV k ∧ valV kvs k = some v ∧ Q v (upd H2 a (.dK (dropK kvs k)))
def tDPop2 (td ty tx : TE) : TE := fun σ H Q => td σ H fun x H1 => ∃ a, x = .ref a ∧ IsD H1 a ∧ ty σ H1 fun y H2 => tx σ H2 fun z H3 => ∃ kvs k, H3 a = some (.dK kvs) ∧ y = kV k ∧
  (∀ v, valV kvs k = some v → Q v (upd H3 a (.dK (dropK kvs k)))) ∧ (valV kvs k = none → Q z H3)
section
variable {X : Cx} {o e f : Expr} {apos cpos : Pos} {td ty tx : TE}
end
section
variable {X : Cx} {pins : List (Addr × Obj)} {σ : St} {H : Hp} {s : Shared} {a : Addr} {kvs : List (Key × V)} {A : Around} {E : Value → Shared → Prop}
end
section
variable {X : Cx} {pins : List (Addr × Obj)} {σ : St} {H : Hp} {s : Shared} {a : Addr} {y : V} {u : Value} {A : Around} {E : Value → Shared → Prop}
end
end L2
namespace Att
open PySem PySem.W PySem.Calls PyProof.Rows
theorem ints_of_wellAll {P : Params} {h : Heap} : ∀ (ns : List Int) (vs : List Value), WellAll P h vs (ns.map WData.int) → IntsAre vs ns := by
  intro ns
  induction ns with
  | nil =>
    intro vs w
    rw [List.map_nil] at w
    cases w
    exact .nil
  | cons n ns ih =>
    intro vs w
    rw [List.map_cons] at w
    cases w with
    | cons a b =>
      cases a
      exact .cons _ _ (ih _ b)
theorem script_of {l : OpenLaw} {n : Nat} (hn : l.most = some n) {P : Params} {h : Heap} {args : List WData} {vals : List Value}
    (hpre : l.row.toRowW.claim.pre args = true) (hwl : WellAll P h vals args) :
    ∃ a vs ns, vals = [Value.ref a] ∧ args = [WData.list (ns.map WData.int)] ∧ h.get? a = some { cls := .type "list", data := .seq vs.toArray } ∧ IntsAre vs ns ∧ ns.length ≤ n := by
  have hsh : WShape.hasAll [] args [.list .int] = true := (pre_splitW hpre).1
  have hc : l.pre.holds [] { args := args } = true := (pre_splitW hpre).2
  obtain ⟨d, r, rfl, h1, h2⟩ := hasAllW_cons hsh
  obtain rfl := hasAllW_nil h2
  obtain ⟨xs, rfl, h3⟩ := hasW_list h1
  obtain ⟨ns, rfl⟩ := items_int h3
  have hlen : ns.length ≤ n := by
    unfold OpenLaw.pre at hc
    have h4 : (WTm.not (.lt (.lit (.int (n : Int))) (.len (.arg 0)))).holds [] { args := [.list (ns.map .int)] } = true := by
      have h4 := (holds_andW hc).1
      rw [hn] at h4
      exact h4
    have h5 := condW_of h4 (w_not (w_lt w_lit (w_len_list (w_arg rfl))))
    rw [List.length_map] at h5
    refine Nat.le_of_not_lt fun q => ?_
    have q' : (n : Int) < ((ns.length : Nat) : Int) := by omega
    first
      | (rw [decide_eq_true q'] at h5; exact absurd h5 (by decide))
      | (simp at h5; omega)
  cases hwl with
  | cons w1 w2 =>
    cases w2
    cases w1 with
    | list ho hall => exact ⟨_, _, ns, rfl, rfl, ho, ints_of_wellAll ns _ hall, hlen⟩
theorem post_true (l : OpenLaw) (args : List WData) : l.row.toRowW.claim.post args (.bool true) args = true :=
  postW_of (r := l.row.toRowW) (X := (true == true))
    (show WShape.has [] (.bool true) .bool = true by first | rfl | decide | simp [WShape.has, WShape.arms, WShape.armsAll])
    (show (WTm.eq .res (.lit (.bool true))).value [] { args := args, res := some (.bool true), after := args } = some (.bool (true == true)) from w_eq_bool (w_res rfl) w_lit) rfl
theorem attach_call {l : OpenLaw} {n : Nat} {q : Program} {loose : List Str} {XP : (Str → Option Value) → Heap → Prop} {YP : World → Heap → Prop} {d : DefRec}
    (hn : l.most = some n) (hdf : d.params.defaults = [])
    (call : ∀ (w : World) (s₀ s₁ : Shared) (mg mb : Str → Option Value) (fa : Addr) (o : Obj) (pm cd doc : Value) (a : Addr) (vs : List Value) (ns : List Int),
      Ground q loose [] XP w s₀ mg mb s₁.heap → YP w s₁.heap →
      s₁.heap.get? fa = some o → o.data = .func (docDef d.name d.params d.body d.scope pm cd doc) → s₁.heap.CodeRec cd d.name → mg d.name = some (.ref fa) →
      s₁.heap.get? a = some { cls := .type "list", data := .seq vs.toArray } → IntsAre vs ns → ns.length ≤ n → s₁.gens = #[] →
      codeAny (model l.prog w) callerA (.call (.ref fa) ⟨[.ref a], []⟩) (fun r s' => r = .ok (.ret (.bool true)) ∧ OldK s₁.heap s'.heap ∧ s'.os = s₁.os ∧ AllBare s'.gens) s₁) :
    WalkO q loose XP YP l.row.toRowW d [] (fun f vs => PySem.call f vs) := by
  intro w s₀ s₁ mg mb G Y fa o pm cd doc dV kV ho hd hcd hD hmg hg args vals as hpre hlay hrd hwl hlo
  obtain rfl : dV = .none := Dflts.none hD hdf
  obtain rfl : kV = .none := Dflts.noKw hD
  obtain ⟨a, vs, ns, rfl, rfl, hobj, hints, hlen⟩ := script_of hn hpre hwl
  refine enter_call (codeAny_mono (call w s₀ s₁ mg mb fa o pm cd doc a vs ns G Y ho (fd_plain hd) hcd hmg hobj hints hlen hg) fun r s' hq => ?_)
  obtain ⟨rfl, h2, h3, h4⟩ := hq
  exact ⟨.inl ⟨.bool true, .bool true, [], rfl, fun _ => rfl, .bool true, post_true l _, fun _ => ⟨List.Pairwise.nil, fun _ hm => (nomatch hm)⟩⟩, h2, h3, h4⟩
section
variable {prog : Program} {w : World} {A : Around} {E : Value → Shared → Prop} {s : Shared} {K : Frag}
def noObjs (h : Heap) : Heap := { h with objs := #[] }
def ledger (h : Heap) (L d : Addr) : List (Addr × Obj) := (List.range h.objs.size).filterMap fun a => if a = L ∨ a = d then none else (h.get? a).map fun o => (a, o)
end
end Att
namespace L2
open PySem PySem.Spec PyProof.Rows
theorem vals_ints : ∀ {vs : List Value} {ns : List Int}, IntsAre vs ns → Vals (ns.map V.int) vs
  | _, _, .nil => .nil
  | _, _, .cons n t h => .cons ⟨t, rfl⟩ (vals_ints h)
def Only (H : Hp) : Prop := ∀ b, H b = none ∨ ∃ o xs, H b = some (.frz o (.lst xs))
theorem law_call {P : Program} {w : World} {K : PySem.W.Frag} {mg mb : Str → Option Value} {CX : CXT} {k : Nat} {fa a : Addr} {fd : FuncData} {x : Str} {sp : Sp} {s₁ : Shared} {vs : List Value} {ns : List Int}
    (KX : K.In s₁.heap) (hns : s₁.heap.Ns mainGlobals mg) (hb : s₁.heap.Ns builtinsNs mb) (hbb : ∀ x : Str, x ≠ "__name__" → mb x = bootBuiltins x) (hlim : s₁.heap.NoLimit) (hg : s₁.gens = #[])
    (ha : s₁.heap.get? a = some { cls := .type "list", data := .seq vs.toArray }) (hi : IntsAre vs ns) (hl : ns.length ≤ sizeLine) (hr : Room k callerA)
    (F : ∀ base : Heap, K.In base → base.Ns mainGlobals mg → FnOk P w K mg base CX k fa fd [x] sp) (hbind : ∀ (s : Shared) (u : Value), BindsTo s fd ⟨[u], []⟩ [(x, u)])
    (hsp : ∀ H : Hp, Only H → SqL K H a (ns.map V.int) → sp [.ref a] H (fun v _ => v = .bl true) fun _ _ _ => False)
    (hCX : ∀ H e s', CX [] H s₁ (fun _ _ _ => False) e s' → False) :
    codeAny (model P w) callerA (.call (.ref fa) ⟨[.ref a], []⟩) (fun r s' => r = .ok (.ret (.bool true)) ∧ OldK s₁.heap s'.heap ∧ s'.os = s₁.os ∧ AllBare s'.gens) s₁ := by
  have rv := vals_ints hi
  have lenV := hi.length
  have core : ∀ H : Hp, Only H → SqL K H a (ns.map V.int) → HOk P w H s₁.heap → (∀ b, H b ≠ none → b = a) → (H a ≠ none → K.lookup a = none) →
      codeAny (model P w) callerA (.call (.ref fa) ⟨[.ref a], []⟩) (fun r s' => r = .ok (.ret (.bool true)) ∧ OldK s₁.heap s'.heap ∧ s'.os = s₁.os ∧ AllBare s'.gens) s₁ := by
    intro H hO hS hok hA hK
    have base_of : ∀ {b : Addr} {o : Obj}, s₁.heap.get? b = some o → H b = none → (hidT s₁.heap H).get? b = some o := fun e n => hidT_get e n
    have noA : ∀ {b : Addr} {o : Obj} {es : Array DictEntry} {ep : Nat}, s₁.heap.get? b = some o → o.data = .dict es ep → H b = none := fun {b o es ep} e d => by
      cases q : H b with
      | none => rfl
      | some u =>
        have e' : b = a := hA b (by rw [q]; simp)
        subst e'
        rw [ha] at e; cases e
        have d' : Data.seq vs.toArray _ = Data.dict es ep := d
        cases d'
    have nsK : ∀ {b : Addr} {m : Str → Option Value}, s₁.heap.Ns b m → (hidT s₁.heap H).Ns b m := fun {b m} ⟨o, es, ep, e, d, r⟩ => ⟨o, es, ep, base_of e (noA e d), d, r⟩
    have hKb : K.In (hidT s₁.heap H) := fun b o e => base_of (KX b o e) (by
      cases q : H b with
      | none => rfl
      | some u =>
        have e' : b = a := hA b (by rw [q]; simp)
        subst e'
        rw [hK (by rw [q]; simp)] at e; cases e)
    have hM : Mod K mg (hidT s₁.heap H) := ⟨hKb, nsK hns, ⟨mb, nsK hb, hbb⟩, let ⟨mc, h1, h2⟩ := hlim; ⟨mc, nsK h1, h2⟩⟩
    have e0 : Env0 P w K mg (hidT s₁.heap H) callerA [] s₁ H := ⟨rfl, hM, fun b o e => of_hidT e, Nat.le_of_eq (hidT_size _ _), trivial, fun b hb => absurd (show b ∈ ([] : List Addr) from hb) (by simp), hok, .of_eq hg⟩
    refine codeAny_mono ((F _ hKb (nsK hns)).run callerA [] s₁ H ⟨[.ref a], []⟩ [.ref a] [.ref a] _ _ hr e0 (hbind s₁ (.ref a)) (.cons rfl .nil) (hsp H hO hS)) fun r s' h => ?_
    cases r with
    | error e => exact (hCX H e s' h).elim
    | ok fl =>
      cases fl with
      | next => exact False.elim h
      | brk => exact False.elim h
      | cont => exact False.elim h
      | ret u =>
        obtain ⟨v, H', os, bare, un, hok', r', q⟩ := h
        have q' : v = .bl true := q
        subst q'
        obtain rfl : u = Value.bool true := r'
        refine ⟨rfl, OldK.of_keep fun b o e => ?_, os, bare⟩
        cases q : H b with
        | none => exact un.keep b o e q (by intro z; exact absurd (show b ∈ ([] : List Addr) from z) (by simp)) (by simp)
        | some u =>
          rcases hO b with z | ⟨ob, xs, z⟩
          · rw [q] at z; cases z
          · have z2 := un.frzs b ob _ z
            obtain ⟨e1, _⟩ := hok b _ z
            obtain ⟨e2, _⟩ := hok' b _ z2
            rw [e] at e1; cases e1
            exact e2
  cases hk : K.lookup a with
  | some o =>
    have e := KX a o hk
    rw [ha] at e
    cases e
    refine core (fun _ => none) (fun _ => .inl rfl) (.inr ⟨_, vs.toArray, _, hk, rfl, rfl, rfl, by rw [List.size_toArray, lenV]; exact hl, by simpa using rv⟩) (fun b u z => by have z' : (none : Option HO) = some u := z; cases z') (fun b z => absurd rfl z) fun z => absurd rfl z
  | none =>
    refine core (fun b => if b = a then some (.frz { cls := .type "list", data := .seq vs.toArray } (.lst (ns.map V.int))) else none) (fun b => ?_) (.inl (.inr ⟨{ cls := .type "list", data := .seq vs.toArray }, if_pos rfl⟩)) (fun b u z => ?_) (fun b z => ?_) fun _ => hk
    · by_cases hb : b = a
      · exact .inr ⟨_, _, if_pos hb⟩
      · exact .inl (if_neg hb)
    · by_cases hb : b = a
      · have z' := (if_pos hb).symm.trans z
        cases z'
        subst hb
        exact ⟨ha, by rw [List.length_map]; exact hl, vs, _, rv, ha⟩
      · have z' := (if_neg hb).symm.trans z
        cases z'
    · by_cases hb : b = a
      · exact hb
      · exact absurd (if_neg hb) z
end L2
namespace L2
open PySem PySem.Spec PyProof.Rows
abbrev KOf {K : PySem.W.Frag} {h : Heap} (_ : K.In h) : PySem.W.Frag := K
theorem walk_of {l : PySem.W.OpenLaw} {n k : Nat} {q : Program} {loose : List Str} {XP : (Str → Option Value) → Heap → Prop} {YP : World → Heap → Prop} {d : DefRec} {K : Params → PySem.W.Frag} {CX : World → CXT} {sp : World → Sp} {x : Str}
    (hn : l.most = some n) (hn2 : n ≤ sizeLine) (hdf : d.params.defaults = []) (hr : Room k callerA)
    (hY : ∀ (w : World) (h : Heap), YP w h → (K w.params).In h)
    (F : ∀ (w : World) (mg : Str → Option Value) (fa : Addr) (h : Heap), (K w.params).In h → h.Ns mainGlobals mg → mg d.name = some (.ref fa) →
      ∃ fd : FuncData, (∀ (s : Shared) (u : Value), BindsTo s fd ⟨[u], []⟩ [(x, u)]) ∧
        ∀ base : Heap, (K w.params).In base → base.Ns mainGlobals mg → FnOk l.prog w (K w.params) mg base (CX w) k fa fd [x] (sp w))
    (hsp : ∀ (w : World) (H : Hp) (a : Addr) (ns : List Int), ns.length ≤ n → Only H → SqL (K w.params) H a (ns.map V.int) → sp w [.ref a] H (fun v _ => v = .bl true) fun _ _ _ => False)
    (hCX : ∀ (w : World) (H : Hp) (s : Shared) (e : Value) (s' : Shared), CX w [] H s (fun _ _ _ => False) e s' → False) :
    PySem.W.WalkO q loose XP YP l.row.toRowW d [] (fun f vs => PySem.call f vs) := by
  refine Att.attach_call hn hdf fun w s₀ s₁ mg mb fa o pm cd doc a vs ns G Y ho hd hcd hmg hobj hints hlen hg => ?_
  have KX := hY w _ Y
  obtain ⟨fd, hb, hF⟩ := F w mg fa _ KX G.T.g hmg
  exact law_call KX G.T.g G.T.b G.T.builtins G.T.nolimit hg hobj hints (Nat.le_trans hlen hn2) hr hF hb (fun H hO hS => hsp w H a ns hlen hO hS) fun H e s' => hCX w H s₁ e s'
theorem walk_ofK {l : PySem.W.OpenLaw} {n k : Nat} {q : Program} {loose : List Str} {XP : (Str → Option Value) → Heap → Prop} {YP : World → Heap → Prop} {d : DefRec} {K : Params → PySem.W.Frag} {CX : CXT} {sp : PySem.W.Frag → Sp} {x : Str}
    (hn : l.most = some n) (hn2 : n ≤ sizeLine) (hdf : d.params.defaults = []) (hr : Room k callerA)
    (hY : ∀ (w : World) (h : Heap), YP w h → (K w.params).In h)
    (F : ∀ (w : World) (mg : Str → Option Value) (fa : Addr) (h : Heap), (K w.params).In h → h.Ns mainGlobals mg → mg d.name = some (.ref fa) →
      ∃ fd : FuncData, (∀ (s : Shared) (u : Value), BindsTo s fd ⟨[u], []⟩ [(x, u)]) ∧
        ∀ base : Heap, (K w.params).In base → base.Ns mainGlobals mg → FnOk l.prog w (K w.params) mg base CX k fa fd [x] (sp (K w.params)))
    (hsp : ∀ (K : PySem.W.Frag) (H : Hp) (a : Addr) (ns : List Int), ns.length ≤ n → Only H → SqL K H a (ns.map V.int) → sp K [.ref a] H (fun v _ => v = .bl true) fun _ _ _ => False)
    (hCX : ∀ (H : Hp) (s : Shared) (e : Value) (s' : Shared), CX [] H s (fun _ _ _ => False) e s' → False) :
    PySem.W.WalkO q loose XP YP l.row.toRowW d [] (fun f vs => PySem.call f vs) :=
  walk_of (K := K) (CX := fun _ => CX) (sp := fun w => sp (K w.params)) hn hn2 hdf hr hY F (fun w H a ns h1 h2 h3 => hsp (K w.params) H a ns h1 h2 h3) fun _ H s e s' => hCX H s e s'
end L2
/- THE LAST THEOREM (shape; LID, My.* are yours):
   My.Adr: a structure of the addresses that your layer names (classes, functions); My.Txt K t: a structure (Prop) of the equations over K;
   My.txt_mk : {K} {implicit addresses ..} (e1 : nsIn K mainGlobals "law" = some (some (.ref f))) (e2 : K.lookup f = some ⟨oc, od, .func (fnOf "law" "law" params body scope dV kV doc pm an cdv ct), sl⟩) (e3 : codeIn K cdv "law" = true) .. : ∃ t, My.Txt K t
set_option maxRecDepth 100000 in
set_option maxHeartbeats 0 in
theorem PySem.Challenge.cw_LID_holds : PySem.Challenge.rw_LID.Holds := by
  w_on; o_law; k_head; (case hw => w_witness2)
  k_fill
  refine L2.walk_of (l := PySem.Challenge.rw_LID) (n := 63) (k := 40) (x := "script") (CX := fun w => ..) (sp := fun _ => My.sp_law) rfl (by decide) rfl ⟨rfl, by decide, by decide⟩ (fun w h Y => PySem.W.kIn_of Y) ?F ?S ?C
  case F =>
    intro w mg fa h KX G hmg
    have T : ∃ t, My.Txt (L2.KOf KX) t := by
      dsimp only [L2.KOf]                          -- K must stand as «<heap const> w.params» for k_is
      refine' My.txt_mk ?e1 ?e2 ?e3 ..
      (case e1 => PySem.W.k_is)                    -- in the order: a name -> its address -> its object -> its parts
      (case e2 => PySem.W.k_is)
      ..
    obtain ⟨t, T⟩ := T
    have e0 := hmg.symm.trans (PySem.W.mg_of KX G T.law)
    cases e0                                       -- fa is the law's own address
    exact ⟨_, fun s u => .of_eq rfl, fun base kb nb => My.law_fn T kb nb⟩     -- if «.of_eq rfl» comes too early: refine' ⟨_, ?b, fun base kb nb => My.law_fn T kb nb⟩; exact fun s u => .of_eq rfl
  case S => exact fun w H a ns hl hO hS => ..
  case C => exact ..
(the tactic k_is has no namespace: write k_is) -/
namespace L2
open PySem PySem.Spec PyProof.Rows
def inClass (s : Stmt) (j : Nat) : Stmt := match s with
  | .ClassDef _ _ _ body _ _ _ _ _ _ _ => body.getD j (.Pass ⟨0, 0, 0, 0⟩)
  | _ => .Pass ⟨0, 0, 0, 0⟩
def defArgs (s : Stmt) : Arguments := match s with
  | .FunctionDef _ a _ _ _ _ _ _ _ _ => a
  | _ => { posonlyargs := [], args := [], vararg := none, kwonlyargs := [], kw_defaults := [], kwarg := none, defaults := [] }
def defBody (s : Stmt) : List Stmt := match s with
  | .FunctionDef _ _ b _ _ _ _ _ _ _ => b
  | _ => []
def defScope (s : Stmt) : Scope := match s with
  | .FunctionDef _ _ _ _ _ _ sc _ _ _ => sc
  | _ => { kind := .function, names := [], isGenerator := false, isCoroutine := false }
abbrev CX0 : CXT := fun _ _ _ _ _ _ => False
abbrev E0 : XK := fun _ _ _ => False
theorem pass0 {X : Cx} : Passes CX0 X E0 := fun _ _ _ _ _ _ _ h => h.elim
structure Fun (K : PySem.W.Frag) (x qual : Str) (st : Stmt) (f : Addr) (fd : FuncData) : Prop where
  ex : ∃ (oc : Value) (od : Option Addr) (kV doc pm : Value) (an : Option Addr) (cdv ct : Value) (osl : Array (Option Value)),
    fd = PySem.W.fnOf x qual (defArgs st) (defBody st) (defScope st) .none kV doc pm an cdv ct ∧ K.lookup f = some ⟨oc, od, .func fd, osl⟩ ∧ PySem.W.codeIn K cdv qual = true
  kp : PySem.W.keepIn K (.ref f) = true
section
variable {P : Program} {w : World} {K : PySem.W.Frag} {mg : Str → Option Value} {base : Heap}
theorem Fun.ok {x qual : Str} {st : Stmt} {f : Addr} {fd : FuncData} {N ps : List Str} {k : Nat} {sp : Sp} (F : Fun K x qual st f fd) (S : FnScope N ps (defScope st)) (len : ∀ vs H Q E, sp vs H Q E → vs.length = ps.length)
    (hbody : ∀ (cdv : Value) (A : Around) (outer : List Env) (s : Shared) (H : Hp) (vs : List V) (Q : VK) (E : XK), Room k (A.deeper (envOfC qual (defScope st) s.heap.objs.size f cdv)) → sp vs H Q E →
      ∃ t, PSs (cxOf CX0 P w K mg base N qual (defScope st) f cdv A outer s H E).nox (defBody st) t ∧ t { nx := fun _ H' => Q .non H', rt := Q } (start N vs) H) : FnOk P w K mg base CX0 (k + 1) f fd ps sp := by
  obtain ⟨oc, od, kV, doc, pm, an, cdv, ct, osl, rfl, lk, hcd⟩ := F.ex
  refine fn_of lk hcd S len fun A outer s H vs Q E hr hsp => ?_
  obtain ⟨t, h, q⟩ := hbody cdv A outer s H vs Q E hr hsp
  exact ⟨t, h.nox, q⟩
theorem Fun.binds {x qual : Str} {st : Stmt} {f : Addr} {fd : FuncData} {ps : List Str} (F : Fun K x qual st f fd)
    (h : ∀ (kV doc pm : Value) (an : Option Addr) (cdv ct : Value) (us : List Value), us.length = ps.length → bindArgs (PySem.W.fnOf x qual (defArgs st) (defBody st) (defScope st) .none kV doc pm an cdv ct) ⟨us, []⟩ = pure (ps.zip us)) : Binds K fd ps [] := by
  obtain ⟨oc, od, kV, doc, pm, an, cdv, ct, osl, rfl, lk, hcd⟩ := F.ex
  exact .all (h kV doc pm an cdv ct)
theorem fun_mk {x qual : Str} {st : Stmt} {f : Addr} {oc : Value} {od an : Option Addr} {osl : Array (Option Value)} {kV doc pm cdv ct : Value} (l : K.lookup f = some ⟨oc, od, .func (PySem.W.fnOf x qual (defArgs st) (defBody st) (defScope st) .none kV doc pm an cdv ct), osl⟩)
    (c : PySem.W.codeIn K cdv qual = true) (k : PySem.W.keepIn K (.ref f) = true) : Fun K x qual st f (PySem.W.fnOf x qual (defArgs st) (defBody st) (defScope st) .none kV doc pm an cdv ct) := ⟨⟨oc, od, kV, doc, pm, an, cdv, ct, osl, rfl, l, c⟩, k⟩
end
theorem hu_of {A : Around} {k : Nat} (hr : Room k A) : A.units + 1 < cLine := Nat.lt_of_le_of_lt (Nat.add_le_add_left (by decide : 1 ≤ 64) _) hr.units
theorem small1000 {n : Nat} (h : n ≤ 1000) : n < sizeLine := Nat.lt_of_le_of_lt h (by decide)
section
variable {X : Cx}
theorem pv (i : Nat) {x : Str} {pos : Pos} (hN : X.N[i]? = some x := by rfl) (hv : Vis X.env.scope x := by first | exact Or.inl rfl | exact Or.inr (Or.inl rfl) | exact Or.inr (Or.inr rfl)) (hd : (x == ("__debug__" : Str)) = false := by decide)
    (hcd : (x == ("__classdict__" : Str)) = false := by decide) : PE X (.Name x pos) (tVar i) := pe_var hN hv hd hcd
end
theorem ite2 {c A B : Prop} [Decidable c] (h1 : c → A) (h2 : ¬ c → B) : if c then A else B := by
  by_cases h : c
  · rw [if_pos h]
    exact h1 h
  · rw [if_neg h]
    exact h2 h
def Same (H H' : Hp) : Prop := ∀ b o, H b = some o → H' b = some o
theorem Same.refl (H : Hp) : Same H H := fun _ _ h => h
theorem Same.trans {H H1 H2 : Hp} (a : Same H H1) (b : Same H1 H2) : Same H H2 := fun c o h => b c o (a c o h)
theorem Same.free {H H' : Hp} (e : Same H H') {l : Addr} (h : H' l = Option.none) : H l = Option.none := by
  cases q : H l with
  | none => rfl
  | some o =>
    rw [e l o q] at h
    cases h
theorem Same.seq {K : PySem.W.Frag} {H H' : Hp} {a : Addr} {xs : List V} (e : Same H H') (h : SqL K H a xs) : SqL K H' a xs := by
  rcases h with (h | ⟨o, h⟩) | h
  · exact .inl (.inl (e _ _ h))
  · exact .inl (.inr ⟨o, e _ _ h⟩)
  · exact .inr h
end L2
namespace L2
open PySem PySem.Spec PyProof.Rows
section
variable {X : Cx}
end
section
variable {κ : Type} [DecidableEq κ]
theorem valV_not {kvs : List (κ × V)} {k : κ} (h : valV kvs k = none) : ¬ k ∈ kvs.map (·.1) := by
  intro m
  obtain ⟨p, hp, e⟩ := List.mem_map.mp m
  have q : (kvs.any fun kv => decide (kv.1 = k)) = true := List.any_eq_true.mpr ⟨p, hp, decide_eq_true e⟩
  rw [valV_any, h] at q
  exact absurd q (by simp)
end
end L2
set_option Elab.async false
set_option linter.all false
set_option maxRecDepth 100000
set_option maxHeartbeats 4000000
namespace L2
open PySem PySem.Spec PyProof.Rows
def clGo (cells : List (Str × Addr)) : List (Str × NameKind) → List (Str × Addr) → List (Str × Addr)
  | [], acc => acc
  | (n, k) :: r, acc => clGo cells r (if k == .free then (n, (cells.lookup n).getD 0) :: acc else acc)
theorem clGo_sound {cells : List (Str × Addr)} : ∀ {names : List (Str × NameKind)} {acc : List (Str × Addr)}, (∀ y ∈ names, y.2 = .free → ∃ c, cells.lookup y.1 = some c) → (∀ y c, acc.lookup y = some c → cells.lookup y = some c) →
    ∀ y c, (clGo cells names acc).lookup y = some c → cells.lookup y = some c
  | [], acc, _, h, y, c, e => h y c e
  | (n, k) :: r, acc, hf, h, y, c, e => by
    refine clGo_sound (names := r) (fun z hz => hf z (List.mem_cons_of_mem _ hz)) ?_ y c e
    intro z d q
    by_cases hk : (k == NameKind.free) = true
    · rw [if_pos hk, List.lookup_cons] at q
      obtain ⟨c', hc'⟩ := hf (n, k) List.mem_cons_self (by simpa using hk)
      cases hz : z == n with
      | true =>
        rw [hz] at q
        have hc' : cells.lookup n = some c' := hc'
        have q : some ((cells.lookup n).getD 0) = some d := q
        have : z = n := by simpa using hz
        rw [this, hc']
        rw [hc'] at q
        exact q
      | false =>
        rw [hz] at q
        exact h z d q
    · rw [if_neg hk] at q
      exact h z d q
theorem clGo_has {cells : List (Str × Addr)} : ∀ {names : List (Str × NameKind)} {acc : List (Str × Addr)} {y : Str}, ((y, NameKind.free) ∈ names ∨ ∃ c, acc.lookup y = some c) → ∃ c, (clGo cells names acc).lookup y = some c
  | [], acc, y, h => by
    rcases h with h | h
    · exact absurd h (by simp)
    · exact h
  | (n, k) :: r, acc, y, h => by
    refine clGo_has (names := r) ?_
    rcases h with h | ⟨c, h⟩
    · rcases List.mem_cons.mp h with e | h
      · right
        cases e
        refine ⟨(cells.lookup n).getD 0, ?_⟩
        rw [if_pos (by rfl), List.lookup_cons]
        simp
      · exact .inl h
    · right
      by_cases hk : (k == NameKind.free) = true
      · rw [if_pos hk, List.lookup_cons]
        cases y == n with
        | true => exact ⟨_, rfl⟩
        | false => exact ⟨c, h⟩
      · rw [if_neg hk]
        exact ⟨c, h⟩
theorem closureFor_is {scope : Scope} {env : Env} (h : ∀ y ∈ scope.names, y.2 = .free → ∃ c, env.cells.lookup y.1 = some c) : closureFor scope env = pure (clGo env.cells scope.names []) := by
  have go : ∀ (names : List (Str × NameKind)) (acc : List (Str × Addr)), (∀ y ∈ names, y.2 = .free → ∃ c, env.cells.lookup y.1 = some c) →
      (forIn names acc fun (x : Str × NameKind) r => (if (x.2 == NameKind.free) = true then cellOf env x.1 >>= fun c => pure (ForInStep.yield ((x.1, c) :: r)) else pure (ForInStep.yield r) : Sem (ForInStep (List (Str × Addr))))) = pure (clGo env.cells names acc) := by
    intro names
    induction names with
    | nil => intro acc _; rfl
    | cons x r ih =>
      intro acc hf
      obtain ⟨n, k⟩ := x
      rw [List.forIn_cons]
      dsimp only
      by_cases hk : (k == NameKind.free) = true
      · obtain ⟨c, hc⟩ := hf (n, k) List.mem_cons_self (by simpa using hk)
        have hc : env.cells.lookup n = some c := hc
        have ec : cellOf env n = pure c := by unfold cellOf; rw [hc]
        rw [if_pos hk, ec]
        have := ih ((n, c) :: acc) fun y hy => hf y (List.mem_cons_of_mem _ hy)
        unfold clGo
        rw [if_pos hk, hc]
        exact this
      · rw [if_neg hk]
        have := ih acc fun y hy => hf y (List.mem_cons_of_mem _ hy)
        unfold clGo
        rw [if_neg hk]
        exact this
  have := go scope.names [] h
  unfold closureFor
  first
    | exact this
    | (rw [← this]; rfl)
    | (simp only [bind_pure]; exact this)
def blockCx (X : Cx) (scope : Scope) (Nc : List Str) (C : Addr) (s₀ : Shared) (H₀ : Hp) (fp : List Addr) : Cx :=
  { X with N := Nc, s₀ := s₀, H₀ := H₀, env := compEnvC scope (clGo X.env.cells scope.names []) C X.env, outer := X.stack, ex := fp, fn := fun _ => false, pn := [], xe := fun _ _ => False }
structure Block (sc out : Scope) (N : List Str) (x : Str) (frees : List Str) (ix : List Nat) : Prop where
  kind : sc.kind = .function
  outk : out.kind = .function
  len : frees.length = ix.length
  at' : ∀ (j : Nat) (y : Str), frees[j]? = some y → ∃ i : Nat, ix[j]? = some i ∧ N[i]? = some y ∧ out.names.lookup y = some .cell ∧ sc.names.lookup y = some .free
  loc : sc.names.lookup x = some .local
  nocell : ∀ y ∈ sc.names, y.2 ≠ .cell
  locals : ∀ y ∈ sc.names, y.2 = .local → sc.names.lookup y.1 = some .local
  free : ∀ y ∈ sc.names, y.2 = .free → out.names.lookup y.1 = some .cell
  nd : (x :: frees).Nodup
def slots (σ : St) (ix : List Nat) : St := ix.map fun i => (σ[i]?).join
def tAll : List TT → TT
  | [] => fun _ H Q => Q true H
  | t :: r => fun σ H Q => t σ H fun b H1 => if b = true then tAll r σ H1 Q else Q false H1
def tComp (wi : TI) (ix : List Nat) (tc : TT) (te : TE) : TE := fun σ H Q => wi σ H fun J H1 => ∀ acc, H1 acc = none → ∃ W : Nat → Nat → Hp → Prop, (∃ m, W 0 m (upd H1 acc (.lst []))) ∧ ∀ i m H2, W i m H2 →
  (J.stop i H2 ∧ Q (.ref acc) H2) ∨ (J.go i H2 ∧ ∀ x H3, J.yld i H2 x H3 → tc (some x :: slots σ ix) H3 fun b H4 => if b = true then te (some x :: slots σ ix) H4 fun y H5 => ∃ ys, H5 acc = some (.lst ys) ∧ ys.length < sizeLine ∧
    ∃ m', m' < m ∧ W (i + 1) m' (upd H5 acc (.lst (ys ++ [y]))) else ∃ m', m' < m ∧ W (i + 1) m' H4)
theorem lookup_relabel_free {env : Env} (hk : env.scope.kind = .function) : ∀ {names : List (Str × NameKind)} {y : Str}, names.lookup y = some .free → env.kindOf y = some .cell →
    (names.map fun (n, k) => if (k == NameKind.free && env.scope.kind == .function && env.kindOf n == some .cell) then (n, NameKind.cell) else (n, k)).lookup y = some .cell
  | [], _, h, _ => by simp at h
  | (n, k) :: r, y, h, hc => by
    show List.lookup y ((if (k == NameKind.free && env.scope.kind == .function && env.kindOf n == some .cell) = true then (n, NameKind.cell) else (n, k)) :: _) = _
    cases hy : y == n with
    | true =>
      simp only [List.lookup_cons, hy] at h
      have hk' : k = .free := Option.some.inj h
      have : y = n := by simpa using hy
      subst this
      rw [if_pos (by rw [hk', hk, hc]; rfl)]
      simp [List.lookup_cons]
    | false =>
      simp only [List.lookup_cons, hy] at h
      have ih := lookup_relabel_free hk h hc
      split
      · simp only [List.lookup_cons, hy]; exact ih
      · simp only [List.lookup_cons, hy]; exact ih
theorem compLoop_any {prog : Program} {w : World} {A : Around} {R : Result → Shared → Prop} {s : Shared} {elt target iter : Expr} {ifs : List Expr} {scope : Scope} {pos : Pos} {it acc : Value} {env : Env} (I : Nat → Shared → Prop)
    (turn : ∀ n s, I n s → wpAny (model prog w) A (pyNext it) (fun r s₁ => match r with
      | none => R (.ok .next) s₁
      | some v => wpAny (model prog w) A (letOwnedTupleGo target it v) (fun _ s₁ => wpAny (model prog w) A (assign target env v) (fun _ s₂ =>
          wpAny (model prog w) A (forIn ifs true fun c r => if r = true then do let ok ← isTrue c env (eval c env); pure (ForInStep.yield ok) else pure (ForInStep.yield r)) (fun ok s₃ =>
            if ok = true then wpAny (model prog w) A (eval elt env) (fun x s₄ =>
              wpAny (model prog w) A (call (.builtin "list.append") [acc, x]) (fun _ s₅ => ∃ m, m < n ∧ I m s₅) (notedBy (model prog w) A env fun e s' => R (.error e) s') s₄) (notedBy (model prog w) A env fun e s' => R (.error e) s') s₃
            else ∃ m, m < n ∧ I m s₃) (notedBy (model prog w) A env fun e s' => R (.error e) s') s₂) (notedBy (model prog w) A env fun e s' => R (.error e) s') s₁) (notedBy (model prog w) A env fun e s' => R (.error e) s') s₁) (notedBy (model prog w) A env fun e s' => R (.error e) s') s)
    (n : Nat) (h : I n s) : codeAny (model prog w) A (.compLoop (.ListComp elt [⟨target, iter, ifs, 0⟩] scope pos) 0 it acc env) R s := by
  refine codeAny_loop rfl I (fun n s hI => ?_) n h
  show wpAny _ A ((compTurn (.ListComp elt [⟨target, iter, ifs, 0⟩] scope pos) 0 it acc env).onRaise (fun x => do noteFrame x env; theTreesLotGoes x)) _ _ s
  refine wpAny_noted ?_
  rw [compTurn_list]
  refine wpAny_bind (wpAny_standAt (wpAny_bind (wpAny_mono (turn n s hI) (fun r s₁ h₁ => ?_) fun _ _ h' => h')))
  cases r with
  | none => exact wpAny_pure h₁
  | some v =>
    refine wpAny_bind (wpAny_mono h₁ (fun _ s₁' h₁' => ?_) fun _ _ h' => h')
    refine wpAny_bind (wpAny_mono h₁' (fun _ s₂ h₂ => wpAny_bind (wpAny_mono h₂ (fun ok s₃ h₃ => ?_) fun _ _ h' => h')) fun _ _ h' => h')
    cases ok with
    | false => exact wpAny_pure ⟨rfl, h₃⟩
    | true =>
      exact wpAny_bind (wpAny_bind (wpAny_mono h₃ (fun x s₄ h₄ => wpAny_bind (wpAny_mono h₄ (fun _ s₅ h₅ => wpAny_pure (wpAny_pure ⟨rfl, h₅⟩)) fun _ _ h' => h')) fun _ _ h' => h'))
section
variable {X : Cx} {x : Str} {px pos : Pos} {elt iter : Expr} {ifs : List Expr} {scope : Scope} {frees : List Str} {ix : List Nat} {wi : TI} {tc : TT} {te : TE}
def PTs (X : Cx) (ifs : List Expr) (t : TT) : Prop :=
  ∀ (pins : List (Addr × Obj)) (s : Shared) (σ : St) (H : Hp) (Q : Bool → Hp → Prop), Inv X pins σ H s → t σ H Q →
    wpAny (model X.prog X.w) X.A (forIn ifs true fun c r => if r = true then do let ok ← isTrue c X.env (eval c X.env); pure (ForInStep.yield ok) else pure (ForInStep.yield r)) (TP X pins σ Q) X.xe s
def tYes : TT := fun _ H Q => Q true H
theorem pts_nil : PTs X [] tYes := fun pins s σ H Q I h => wpAny_pure ⟨H, I, h⟩
theorem pts_one {c : Expr} {t : TT} (hc : PT X c t) : PTs X [c] t := by
  intro pins s σ H Q I h
  rw [List.forIn_cons, if_pos rfl]
  refine wpAny_bind (wpAny_bind (thn (hc pins s σ H Q I h) fun b s1 h1 => wpAny_pure ?_))
  exact wpAny_pure h1
structure Apart (X : Cx) (pins : List (Addr × Obj)) (H : Hp) (C : Addr) : Prop where
  none : H C = none
  loc : C ≠ X.env.locals
  new : X.s₀.heap.objs.size ≤ C
  cell : ∀ x c, X.env.cells.lookup x = some c → c ≠ C
  pin : ∀ p ∈ X.pn ++ pins, p.1 ≠ C
theorem Inv.apart {pins : List (Addr × Obj)} {σ : St} {H H' : Hp} {s : Shared} {C : Addr} (I : Inv X pins σ H s) (h : s.heap.objs.size ≤ C) (n : H' C = none) : Apart X pins H' C := by
  have f := I.fpOk h n
  exact ⟨f.1, f.2.1, Nat.le_trans I.sz h, f.2.2.2.2.1, f.2.2.2.2.2⟩
theorem comp_run {pins : List (Addr × Obj)} {s₂ : Shared} {σ : St} {H₁ : Hp} {it : Addr} {fp : List Addr} {tn : Nat → Heap → Prop} {J : It} {RR : Value → Addr → Result → Shared → Prop} {E : Value → Shared → Prop} {KK : Addr → Hp → Prop}
    (B : Block scope X.env.scope X.N x frees ix) (hc : X.calm = true) (ht : ∀ C s₀ H₀ fp, PTs (blockCx X scope (x :: frees) C s₀ H₀ fp) ifs tc) (he : ∀ C s₀ H₀ fp, PE (blockCx X scope (x :: frees) C s₀ H₀ fp) elt te)
    (I₂ : Inv X pins σ H₁ s₂) (T : Turn X.prog X.w X.K (.Name x px) J fp it tn) (st₂ : tn 0 s₂.heap) (f₂ : ∀ b ∈ fp, FpOk X pins H₁ b)
    (q : ∀ acc, H₁ acc = none → ∃ W : Nat → Nat → Hp → Prop, (∃ m, W 0 m (upd H₁ acc (.lst []))) ∧ ∀ i m H2, W i m H2 →
      (J.stop i H2 ∧ KK acc H2) ∨ (J.go i H2 ∧ ∀ y H3, J.yld i H2 y H3 → tc (some y :: slots σ ix) H3 fun b H4 => if b = true then te (some y :: slots σ ix) H4 fun z H5 => ∃ ys, H5 acc = some (.lst ys) ∧ ys.length < sizeLine ∧
        ∃ m', m' < m ∧ W (i + 1) m' (upd H5 acc (.lst (ys ++ [z]))) else ∃ m', m' < m ∧ W (i + 1) m' H4))
    (hRR : ∀ acc C s' H', Inv X pins σ H' s' → KK acc H' → (∃ m, s'.heap.Ns C m) → Apart X pins H' C → RR (.ref acc) C (.ok .next) s') :
    wpAny (model X.prog X.w) X.A (newList []) (fun acc s₃ => wpAny (model X.prog X.w) X.A (newFunctionEnv scope X.env.globals (clGo X.env.cells scope.names []) [] X.env.qual none .none (some X.env)) (fun cenv s₄ =>
      codeAny (model X.prog X.w) X.A (.compStart (.ListComp elt [⟨.Name x px, iter, ifs, 0⟩] scope pos) 0 (.ref it) acc { cenv with scope := relabel scope X.env }) (RR acc cenv.locals) s₄) E s₃) E s₂ := by
  have frs_ok : ∀ y ∈ scope.names, y.2 = .free → ∃ c, X.env.cells.lookup y.1 = some c := fun y hy hk => I₂.ok.has y.1 (.inl (B.free y hy hk))
  have sound : ∀ y c, (clGo X.env.cells scope.names []).lookup y = some c → X.env.cells.lookup y = some c := clGo_sound frs_ok fun y c h => by simp at h
  refine wpAny_newObj_type ?_
  have hacc : H₁ s₂.heap.objs.size = none := I₂.hok.fresh (Nat.le_refl _)
  obtain ⟨W, ⟨m0, w0⟩, turn⟩ := q _ hacc
  have I₃ : Inv X pins σ (upd H₁ s₂.heap.objs.size (.lst [])) { s₂ with heap := s₂.heap.push { cls := .type "list", data := .seq ([] : List Value).toArray } } :=
    I₂.laid (t' := s₂.toks) (fun b u e => Heap.get?_push_of_some _ e) (Nat.le_refl _) ⟨Nat.zero_le _, [], 0, .nil, Heap.get?_push_size _ rfl⟩
  have f₃ : ∀ b ∈ fp, FpOk X pins (upd H₁ s₂.heap.objs.size (.lst [])) b := fun b hb => by
    obtain ⟨o, ho, _⟩ := T.obj 0 _ st₂ b hb
    have := f₂ b hb
    exact ⟨by rw [upd_ne (Nat.ne_of_lt (Heap.lt_size ho))]; exact this.1, this.2⟩
  have st₃ : tn 0 (s₂.heap.push { cls := .type "list", data := .seq ([] : List Value).toArray }) := T.keep 0 _ _ st₂ fun b hb o e => Heap.get?_push_of_some _ e
  generalize hs3 : ({ s₂ with heap := s₂.heap.push { cls := .type "list", data := .seq ([] : List Value).toArray } } : Shared) = s₃ at I₃
  have st₃ : tn 0 s₃.heap := by rw [← hs3]; exact st₃
  generalize s₂.heap.objs.size = acc at *
  show wpAny _ _ _ _ _ s₃
  generalize upd H₁ acc (.lst []) = H₃ at *
  refine wpAny_newFunctionEnv B.nocell (by intro y hy; simp at hy) (fun h₄ ns₄ sb₄ => ?_) B.kind
  try dsimp only at ns₄ sb₄ ⊢
  have keep₄ : ∀ b o, s₃.heap.get? b = some o → h₄.get? b = some o := fun b o e => (sb₄.2 b (Nat.ne_of_lt (Heap.lt_size e))).trans (Heap.get?_push_of_some _ e)
  have st₄ : tn 0 h₄ := T.keep 0 _ _ st₃ fun b hb o e => keep₄ b o e
  have freshC : H₃ s₃.heap.objs.size = none := I₃.hok.fresh (Nat.le_refl _)
  have objs : ∀ b ∈ fp, b < s₃.heap.objs.size := fun b hb => by
    obtain ⟨o, ho, _⟩ := T.obj 0 _ st₃ b hb
    exact Heap.lt_size ho
  have stk : ∀ b ∈ fp, b ∉ frs X.stack := fun b hb z => by
    have f := f₃ b hb
    rcases List.mem_cons.mp (I₃.stkSub b z) with e | e
    · exact f.2.1 e
    · exact f.2.2.1 e
  have Ok : (blockCx X scope (x :: frees) s₃.heap.objs.size s₃ H₃ fp).Ok := by
    refine ⟨I₃.ok.mod, B.kind, I₃.ok.glob, I₃.ok.blt, Nat.le_refl _, fun y z c h1 h2 => I₃.ok.inj y z c (sound y c h1) (sound z c h2), fun y hy => ?_, fun y c h => (nomatch h), I₃.ok.hd, I₃.ok.frames, .inl rfl,
      fun b hb => ⟨Nat.ne_of_lt (objs b hb), fun y c h => (f₃ b hb).2.2.2.2.1 y c (sound y c h)⟩, I₃.bs, Nat.le_trans I₃.ok.bsz I₃.sz, fun b o e hb => ?_, stk, I₃.stack, I₃.stkFree⟩
    · have hy : (relabel scope X.env).names.lookup y = some .cell ∨ (relabel scope X.env).names.lookup y = some .free := hy
      refine clGo_has (.inl ?_)
      have mem : ∃ k, (k = .cell ∨ k = .free) ∧ (y, k) ∈ (relabel scope X.env).names := by
        rcases hy with q | q
        · exact ⟨_, .inl rfl, PySem.mem_of_lookup q⟩
        · exact ⟨_, .inr rfl, PySem.mem_of_lookup q⟩
      obtain ⟨k, hk, hm⟩ := mem
      obtain ⟨⟨n, k0⟩, h0, e⟩ := List.mem_map.mp hm
      have nc := B.nocell (n, k0) h0
      dsimp only at e
      split at e
      · rename_i hh
        cases e
        have : (k0 == NameKind.free) = true := by
          cases hq : (k0 == NameKind.free) with
          | true => rfl
          | false => rw [hq] at hh; simp at hh
        have : k0 = .free := by simpa using this
        rw [this] at h0
        exact h0
      · cases e
        rcases hk with hk | hk
        · exact absurd hk nc
        · rw [hk] at h0; exact h0
    · rcases (f₃ b hb).2.2.2.1 with z | z
      · exact I₃.ok.noex b o e z
      · exact absurd (Nat.lt_of_lt_of_le (Heap.lt_size e) (Nat.le_trans I₃.ok.bsz z)) (Nat.lt_irrefl _)
  have Ic : Inv (blockCx X scope (x :: frees) s₃.heap.objs.size s₃ H₃ fp) [] (none :: slots σ ix) H₃ { s₃ with heap := h₄, toks := s₃.toks + ([] : List (Str × Value)).length } := by
    refine ⟨Ok, rfl, I₃.bare, Un.kept keep₄, ⟨_, ns₄, fun i y v e1 e2 e3 => ?_⟩, fun y c h => ?_, freshC, fun y c h => I₃.freeC y c (sound y c h), fun p hp => absurd (show p ∈ ([] : List (Addr × Obj)) from hp) (by simp), I₃.hok.kept keep₄, ?_⟩
    · cases i with
      | zero => cases e2
      | succ j =>
        have e1 : frees[j]? = some y := e1
        have e2 : (slots σ ix)[j]? = some (some v) := e2
        obtain ⟨i, hi, hN, hk, hf⟩ := B.at' j y e1
        have hv : σ[i]? = some (some v) := by
          unfold slots at e2
          rw [List.getElem?_map, hi] at e2
          have e2 : some ((σ[i]?).join) = some (some v) := e2
          have e2 := Option.some.inj e2
          cases q : σ[i]? with
          | none => rw [q] at e2; cases e2
          | some o => rw [q] at e2; exact congrArg some e2
        obtain ⟨m, hn, hl⟩ := I₃.loc
        obtain ⟨u, ru, lu⟩ := hl i y v hN hv (.inr (.inl hk))
        refine ⟨u, ru, .inr ⟨.inl ?_, ?_⟩⟩
        · exact lookup_relabel_free B.outk hf hk
        · rcases lu with ⟨k, _⟩ | ⟨_, c, hc', z⟩
          · exact absurd (show some NameKind.cell = some NameKind.local from hk.symm.trans k) (by decide)
          · obtain ⟨c', hc''⟩ := clGo_has (cells := X.env.cells) (acc := []) (.inl (PySem.mem_of_lookup hf))
            have q := sound y c' hc''
            rw [hc'] at q
            cases q
            obtain ⟨o, ho, hd⟩ := z
            exact ⟨c, hc'', o, keep₄ c o ho, hd⟩
    · obtain ⟨v, o, ho, hd⟩ := I₃.cell y c (sound y c h)
      exact ⟨v, o, keep₄ c o ho, hd⟩
    · show (none :: slots σ ix).length = (x :: frees).length
      rw [List.length_cons, List.length_cons, slots, List.length_map, B.len]
  have fpc : ∀ {H' : Hp} {pl : List (Addr × Obj)}, (∀ p ∈ pl, p.1 ∉ fp) → (∀ b ∈ fp, H' b = none) → ∀ b ∈ fp, FpOk (blockCx X scope (x :: frees) s₃.heap.objs.size s₃ H₃ fp) pl H' b := fun hp hn b hb =>
    ⟨hn b hb, Nat.ne_of_lt (objs b hb), stk b hb, .inl hb, fun y c h => (f₃ b hb).2.2.2.2.1 y c (sound y c h), fun p hpl z => hp p hpl (z ▸ hb)⟩
  have hxl : Loc (blockCx X scope (x :: frees) s₃.heap.objs.size s₃ H₃ fp).env.scope x := .inl (lookup_relabel_local B.loc)
  have loop : codeAny (model X.prog X.w) X.A (.compLoop (.ListComp elt [⟨.Name x px, iter, ifs, 0⟩] scope pos) 0 (.ref it) (.ref acc) (blockCx X scope (x :: frees) s₃.heap.objs.size s₃ H₃ fp).env) (RR (.ref acc) s₃.heap.objs.size)
      { s₃ with heap := h₄, toks := s₃.toks + ([] : List (Str × Value)).length } := by
    refine compLoop_any (fun n s' => ∃ i H', Inv (blockCx X scope (x :: frees) s₃.heap.objs.size s₃ H₃ fp) [] (none :: slots σ ix) H' s' ∧ tn i s'.heap ∧ (∀ b ∈ fp, H' b = none) ∧ W i n H') ?_ m0 ⟨0, H₃, Ic, st₄, fun b hb => (f₃ b hb).1, w0⟩
    rintro n s' ⟨i, H', I', st', fr', w'⟩
    rcases turn i n H' w' with ⟨stop, kk⟩ | ⟨go, step⟩
    · refine thn (T.done (blockCx X scope (x :: frees) s₃.heap.objs.size s₃ H₃ fp) rfl rfl rfl hc i [] s' _ H' _ I' (fpc (by simp) fr') st' stop) fun r s1 ⟨hr, I1⟩ => ?_
      subst hr
      obtain ⟨m, hn, _⟩ := I1.loc
      exact hRR acc _ s1 H' (I₃.call' (ch := fp) I1.os I1.base I1.hok I1.bare fun b hb => ⟨(f₃ b hb).2.2.2.1, (f₃ b hb).2.1, (f₃ b hb).2.2.2.2.1, (f₃ b hb).2.2.2.2.2⟩) kk ⟨m, hn⟩ (I₃.apart (Nat.le_refl _) I1.free)
    · refine thn (T.item (blockCx X scope (x :: frees) s₃.heap.objs.size s₃ H₃ fp) rfl rfl rfl hc i [] s' _ H' _ I' (fpc (by simp) fr') st' go) fun r s1 ⟨u, hr, h1⟩ => ?_
      subst hr
      refine thn h1 fun _ s2 ⟨v, H2, I2, rv, yv, st2, fr2⟩ => ?_
      have I2' := I2.pinned (fpc (by simp) fr2) (T.obj _ _ st2)
      have nofail : ∀ {α : Type} {t : Sem α} {Q : α → Shared → Prop} {E' : Value → Shared → Prop} {s : Shared}, wpAny (model X.prog X.w) X.A t Q (fun _ _ => False) s → wpAny (model X.prog X.w) X.A t Q E' s := fun h => wpAny_mono h (fun _ _ x => x) fun _ _ f => f.elim
      refine wpAny_assign_Name (store_ok (X := blockCx X scope (x :: frees) s₃.heap.objs.size s₃ H₃ fp) (i := 0) I2' B.nd rfl hxl rv (fun s3 I3 => ?_) (.inr (lookup_relabel_local B.loc)))
      refine nofail (thn (ht s₃.heap.objs.size s₃ H₃ fp _ s3 (some v :: slots σ ix) H2 _ I3 (step v H2 yv)) fun b s4 ⟨H4, I4, q4⟩ => ?_)
      have again : ∀ {σ7 : St} {H7 : Hp} {s7 : Shared} {k : Nat}, Inv (blockCx X scope (x :: frees) s₃.heap.objs.size s₃ H₃ fp) ([] ++ pinsAt fp s2.heap) (some v :: slots σ ix) H7 s7 → k < n → W (i + 1) k H7 →
          ∃ m, m < n ∧ ∃ i H', Inv (blockCx X scope (x :: frees) s₃.heap.objs.size s₃ H₃ fp) [] (none :: slots σ ix) H' s7 ∧ tn i s7.heap ∧ (∀ b ∈ fp, H' b = none) ∧ W i m H' := fun {σ7 H7 s7 k} I7 hk w7 => by
        refine ⟨k, hk, i + 1, H7, I7.unpinned.weak rfl (fun j z e => ?_), T.keep _ _ _ st2 fun b hb o e => (I7.pin (b, o) (List.mem_append_right _ (List.mem_append_right _ (mem_pinsAt hb e)))).1, fun b hb => ?_, w7⟩
        · cases j with
          | zero => cases e
          | succ j => exact e
        · obtain ⟨o, e, d⟩ := T.obj _ _ st2 b hb
          exact (I7.pin (b, o) (List.mem_append_right _ (List.mem_append_right _ (mem_pinsAt hb e)))).2.1
      cases b with
      | false =>
        rw [if_neg Bool.false_ne_true] at q4 ⊢
        obtain ⟨m', hm, w4⟩ := q4
        exact again (σ7 := []) I4 hm w4
      | true =>
        rw [if_pos rfl] at q4 ⊢
        refine nofail (thn (he s₃.heap.objs.size s₃ H₃ fp _ s4 (some v :: slots σ ix) H4 _ I4 q4) fun ue s5 ⟨z, H5, I5, r5, ys, hys, hlt, m', hm, w5⟩ => ?_)
        refine nofail (thn (mt_append (X := blockCx X scope (x :: frees) s₃.heap.objs.size s₃ H₃ fp) _ s5 _ H5 (.ref acc) [z] (.ref acc) [ue] (fun _ H6 => H6 = upd H5 acc (.lst (ys ++ [z]))) I5 rfl (.cons r5 .nil) ⟨acc, ys, z, rfl, rfl, hys, hlt, rfl⟩) fun _ s6 ⟨_, H6, I6, _, e6⟩ => ?_)
        subst e6
        exact again (σ7 := []) I6 hm w5
  exact codeAny_compStart_list loop (T.self X.A 0 _ _ _ st₄ loop)
def EnvOk (X : Cx) (scope : Scope) (x : Str) (frees : List Str) (ix : List Nat) : Prop := Block scope X.env.scope X.N x frees ix
theorem pe_comp (B : Block scope X.env.scope X.N x frees ix) (hc : X.calm = true) (hi : PI X (.Name x px) iter wi) (ht : ∀ C s₀ H₀ fp, PTs (blockCx X scope (x :: frees) C s₀ H₀ fp) ifs tc) (he : ∀ C s₀ H₀ fp, PE (blockCx X scope (x :: frees) C s₀ H₀ fp) elt te)
    (hs : ∀ y, foldedSetIterable iter X.env y = pure y := by intro _; rfl) : PE X (.ListComp elt [⟨.Name x px, iter, ifs, 0⟩] scope pos) (tComp wi ix tc te) := by
  intro pins s σ H Q I h
  rw [eval_ListComp]
  refine wpAny_comprehension_free (use := none) rfl hs (closureFor_is fun y hy hk => I.ok.has y.1 (.inl (B.free y hy hk))) B.kind B.locals (thn (hi pins s σ H _ I h) fun v s1 h1 => thn h1 fun itv s2 h2 => ?_)
  obtain ⟨it, fp, tn, J, H2, e, I2, T, st2, f2, q⟩ := h2
  subst e
  refine comp_run (KK := fun acc H' => Q (.ref acc) H') B hc ht he I2 T st2 f2 q fun acc C s' H' I' k hn ap => ?_
  obtain ⟨m, hn⟩ := hn
  exact ⟨m, hn, fun h' sb => ⟨.ref acc, H', I'.turned (it := C) (t' := s'.toks) (fun b o hb e => (sb.2 b hb).trans e) ap.none ap.loc (.inr ap.new) ap.cell ap.pin, rfl, k⟩⟩
theorem ps_comp {i : Nat} {y : Str} {py spos : Pos} (B : Block scope X.env.scope X.N x frees ix) (hc : X.calm = true) (hN : X.N.Nodup) (hy : X.N[i]? = some y) (hl : X.env.scope.names.lookup y = some .local)
    (hi : PI X (.Name x px) iter wi) (ht : ∀ C s₀ H₀ fp, PTs (blockCx X scope (x :: frees) C s₀ H₀ fp) ifs tc) (he : ∀ C s₀ H₀ fp, PE (blockCx X scope (x :: frees) C s₀ H₀ fp) elt te)
    (hsw : swapsWith (.ListComp elt [⟨.Name x px, iter, ifs, 0⟩] scope pos) (some (.Name y py)) spos.line X.env = pure true := by rfl)
    (hs : ∀ z, foldedSetIterable iter X.env z = pure z := by intro _; rfl) :
    PS X (.Assign [.Name y py] (.ListComp elt [⟨.Name x px, iter, ifs, 0⟩] scope pos) spos) (fun D σ H => tComp wi ix tc te σ H fun v H1 => D.nx (σ.set i (some v)) H1) := by
  intro pins s σ H D I h
  rw [exec_Assign_Name_used _ _ _ _ hsw]
  refine wpAny_bind (wpAny_standAt (wpAny_bind ?_))
  show wpAny _ X.A (do let _ ← comprehension (.ListComp elt [⟨.Name x px, iter, ifs, 0⟩] scope pos) scope X.env _ (newList []) false (eval iter X.env) (some (assign (.Name y py) X.env))) _ _ s
  refine wpAny_bind (wpAny_mono (wpAny_comprehension_free (use := some (assign (.Name y py) X.env)) (Q := fun _ s' => SP X pins D .next s') rfl hs (closureFor_is fun z hz hk => I.ok.has z.1 (.inl (B.free z hz hk))) B.kind B.locals
    (thn (hi pins s σ H _ I h) fun v s1 h1 => thn h1 fun itv s2 h2 => ?_)) (fun _ s' hq => wpAny_pure (wpAny_pure hq)) fun _ _ e => e)
  obtain ⟨it, fp, tn, J, H2, e, I2, T, st2, f2, q⟩ := h2
  subst e
  refine comp_run (KK := fun acc H' => D.nx (σ.set i (some (.ref acc))) H') B hc ht he I2 T st2 f2 q fun acc C s' H' I' k hn ap => ?_
  obtain ⟨m, hn⟩ := hn
  show wpAny _ X.A (assign (.Name y py) X.env (.ref acc)) _ _ _
  refine wpAny_assign_Name (store_ok2 I' hN hy (.inl hl) (v := .ref acc) rfl (fun s'' I'' ch => ?_) (.inr hl))
  obtain ⟨a, sb, ha⟩ := ch
  have hCa : C ≠ a := fun z => by
    rcases ha with ha | ha
    · exact ap.loc (z.trans ha)
    · exact ap.cell y a ha z.symm
  exact ⟨m, hn.sameBut sb hCa, fun h' sb' => ⟨_, H', I''.turned (it := C) (t' := s''.toks) (fun b o hb e => (sb'.2 b hb).trans e) ap.none ap.loc (.inr ap.new) ap.cell ap.pin, k⟩⟩
end
end L2
set_option Elab.async false
set_option linter.all false
set_option maxRecDepth 100000
set_option maxHeartbeats 4000000
namespace L2
open PySem PySem.Spec PyProof.Rows
structure Callee (P : Program) (w : World) (K : PySem.W.Frag) (mg : Str → Option Value) (base : Heap) (x : Str) (k : Nat) (ps : List Str) (sp : Sp) : Prop where
  ex : ∃ f fd, mg x = some (.ref f) ∧ PySem.W.keepIn K (.ref f) = true ∧ Binds K fd ps [] ∧ FnOk P w K mg base CX0 k f fd ps sp
theorem pe_callC {X : Cx} {x : Str} {k n : Nat} {ps : List Str} {sp : Sp} {e : Expr} {es : List Expr} {t : TA} {p pos : Pos} (C : Callee X.prog X.w X.K X.mg X.base x k ps sp) (hr : Room n X.A) (hk : k ≤ n) (hg : Gl X x) (ha : PA X (e :: es) t)
    (hdb : (x == ("__debug__" : Str)) = false := by decide) (he : starEach (e :: es) X.env = (false, eval e X.env) :: starEach es X.env := by rfl) (hpl : (backTo pos (starEach es X.env)).any (·.1) = false := by rfl) :
    PE X (.Call (.Name x p) (e :: es) [] pos) (tCall sp [] E0 t) := by
  obtain ⟨f, fd, hm, hkp, hb, F⟩ := C.ex
  exact pe_call (F.mono hk) hr hg hm hkp hb .nil pass0 ha hdb he hpl
structure HasDef (K : PySem.W.Frag) (mg : Str → Option Value) (x : Str) (st : Stmt) : Prop where
  ex : ∃ f fd, Fun K x x st f fd ∧ mg x = some (.ref f)
theorem hasDef {K : PySem.W.Frag} {h : Heap} {mg : Str → Option Value} {x : Str} {st : Stmt} {f : Addr} {oc : Value} {od an : Option Addr} {osl : Array (Option Value)} {kV doc pm cdv ct : Value} (X : K.In h) (G : h.Ns mainGlobals mg)
    (a : PySem.W.nsIn K mainGlobals x = some (some (.ref f))) (l : K.lookup f = some ⟨oc, od, .func (PySem.W.fnOf x x (defArgs st) (defBody st) (defScope st) .none kV doc pm an cdv ct), osl⟩)
    (c : PySem.W.codeIn K cdv x = true) (k : PySem.W.keepIn K (.ref f) = true) : HasDef K mg x st := ⟨f, _, fun_mk l c k, PySem.W.mg_of X G a⟩
theorem HasDef.ok {P : Program} {w : World} {K : PySem.W.Frag} {mg : Str → Option Value} {base : Heap} {x : Str} {st : Stmt} {N ps : List Str} {n : Nat} {sp : Sp} (D : HasDef K mg x st) (S : FnScope N ps (defScope st))
    (hb : ∀ (kV doc pm : Value) (an : Option Addr) (cdv ct : Value) (us : List Value), us.length = ps.length → bindArgs (PySem.W.fnOf x x (defArgs st) (defBody st) (defScope st) .none kV doc pm an cdv ct) ⟨us, []⟩ = pure (ps.zip us))
    (len : ∀ vs H Q E, sp vs H Q E → vs.length = ps.length)
    (hbody : ∀ (f : Addr) (cdv : Value) (A : Around) (outer : List Env) (s : Shared) (H : Hp) (vs : List V) (Q : VK) (E : XK), Room n (A.deeper (envOfC x (defScope st) s.heap.objs.size f cdv)) → sp vs H Q E →
      ∃ t, PSs (cxOf CX0 P w K mg base N x (defScope st) f cdv A outer s H E).nox (defBody st) t ∧ t { nx := fun _ H' => Q .non H', rt := Q } (start N vs) H) : Callee P w K mg base x (n + 1) ps sp := by
  obtain ⟨f, fd, F, hm⟩ := D.ex
  exact ⟨f, fd, hm, F.kp, F.binds hb, F.ok S len fun cdv A outer s H vs Q E hr h => hbody f cdv A outer s H vs Q E hr h⟩
theorem Callee.imp {P : Program} {w : World} {K : PySem.W.Frag} {mg : Str → Option Value} {base : Heap} {x : Str} {k : Nat} {ps : List Str} {sp sp' : Sp} (C : Callee P w K mg base x k ps sp) (h : ∀ vs H Q E, sp' vs H Q E → sp vs H Q E) : Callee P w K mg base x k ps sp' := by
  obtain ⟨f, fd, hm, hkp, hb, F⟩ := C.ex
  exact ⟨f, fd, hm, hkp, hb, F.imp h⟩
theorem call_isi {X : Cx} : CallR X (.builtin "isinstance") (fun xs H Q => ∃ x T t b, xs = [x, .ty T] ∧ TyOf X.K H x t ∧ PySem.W.kitOne X.K t (.type T) = some b ∧ Q (.bl b) H) := by
  intro pins s σ H xs us Q I r h
  obtain ⟨x, T, t, b, rfl, ty, e, q⟩ := h
  obtain ⟨u, v, rfl, ru, rv⟩ := vals2 r
  cases rv
  exact isinst_ok I ru ty e fun tk => ⟨.bl b, H, I.tok tk, rfl, q⟩
def GInt (mg : Str → Option Value) (x : Str) (n : Int) : Prop := ∃ t, mg x = some (.int n t)
def GTup (K : PySem.W.Frag) (mg : Str → Option Value) (x : Str) (xs : List V) : Prop := ∃ a, mg x = some (.ref a) ∧ ∀ H : Hp, SqT K H a xs
theorem pe_globI {X : Cx} {x : Str} {n : Int} {pos : Pos} (h : GInt X.mg x n) (hg : Gl X x := by rfl) (hd : (x == ("__debug__" : Str)) = false := by decide) : PE X (.Name x pos) (tC (.int n)) := by
  obtain ⟨t, hm⟩ := h
  exact pe_glob hg hm ⟨t, rfl⟩ hd
def tGT (K : PySem.W.Frag) (xs : List V) : TE := fun _ H Q => ∀ a, (∀ H, SqT K H a xs) → Q (.ref a) H
theorem glob_int {K : PySem.W.Frag} {h : Heap} {mg : Str → Option Value} {x : Str} {n : Int} {t : Tok} (X : K.In h) (G : h.Ns mainGlobals mg) (a : PySem.W.nsIn K mainGlobals x = some (some (.int n t))) : GInt mg x n := ⟨t, PySem.W.mg_of X G a⟩
def spLaw (K : PySem.W.Frag) : Sp := fun vs H Q _ => ∃ (a : Addr) (ns : List Int), vs = [.ref a] ∧ SqL K H a (ns.map V.int) ∧ ns.length ≤ 63 ∧ ∀ H', Q (.bl true) H'
def cell (ns : List Int) (k : Nat) : Int := ns.getD k 0
def spCell (K : PySem.W.Frag) : Sp := fun vs H Q _ => ∃ (a : Addr) (ns : List Int) (k : Nat), vs = [.ref a, .int k] ∧ SqL K H a (ns.map V.int) ∧ Q (.int (cell ns k)) H
theorem law_walk {l : PySem.W.OpenLaw} {q : Program} {loose : List Str} {XP : (Str → Option Value) → Heap → Prop} {YP : World → Heap → Prop} {d : DefRec} {K : Params → PySem.W.Frag} {k : Nat} {st : Stmt} (hr : Room k callerA) (hn : l.most = some 63) (hdf : d.params.defaults = []) (hdn : d.name = "law")
    (hb : ∀ (kV doc pm : Value) (an : Option Addr) (cdv ct : Value) (u : Value), bindArgs (PySem.W.fnOf "law" "law" (defArgs st) (defBody st) (defScope st) .none kV doc pm an cdv ct) ⟨[u], []⟩ = pure [(("script" : Str), u)])
    (hY : ∀ (w : World) (h : Heap), YP w h → (K w.params).In h)
    (F : ∀ (w : World) (mg : Str → Option Value) (h : Heap), (K w.params).In h → h.Ns mainGlobals mg → HasDef (K w.params) mg "law" st ∧
      ∀ (base : Heap) (f : Addr) (fd : FuncData), Fun (K w.params) "law" "law" st f fd → FnOk l.prog w (K w.params) mg base CX0 k f fd ["script"] (spLaw (K w.params))) :
    PySem.W.WalkO q loose XP YP l.row.toRowW d [] (fun f vs => PySem.call f vs) := by
  refine walk_ofK (n := 63) (k := k) (x := "script") (CX := CX0) (sp := spLaw) hn (by decide) hdf hr hY (fun w mg fa h KX G hmg => ?_) (fun K H a ns hl _ hS => ⟨a, ns, rfl, hS, hl, fun _ => rfl⟩) (fun _ _ _ _ z => z)
  obtain ⟨D, ok⟩ := F w mg h KX G
  obtain ⟨f, fd, Fn, hm⟩ := D.ex
  rw [hdn, hm] at hmg
  cases hmg
  refine ⟨fd, fun s u => ?_, fun base _ _ => ok base _ fd Fn⟩
  obtain ⟨oc, od, kV, doc, pm, an, cdv, ct, osl, rfl, lk, hcd⟩ := Fn.ex
  exact .of_eq (hb kV doc pm an cdv ct u)
theorem bt_int : bootBuiltins "int" = some (.type "int") := by decide +kernel
theorem bt_bool : bootBuiltins "bool" = some (.type "bool") := by decide +kernel
theorem bt_list : bootBuiltins "list" = some (.type "list") := by decide +kernel
theorem bt_len : bootBuiltins "len" = some (.builtin "len") := by decide +kernel
theorem bt_isinstance : bootBuiltins "isinstance" = some (.builtin "isinstance") := by decide +kernel
theorem bt_sorted : bootBuiltins "sorted" = some (.builtin "sorted") := by decide +kernel
section
variable {CX : CXT} {P : Program} {w : World} {K : PySem.W.Frag} {mg : Str → Option Value} {base : Heap} {N : List Str} {qual : Str} {scope : Scope} {f : Addr} {cd : Value} {A : Around} {outer : List Env} {s : Shared} {H : Hp} {E : XK}
theorem cxK : (cxOf CX P w K mg base N qual scope f cd A outer s H E).K = K := rfl
theorem bkK {X : Cx} {Nc : List Str} {C : Addr} {s₀ : Shared} {H₀ : Hp} {fp : List Addr} : (blockCx X scope Nc C s₀ H₀ fp).K = X.K := rfl
theorem noxK {X : Cx} : X.nox.K = X.K := rfl
end
theorem pe_ty {X : Cx} {x : Str} {T : String} {pos : Pos} (hm : X.mg x = none) (hv : bootBuiltins x = some (.type T)) (hg : Gl X x := by rfl) (hn : x ≠ "__name__" := by decide) (hd : (x == ("__debug__" : Str)) = false := by decide) : PE X (.Name x pos) (tC (.ty T)) :=
  pe_bltn (v := .ty T) hg hm hv rfl hn hd
theorem same_new {H : Hp} {p : Addr} (h : H p = none) (o : HO) : Same H (upd H p o) := fun b u q => by rw [upd_ne (ne_of_none q h)]; exact q
end L2
set_option Elab.async false
set_option linter.all false
set_option maxRecDepth 100000
set_option maxHeartbeats 4000000
namespace L2
open PySem PySem.Spec PyProof.Rows
def blockB (sc out : Scope) (N : List Str) (x : Str) (frees : List Str) (ix : List Nat) : Bool :=
  decide (sc.kind = .function) && decide (out.kind = .function) && decide (frees.length = ix.length) &&
  ((List.range frees.length).all fun j => match frees[j]?, ix[j]? with
    | some y, some i => decide (N[i]? = some y) && decide (out.names.lookup y = some .cell) && decide (sc.names.lookup y = some .free)
    | _, _ => false) &&
  decide (sc.names.lookup x = some .local) &&
  (sc.names.all fun y => decide (y.2 ≠ .cell) && (decide (y.2 ≠ .local) || decide (sc.names.lookup y.1 = some .local)) && (decide (y.2 ≠ .free) || decide (out.names.lookup y.1 = some .cell))) &&
  decide (x :: frees).Nodup
theorem Block.of {sc out : Scope} {N : List Str} {x : Str} {frees : List Str} {ix : List Nat} (h : blockB sc out N x frees ix = true) : Block sc out N x frees ix := by
  unfold blockB at h
  simp only [Bool.and_eq_true, decide_eq_true_eq, List.all_eq_true] at h
  obtain ⟨⟨⟨⟨⟨⟨h1, h2⟩, h3⟩, h4⟩, h5⟩, h6⟩, h7⟩ := h
  refine ⟨h1, h2, h3, fun j y hy => ?_, h5, fun y hy => (h6 y hy).1.1, fun y hy hl => ?_, fun y hy hl => ?_, h7⟩
  · have hj : j < frees.length := (List.getElem?_eq_some_iff.mp hy).1
    have q := h4 j (List.mem_range.mpr hj)
    rw [hy] at q
    cases e : ix[j]? with
    | none => rw [e] at q; cases q
    | some i =>
      rw [e] at q
      simp only [Bool.and_eq_true, decide_eq_true_eq] at q
      exact ⟨i, rfl, q.1.1, q.1.2, q.2⟩
  · have q := (h6 y hy).1.2
    rw [Bool.or_eq_true] at q
    rcases q with q | q
    · exact absurd hl (of_decide_eq_true q)
    · exact of_decide_eq_true q
  · have q := (h6 y hy).2
    rw [Bool.or_eq_true] at q
    rcases q with q | q
    · exact absurd hl (of_decide_eq_true q)
    · exact of_decide_eq_true q
theorem comp_range {wi : TI} {ix : List Nat} {te : TE} {σ : St} {H H1 : Hp} {Q : VK} {lo : Int} {n : Nat} (f : Nat → V) (hw : ∀ R : It → Hp → Prop, R (Itr lo n) H1 → wi σ H R) (hn : n < sizeLine)
    (he : ∀ (i : Nat) (H' : Hp) (R : VK), i < n → Same H1 H' → R (f i) H' → te (some (.int (lo + i)) :: slots σ ix) H' R) (q : ∀ acc, H1 acc = none → Q (.ref acc) (upd H1 acc (.lst ((List.range n).map f)))) :
    tComp wi ix tYes te σ H Q := by
  refine hw _ fun acc hacc => ⟨fun i m H2 => i ≤ n ∧ m = n - i ∧ H2 = upd H1 acc (.lst ((List.range i).map f)), ⟨n, Nat.zero_le _, by simp, by simp⟩, ?_⟩
  rintro i m H2 ⟨hi, rfl, rfl⟩
  by_cases hlt : i < n
  · refine .inr ⟨hlt, ?_⟩
    rintro x H3 ⟨rfl, rfl⟩
    unfold tYes
    dsimp only
    rw [if_pos rfl]
    refine he i _ _ hlt (same_new hacc _) ⟨_, upd_same, ?_, n - (i + 1), by omega, hlt, rfl, ?_⟩
    · rw [List.length_map, List.length_range]; omega
    · rw [upd_upd, List.range_succ, List.map_append]
      rfl
  · have e : i = n := by omega
    subst e
    exact .inl ⟨Nat.le_refl _, q acc hacc⟩
end L2
set_option Elab.async false
set_option linter.all false
set_option maxRecDepth 100000
set_option maxHeartbeats 4000000
namespace L2
open PySem
def excRec (cls a0 x1 : Value) : Obj := { cls := cls, data := .fields #[a0, x1, .none, .none, .bool false, .none] }
structure Exc (B : Heap) (l : List Env) (e : Addr) (cls fl : Value) (h : Heap) : Prop where
  stays : B.StaysIn h
  new : B.get? e = none
  frames : h.FunFrames B l
  rcd : ∃ (a0 : Value) (T : Addr) (oT : Obj) (ts : Array Value), h.get? e = some (excRec cls a0 (.ref T)) ∧ B.get? T = none ∧ T ≠ e ∧ h.get? T = some oT ∧ oT.data = .fields ts ∧ ts[3]? = some fl
section
variable {M : Model} {A : Around} {E : Value → Shared → Prop} {s : Shared} {B : Heap} {env : Env} {outer : List Env} {L e : Addr} {cls a0 x1 head fl : Value} {hadNext : Bool} {Q : Unit → Shared → Prop}
theorem mapped (a0 x1 y : Value) (cls : Value) : Obj.mapFields (·.setIfInBounds 1 y) (excRec cls a0 x1) = excRec cls a0 y := rfl
theorem exc_entry (hfr : A.frames = some (env :: outer)) (hf : env.frame = some L) (st : B.StaysIn s.heap) (new : B.get? e = none) (fr : s.heap.FunFrames B (env :: outer)) (he : s.heap.get? e = some (excRec cls a0 x1))
    (h : ∀ h', Exc B (env :: outer) e cls (rawInt L) h' → s.heap.UpToSlots h' → Q () { s with heap := h' }) :
    wpAny M A (do setField (.ref e) 1 (← EntryCells.newEntry head (← frameOf env) .none (rawInt L) .none (← entryPlaceOf L hadNext))) Q E s := by
  have enf : e ∉ (env :: outer).filterMap (·.frame) := fun hm => by
    obtain ⟨_, o, ho, nf⟩ := fr.mem hm
    rw [he] at ho
    cases ho
    exact nf _ rfl
  refine wpAny_bind (wpAny_frameOf_fun hfr fr hf fun h1 so => ?_)
  refine wpAny_bind (wpAny_entryPlaceOf fun pl hpl => ?_)
  have he1 : h1.get? e = some (excRec cls a0 x1) := (so.2.1 e enf).trans he
  have st1 : B.StaysIn h1 := fun b o q => (so.2.1 b fun hm => by
    have := (fr.mem hm).1
    rw [q] at this
    cases this).trans (st b o q)
  unfold EntryCells.newEntry newFields
  refine wpAny_bind (wpAny_newObj_type ?_ (hpl.sizeOk5 _ _ _ _ _))
  generalize hN : ({ cls := .type "traceback", dict := none, data := .fields ([head, Value.ref L, .none, rawInt L, .none] ++ (if pl.isEmpty then List.replicate 6 Value.none else pl)).toArray } : Obj) = N
  have hNd : ∃ ts : Array Value, N.data = .fields ts ∧ ts[3]? = some (rawInt L) := ⟨_, by rw [← hN], by simp⟩
  have hNf : N.isFreed = false := by rw [← hN]; rfl
  have he2 : (h1.push N).get? e = some (excRec cls a0 x1) := Heap.get?_push_of_some _ he1
  refine wpAny_setField he2 rfl (show 1 < 6 by decide) ?_
  have he3 := Heap.get?_update_self (Obj.mapFields (·.setIfInBounds 1 (Value.ref h1.objs.size))) he2 rfl
  rw [mapped] at he3
  have hTe : h1.objs.size ≠ e := Nat.ne_of_gt (Heap.lt_size he1)
  have keep : ∀ b o, b ≠ e → h1.get? b = some o → ((h1.push N).update e (Obj.mapFields (·.setIfInBounds 1 (Value.ref h1.objs.size)))).get? b = some o := fun b o nb q => by
    rw [Heap.get?_update_other _ _ (Ne.symm nb)]
    exact Heap.get?_push_of_some _ q
  have noe : ∀ b o, s.heap.get? b = some o → (∀ vs, o.data ≠ .fields vs) → b ≠ e := fun b o q nf z => by
    rw [z, he] at q
    cases q
    exact nf _ rfl
  refine h _ ⟨fun b o q => keep b o (fun z => by rw [z, new] at q; cases q) (st1 b o q), new, fr.of_keeps fun b o q nf => ?_, ?_⟩ fun b o q nf => ?_
  · obtain ⟨sl, q1⟩ := so.2.2 b o q
    exact ⟨_, keep b _ (noe b o q nf) q1, rfl⟩
  · obtain ⟨ts, d1, d2⟩ := hNd
    refine ⟨a0, h1.objs.size, N, ts, he3, st1.fresh, hTe, ?_, d1, d2⟩
    rw [Heap.get?_update_other _ _ (Ne.symm hTe)]
    exact Heap.get?_push_size _ hNf
  · obtain ⟨sl, q1⟩ := so.2.2 b o q
    exact ⟨sl, keep b _ (noe b o q nf) q1⟩
theorem note_made (hfr : A.frames = some (env :: outer)) (hf : env.frame = some L) (st : B.StaysIn s.heap) (new : B.get? e = none) (fr : s.heap.FunFrames B (env :: outer)) (he : s.heap.get? e = some (excRec cls a0 .none))
    (h : ∀ h', Exc B (env :: outer) e cls (rawInt L) h' → s.heap.UpToSlots h' → Q () { s with heap := h' }) : wpAny M A (noteFrame (.ref e) env) Q E s := by
  unfold noteFrame
  simp only [hf]
  refine wpAny_bind (wpAny_field (i := 1) (x := .none) he rfl rfl ?_)
  rw [if_neg (by decide)]
  exact exc_entry hfr hf st new fr he h
theorem note_come (hfr : A.frames = some (env :: outer)) (hf : env.frame = some L) (X : Exc B (env :: outer) e cls .none s.heap)
    (h : ∀ h', Exc B (env :: outer) e cls (rawInt L) h' → s.heap.UpToSlots h' → Q () { s with heap := h' }) : wpAny M A (noteFrame (.ref e) env) Q E s := by
  obtain ⟨st, new, fr, b0, T, oT, ts, he, nT, Te, hT, dT, h3⟩ := X
  unfold noteFrame
  simp only [hf]
  refine wpAny_bind (wpAny_field (i := 1) (x := .ref T) he rfl rfl ?_)
  rw [if_pos (show (Value.ref T != Value.none) = true from by simp)]
  refine wpAny_bind (wpAny_field hT dT h3 ?_)
  rw [if_neg (show ¬ ((Value.none == rawInt L) = true) from by simp [rawInt])]
  refine wpAny_bind (wpAny_setField hT dT (Array.getElem?_eq_some_iff.mp h3).1 ?_)
  have oth : ∀ b, b ≠ T → (s.heap.update T (Obj.mapFields (·.setIfInBounds 3 Value.none))).get? b = s.heap.get? b := fun b nb => Heap.get?_update_other _ _ (Ne.symm nb)
  have noT : ∀ b o, s.heap.get? b = some o → (∀ vs, o.data ≠ .fields vs) → b ≠ T := fun b o q nf z => by
    rw [z, hT] at q
    cases q
    exact nf ts dT
  refine exc_entry (s := { s with heap := s.heap.update T (Obj.mapFields (·.setIfInBounds 3 Value.none)) }) hfr hf (fun b o q => (oth b fun z => by rw [z, nT] at q; cases q).trans (st b o q)) new
    (fr.of_keeps fun b o q nf => ⟨o, (oth b (noT b o q nf)).trans q, rfl⟩) ((oth e (Ne.symm Te)).trans he) fun h' X' U => h h' X' fun b o q nf => U b o ((oth b (noT b o q nf)).trans q) nf
theorem flight_none (X : Exc B outer e cls fl s.heap) (h : ∀ h', Exc B outer e cls .none h' → s.heap.UpToSlots h' → Q () { s with heap := h' }) : wpAny M A (setFlight (.ref e) none) Q E s := by
  obtain ⟨st, new, fr, b0, T, oT, ts, he, nT, Te, hT, dT, h3⟩ := X
  have h3s : 3 < ts.size := (Array.getElem?_eq_some_iff.mp h3).1
  unfold setFlight
  refine wpAny_bind (wpAny_field (i := 1) (x := .ref T) he rfl rfl ?_)
  rw [if_pos (show (Value.ref T != Value.none) = true from by simp)]
  refine wpAny_setField hT dT h3s ?_
  have oth : ∀ b, b ≠ T → (s.heap.update T (Obj.mapFields (·.setIfInBounds 3 ((none : Option Addr).elim Value.none fun f => rawInt f)))).get? b = s.heap.get? b := fun b nb => Heap.get?_update_other _ _ (Ne.symm nb)
  have noT : ∀ b o, s.heap.get? b = some o → (∀ vs, o.data ≠ .fields vs) → b ≠ T := fun b o q nf z => by
    rw [z, hT] at q
    cases q
    exact nf ts dT
  refine h _ ⟨fun b o q => (oth b fun z => by rw [z, nT] at q; cases q).trans (st b o q), new, fr.of_keeps fun b o q nf => ⟨o, (oth b (noT b o q nf)).trans q, rfl⟩, b0, T, _, _, (oth e (Ne.symm Te)).trans he, nT, Te,
    Heap.get?_update_self _ hT (Obj.isFreed_of_fields (Obj.data_mapFields dT _)), Obj.data_mapFields dT _, by simp [h3s]⟩ fun b o q nf => ⟨o.slots, (oth b (noT b o q nf)).trans q⟩
theorem Exc.cut (X : Exc B (env :: outer) e cls fl s.heap) : Exc B outer e cls fl s.heap := ⟨X.stays, X.new, X.frames.2.2, X.rcd⟩
theorem leave_made (hfr : A.frames = some (env :: outer)) (hf : env.frame = some L) (st : B.StaysIn s.heap) (new : B.get? e = none) (fr : s.heap.FunFrames B (env :: outer)) (he : s.heap.get? e = some (excRec cls a0 .none))
    (h : ∀ h', Exc B outer e cls .none h' → s.heap.UpToSlots h' → Q () { s with heap := h' }) : wpAny M A (leaving env (.ref e)) Q E s := by
  unfold leaving
  refine wpAny_bind (note_made hfr hf st new fr he fun h1 X1 U1 => ?_)
  exact flight_none (s := { s with heap := h1 }) X1 fun h2 X2 U2 => h h2 (Exc.cut (s := { s with heap := h2 }) X2) (U1.trans U2)
end
end L2
set_option Elab.async false
set_option linter.all false
set_option maxRecDepth 100000
set_option maxHeartbeats 4000000
namespace L2
open PySem
section
variable {prog : Program} {w : World} {A : Around} {E : Value → Shared → Prop} {s₁ : Shared}
end
end L2
set_option Elab.async false
set_option linter.all false
set_option maxRecDepth 100000
set_option maxHeartbeats 4000000
namespace L2
open PySem PySem.Spec PyProof.Rows
theorem ObjOk.is {P : Program} {w : World} {H : Hp} {h : Heap} {a : Addr} {o : HO} (x : ObjOk P w H h a o) : ∃ ob, h.get? a = some ob := by
  cases o with
  | lst xs => obtain ⟨_, _, _, _, e⟩ := x; exact ⟨_, e⟩
  | tup xs => obtain ⟨_, _, _, _, e, _⟩ := x; exact ⟨_, e⟩
  | dK kvs => obtain ⟨_, _, _, _, _, _, _, e, _⟩ := x; exact ⟨_, e⟩
  | dT kvs => obtain ⟨_, _, _, _, _, _, _, e, _⟩ := x; exact ⟨_, e⟩
  | set S n => obtain ⟨_, _, _, _, e, _⟩ := x; exact ⟨_, e⟩
  | ins C dx fs => obtain ⟨_, _, _, e, _⟩ := x; exact ⟨_, e⟩
  | own y => exact x
  | xd fs => obtain ⟨_, ⟨_, _, _, e, _⟩, _⟩ := x; exact ⟨_, e⟩
  | rng lo hi => obtain ⟨_, _, _, e⟩ := x; exact ⟨_, e⟩
  | frz ob u => exact ⟨_, x.1⟩
  | tbl ps => exact ⟨_, x⟩
  | met f y => exact ⟨_, x⟩
  | ext φ => exact x.2.1
structure Flew (P : Program) (w : World) (outer : List Env) (H : Hp) (s : Shared) (a C : Addr) (B : Heap) (H' : Hp) (s' : Shared) : Prop where
  os : s'.os = s.os
  bare : AllBare s'.gens
  un : Un (frs outer) [] H H' s.heap s'.heap
  hok : HOk P w H' B
  inB : ∀ b o, s.heap.get? b = some o → H b = none → b ∉ frs outer → B.get? b = some o
  thB : ∀ b o, s.heap.get? b = some o → b ∉ frs outer → ∃ o', B.get? b = some o'
  exc : Exc B outer a (.ref C) .none s'.heap
def CX1 (P : Program) (w : World) : CXT := fun outer H s E e s' => ∃ (a C : Addr) (B : Heap) (H' : Hp), e = .ref a ∧ Flew P w outer H s a C B H' s' ∧ E (.ref C) none H'
theorem Flew.free {P : Program} {w : World} {outer : List Env} {H H' : Hp} {s s' : Shared} {a C : Addr} {B : Heap} (F : Flew P w outer H s a C B H' s') : H' a = none := by
  cases q : H' a with
  | none => rfl
  | some o =>
    obtain ⟨ob, e⟩ := (F.hok a o q).is
    rw [F.exc.new] at e
    cases e
theorem un_on {l : List Env} {H H' : Hp} {h h1 h2 B : Heap} (un : Un (frs l) [] H H' h h1) (inB : ∀ b o, h.get? b = some o → H b = none → b ∉ frs l → B.get? b = some o) (thB : ∀ b o, h.get? b = some o → b ∉ frs l → ∃ o', B.get? b = some o')
    (fr : h1.FunFrames B l) (st : B.StaysIn h2) (up : h1.UpToSlots h2) : Un (frs l) [] H H' h h2 where
  keep := fun b o e n nf _ => st b o (inB b o e n nf)
  slot := fun b o e n hf hx => by
    obtain ⟨sl, q⟩ := un.slot b o e n hf hx
    obtain ⟨_, o', ho', nf⟩ := fr.mem hf
    rw [q] at ho'
    cases ho'
    obtain ⟨sl', q'⟩ := up b _ q nf
    exact ⟨sl', q'⟩
  free := un.free
  there := fun b o e hx => by
    by_cases hf : b ∈ frs l
    · obtain ⟨_, o', ho', nf⟩ := fr.mem hf
      obtain ⟨sl, q⟩ := up b o' ho' nf
      exact ⟨_, q⟩
    · obtain ⟨o', q⟩ := thB b o e hf
      exact ⟨o', st b o' q⟩
  tups := un.tups
  frzs := un.frzs
  tbls := un.tbls
section
variable {X : Cx} {pins : List (Addr × Obj)} {σ : St} {H H' : Hp} {s s' : Shared} {a C : Addr} {B : Heap}
theorem Inv.noframe (I : Inv X pins σ H s) {b : Addr} {o : Obj} (e : X.s₀.heap.get? b = some o) (nf : b ∉ X.fs) : b ∉ frs X.stack := fun z => by
  rcases List.mem_cons.mp (I.stkSub b z) with q | q
  · exact absurd (Nat.lt_of_lt_of_le (Heap.lt_size e) I.ok.above) (by rw [q]; exact Nat.lt_irrefl _)
  · exact nf q
theorem flew_out (I : Inv X pins σ H s) (hex : X.ex = []) (un : Un (frs X.stack) [] H H' s.heap s'.heap) (os : s'.os = s.os) (bare : AllBare s'.gens) (hok : HOk X.prog X.w H' B)
    (inB : ∀ b o, s.heap.get? b = some o → H b = none → b ∉ frs X.stack → B.get? b = some o) (thB : ∀ b o, s.heap.get? b = some o → b ∉ frs X.stack → ∃ o', B.get? b = some o') (x : Exc B X.outer a (.ref C) .none s'.heap) :
    Flew X.prog X.w X.outer X.H₀ X.s₀ a C B H' s' := by
  have J : Inv X pins σ H' s' := I.call' os un (hok.kept x.stays) bare (fun _ z => nomatch z)
  have nx : ∀ b, b ∉ X.ex := fun b z => by rw [hex] at z; exact nomatch z
  refine ⟨J.os, J.bare, by have := J.base; rw [hex] at this; exact this, hok, fun b o e n nf => ?_, fun b o e nf => ?_, x⟩
  · exact inB b o (I.base.keep b o e n nf (nx b)) (I.base.free b o e n (nx b)) (I.noframe e nf)
  · obtain ⟨o', e'⟩ := I.base.there b o e (nx b)
    exact thB b o' e' (I.noframe e nf)
end
section
variable {P : Program} {w : World} {K : PySem.W.Frag} {mg : Str → Option Value} {base : Heap} {N : List Str} {qual : Str} {scope : Scope} {f : Addr} {cd : Value} {A : Around} {outer : List Env} {s₀ : Shared} {H₀ : Hp} {E : XK}
def Raises (X : Cx) (E : XK) : Prop := ∀ (pins : List (Addr × Obj)) (σ : St) (H : Hp) (s : Shared) (h' : Heap) (a C : Addr) (vs : List Value), Inv X pins σ H s → Heap.MadeExcOf s.heap h' a (.ref C) vs → E (.ref C) none H → X.xe (.ref a) { s with heap := h' }
theorem raise1 : Raises (cxOf (CX1 P w) P w K mg base N qual scope f cd A outer s₀ H₀ E) E := by
  intro pins σ H s h' a C vs I mk q
  obtain ⟨t, he, _, _⟩ := mk.there
  have st : (PySem.W.hideAll s.heap (frs (envOfC qual scope s₀.heap.objs.size f cd :: outer))).StaysIn h' := fun b o e => mk.keeps b o (PySem.W.of_hideAll _ e)
  have new : (PySem.W.hideAll s.heap (frs (envOfC qual scope s₀.heap.objs.size f cd :: outer))).get? a = none := by
    cases e : (PySem.W.hideAll s.heap (frs (envOfC qual scope s₀.heap.objs.size f cd :: outer))).get? a with
    | none => rfl
    | some o =>
      have := PySem.W.of_hideAll _ e
      rw [mk.new] at this
      cases this
  have fr0 : s.heap.FunFrames (PySem.W.hideAll s.heap (frs (envOfC qual scope s₀.heap.objs.size f cd :: outer))) (envOfC qual scope s₀.heap.objs.size f cd :: outer) :=
    PySem.W.funFrames_hide I.stack fun env he b hb => List.mem_filterMap.mpr ⟨env, he, hb⟩
  have fr : h'.FunFrames (PySem.W.hideAll s.heap (frs (envOfC qual scope s₀.heap.objs.size f cd :: outer))) (envOfC qual scope s₀.heap.objs.size f cd :: outer) := fr0.of_keeps fun b o e _ => ⟨o, mk.keeps b o e, rfl⟩
  refine leave_made (s := { s with heap := h' }) (env := envOfC qual scope s₀.heap.objs.size f cd) (outer := outer) I.ok.frames rfl st new fr he fun h'' x u => ?_
  have inB : ∀ b o, s.heap.get? b = some o → b ∉ frs (envOfC qual scope s₀.heap.objs.size f cd :: outer) → (PySem.W.hideAll s.heap (frs (envOfC qual scope s₀.heap.objs.size f cd :: outer))).get? b = some o := fun b o e nf => PySem.W.hideAll_get _ e nf
  refine ⟨a, C, _, H, rfl, flew_out (s' := { s with heap := h'' }) I rfl (un_on (Un.kept mk.keeps) (fun b o e _ nf => inB b o e nf) (fun b o e nf => ⟨o, inB b o e nf⟩) fr x.stays u) rfl I.bare (fun b o e => ?_) (fun b o e _ nf => inB b o e nf) (fun b o e nf => ⟨o, inB b o e nf⟩) x, q⟩
  refine (I.hok b o e).stay (fun c v hc r => inB c v r fun z => ?_) (fun _ r => r) fun _ _ r => r
  have nc := I.stkFree c z
  rcases hc with rfl | hc
  · rw [e] at nc; cases nc
  · rw [hc] at nc; cases nc
end
def VEB : List Value := [.type "ValueError", .type "Exception", .type "BaseException", .type "object"]
structure ErrC (K : PySem.W.Frag) (mg : Str → Option Value) (x : Str) (C : Addr) : Prop where
  at' : mg x = some (.ref C)
  ok : PySem.W.excIn K C VEB "ValueError.__new__" = true
theorem errObj {K : PySem.W.Frag} {h : Heap} {C : Addr} {bmB : List Value} {newId : String} (X : K.In h) (q : PySem.W.excIn K C bmB newId = true) :
    ∃ bm N nm qn bs hd sn sub ab col dd k0 k1 k2 k3 k5 mN, h.get? C = some (excClassObj nm qn C N bs bm hd sn sub ab col dd k0 k1 k2 k3 k5 newId) ∧ h.Ns N mN ∧ mN "__init__" = none ∧ OwnTail h bmB bm := by
  unfold PySem.W.excIn at q
  split at q
  · rename_i dd cl sl look
    split at q
    · rename_i C1 bm k0 k1 k2 k3 n k5 hmro hsl
      simp only [Bool.and_eq_true, beq_iff_eq, Bool.not_eq_true'] at q
      obtain ⟨⟨⟨⟨⟨rfl, rfl⟩, nodel⟩, tl⟩, nsok⟩, noinit⟩ := q
      obtain ⟨c1, c2, c3, c4, c5, c6, c7, c8, c9, c10, c11⟩ := cl
      dsimp only at hmro nodel nsok noinit
      subst hmro nodel
      have e : sl = #[k0, k1, k2, k3, some (.builtin n), k5] := by
        obtain ⟨l⟩ := sl
        simp only at hsl
        rw [hsl]
      subst e
      exact ⟨bm, _, _, _, _, _, _, _, _, _, dd, k0, k1, k2, k3, k5, _, X _ _ look, .of_isNs (PySem.W.isNs_of_in X nsok), PySem.W.nsMap_none_of_in X nsok noinit, PySem.W.tail_of_in X tl⟩
    · cases q
  · cases q
section
variable {X : Cx} {E : XK} {x : Str} {C : Addr} {e : Expr} {es : List Expr} {ta : TA} {np cpos pos : Pos}
def tRaise (E : XK) (C : Addr) (ta : TA) : TS := fun _ σ H => ta σ H fun vs H1 => vs.length ≤ sizeLine ∧ E (.ref C) none H1
theorem ps_raise (hE : Raises X E) (hc : X.calm = true) (R : ErrC X.K X.mg x C) (hg : Gl X x) (ha : PA X (e :: es) ta)
    (hd : (x == ("__debug__" : Str)) = false := by decide) (he : starEach (e :: es) X.env = (false, eval e X.env) :: starEach es X.env := by rfl) (hpl : (backTo cpos (starEach es X.env)).any (·.1) = false := by rfl) :
    PS X (.Raise (some (.Call (.Name x np) (e :: es) [] cpos)) none pos) (tRaise E C ta) := by
  intro pins s σ H D I h
  obtain ⟨bm, N, nm, qn, bs, hd', sn, sub, ab, col, dd, k0, k1, k2, k3, k5, mN, hC, hN, hni, T⟩ := errObj I.mod.kin R.ok
  refine wpAny_Raise_call_subT (C := C) (nm := nm) (q := qn) (N := N) (bs := bs) (bm := bm) (hdct := hd') (sn := sn) (sub := sub) (ab := ab) (col := col) (dd := dd) (k0 := k0) (k1 := k1) (k2 := k2) (k3 := k3) (k5 := k5) PySem.F.excBase_ValueError (mN := mN)
    (T.hasType PySem.F.excBase_ValueError.hasBase) (I.ok.hd hc) (by rw [he]; exact (show (false || (backTo cpos (starEach es X.env)).any (·.1)) = false from by rw [hpl]; rfl)) hni (ld_glob I hg R.at' ⟨rfl, ?_⟩ hd)
  have h1 := ha cpos pins s σ H _ I h
  rw [he] at h1 ⊢
  refine Calls.evalArgs_plain (wpAny_mono h1 (fun vs s2 q2 => ?_) fun _ _ y => y)
  obtain ⟨xs, H2, I2, r2, len, q⟩ := q2
  exact ⟨rfl, by rw [← r2.length]; exact len, I2.bk _ _ hC, hN.keeps I2.bk, T.keeps I2.bk, fun h' z mk => hE pins σ H2 s2 h' z C _ I2 mk q⟩
end
structure CalleeX (P : Program) (w : World) (K : PySem.W.Frag) (mg : Str → Option Value) (base : Heap) (x : Str) (k : Nat) (ps : List Str) (sp : Sp) : Prop where
  ex : ∃ f fd, mg x = some (.ref f) ∧ PySem.W.keepIn K (.ref f) = true ∧ Binds K fd ps [] ∧ FnOk P w K mg base (CX1 P w) k f fd ps sp
theorem pe_callX {X : Cx} {E : XK} {x : Str} {k n : Nat} {ps : List Str} {sp : Sp} {e : Expr} {es : List Expr} {t : TA} {p pos : Pos} (C : CalleeX X.prog X.w X.K X.mg X.base x k ps sp) (hp : Passes (CX1 X.prog X.w) X E) (hr : Room n X.A) (hk : k ≤ n) (hg : Gl X x) (ha : PA X (e :: es) t)
    (hdb : (x == ("__debug__" : Str)) = false := by decide) (he : starEach (e :: es) X.env = (false, eval e X.env) :: starEach es X.env := by rfl) (hpl : (backTo pos (starEach es X.env)).any (·.1) = false := by rfl) :
    PE X (.Call (.Name x p) (e :: es) [] pos) (tCall sp [] E t) := by
  obtain ⟨f, fd, hm, hkp, hb, F⟩ := C.ex
  exact pe_call (F.mono hk) hr hg hm hkp hb .nil hp ha hdb he hpl
theorem HasDef.okX {P : Program} {w : World} {K : PySem.W.Frag} {mg : Str → Option Value} {base : Heap} {x : Str} {st : Stmt} {N ps : List Str} {n : Nat} {sp : Sp} (D : HasDef K mg x st) (S : FnScope N ps (defScope st))
    (hb : ∀ (kV doc pm : Value) (an : Option Addr) (cdv ct : Value) (us : List Value), us.length = ps.length → bindArgs (PySem.W.fnOf x x (defArgs st) (defBody st) (defScope st) .none kV doc pm an cdv ct) ⟨us, []⟩ = pure (ps.zip us))
    (len : ∀ vs H Q E, sp vs H Q E → vs.length = ps.length)
    (hbody : ∀ (f : Addr) (cdv : Value) (A : Around) (outer : List Env) (s : Shared) (H : Hp) (vs : List V) (Q : VK) (E : XK), Room n (A.deeper (envOfC x (defScope st) s.heap.objs.size f cdv)) → sp vs H Q E →
      ∃ t, PSs (cxOf (CX1 P w) P w K mg base N x (defScope st) f cdv A outer s H E) (defBody st) t ∧ t { nx := fun _ H' => Q .non H', rt := Q } (start N vs) H) : CalleeX P w K mg base x (n + 1) ps sp := by
  obtain ⟨f, fd, F, hm⟩ := D.ex
  refine ⟨f, fd, hm, F.kp, F.binds hb, ?_⟩
  obtain ⟨oc, od, kV, doc, pm, an, cdv, ct, osl, rfl, lk, hcd⟩ := F.ex
  exact fn_of lk hcd S len fun A outer s H vs Q E hr h => hbody f cdv A outer s H vs Q E hr h
theorem CalleeX.calm {P : Program} {w : World} {K : PySem.W.Frag} {mg : Str → Option Value} {base : Heap} {x : Str} {k : Nat} {ps : List Str} {sp : Sp} (C : CalleeX P w K mg base x k ps sp) : Callee P w K mg base x k ps (fun vs H Q _ => sp vs H Q E0) := by
  obtain ⟨f, fd, hm, hkp, hb, F⟩ := C.ex
  refine ⟨f, fd, hm, hkp, hb, fun vs H Q E h => F.len vs H Q E0 h, fun A outer s H args us vs Q E hr e0 bt r h => codeAny_mono (F.run A outer s H args us vs Q E0 hr e0 bt r h) fun res s' q => ?_⟩
  cases res with
  | ok fl => cases fl <;> exact q
  | error e =>
    obtain ⟨_, _, _, _, _, _, z⟩ := q
    exact z.elim
theorem CalleeX.imp {P : Program} {w : World} {K : PySem.W.Frag} {mg : Str → Option Value} {base : Heap} {x : Str} {k : Nat} {ps : List Str} {sp sp' : Sp} (C : CalleeX P w K mg base x k ps sp) (h : ∀ vs H Q E, sp' vs H Q E → sp vs H Q E) : CalleeX P w K mg base x k ps sp' := by
  obtain ⟨f, fd, hm, hkp, hb, F⟩ := C.ex
  exact ⟨f, fd, hm, hkp, hb, F.imp h⟩
theorem Callee.x {P : Program} {w : World} {K : PySem.W.Frag} {mg : Str → Option Value} {base : Heap} {x : Str} {k : Nat} {ps : List Str} {sp : Sp} (C : Callee P w K mg base x k ps sp) : CalleeX P w K mg base x k ps sp := by
  obtain ⟨f, fd, hm, hkp, hb, F⟩ := C.ex
  refine ⟨f, fd, hm, hkp, hb, F.len, fun A outer s H args us vs Q E hr e0 bt r h => codeAny_mono (F.run A outer s H args us vs Q E hr e0 bt r h) fun res s' q => ?_⟩
  cases res with
  | ok fl => cases fl <;> exact q
  | error e => exact False.elim q
end L2
set_option Elab.async false
set_option linter.all false
set_option maxRecDepth 100000
set_option maxHeartbeats 4000000
namespace L2
open PySem PySem.Spec PyProof.Rows
def excO (a C : Addr) (a0 x1 : Value) : HO := .frz (excRec (.ref C) a0 x1) (.ext fun h => ∃ a0 x1, h.get? a = some (excRec (.ref C) a0 x1))
abbrev bCx (X : Cx) (pins : List (Addr × Obj)) (xe : Value → Shared → Prop) : Cx := { X with pn := X.pn ++ pins, xe := xe }
abbrev hCx (X : Cx) (a : Addr) : Cx := { X with A := X.A.mark (some (.ref a)), calm := false, xe := fun _ _ => False }
section
variable {X : Cx} {pins pl : List (Addr × Obj)} {σ : St} {H H' : Hp} {s s' : Shared} {a C : Addr} {B : Heap} {xe : Value → Shared → Prop}
theorem Inv.toB (I : Inv X pins σ H s) : Inv (bCx X pins xe) [] σ H s :=
  ⟨⟨I.ok.mod, I.ok.kind, I.ok.glob, I.ok.blt, I.ok.above, I.ok.inj, I.ok.has, I.ok.cab, I.ok.hd, I.ok.frames, I.ok.stk, I.ok.exf, I.ok.bs, I.ok.bsz, I.ok.noex, I.ok.exfs, I.ok.funs, I.ok.frf⟩, I.os, I.bare, I.base, I.loc, I.cell, I.free, I.freeC,
    fun p hp => I.pin p (by simpa using hp), I.hok, I.len⟩
theorem Inv.ofB (I : Inv (bCx X pins xe) pl σ H s) : Inv X pins σ H s :=
  ⟨⟨I.ok.mod, I.ok.kind, I.ok.glob, I.ok.blt, I.ok.above, I.ok.inj, I.ok.has, I.ok.cab, I.ok.hd, I.ok.frames, I.ok.stk, I.ok.exf, I.ok.bs, I.ok.bsz, I.ok.noex, I.ok.exfs, I.ok.funs, I.ok.frf⟩, I.os, I.bare, I.base, I.loc, I.cell, I.free, I.freeC,
    fun p hp => I.pin p (List.mem_append_left _ hp), I.hok, I.len⟩
theorem Inv.wishB {xe' : Value → Shared → Prop} (I : Inv (bCx X pins xe) pl σ H s) : Inv (bCx X pins xe') pl σ H s :=
  ⟨⟨I.ok.mod, I.ok.kind, I.ok.glob, I.ok.blt, I.ok.above, I.ok.inj, I.ok.has, I.ok.cab, I.ok.hd, I.ok.frames, I.ok.stk, I.ok.exf, I.ok.bs, I.ok.bsz, I.ok.noex, I.ok.exfs, I.ok.funs, I.ok.frf⟩, I.os, I.bare, I.base, I.loc, I.cell, I.free, I.freeC,
    I.pin, I.hok, I.len⟩
theorem Inv.toH (I : Inv X pins σ H s) (a : Addr) : Inv (hCx X a) pins σ H s :=
  ⟨⟨I.ok.mod, I.ok.kind, I.ok.glob, I.ok.blt, I.ok.above, I.ok.inj, I.ok.has, I.ok.cab, (fun z => nomatch z), I.ok.frames, I.ok.stk, I.ok.exf, I.ok.bs, I.ok.bsz, I.ok.noex, I.ok.exfs, I.ok.funs, I.ok.frf⟩, I.os, I.bare, I.base, I.loc, I.cell, I.free, I.freeC,
    I.pin, I.hok, I.len⟩
theorem Inv.ofH (hd : X.calm = true → X.A.handled = none) (I : Inv (hCx X a) pins σ H s) : Inv X pins σ H s :=
  ⟨⟨I.ok.mod, I.ok.kind, I.ok.glob, I.ok.blt, I.ok.above, I.ok.inj, I.ok.has, I.ok.cab, hd, I.ok.frames, I.ok.stk, I.ok.exf, I.ok.bs, I.ok.bsz, I.ok.noex, I.ok.exfs, I.ok.funs, I.ok.frf⟩, I.os, I.bare, I.base, I.loc, I.cell, I.free, I.freeC,
    I.pin, I.hok, I.len⟩
theorem SP.ofB {D : Ends} {f : Flow} (h : SP (bCx X pins xe) [] D f s') : SP X pins D f s' := by
  cases f with
  | next => obtain ⟨σ', H', I, q⟩ := h; exact ⟨σ', H', I.ofB, q⟩
  | brk => obtain ⟨σ', H', I, q⟩ := h; exact ⟨σ', H', I.ofB, q⟩
  | cont => obtain ⟨σ', H', I, q⟩ := h; exact ⟨σ', H', I.ofB, q⟩
  | ret u => obtain ⟨v, σ', H', I, r, q⟩ := h; exact ⟨v, σ', H', I.ofB, r, q⟩
theorem Flew.inv {h5 : Heap} (I : Inv X pins σ H s) (F : Flew X.prog X.w X.stack H s a C B H' s') (x : Exc B X.stack a (.ref C) .none h5) (up : s'.heap.UpToSlots h5) :
    ∃ a0 x1, Inv X pins σ (upd H' a (excO a C a0 x1)) { s' with heap := h5 } := by
  obtain ⟨a0, T, oT, ts, he, _, _, _, _, _⟩ := x.rcd
  refine ⟨a0, .ref T, ?_⟩
  have fr := F.free
  have un := un_on F.un F.inB F.thB F.exc.frames x.stays up
  have new : ∀ o, s.heap.get? a ≠ some o := fun o e => by
    by_cases hf : a ∈ frs X.stack
    · obtain ⟨_, o', ho', nf⟩ := x.frames.mem hf
      rw [he] at ho'
      cases ho'
      exact nf _ rfl
    · obtain ⟨o', q⟩ := F.thB a o e hf
      rw [x.new] at q
      cases q
  have ne : ∀ b u, H' b = some u → b ≠ a := fun b u e z => by rw [z, fr] at e; cases e
  refine I.call' (ch := []) (s' := { s' with heap := h5 }) F.os ⟨un.keep, un.slot, fun b o e n hx => ?_, un.there, fun b xs e => ?_, fun b o u e => ?_, fun b ps e => ?_⟩ (fun b u e => ?_) F.bare (fun _ z => nomatch z)
  · have : b ≠ a := fun z => new o (z ▸ e)
    rw [upd_ne this]
    exact un.free b o e n hx
  · have q := un.tups b xs e
    rw [upd_ne (ne b _ q)]
    exact q
  · have q := un.frzs b o u e
    rw [upd_ne (ne b _ q)]
    exact q
  · obtain ⟨more, q⟩ := un.tbls b ps e
    exact ⟨more, by rw [upd_ne (ne b _ q)]; exact q⟩
  · by_cases hb : b = a
    · subst hb
      rw [upd_same] at e
      cases e
      exact ⟨he, ⟨_, _, he⟩, ⟨_, he⟩, fun h1 h2 ⟨y0, y1, q⟩ k => ⟨y0, y1, k _ q⟩⟩
    · rw [upd_ne hb] at e
      refine (F.hok b u e).stay (fun c v _ q => x.stays c v q) (fun c q => ?_) fun c xs q => ?_
      · rw [upd_ne (ne c _ q)]; exact q
      · rw [upd_ne (ne c _ q)]; exact q
theorem name_goes {M : Model} {A : Around} {E : Value → Shared → Prop} {i : Nat} {n : Str} {pos : Pos} {Q : Unit → Shared → Prop} (I : Inv X pins σ H s) (hN : X.N.Nodup) (hi : X.N[i]? = some n) (hl : X.env.scope.names.lookup n = some .local)
    (k : ∀ s', Inv X pins (σ.set i none) H s' → Q () s') : wpAny M A (do bindName X.env n .none; unbindBehindTheSuite X.env n pos) Q E s := by
  obtain ⟨m, hn, hm⟩ := id I.loc
  have hcls : (X.env.scope.kind == .class || (X.env.scope.kind == .module && X.env.locals != X.env.globals)) = false := by rw [I.ok.kind]; rfl
  refine wpAny_nameGoes_keeps hl hn hcls fun h' v hn' hs => k _ ?_
  obtain ⟨oL, _, _, hoL, _⟩ := id hn
  have low : ∀ b o, X.s₀.heap.get? b = some o → b ≠ X.env.locals := fun b o e => Nat.ne_of_lt (Nat.lt_of_lt_of_le (Heap.lt_size e) I.ok.above)
  refine ⟨I.ok, I.os, I.bare, ⟨fun b o e n hb hx => ?_, fun b o e n hb hx => ?_, I.base.free, fun b o e hx => ?_, I.base.tups, I.base.frzs, I.base.tbls⟩, ⟨_, hn', fun j y v' e1 e2 e3 => ?_⟩, fun y c e => ?_, I.free, I.freeC, fun p hp => ?_, fun b ob e => ?_, by simpa using I.len⟩
  · exact (hs.2 b (low b o e)).trans (I.base.keep b o e n hb hx)
  · obtain ⟨sl, e1⟩ := I.base.slot b o e n hb hx
    exact ⟨sl, (hs.2 b (low b o e)).trans e1⟩
  · obtain ⟨o', e1⟩ := I.base.there b o e hx
    exact ⟨o', (hs.2 b (low b o e)).trans e1⟩
  · by_cases hj : j = i
    · subst hj
      have : j < σ.length := by
        rcases Nat.lt_or_ge j σ.length with z | z
        · exact z
        · rw [List.getElem?_eq_none (by simpa using z)] at e2; cases e2
      rw [List.getElem?_set_self this] at e2
      cases e2
    · rw [List.getElem?_set_ne (Ne.symm hj)] at e2
      obtain ⟨u, r, q⟩ := hm j y v' e1 e2 e3
      refine ⟨u, r, ?_⟩
      rcases q with ⟨q, e⟩ | ⟨q, c, e, z⟩
      · have : y ≠ n := fun z => hj (nodup_ix hN e1 (z ▸ hi))
        exact .inl ⟨q, by simp [this, e]⟩
      · exact .inr ⟨q, c, e, z.sameBut hs (I.cne y c e)⟩
  · obtain ⟨w', z⟩ := I.cell y c e
    exact ⟨w', z.sameBut hs (I.cne y c e)⟩
  · obtain ⟨e, n, nl, nf, d⟩ := I.pin p hp
    exact ⟨(hs.2 p.1 nl).trans e, n, nl, nf, d⟩
  · refine (I.hok b ob e).stay (fun c w' hc q => (hs.2 c ?_).trans q) (fun _ q => q) fun _ _ q => q
    intro z
    have f := I.free
    rw [← z] at f
    rcases hc with rfl | hc
    · rw [f] at e; cases e
    · rw [f] at hc; cases hc
end
def endsH (D : Ends) (i : Nat) : Ends := { nx := fun σ' H' => D.nx (σ'.set i none) H', rt := D.rt, bk := fun σ' H' => D.bk (σ'.set i none) H', ct := fun σ' H' => D.ct (σ'.set i none) H' }
def xTry (K : PySem.W.Frag) (C0 : Addr) (n i : Nat) (ts : Addr → TS) (D : Ends) : XK := fun cls _ H' => ∃ C, cls = .ref C ∧ PySem.W.exmOne K (.ref C) (.ref C0) = some true ∧
  ∀ a a0 x1, H' a = none → ts a (endsH D i) ((List.replicate n none).set i (some (.ref a))) (upd H' a (excO a C a0 x1))
def tTry (K : PySem.W.Frag) (C0 : Addr) (n i : Nat) (tb : XK → TS) (ts : Addr → TS) : TS := fun D σ H => tb (xTry K C0 n i ts D) D σ H
theorem ps_try {X : Cx} {x n : Str} {C0 : Addr} {i : Nat} {body suite : List Stmt} {b0 : Stmt} {np hpos pos : Pos} {tb : XK → TS} {ts : Addr → TS} (hst : X.stack = X.env :: X.outer) (hfr : X.env.frame = some X.env.locals) (hN : X.N.Nodup) (hi : X.N[i]? = some n)
    (hl : X.env.scope.names.lookup n = some .local) (hx : X.mg x = some (.ref C0)) (hg : Gl X x) (hb : ∀ (pn : List (Addr × Obj)) (xe : Value → Shared → Prop) (E : XK), Passes (CX1 X.prog X.w) { X with pn := pn, xe := xe } E → PSs { X with pn := pn, xe := xe } body (tb E))
    (hs : ∀ a, PSs (hCx X a) (b0 :: suite) (ts a)) (hd : (x == ("__debug__" : Str)) = false := by decide) :
    PS X (.Try body [.ExceptHandler (some (.Name x np)) (some n) (b0 :: suite) hpos] [] [] pos) (tTry X.K C0 X.N.length i tb ts) := by
  intro pins s σ H D I h
  refine wpAny_Try_except ?_
  refine wpAny_mono (hb (X.pn ++ pins) (fun e s' => ∃ pl σ1 H1 s1, Inv (bCx X pins fun _ _ => False) pl σ1 H1 s1 ∧ CX1 X.prog X.w X.stack H1 s1 (xTry X.K C0 X.N.length i ts D) e s') _ (fun pl σ1 H1 s1 e s' I1 q => ⟨pl, σ1, H1, s1, I1.wishB, q⟩) [] s σ H D I.toB h) (fun f s1 q => ?_) fun e s1 q => ?_
  · have q := SP.ofB q
    cases f with
    | next => exact wpAny_execs_nil q
    | brk => exact q
    | cont => exact q
    | ret u => exact q
  · obtain ⟨pl, σ1, H1, s0, I0, a, C, B, H', rfl, F, C', hC, hm, q⟩ := q
    cases hC
    have J0 : Inv X pins σ1 H1 s0 := I0.ofB
    have fx := F.exc
    rw [hst] at fx
    refine note_come (s := s1) (by rw [J0.ok.frames, hst]) hfr fx fun h4 x4 u4 => ?_
    refine flight_none (s := { s1 with heap := h4 }) x4 fun h5 x5 u5 => ?_
    obtain ⟨_, _, J5⟩ := F.inv (h5 := h5) J0 (by rw [hst]; exact x5) (u4.trans u5)
    have k5 := J5.kIn
    have LT : PySem.W.Looks (model X.prog X.w) h5 (typeOf (.ref a)) (.ref C) := by
      obtain ⟨a0, T, _, _, he, _⟩ := x5.rcd
      have : PySem.W.InstAt h5 a (excRec (.ref C) a0 (.ref T)) C none := ⟨he, rfl, rfl, trivial⟩
      exact this.type
    refine wpAny_handleBy_cons (codeAny_handlers_test (ld_glob (J5.toH a) hg hx ?_ hd)) (by intro z; cases z)
    refine PySem.W.exm_one k5 LT hm _ _ _ _ (fun _ _ z => z) ?_
    refine codeAny_handlers_suite_as ?_
    refine flight_none (s := { s1 with heap := h5 }) x5 fun h6 x6 u6 => ?_
    obtain ⟨z0, z1, J6⟩ := F.inv (h5 := h6) J0 (by rw [hst]; exact x6) ((u4.trans u5).trans u6)
    have J6 := J6.weak (σ' := List.replicate X.N.length none) (by rw [List.length_replicate]; exact J6.len.symm) (fun j v z => by
      rw [List.getElem?_replicate] at z
      split at z <;> cases z)
    refine store_ok (X := hCx X a) (i := i) (J6.toH a) hN hi (.inl hl) (v := .ref a) rfl (fun s7 J7 => ?_) (.inr hl)
    refine wpAny_mono (hs a pins s7 _ _ (endsH D i) J7 (q a z0 z1 F.free)) (fun f s8 q8 => ?_) fun _ _ z => z.elim
    have back : ∀ {σ8 : St} {H8 : Hp}, Inv (hCx X a) pins σ8 H8 s8 → Inv X pins σ8 H8 s8 := fun J => J.ofH J0.ok.hd
    cases f with
    | next =>
      obtain ⟨σ8, H8, J8, z⟩ := q8
      exact name_goes (back J8) hN hi hl fun s9 J9 => ⟨_, _, J9, z⟩
    | brk =>
      obtain ⟨σ8, H8, J8, z⟩ := q8
      exact name_goes (back J8) hN hi hl fun s9 J9 => ⟨_, _, J9, z⟩
    | cont =>
      obtain ⟨σ8, H8, J8, z⟩ := q8
      exact name_goes (back J8) hN hi hl fun s9 J9 => ⟨_, _, J9, z⟩
    | ret u =>
      obtain ⟨v, σ8, H8, J8, r, z⟩ := q8
      exact name_goes (back J8) hN hi hl fun s9 J9 => ⟨v, _, _, J9, r, z⟩
structure ExcCls (K : PySem.W.Frag) (C : Addr) : Prop where
  ga : PySem.W.findIn K (.ref C) "__getattribute__" = some (some (.builtin "BaseException.__getattribute__"))
  gh : PySem.W.findIn K (.ref C) "__getattr__" = some none
  cls : PySem.W.hasDictIn K C = true
  ha : PySem.W.findIn K (.ref C) "__class__" = some (some (.builtin "object.__class__"))
  hn : PySem.W.specialIn K (.builtin "object.__class__") "__get__" = some (some (.builtin "getset_descriptor.__get__"))
  htk : PySem.W.takesIn K (.builtin "object.__class__") = some true
  hm : PySem.W.mroIn K C (.type "object") = some true
  hb : PySem.W.mroIn K C (.type "BaseException") = some true
section
variable {K : PySem.W.Frag} {prog : Program} {w : World} {A : Around} {E : Value → Shared → Prop} {s : Shared} {x C : Addr} {ox : Obj}
theorem exc_entry_class {tk : Tok} {Q : Fin → Shared → Prop} (Z : ExcCls K C) (X : K.In s.heap) (I : PySem.W.InstAt s.heap x ox C none) (k : Q (.done (.ret (.ref C))) s) :
    wpAny (model prog w) A (Builtin.«object.__getattribute__» ⟨[.ref x, .str "__class__" tk], []⟩) Q E s := by
  obtain ⟨h, g, d, t, os⟩ := s
  have hf : PySem.W.findObj K C none "__class__" = some (.bind (.builtin "getset_descriptor.__get__") (.builtin "object.__class__")) := by
    obtain ⟨cd, hc, _⟩ := PySem.W.any_some Z.cls
    unfold PySem.W.findObj
    rw [hc, Option.bind_some, Z.ha, Option.bind_some]
    simp [Z.hn, Z.htk]
  have L0 := I.type (M := model prog w)
  have L1 := PySem.W.looks_find (M := model prog w) X I hf
  refine wpAny_bind (wpAny_pure (wpAny_bind (wpAny_pure (wpAny_bind (L0.at (wpAny_bind (L1.at ?_)))))))
  refine wpAny_bind (wpAny_call (PySem.W.class_get (ox := ox) (od := none) X I Z.hm ?_))
  exact wpAny_pure k
theorem exc_ga {nameV : Value} {Q : Unit → Shared → Prop} {M : Model} (Z : ExcCls K C) (X : K.In s.heap) (I : PySem.W.InstAt s.heap x ox C none) (k : Q () s) : wpAny M A (checkBuiltinCall "BaseException.__getattribute__" ⟨[.ref x, nameV], []⟩) Q E s := by
  obtain ⟨h, g, d, t, os⟩ := s
  have L0 := I.type (M := M)
  have L1 := PySem.W.looks_mroIn (M := M) X Z.hb
  have LI : PySem.W.Looks M h (isInstance (.ref x) (.type "BaseException")) true := L0.andThen L1
  have k1 : builtinKind "BaseException.__getattribute__" = some .slot := by decide +kernel
  have k2 : splitId "BaseException.__getattribute__" = some ("BaseException", "__getattribute__") := by decide +kernel
  have k3 := F.args_bexc_ga (.ref x) nameV
  simp only [checkBuiltinCall, k1, k2]
  refine wpAny_bind (wpAny_bind (L0.at (L1.at ?_)))
  rw [if_neg (by decide)]
  exact wpAny_of_eq (a := ()) k3 k
theorem exc_class {Q : Option Value → Shared → Prop} (Z : ExcCls K C) (X : K.In s.heap) (I : PySem.W.InstAt s.heap x ox C none) (k : Q (some (.ref C)) { s with toks := s.toks + 1 }) : wpAny (model prog w) A (getAttr? (.ref x) "__class__") Q E s := by
  obtain ⟨h, g, d, t, os⟩ := s
  have L0 := I.type (M := model prog w)
  have L1 := PySem.W.looks_findIn (M := model prog w) X Z.ga
  have L2 := PySem.W.looks_findIn (M := model prog w) X Z.gh
  unfold getAttr? getAttrBy? getAttrBy
  refine wpAny_bind (wpAny_mkText (wpAny_bind (wpAny_attempt (wpAny_holding (wpAny_bind (L0.at (wpAny_bind (L1.at ?_))))))))
  dsimp only
  have no : (onTheHeap (Value.ref C) && Value.builtin "BaseException.__getattribute__" == Value.builtin "object.__getattribute__") = false := by
    have : (Value.builtin "BaseException.__getattribute__" == Value.builtin "object.__getattribute__") = false := by decide +kernel
    rw [this, Bool.and_false]
  rw [no, if_neg Bool.false_ne_true]
  unfold getAttrByItsOwn hookBefore
  refine wpAny_bind ?_
  rw [if_pos (show onTheHeap (Value.ref C) = true from rfl)]
  refine L2.at ?_
  refine wpAny_bind (wpAny_attempt (wpAny_holding ?_))
  unfold callGetattribute
  rw [if_neg (by simp)]
  unfold boundAndCalled
  refine wpAny_bind (wpAny_of_eq (F.attr_ValueError.ga.bind (.ref x)) ?_)
  refine wpAny_call (codeAny_call_builtin F.attr_ValueError.ga.plain F.entry_bexc_ga (exc_ga (s := ⟨h, g, d, t + 1, os⟩) Z X I (exc_entry_class (s := ⟨h, g, d, t + 1, os⟩) Z X I ?_)))
  exact PySem.W.handed_on rfl (wpAny_pure k)
end
theorem kitx_exc {K : PySem.W.Frag} {x C : Addr} (Z : ExcCls K C) : PySem.W.KitX K (.ref x) (.ref C) (fun h => ∃ a0 x1, h.get? x = some (excRec (.ref C) a0 x1)) where
  ty := fun _ h _ ⟨a0, x1, e⟩ => (show PySem.W.InstAt h x (excRec (.ref C) a0 x1) C none from ⟨e, rfl, rfl, trivial⟩).type
  it := fun _ _ X _ => by
    obtain ⟨cd, hc, _⟩ := PySem.W.any_some Z.cls
    unfold PySem.W.clsIn at hc
    split at hc
    · rename_i look
      intro A' Q' E' s' k q
      unfold isType loadHead
      exact wpAny_bind (wpAny_loadPart (k _ _ (X _ _ look)) (wpAny_pure q))
    · cases hc
  ne := fun h tp dd its n sl X htp => by
    obtain ⟨cd, hc, _⟩ := PySem.W.any_some Z.cls
    refine Bool.eq_false_iff.mpr fun q => ?_
    have e : C = tp := Value.ref.inj (beq_iff_eq.mp q)
    subst e
    unfold PySem.W.clsIn at hc
    split at hc
    · rename_i look
      have z := (X _ _ look).symm.trans htp
      cases z
    · cases hc
  ca := fun {prog w A E Q s} X p k => by
    obtain ⟨a0, x1, e⟩ := p
    exact exc_class Z X (show PySem.W.InstAt s.heap x (excRec (.ref C) a0 x1) C none from ⟨e, rfl, rfl, trivial⟩) k
def asked : V → Option Value
  | .ref D => some (.ref D)
  | .ty T => some (.type T)
  | _ => none
def rIsx (K : PySem.W.Frag) : List V → Hp → VK → Prop := fun xs H Q => ∃ a C a0 x1 c u b, xs = [.ref a, c] ∧ H a = some (excO a C a0 x1) ∧ ExcCls K C ∧ asked c = some u ∧ PySem.W.kitOne K (.ref C) u = some b ∧ Q (.bl b) H
theorem call_isx {X : Cx} : CallR X (.builtin "isinstance") (rIsx X.K) := by
  intro pins s σ H xs us Q I r h
  obtain ⟨a, C, y0, y1, c, u, b, rfl, ha, Z, hc, hb, q⟩ := h
  obtain ⟨u1, v1, rfl, ru, rv⟩ := vals2 r
  cases ru
  have e : v1 = u := by
    cases c with
    | ref D => cases hc; exact rv
    | ty T => cases hc; exact rv
    | _ => cases hc
  subst e
  have ok : ∃ a0 x1, s.heap.get? a = some (excRec (.ref C) a0 x1) := (I.hok a _ ha).2.1
  exact PySem.W.kia_one (kitx_exc Z) I.kIn ok hb (fun z => nomatch z) fun tk => ⟨.bl b, H, I.tok tk, rfl, q⟩
def GRef (mg : Str → Option Value) (x : Str) (a : Addr) : Prop := mg x = some (.ref a)
theorem pe_globR {X : Cx} {x : Str} {a : Addr} {pos : Pos} (h : GRef X.mg x a) (hg : Gl X x := by rfl) (hd : (x == ("__debug__" : Str)) = false := by decide) : PE X (.Name x pos) (tC (.ref a)) := pe_glob hg h rfl hd
end L2
set_option Elab.async false
set_option linter.all false
set_option maxRecDepth 100000
set_option maxHeartbeats 4000000
namespace L2
open PySem PySem.Spec PyProof.Rows
structure RoomX (k : Nat) (A : Around) : Prop where
  dp : A.depth + 3 * k + 5 < recursionLimit
  un : A.units + 16 * k + 200 < cLine
theorem RoomX.deeper {k : Nat} {A : Around} (r : RoomX (k + 1) A) (env : Env) : RoomX k (A.deeper env) := ⟨by have := r.dp; show A.depth + 1 + 3 * k + 5 < _; omega, by have := r.un; show A.units + 3 + 16 * k + 200 < _; omega⟩
theorem RoomX.depth {k : Nat} {A : Around} (r : RoomX k A) : A.depth < recursionLimit := by have := r.dp; omega
theorem RoomX.mono {j k : Nat} {A : Around} (r : RoomX k A) (h : j ≤ k) : RoomX j A := ⟨by have := r.dp; omega, by have := r.un; omega⟩
theorem Room.x {k : Nat} {A : Around} (r : Room k A) (h : Option Value) : RoomX k (A.mark h) := ⟨r.dp, r.un⟩
def QuietAt (A : Around) (H : Hp) : Prop := ∃ e cls a0 x1 u, A.handled = some (.ref e) ∧ H e = some (.frz (excRec cls a0 x1) u)
abbrev Quiet (X : Cx) : Prop := QuietAt X.A X.H₀
abbrev cxOfH (CX : CXT) (P : Program) (w : World) (K : PySem.W.Frag) (mg : Str → Option Value) (base : Heap) (N : List Str) (qual : Str) (scope : Scope) (f : Addr) (cd : Value) (A : Around) (outer : List Env) (s : Shared) (H : Hp) (E : XK) : Cx :=
  { cxOf CX P w K mg base N qual scope f cd A outer s H E with calm := false }
structure FnOkH (P : Program) (w : World) (K : PySem.W.Frag) (mg : Str → Option Value) (base : Heap) (CX : CXT) (k : Nat) (f : Addr) (fd : FuncData) (ps : List Str) (sp : Sp) : Prop where
  len : ∀ vs H Q E, sp vs H Q E → vs.length = ps.length
  run : ∀ (A : Around) (outer : List Env) (s : Shared) (H : Hp) (args : Args) (us : List Value) (vs : List V) (Q : VK) (E : XK), RoomX k A → QuietAt A H → Env0 P w K mg base A outer s H → BindsTo s fd args (ps.zip us) → Vals vs us → sp vs H Q E →
    codeAny (model P w) A (.call (.ref f) args) (CR CX outer P w H s Q E) s
structure TurnQ (P : Program) (w : World) (K : PySem.W.Frag) (tg : Expr) (J : It) (fp : List Addr) (it : Addr) (tn : Nat → Heap → Prop) : Prop where
  mem : it ∈ fp
  obj : ∀ i h, tn i h → ∀ b ∈ fp, ∃ o, h.get? b = some o ∧ ∀ v, o.data ≠ .cell v
  keep : ∀ i h h', tn i h → (∀ b ∈ fp, ∀ o, h.get? b = some o → h'.get? b = some o) → tn i h'
  item : ∀ (X : Cx), X.prog = P → X.w = w → X.K = K → Quiet X → ∀ (i : Nat) (pins : List (Addr × Obj)) (s : Shared) (σ : St) (H : Hp) (E : Value → Shared → Prop), Inv X pins σ H s → (∀ b ∈ fp, FpOk X pins H b) → tn i s.heap → J.go i H →
    wpAny (model P w) X.A (pyNext (.ref it)) (fun r s1 => ∃ u, r = some u ∧
      wpAny (model P w) X.A (letOwnedTupleGo tg (.ref it) u) (fun _ s2 => ∃ x H', Inv X pins σ H' s2 ∧ RelV x u ∧ J.yld i H x H' ∧ tn (i + 1) s2.heap ∧ ∀ b ∈ fp, H' b = none) E s1) E s
  done : ∀ (X : Cx), X.prog = P → X.w = w → X.K = K → Quiet X → ∀ (i : Nat) (pins : List (Addr × Obj)) (s : Shared) (σ : St) (H : Hp) (E : Value → Shared → Prop), Inv X pins σ H s → (∀ b ∈ fp, FpOk X pins H b) → tn i s.heap → J.stop i H →
    wpAny (model P w) X.A (pyNext (.ref it)) (fun r s1 => r = none ∧ Inv X pins σ H s1) E s
  self : ∀ (A : Around) (i : Nat) (s : Shared) (Q : Value → Shared → Prop) (E : Value → Shared → Prop), tn i s.heap → Q (.ref it) s → wpAny (model P w) A (pyIter (.ref it)) Q E s
def PIQE (X : Cx) (pins : List (Addr × Obj)) (σ : St) (tg : Expr) (R : It → Hp → Prop) (itv : Value) (s2 : Shared) : Prop :=
  ∃ (it : Addr) (fp : List Addr) (tn : Nat → Heap → Prop) (J : It) (H' : Hp), itv = .ref it ∧ Inv X pins σ H' s2 ∧ TurnQ X.prog X.w X.K tg J fp it tn ∧ tn 0 s2.heap ∧ (∀ b ∈ fp, FpOk X pins H' b) ∧ R J H'
def PIQ (X : Cx) (tg iter : Expr) (wi : TI) : Prop :=
  ∀ (pins : List (Addr × Obj)) (s : Shared) (σ : St) (H : Hp) (R : It → Hp → Prop), Inv X pins σ H s → wi σ H R →
    wpAny (model X.prog X.w) X.A (eval iter X.env) (fun v s1 => wpAny (model X.prog X.w) X.A (pyIter v) (PIQE X pins σ tg R) X.xe s1) X.xe s
section
variable {X : Cx} {tg : Expr}
end
section
variable {P : Program} {w : World} {K : PySem.W.Frag} {mg : Str → Option Value} {base : Heap}
structure CalleeH (P : Program) (w : World) (K : PySem.W.Frag) (mg : Str → Option Value) (base : Heap) (x : Str) (k : Nat) (ps : List Str) (sp : Sp) : Prop where
  ex : ∃ f fd, mg x = some (.ref f) ∧ PySem.W.keepIn K (.ref f) = true ∧ Binds K fd ps [] ∧ FnOkH P w K mg base CX0 k f fd ps sp
end
def tCallH (A : Around) (sp : Sp) (t : TA) : TE := fun σ H Q => t σ H fun vs H1 => QuietAt A H1 ∧ sp (vs ++ []) H1 Q E0
end L2
set_option maxHeartbeats 4000000
namespace Nim
def N (d : Nat) : Nat := 2 ^ (2 ^ d)
theorem N_pos (d : Nat) : 0 < N d := Nat.two_pow_pos _
theorem N_succ (d : Nat) : N (d + 1) = N d * N d := by
  unfold N; rw [← Nat.pow_add, Nat.pow_succ]; congr 1; omega
theorem two_le_N (d : Nat) : 2 ≤ N d := by
  unfold N
  calc 2 = 2 ^ 1 := rfl
    _ ≤ 2 ^ (2 ^ d) := Nat.pow_le_pow_right (by decide) (Nat.one_le_two_pow)
theorem xor_lt {d a b : Nat} (ha : a < N d) (hb : b < N d) : a ^^^ b < N d := Nat.xor_lt_two_pow ha hb
theorem xor_div (a b d : Nat) : (a ^^^ b) / N d = a / N d ^^^ b / N d := Nat.xor_div_two_pow
theorem xor_mod (a b d : Nat) : (a ^^^ b) % N d = a % N d ^^^ b % N d := Nat.xor_mod_two_pow
theorem xor_mul (a b d : Nat) : (a ^^^ b) * N d = a * N d ^^^ b * N d := by
  unfold N; rw [← Nat.shiftLeft_eq, ← Nat.shiftLeft_eq, ← Nat.shiftLeft_eq, Nat.shiftLeft_xor_distrib]
theorem pack_div {d x y : Nat} (hy : y < N d) : (x * N d ^^^ y) / N d = x := by
  rw [xor_div, Nat.mul_div_cancel _ (N_pos d), Nat.div_eq_of_lt hy, Nat.xor_zero]
theorem pack_mod {d x y : Nat} (hy : y < N d) : (x * N d ^^^ y) % N d = y := by
  rw [xor_mod, Nat.mul_mod_left, Nat.mod_eq_of_lt hy, Nat.zero_xor]
theorem pack_eq {d x y : Nat} (hy : y < N d) : x * N d ^^^ y = x * N d + y := by
  have h1 := pack_div (x := x) hy
  have h2 := pack_mod (x := x) hy
  have h3 := Nat.div_add_mod (x * N d ^^^ y) (N d)
  rw [h1, h2, Nat.mul_comm] at h3
  exact h3.symm
theorem pack_lt {d x y : Nat} (hx : x < N d) (hy : y < N d) : x * N d ^^^ y < N (d + 1) := by
  rw [pack_eq hy, N_succ]
  have h : (x + 1) * N d ≤ N d * N d := Nat.mul_le_mul_right _ hx
  rw [Nat.add_mul, Nat.one_mul] at h
  omega
theorem unpack {d a : Nat} : (a / N d) * N d ^^^ a % N d = a := by
  rw [pack_eq (Nat.mod_lt _ (N_pos d)), Nat.mul_comm]; exact Nat.div_add_mod a (N d)
theorem div_lt {d a : Nat} (h : a < N (d + 1)) : a / N d < N d := by
  rw [N_succ] at h; exact Nat.div_lt_of_lt_mul h
theorem mod_lt {d a : Nat} : a % N d < N d := Nat.mod_lt _ (N_pos d)
theorem half_lt (d : Nat) : N d / 2 < N d := Nat.div_lt_self (N_pos d) (by decide)
def nim : Nat → Nat → Nat → Nat
  | 0, a, b => a * b
  | d + 1, a, b =>
    (nim d (a / N d ^^^ a % N d) (b / N d ^^^ b % N d) ^^^ nim d (a % N d) (b % N d)) * N d
      ^^^ nim d (nim d (a / N d) (b / N d)) (N d / 2) ^^^ nim d (a % N d) (b % N d)
structure Fld (n : Nat) (m : Nat → Nat → Nat) : Prop where
  lt : ∀ {a b}, a < n → b < n → m a b < n
  comm : ∀ {a b}, a < n → b < n → m a b = m b a
  add : ∀ {a b c}, a < n → b < n → c < n → m a (b ^^^ c) = m a b ^^^ m a c
  assoc : ∀ {a b c}, a < n → b < n → c < n → m (m a b) c = m a (m b c)
  one : ∀ {a}, a < n → m 1 a = a
theorem Fld.zero {n m a} (h : Fld n m) (ha : a < n) (hn : 0 < n) : m a 0 = 0 := by
  have e := h.add ha hn hn
  rw [Nat.xor_self, Nat.xor_self] at e
  exact e
theorem xor_cancel (x y : Nat) : (x ^^^ y) ^^^ y = x := by rw [Nat.xor_assoc, Nat.xor_self, Nat.xor_zero]
theorem fld0 : Fld (N 0) (nim 0) := by
  have e : N 0 = 2 := rfl
  have two : ∀ {a : Nat}, a < N 0 → a = 0 ∨ a = 1 := by intro a h; rw [e] at h; omega
  refine ⟨?_, ?_, ?_, ?_, ?_⟩
  · intro a b ha hb; rcases two ha with rfl | rfl <;> rcases two hb with rfl | rfl <;> decide
  · intro a b ha hb; exact Nat.mul_comm a b
  · intro a b c ha hb hc; rcases two ha with rfl | rfl <;> rcases two hb with rfl | rfl <;> rcases two hc with rfl | rfl <;> decide
  · intro a b c ha hb hc; exact Nat.mul_assoc a b c
  · intro a ha; exact Nat.one_mul a
theorem nim_succ {d : Nat} (F : Fld (N d) (nim d)) {a b : Nat} (ha : a < N (d + 1)) (hb : b < N (d + 1)) :
    nim (d + 1) a b = (nim d (a / N d) (b / N d) ^^^ nim d (a / N d) (b % N d) ^^^ nim d (a % N d) (b / N d)) * N d
      ^^^ (nim d (nim d (a / N d) (b / N d)) (N d / 2) ^^^ nim d (a % N d) (b % N d)) := by
  have a1 := div_lt ha
  have a0 : a % N d < N d := mod_lt
  have b1 := div_lt hb
  have b0 : b % N d < N d := mod_lt
  show (nim d (a / N d ^^^ a % N d) (b / N d ^^^ b % N d) ^^^ nim d (a % N d) (b % N d)) * N d
      ^^^ nim d (nim d (a / N d) (b / N d)) (N d / 2) ^^^ nim d (a % N d) (b % N d) = _
  rw [Nat.xor_assoc (_ * N d)]
  congr 2
  rw [F.add (xor_lt a1 a0) b1 b0, F.comm (xor_lt a1 a0) b1, F.comm (xor_lt a1 a0) b0, F.add b1 a1 a0, F.add b0 a1 a0,
    F.comm b1 a1, F.comm b1 a0, F.comm b0 a1, F.comm b0 a0]
  generalize nim d (a / N d) (b / N d) = p
  generalize nim d (a / N d) (b % N d) = q
  generalize nim d (a % N d) (b / N d) = r
  generalize nim d (a % N d) (b % N d) = t
  rw [← Nat.xor_assoc, xor_cancel, Nat.xor_assoc, Nat.xor_assoc, Nat.xor_comm r q]
theorem fldS {d : Nat} (F : Fld (N d) (nim d)) : Fld (N (d + 1)) (nim (d + 1)) := by
  have Hlt : ∀ {a b}, a < N (d + 1) → b < N (d + 1) → nim (d + 1) a b < N (d + 1) := by
    intro a b ha hb
    have a1 := div_lt ha
    have a0 : a % N d < N d := mod_lt
    have b1 := div_lt hb
    have b0 : b % N d < N d := mod_lt
    rw [nim_succ F ha hb]
    exact pack_lt (xor_lt (xor_lt (F.lt a1 b1) (F.lt a1 b0)) (F.lt a0 b1)) (xor_lt (F.lt (F.lt a1 b1) (half_lt d)) (F.lt a0 b0))
  refine ⟨Hlt, ?_, ?_, ?_, ?_⟩
  · intro a b ha hb
    have a1 := div_lt ha
    have a0 : a % N d < N d := mod_lt
    have b1 := div_lt hb
    have b0 : b % N d < N d := mod_lt
    rw [nim_succ F ha hb, nim_succ F hb ha, F.comm a1 b1, F.comm a1 b0, F.comm a0 b1, F.comm a0 b0]
    congr 2
    rw [Nat.xor_assoc, Nat.xor_assoc, Nat.xor_comm (nim d (b % N d) _)]
  · intro a b c ha hb hc
    have a1 := div_lt ha
    have a0 : a % N d < N d := mod_lt
    have b1 := div_lt hb
    have b0 : b % N d < N d := mod_lt
    have c1 := div_lt hc
    have c0 : c % N d < N d := mod_lt
    have k := half_lt d
    rw [nim_succ F ha (xor_lt hb hc), nim_succ F ha hb, nim_succ F ha hc, xor_div, xor_mod,
      F.add a1 b1 c1, F.add a1 b0 c0, F.add a0 b1 c1, F.add a0 b0 c0,
      F.comm (xor_lt (F.lt a1 b1) (F.lt a1 c1)) k, F.add k (F.lt a1 b1) (F.lt a1 c1), F.comm k (F.lt a1 b1), F.comm k (F.lt a1 c1)]
    simp only [xor_mul]
    ac_rfl
  · intro a b c ha hb hc
    have a1 := div_lt ha
    have a0 : a % N d < N d := mod_lt
    have b1 := div_lt hb
    have b0 : b % N d < N d := mod_lt
    have c1 := div_lt hc
    have c0 : c % N d < N d := mod_lt
    have k := half_lt d
    have lab := xor_lt (F.lt (F.lt a1 b1) k) (F.lt a0 b0)
    have lbc := xor_lt (F.lt (F.lt b1 c1) k) (F.lt b0 c0)
    rw [nim_succ F (Hlt ha hb) hc, nim_succ F ha (Hlt hb hc), nim_succ F ha hb, nim_succ F hb hc]
    rw [pack_div lab, pack_mod lab, pack_div lbc, pack_mod lbc]
    generalize a / N d = x1 at *
    generalize a % N d = x0 at *
    generalize b / N d = y1 at *
    generalize b % N d = y0 at *
    generalize c / N d = z1 at *
    generalize c % N d = z0 at *
    generalize N d / 2 = e at *
    have add3 : ∀ {u v w t : Nat}, u < N d → v < N d → w < N d → t < N d → nim d (u ^^^ v ^^^ w) t = nim d u t ^^^ nim d v t ^^^ nim d w t := by
      intro u v w t hu hv hw ht
      rw [F.comm (xor_lt (xor_lt hu hv) hw) ht, F.add ht (xor_lt hu hv) hw, F.add ht hu hv, F.comm hu ht, F.comm hv ht, F.comm hw ht]
    have add3' : ∀ {u v w t : Nat}, u < N d → v < N d → w < N d → t < N d → nim d t (u ^^^ v ^^^ w) = nim d t u ^^^ nim d t v ^^^ nim d t w := by
      intro u v w t hu hv hw ht
      rw [F.add ht (xor_lt hu hv) hw, F.add ht hu hv]
    have add2 : ∀ {u v t : Nat}, u < N d → v < N d → t < N d → nim d (u ^^^ v) t = nim d u t ^^^ nim d v t := by
      intro u v t hu hv ht
      rw [F.comm (xor_lt hu hv) ht, F.add ht hu hv, F.comm hu ht, F.comm hv ht]
    have sw : ∀ {u v : Nat}, u < N d → v < N d → nim d (nim d u e) v = nim d (nim d u v) e := by
      intro u v hu hv
      rw [F.assoc hu k hv, F.comm k hv, ← F.assoc hu hv k]
    have p11 := F.lt a1 b1
    have p10 := F.lt a1 b0
    have p01 := F.lt a0 b1
    have p00 := F.lt a0 b0
    have q11 := F.lt b1 c1
    have q10 := F.lt b1 c0
    have q01 := F.lt b0 c1
    have q00 := F.lt b0 c0
    rw [add3 p11 p10 p01 c1, add3 p11 p10 p01 c0, add2 (F.lt p11 k) p00 c1, add2 (F.lt p11 k) p00 c0,
      add3' q11 q10 q01 a1, add3' q11 q10 q01 a0, F.add a1 (F.lt q11 k) q00, F.add a0 (F.lt q11 k) q00]
    rw [sw p11 c1, sw p11 c0, ← F.assoc a1 q11 k, ← F.assoc a0 q11 k]
    rw [F.assoc a1 b1 c1, F.assoc a1 b0 c1, F.assoc a0 b1 c1, F.assoc a1 b1 c0, F.assoc a1 b0 c0, F.assoc a0 b1 c0, F.assoc a0 b0 c1, F.assoc a0 b0 c0]
    rw [add3 (F.lt a1 q11) (F.lt a1 q01) (F.lt a0 q11) k, add3 (F.lt a1 q11) (F.lt a1 q10) (F.lt a1 q01) k]
    simp only [xor_mul]
    ac_rfl
  · intro a ha
    have a1 := div_lt ha
    have a0 : a % N d < N d := mod_lt
    have one_lt : 1 < N d := by have := two_le_N d; omega
    have o1 : (1 : Nat) < N (d + 1) := by have := two_le_N (d + 1); omega
    rw [nim_succ F o1 ha, Nat.div_eq_of_lt one_lt, Nat.mod_eq_of_lt one_lt]
    have z := N_pos d
    rw [F.comm z a1, F.zero a1 z, F.comm z a0, F.zero a0 z, F.one a1, F.one a0, F.comm z (half_lt d), F.zero (half_lt d) z]
    rw [Nat.xor_zero, Nat.zero_xor, Nat.zero_xor]
    exact unpack
theorem fld : ∀ d, Fld (N d) (nim d)
  | 0 => fld0
  | d + 1 => fldS (fld d)
def xI (x y : Int) : Int := ((x.toNat ^^^ y.toNat : Nat) : Int)
theorem N4 : N 4 = 65536 := by decide
theorem N3 : N 3 = 256 := by decide
theorem N2 : N 2 = 16 := by decide
theorem N1 : N 1 = 4 := by decide
theorem N0 : N 0 = 2 := by decide
def pI (a b d : Int) : Int := ((nim (d.toNat % 5) (a.toNat % N (d.toNat % 5)) (b.toNat % N (d.toNat % 5)) : Nat) : Int)
theorem pI_nat {a b d : Nat} (hd : d < 5) (ha : a < N d) (hb : b < N d) : pI (a : Int) (b : Int) (d : Int) = ((nim d a b : Nat) : Int) := by
  unfold pI
  rw [Int.toNat_natCast, Int.toNat_natCast, Int.toNat_natCast, Nat.mod_eq_of_lt hd, Nat.mod_eq_of_lt ha, Nat.mod_eq_of_lt hb]
theorem small {d a b : Nat} (ha : a < N d) (hb : b < N d) (h : a < 2 ∨ b < 2) : nim d a b = a * b := by
  have F := fld d
  have z := N_pos d
  rcases h with h | h
  · rcases (show a = 0 ∨ a = 1 by omega) with rfl | rfl
    · rw [F.comm z hb, F.zero hb z, Nat.zero_mul]
    · rw [F.one hb, Nat.one_mul]
  · rcases (show b = 0 ∨ b = 1 by omega) with rfl | rfl
    · rw [F.zero ha z, Nat.mul_zero]
    · rw [F.comm ha (by have := two_le_N d; omega), F.one ha, Nat.mul_one]
theorem pI_small {a b d : Int} (a0 : 0 ≤ a) (b0 : 0 ≤ b) (d0 : 0 ≤ d) (hd : d < 5) (ha : a.toNat < N d.toNat) (hb : b.toNat < N d.toNat) (h : a < 2 ∨ b < 2) :
    a * b = pI a b d := by
  obtain ⟨a, rfl⟩ := Int.eq_ofNat_of_zero_le a0
  obtain ⟨b, rfl⟩ := Int.eq_ofNat_of_zero_le b0
  obtain ⟨d, rfl⟩ := Int.eq_ofNat_of_zero_le d0
  simp only [Int.toNat_natCast] at ha hb
  rw [pI_nat (by omega) ha hb, small ha hb (by omega)]
  exact (Int.natCast_mul a b).symm
def tI (a b : Int) : Int := pI a b 4
end Nim
set_option maxHeartbeats 4000000
namespace Row
def xs {α : Type} (f : α → Nat) : List α → Nat
  | [] => 0
  | a :: r => f a ^^^ xs f r
def mexGo (S : List Nat) : Nat → Nat → Nat
  | 0, n => n
  | k + 1, n => if n ∈ S then mexGo S k (n + 1) else n
def mex (S : List Nat) : Nat := mexGo S S.length 0
abbrev Rule := Nat × Nat
def shapes (r : Rule) (last : Nat) : List (List Nat) :=
  (List.range' 1 r.2).flatMap fun many =>
    if r.1 = 2 then (if many ≤ last + 1 then [(List.range many).map fun k => last + 1 - many + k] else [])
    else if r.1 = 0 ∨ many = r.2 then
      (if many = 1 then [[last]] else []) ++ (if many = 2 then (List.range last).map fun one => [one, last] else []) ++
      (if many = 3 then (List.range last).flatMap fun one => (List.range' (one + 1) (last - (one + 1))).map fun two => [one, two, last] else [])
    else []
def IsShape (last : Nat) (s : List Nat) : Prop := ∃ a : List Nat, s = a ++ [last] ∧ (∀ p ∈ a, p < last) ∧ a.Pairwise (· < ·)
theorem shapes_is {r : Rule} {last : Nat} {s : List Nat} (h : s ∈ shapes r last) : IsShape last s := by
  unfold shapes at h
  obtain ⟨many, hm, h⟩ := List.mem_flatMap.mp h
  rw [List.mem_range'_1] at hm
  by_cases c : r.1 = 2
  · rw [if_pos c] at h
    by_cases d : many ≤ last + 1
    · rw [if_pos d] at h
      have h := List.mem_singleton.mp h
      obtain ⟨k, rfl⟩ : ∃ k, many = k + 1 := ⟨many - 1, by omega⟩
      refine ⟨(List.range k).map fun j => last + 1 - (k + 1) + j, ?_, ?_, ?_⟩
      · rw [h, List.range_succ, List.map_append]
        simp
        omega
      · intro p hp
        obtain ⟨j, hj, rfl⟩ := List.mem_map.mp hp
        have := List.mem_range.mp hj
        omega
      · rw [List.pairwise_map]
        exact List.Pairwise.imp (fun h => by omega) List.pairwise_lt_range
    · rw [if_neg d] at h
      exact absurd h (by simp)
  · rw [if_neg c] at h
    by_cases d : r.1 = 0 ∨ many = r.2
    · rw [if_pos d] at h
      rcases List.mem_append.mp h with h | h
      · rcases List.mem_append.mp h with h | h
        · split at h
          · exact ⟨[], by simpa using h, by simp, by simp⟩
          · exact absurd h (by simp)
        · split at h
          · obtain ⟨one, ho, rfl⟩ := List.mem_map.mp h
            exact ⟨[one], rfl, by simpa using List.mem_range.mp ho, by simp⟩
          · exact absurd h (by simp)
      · split at h
        · obtain ⟨one, ho, h⟩ := List.mem_flatMap.mp h
          obtain ⟨two, ht, rfl⟩ := List.mem_map.mp h
          rw [List.mem_range'_1] at ht
          have ho := List.mem_range.mp ho
          exact ⟨[one, two], rfl, by intro p hp; simp at hp; omega, by simp; omega⟩
        · exact absurd h (by simp)
    · rw [if_neg d] at h
      exact absurd h (by simp)
def at0 (told : List Nat) (p : Nat) : Nat := told.getD p 0
def reach (r : Rule) (told : List Nat) (last : Nat) : List Nat := (shapes r last).map fun s => xs (at0 told) s.dropLast
def nums (r : Rule) : Nat → List Nat
  | 0 => []
  | n + 1 => nums r n ++ [mex (reach r (nums r n) n)]
def num (r : Rule) (p : Nat) : Nat := mex (reach r (nums r p) p)
end Row
set_option maxHeartbeats 4000000
namespace Nim
def NoZero (n : Nat) (m : Nat → Nat → Nat) : Prop := ∀ a b, a < n → b < n → m a b = 0 → a = 0 ∨ b = 0
def NoRoot (d : Nat) : Prop := ∀ t, t < N d → nim d t t ^^^ t ≠ N d / 2
def noRootB (d n : Nat) : Bool := (List.range n).all fun t => nim d t t ^^^ t != N d / 2
def tab : List (List Nat) := [[0, 0, 0, 0, 0, 0, 0, 0, 0, 0, 0, 0, 0, 0, 0, 0, 0],
  [0, 1, 2, 3, 4, 5, 6, 7, 8, 9, 10, 11, 12, 13, 14, 15, 16],
  [0, 2, 3, 1, 8, 10, 11, 9, 12, 14, 15, 13, 4, 6, 7, 5, 32],
  [0, 3, 1, 2, 12, 15, 13, 14, 4, 7, 5, 6, 8, 11, 9, 10, 48],
  [0, 4, 8, 12, 6, 2, 14, 10, 11, 15, 3, 7, 13, 9, 5, 1, 64],
  [0, 5, 10, 15, 2, 7, 8, 13, 3, 6, 9, 12, 1, 4, 11, 14, 80],
  [0, 6, 11, 13, 14, 8, 5, 3, 7, 1, 12, 10, 9, 15, 2, 4, 96],
  [0, 7, 9, 14, 10, 13, 3, 4, 15, 8, 6, 1, 5, 2, 12, 11, 112],
  [0, 8, 12, 4, 11, 3, 7, 15, 13, 5, 1, 9, 6, 14, 10, 2, 128],
  [0, 9, 14, 7, 15, 6, 1, 8, 5, 12, 11, 2, 10, 3, 4, 13, 144],
  [0, 10, 15, 5, 3, 9, 12, 6, 1, 11, 14, 4, 2, 8, 13, 7, 160],
  [0, 11, 13, 6, 7, 12, 10, 1, 9, 2, 4, 15, 14, 5, 3, 8, 176],
  [0, 12, 4, 8, 13, 1, 9, 5, 6, 10, 2, 14, 11, 7, 15, 3, 192],
  [0, 13, 6, 11, 9, 4, 15, 2, 14, 3, 8, 5, 7, 10, 1, 12, 208],
  [0, 14, 7, 9, 5, 11, 2, 12, 10, 4, 13, 3, 15, 1, 8, 6, 224],
  [0, 15, 5, 10, 1, 14, 4, 11, 2, 13, 7, 8, 3, 12, 6, 9, 240],
  [0, 16, 32, 48, 64, 80, 96, 112, 128, 144, 160, 176, 192, 208, 224, 240, 24]]
def tb (a b : Nat) : Nat := (tab.getD a []).getD b 0
def maskD (a b c : Nat) : Nat → Nat
  | 0 => 0
  | d + 1 => maskD a b c d ||| 1 <<< (tb c b ^^^ tb a d ^^^ tb c d)
def maskC (a b : Nat) : Nat → Nat
  | 0 => 0
  | c + 1 => maskC a b c ||| maskD a b c b
end Nim
namespace Row
open Nim
def cross (as bs : List Nat) : List (Nat × Nat) := as.flatMap fun x => bs.map fun y => (x, y)
def num2 (rx ry : Rule) (p : Nat × Nat) : Nat := nim 4 (num rx p.1) (num ry p.2)
end Row
set_option maxHeartbeats 4000000
namespace Row
def Sorted (l : List Nat) : Prop := l.Pairwise (· < ·)
theorem sorted_ext : ∀ {l r : List Nat}, Sorted l → Sorted r → (∀ a, a ∈ l ↔ a ∈ r) → l = r
  | [], [], _, _, _ => rfl
  | [], b :: r, _, _, h => absurd ((h b).mpr List.mem_cons_self) (by simp)
  | a :: l, [], _, _, h => absurd ((h a).mp List.mem_cons_self) (by simp)
  | a :: l, b :: r, hl, hr, h => by
    obtain ⟨hl1, hl2⟩ := List.pairwise_cons.mp hl
    obtain ⟨hr1, hr2⟩ := List.pairwise_cons.mp hr
    have e : a = b := by
      rcases List.mem_cons.mp ((h a).mp List.mem_cons_self) with q | q
      · exact q
      · rcases List.mem_cons.mp ((h b).mpr List.mem_cons_self) with z | z
        · exact z.symm
        · have := hr1 a q
          have := hl1 b z
          omega
    subst e
    rw [sorted_ext hl2 hr2 fun c => ?_]
    constructor
    · intro hc
      rcases List.mem_cons.mp ((h c).mp (List.mem_cons_of_mem _ hc)) with q | q
      · have := hl1 c hc; omega
      · exact q
    · intro hc
      rcases List.mem_cons.mp ((h c).mpr (List.mem_cons_of_mem _ hc)) with q | q
      · have := hr1 c hc; omega
      · exact q
theorem sorted_filter (n : Nat) (p : Nat → Bool) : Sorted ((List.range n).filter p) := List.Pairwise.filter _ List.pairwise_lt_range
theorem filter_self {l : List Nat} {n : Nat} (h : Sorted l) (hn : ∀ a ∈ l, a < n) : (List.range n).filter (fun a => decide (a ∈ l)) = l := by
  refine sorted_ext (sorted_filter n _) h fun a => ?_
  rw [List.mem_filter, List.mem_range, decide_eq_true_iff]
  exact ⟨fun q => q.2, fun q => ⟨hn a q, q⟩⟩
def behind (n : Nat) (heads s : List Nat) : List Nat := (List.range n).filter fun a => decide (a ∈ heads) != decide (a ∈ s)
theorem behind_sorted (n : Nat) (heads s : List Nat) : Sorted (behind n heads s) := sorted_filter n _
theorem behind_lt {n : Nat} {heads s : List Nat} : ∀ a ∈ behind n heads s, a < n := fun _ h => List.mem_range.mp (List.mem_filter.mp h).1
theorem shape_le {r : Rule} {last : Nat} {s : List Nat} (h : s ∈ shapes r last) : ∀ p ∈ s, p ≤ last := fun p hp => by
  obtain ⟨a, rfl, hl, _⟩ := shapes_is h
  rcases List.mem_append.mp hp with q | q
  · exact Nat.le_of_lt (hl p q)
  · rw [List.mem_singleton.mp q]; exact Nat.le_refl _
def weight (l : List Nat) : Nat := xs (fun p => 2 ^ p) l
def Good (r : Rule) : Prop := ((r.1 = 0 ∨ r.1 = 1) ∧ 1 ≤ r.2 ∧ r.2 ≤ 3) ∨ (r.1 = 2 ∧ 1 ≤ r.2 ∧ r.2 ≤ 40)
end Row
set_option Elab.async false
set_option linter.all false
set_option maxRecDepth 100000
set_option maxHeartbeats 4000000
namespace K4
open Nim
theorem small {a b d : Int} (a0 : 0 ≤ a) (b0 : 0 ≤ b) (P : (d = 0 ∧ a < 2 ∧ b < 2) ∨ (d = 1 ∧ a < 4 ∧ b < 4) ∨ (d = 2 ∧ a < 16 ∧ b < 16) ∨ (d = 3 ∧ a < 256 ∧ b < 256) ∨ (d = 4 ∧ a < 65536 ∧ b < 65536)) (h : a < 2 ∨ b < 2) : a * b = pI a b d := by
  rcases P with ⟨rfl, h1, h2⟩ | ⟨rfl, h1, h2⟩ | ⟨rfl, h1, h2⟩ | ⟨rfl, h1, h2⟩ | ⟨rfl, h1, h2⟩
  · exact pI_small a0 b0 (by decide) (by decide) (by show a.toNat < N 0; rw [N0]; omega) (by show b.toNat < N 0; rw [N0]; omega) h
  · exact pI_small a0 b0 (by decide) (by decide) (by show a.toNat < N 1; rw [N1]; omega) (by show b.toNat < N 1; rw [N1]; omega) h
  · exact pI_small a0 b0 (by decide) (by decide) (by show a.toNat < N 2; rw [N2]; omega) (by show b.toNat < N 2; rw [N2]; omega) h
  · exact pI_small a0 b0 (by decide) (by decide) (by show a.toNat < N 3; rw [N3]; omega) (by show b.toNat < N 3; rw [N3]; omega) h
  · exact pI_small a0 b0 (by decide) (by decide) (by show a.toNat < N 4; rw [N4]; omega) (by show b.toNat < N 4; rw [N4]; omega) h
end K4
namespace K1
open Nim
structure Part (one two bit total : Int) : Prop where
  ex : ∃ k : Nat, k ≤ 16 ∧ bit = ((2 ^ k : Nat) : Int) ∧ total = ((one.toNat % 2 ^ k ^^^ two.toNat % 2 ^ k : Nat) : Int)
theorem start (one two : Int) : (1 : Int) ≤ 1 ∧ (1 : Int) ≤ 65536 ∧ (0 : Int) ≤ 0 ∧ Part one two 1 0 :=
  ⟨by decide, by decide, by decide, ⟨0, by decide, by decide, by simp [Nat.mod_one]⟩⟩
theorem fd {x : Int} {k : Nat} (h : 0 ≤ x) : Int.fdiv x ((2 ^ k : Nat) : Int) % 2 = ((x.toNat / 2 ^ k % 2 : Nat) : Int) := by
  obtain ⟨n, rfl⟩ := Int.eq_ofNat_of_zero_le h
  rw [Int.fdiv_eq_ediv_of_nonneg _ (Int.natCast_nonneg _), Int.toNat_natCast]
  rfl
theorem out {one two bit total : Int} (h : Part one two bit total) (hb : ¬ bit < 65536) (l1 : one < 65536) (l2 : two < 65536) : total = xI one two := by
  obtain ⟨k, hk, eb, et⟩ := h
  have k16 : k = 16 := by
    rcases Nat.lt_or_ge k 16 with h | h
    · have := Nat.pow_lt_pow_right (a := 2) (by decide) h
      have e : (2 : Nat) ^ 16 = 65536 := by decide
      omega
    · omega
  subst k16
  have e : (2 : Nat) ^ 16 = 65536 := by decide
  rw [e] at et
  rw [et, Nat.mod_eq_of_lt (by omega), Nat.mod_eq_of_lt (by omega)]
  rfl
end K1
set_option Elab.async false
set_option linter.all false
set_option maxRecDepth 100000
set_option maxHeartbeats 4000000
namespace L2
open PySem PySem.Spec PyProof.Rows PySem.SeqAt
inductive Dt where
  | int (i : Int) | str (x : Str) | seq (t : Bool) (xs : List Dt)
def Dat (K : PySem.W.Frag) (H : Hp) : Nat → Dt → V → Prop
  | 0, d, v => match d with
    | .int i => v = .int i
    | .str x => v = .str x
    | .seq _ _ => False
  | n + 1, d, v => match d with
    | .int i => v = .int i
    | .str x => v = .str x
    | .seq t xs => ∃ p vs, v = .ref p ∧ (if t = true then SqT K H p vs else SqL K H p vs) ∧ Paired (Dat K H n) xs vs
theorem Dat.int {K : PySem.W.Frag} {H : Hp} {n : Nat} {i : Int} {v : V} : Dat K H n (.int i) v ↔ v = .int i := by cases n <;> exact Iff.rfl
theorem Dat.str {K : PySem.W.Frag} {H : Hp} {n : Nat} {x : Str} {v : V} : Dat K H n (.str x) v ↔ v = .str x := by cases n <;> exact Iff.rfl
theorem paired_get {α β : Type} {F : α → β → Prop} : ∀ {l : List α} {r : List β} {i : Nat} {b : β}, Paired F l r → r[i]? = some b → ∃ a, l[i]? = some a ∧ F a b
  | _, _, i, b, .nil, h => by simp at h
  | _, _, 0, b, .cons f _, h => by simp at h; subst h; exact ⟨_, rfl, f⟩
  | _, _, i + 1, b, .cons _ t, h => by
    obtain ⟨a, h1, h2⟩ := paired_get (i := i) (b := b) t (by simpa using h)
    exact ⟨a, by simpa using h1, h2⟩
section
variable {X : Cx} {pins : List (Addr × Obj)} {σ : St} {H : Hp} {s : Shared}
theorem not_both (I : Inv X pins σ H s) {p : Addr} {vs ws : List V} (h1 : SqT X.K H p vs) (h2 : SqL X.K H p ws) : False := by
  obtain ⟨_, _, ⟨o, e, c, _⟩, _⟩ := I.tuple h1
  obtain ⟨_, _, ⟨o', n', e', c', _⟩, _⟩ := I.list h2
  rw [e] at e'
  cases e'
  rw [c] at c'
  exact absurd c' (by decide)
theorem paired_inj {α β : Type} {F G : α → β → Prop} (h : ∀ a a' b, F a b → G a' b → a = a') : ∀ {xs ys : List α} {vs : List β}, Paired F xs vs → Paired G ys vs → xs = ys
  | _, _, _, .nil, .nil => rfl
  | _, _, _, .cons r t, .cons r' t' => by rw [h _ _ _ r r', paired_inj h t t']
theorem dat_inj (I : Inv X pins σ H s) : ∀ (n : Nat) {d d' : Dt} {v : V}, Dat X.K H n d v → Dat X.K H n d' v → d = d'
  | 0, d, d', v, h, h' => by
    cases d <;> cases d' <;> first
      | exact (h : False).elim
      | exact (h' : False).elim
      | (have e := h.symm.trans h'; cases e <;> rfl)
  | n + 1, d, d', v, h, h' => by
    cases d with
    | int i =>
      cases d' with
      | int j => have e := h.symm.trans h'; cases e; rfl
      | str y => have e := h.symm.trans h'; cases e
      | seq t ys => obtain ⟨p, vs, e, _⟩ := h'; have e := h.symm.trans e; cases e
    | str x =>
      cases d' with
      | int j => have e := h.symm.trans h'; cases e
      | str y => have e := h.symm.trans h'; cases e; rfl
      | seq t ys => obtain ⟨p, vs, e, _⟩ := h'; have e := h.symm.trans e; cases e
    | seq t xs =>
      obtain ⟨p, vs, e, hs, r⟩ := h
      cases d' with
      | int j => have e := e.symm.trans h'; cases e
      | str y => have e := e.symm.trans h'; cases e
      | seq t' ys =>
        obtain ⟨q, ws, e', hs', r'⟩ := h'
        have e := e.symm.trans e'
        cases e
        cases t with
        | true =>
          rw [if_pos rfl] at hs
          cases t' with
          | true =>
            rw [if_pos rfl] at hs'
            have := I.tuple_inj hs hs'
            subst this
            rw [paired_inj (F := Dat X.K H n) (G := Dat X.K H n) (fun _ _ _ h h' => dat_inj I n h h') r r']
          | false =>
            rw [if_neg Bool.false_ne_true] at hs'
            exact (not_both I hs hs').elim
        | false =>
          rw [if_neg Bool.false_ne_true] at hs
          cases t' with
          | true =>
            rw [if_pos rfl] at hs'
            exact (not_both I hs' hs).elim
          | false =>
            rw [if_neg Bool.false_ne_true] at hs'
            have := I.list_inj hs hs'
            subst this
            rw [paired_inj (F := Dat X.K H n) (G := Dat X.K H n) (fun _ _ _ h h' => dat_inj I n h h') r r']
theorem all_range {e : Nat → Bool} {n : Nat} : (List.range n).all e = true ↔ ∀ j, j < n → e j = true := by simp
theorem items_eq {A : Around} {xs ys : List Dt} {vs ws : List V} {us us' : List Value} {n : Nat} (r : Vals vs us) (r' : Vals ws us') (h : Paired (Dat X.K H n) xs vs) (h' : Paired (Dat X.K H n) ys ws)
    (ih : ∀ (dx dy : Dt) (x y : V) (u v : Value), RelV x u → RelV y v → Dat X.K H n dx x → Dat X.K H n dy y → ∃ b, EqAt A s u v b ∧ (b = true ↔ dx = dy)) :
    ∃ e : Nat → Bool, ∀ j, (∀ (h1 : j < us.toArray.size) (h2 : j < us'.toArray.size), EqAt A s us.toArray[j] us'.toArray[j] (e j)) ∧ (j < us.length → j < us'.length → (e j = true ↔ xs[j]? = ys[j]?)) := by
  have key : ∀ j : Nat, ∃ b : Bool, (∀ (h1 : j < us.toArray.size) (h2 : j < us'.toArray.size), EqAt A s us.toArray[j] us'.toArray[j] b) ∧ (j < us.length → j < us'.length → (b = true ↔ xs[j]? = ys[j]?)) := ?_
  · exact ⟨fun j => Classical.choose (key j), fun j => Classical.choose_spec (key j)⟩
  intro j
  by_cases c : j < us.length ∧ j < us'.length
  · have l1 : j < vs.length := by rw [r.length]; exact c.1
    have l2 : j < ws.length := by rw [r'.length]; exact c.2
    obtain ⟨u, hu, ru⟩ := r.get (List.getElem?_eq_getElem l1)
    obtain ⟨u', hu', ru'⟩ := r'.get (List.getElem?_eq_getElem l2)
    obtain ⟨dx, hx, ix⟩ := paired_get h (List.getElem?_eq_getElem l1)
    obtain ⟨dy, hy, iy⟩ := paired_get h' (List.getElem?_eq_getElem l2)
    obtain ⟨b, hb, hiff⟩ := ih dx dy _ _ u u' ru ru' ix iy
    refine ⟨b, fun h1 h2 => ?_, fun _ _ => ?_⟩
    · have e1 : us.toArray[j] = u := by
        have : us[j]? = some us[j] := List.getElem?_eq_getElem c.1
        rw [hu] at this
        simpa using (Option.some.inj this).symm
      have e2 : us'.toArray[j] = u' := by
        have : us'[j]? = some us'[j] := List.getElem?_eq_getElem c.2
        rw [hu'] at this
        simpa using (Option.some.inj this).symm
      rw [e1, e2]
      exact hb
    · rw [hx, hy, hiff]
      exact ⟨fun z => by rw [z], fun z => Option.some.inj z⟩
  · refine ⟨true, fun h1 h2 => absurd ⟨by simpa using h1, by simpa using h2⟩ c, fun h1 h2 => absurd ⟨h1, h2⟩ c⟩
theorem ext_items {xs ys : List Dt} {e : Nat → Bool} {n : Nat} (h1 : xs.length = n) (h2 : ys.length = n) (he : ∀ j, j < n → (e j = true ↔ xs[j]? = ys[j]?)) : (List.range n).all e = true ↔ xs = ys := by
  rw [all_range]
  constructor
  · intro h
    refine List.ext_getElem? fun j => ?_
    rcases Nat.lt_or_ge j n with l | l
    · exact (he j l).mp (h j l)
    · rw [List.getElem?_eq_none (by omega), List.getElem?_eq_none (by omega)]
  · rintro rfl j l
    exact (he j l).mpr rfl
theorem eqD (I : Inv X pins σ H s) : ∀ (n : Nat) (A : Around) (dx dy : Dt) (x y : V) (u v : Value), A.units + n < cLine → RelV x u → RelV y v → Dat X.K H n dx x → Dat X.K H n dy y → ∃ b, EqAt A s u v b ∧ (b = true ↔ dx = dy)
  | n, A, dx, dy, x, y, u, v, hu, rx, ry, hx, hy => by
    have hu0 : A.units < cLine := by omega
    have seqs : ∀ {t : Bool} {zs : List Dt} {z : V} {w' : Value}, RelV z w' → Dat X.K H n (.seq t zs) z → ∃ m p vs us, z = .ref p ∧ n = m + 1 ∧ w' = .ref p ∧ Vals vs us ∧ Paired (Dat X.K H m) zs vs ∧ (t = true → s.heap.IsTuple p us.toArray ∧ SqT X.K H p vs) ∧ (t = false → s.heap.IsList p us.toArray ∧ SqL X.K H p vs) := by
      intro t zs z w' rz hz
      cases n with
      | zero => exact (hz : False).elim
      | succ m =>
        obtain ⟨p, vs, rfl, hs, r⟩ := hz
        cases rz
        cases t with
        | true =>
          rw [if_pos rfl] at hs
          obtain ⟨us, rv, pl, _⟩ := I.tuple hs
          exact ⟨m, p, vs, us, rfl, rfl, rfl, rv, r, fun _ => ⟨pl, hs⟩, (fun z => nomatch z)⟩
        | false =>
          rw [if_neg Bool.false_ne_true] at hs
          obtain ⟨us, rv, pl, _⟩ := I.list hs
          exact ⟨m, p, vs, us, rfl, rfl, rfl, rv, r, (fun z => nomatch z), fun _ => ⟨pl.isList, hs⟩⟩
    cases dx with
    | int i =>
      cases Dat.int.mp hx
      obtain ⟨t, rfl⟩ := rx
      cases dy with
      | int j =>
        cases Dat.int.mp hy
        obtain ⟨t', rfl⟩ := ry
        exact ⟨_, EqAt.int_int i t j t', by simp⟩
      | str z =>
        cases Dat.str.mp hy
        obtain ⟨t', rfl⟩ := ry
        exact ⟨_, EqAt.int_str i t z t', by simp⟩
      | seq b ys =>
        obtain ⟨m, p, vs, us, _, _, rfl, _, _, h1, h2⟩ := seqs ry hy
        cases b with
        | true => exact ⟨_, EqAt.int_tuple i t (h1 rfl).1 hu0, by simp⟩
        | false => exact ⟨_, EqAt.int_list i t (h2 rfl).1 hu0, by simp⟩
    | str z =>
      cases Dat.str.mp hx
      obtain ⟨t, rfl⟩ := rx
      cases dy with
      | int j =>
        cases Dat.int.mp hy
        obtain ⟨t', rfl⟩ := ry
        exact ⟨_, EqAt.str_int z t j t', by simp⟩
      | str z' =>
        cases Dat.str.mp hy
        obtain ⟨t', rfl⟩ := ry
        exact ⟨_, EqAt.str_str z t z' t', by simp⟩
      | seq b ys =>
        obtain ⟨m, p, vs, us, _, _, rfl, _, _, h1, h2⟩ := seqs ry hy
        cases b with
        | true => exact ⟨_, EqAt.str_tuple z t (h1 rfl).1 hu0, by simp⟩
        | false => exact ⟨_, EqAt.str_list z t (h2 rfl).1 hu0, by simp⟩
    | seq a xs =>
      obtain ⟨m, p, vs, us, ex, hm, rfl, rv, hp, h1, h2⟩ := seqs rx hx
      cases dy with
      | int j =>
        cases Dat.int.mp hy
        obtain ⟨t', rfl⟩ := ry
        cases a with
        | true => exact ⟨_, EqAt.tuple_int j t' (h1 rfl).1 hu0, by simp⟩
        | false => exact ⟨_, EqAt.list_int j t' (h2 rfl).1 hu0, by simp⟩
      | str z =>
        cases Dat.str.mp hy
        obtain ⟨t', rfl⟩ := ry
        cases a with
        | true => exact ⟨_, EqAt.tuple_str z t' (h1 rfl).1 hu0, by simp⟩
        | false => exact ⟨_, EqAt.list_str z t' (h2 rfl).1 hu0, by simp⟩
      | seq b ys =>
        obtain ⟨m', p', vs', us', ey, hm', rfl, rv', hp', h1', h2'⟩ := seqs ry hy
        have : m' = m := by omega
        subst this
        by_cases same : p = p'
        · subst same
          have e : x = y := by rw [ex, ey]
          subst e
          exact ⟨true, EqAt.same _, by simp [dat_inj I n hx hy]⟩
        have l1 : xs.length = us.length := by rw [← rv.length]; exact Paired.length hp
        have l2 : ys.length = us'.length := by rw [← rv'.length]; exact Paired.length hp'
        obtain ⟨e, he⟩ := items_eq (A := A.in1) rv rv' hp hp' (fun dx dy x y u v r1 r2 i1 i2 => eqD I m' A.in1 dx dy x y u v (by show A.units + 1 + m' < _; omega) r1 r2 i1 i2)
        cases a with
        | true =>
          cases b with
          | true =>
            refine ⟨_, EqAt.of_refs same (RcAt.tuples (h1 rfl).1 (h1' rfl).1 hu0 fun j a1 a2 => (he j).1 a1 a2), ?_⟩
            rw [Bool.and_eq_true]
            simp only [List.size_toArray, beq_iff_eq]
            constructor
            · rintro ⟨z1, z2⟩
              rw [z2, Nat.min_self] at z1
              rw [(ext_items (by omega) (by omega) fun j l => (he j).2 (by omega) l).mp z1]
            · intro z
              cases z
              have z2 : us.length = us'.length := by omega
              refine ⟨?_, z2⟩
              rw [z2, Nat.min_self]
              exact (ext_items (by omega) (by omega) fun j l => (he j).2 (by omega) l).mpr rfl
          | false => exact ⟨_, EqAt.tuple_list (h1 rfl).1 (h2' rfl).1 hu0, by simp⟩
        | false =>
          cases b with
          | true => exact ⟨_, EqAt.list_tuple (h2 rfl).1 (h1' rfl).1 hu0, by simp⟩
          | false =>
            by_cases hs : us.length = us'.length
            · refine ⟨_, EqAt.of_refs same (RcAt.lists (h2 rfl).1 (h2' rfl).1 (by simpa using hs) hu0 fun j a1 a2 => (he j).1 a1 a2), ?_⟩
              simp only [List.size_toArray]
              rw [ext_items (xs := xs) (ys := ys) (by omega) (by omega) fun j l => (he j).2 l (by omega)]
              simp
            · refine ⟨_, EqAt.of_refs same (RcAt.lists_lengths (h2 rfl).1 (h2' rfl).1 (by simpa using hs) hu0), ?_⟩
              simp
              intro z
              subst z
              exact hs (by omega)
termination_by n => n
decreasing_by all_goals omega
theorem rcD (I : Inv X pins σ H s) {n : Nat} {A : Around} {t : Bool} {xs ys : List Dt} {x y : V} {u v : Value} (hu : A.units + (n + 1) < cLine) (rx : RelV x u) (ry : RelV y v) (hx : Dat X.K H (n + 1) (.seq t xs) x) (hy : Dat X.K H (n + 1) (.seq t ys) y) :
    ∃ b, RcAt A s u v b ∧ RcNeAt A s u v (!b) ∧ (b = true ↔ xs = ys) := by
  obtain ⟨p, vs, rfl, hs, r⟩ := hx
  obtain ⟨p', vs', rfl, hs', r'⟩ := hy
  cases rx
  cases ry
  have hu0 : A.units < cLine := by omega
  have items : ∀ {us us' : List Value}, Vals vs us → Vals vs' us' → ∃ e : Nat → Bool, ∀ j, (∀ (h1 : j < us.toArray.size) (h2 : j < us'.toArray.size), EqAt A.in1 s us.toArray[j] us'.toArray[j] (e j)) ∧ (j < us.length → j < us'.length → (e j = true ↔ xs[j]? = ys[j]?)) :=
    fun rv rv' => items_eq (A := A.in1) rv rv' r r' (fun dx dy x y u v r1 r2 i1 i2 => eqD I n A.in1 dx dy x y u v (by show A.units + 1 + n < _; omega) r1 r2 i1 i2)
  cases t with
  | true =>
    rw [if_pos rfl] at hs hs'
    obtain ⟨us, rv, pl, _⟩ := I.tuple hs
    obtain ⟨us', rv', pl', _⟩ := I.tuple hs'
    obtain ⟨e, he⟩ := items rv rv'
    have l1 : xs.length = us.length := by rw [← rv.length]; exact Paired.length r
    have l2 : ys.length = us'.length := by rw [← rv'.length]; exact Paired.length r'
    refine ⟨_, RcAt.tuples pl pl' hu0 (fun j a1 a2 => (he j).1 a1 a2), RcNeAt.tuples pl pl' hu0 (fun j a1 a2 => (he j).1 a1 a2), ?_⟩
    rw [Bool.and_eq_true]
    simp only [List.size_toArray, beq_iff_eq]
    constructor
    · rintro ⟨z1, z2⟩
      rw [z2, Nat.min_self] at z1
      exact (ext_items (by omega) (by omega) fun j l => (he j).2 (by omega) l).mp z1
    · intro z
      have z2 : us.length = us'.length := by rw [← l1, ← l2, z]
      refine ⟨?_, z2⟩
      rw [z2, Nat.min_self]
      exact (ext_items (by omega) (by omega) fun j l => (he j).2 (by omega) l).mpr z
  | false =>
    rw [if_neg Bool.false_ne_true] at hs hs'
    obtain ⟨us, rv, pl, _⟩ := I.list hs
    obtain ⟨us', rv', pl', _⟩ := I.list hs'
    obtain ⟨e, he⟩ := items rv rv'
    have l1 : xs.length = us.length := by rw [← rv.length]; exact Paired.length r
    have l2 : ys.length = us'.length := by rw [← rv'.length]; exact Paired.length r'
    by_cases hz : us.length = us'.length
    · refine ⟨_, RcAt.lists pl.isList pl'.isList (by simpa using hz) hu0 (fun j a1 a2 => (he j).1 a1 a2), RcNeAt.lists pl.isList pl'.isList (by simpa using hz) hu0 (fun j a1 a2 => (he j).1 a1 a2), ?_⟩
      simp only [List.size_toArray]
      exact ext_items (xs := xs) (ys := ys) (by omega) (by omega) fun j l => (he j).2 l (by omega)
    · refine ⟨false, RcAt.lists_lengths pl.isList pl'.isList (by simpa using hz) hu0, RcNeAt.lists_lengths pl.isList pl'.isList (by simpa using hz) hu0, ?_⟩
      simp
      intro z
      exact hz (by rw [← l1, ← l2, z])
def rEqD (K : PySem.W.Frag) (n : Nat) : R2 := fun x y H Q => ∃ t xs ys, Dat K H (n + 1) (.seq t xs) x ∧ Dat K H (n + 1) (.seq t ys) y ∧ ∀ b, (b = true ↔ xs = ys) → Q (.bl b) H
def rNeD (K : PySem.W.Frag) (n : Nat) : R2 := fun x y H Q => ∃ t xs ys, Dat K H (n + 1) (.seq t xs) x ∧ Dat K H (n + 1) (.seq t ys) y ∧ ∀ b, (b = true ↔ ¬ xs = ys) → Q (.bl b) H
theorem op_eqD {n k : Nat} (hr : Room k X.A) (hn : n < 60) : OpR X (compareOp .Eq) (rEqD X.K n) := by
  intro pins s σ H x y u v Q I rx ry h
  obtain ⟨t, xs, ys, hx, hy, q⟩ := h
  obtain ⟨b, h1, _, hb⟩ := rcD I (A := X.A) (by have := hr.units; omega) rx ry hx hy
  exact h1 _ _ _ _ ⟨.bl b, H, I, rfl, q b hb⟩
theorem op_neD {n k : Nat} (hr : Room k X.A) (hn : n < 60) : OpR X (compareOp .NotEq) (rNeD X.K n) := by
  intro pins s σ H x y u v Q I rx ry h
  obtain ⟨t, xs, ys, hx, hy, q⟩ := h
  obtain ⟨b, _, h1, hb⟩ := rcD I (A := X.A) (by have := hr.units; omega) rx ry hx hy
  refine h1 _ _ _ _ ⟨.bl (!b), H, I, rfl, q _ ?_⟩
  cases b with
  | true => simp [hb.mp rfl]
  | false => simp; exact fun z => absurd (hb.mpr z) Bool.false_ne_true
def rInD (K : PySem.W.Frag) (n : Nat) (neg : Bool) : R2 := fun x y H Q => ∃ dx t ds, Dat K H n dx x ∧ Dat K H (n + 1) (.seq t ds) y ∧ ∀ b, (b = true ↔ dx ∈ ds) → Q (.bl (if neg then !b else b)) H
end
end L2
set_option Elab.async false
set_option linter.all false
set_option maxRecDepth 100000
set_option maxHeartbeats 4000000
namespace L2
open PySem PySem.Spec PyProof.Rows
def nl (xs : List Nat) : List V := xs.map fun (n : Nat) => V.int (n : Int)
theorem nl_length (xs : List Nat) : (nl xs).length = xs.length := List.length_map _
theorem nl_append (xs ys : List Nat) : nl (xs ++ ys) = nl xs ++ nl ys := List.map_append
theorem Same.upd {H0 H : Hp} {l : Addr} {o : HO} (h : Same H0 H) (n : H0 l = none) : Same H0 (upd H l o) := fun b u e => by
  rw [upd_ne (ne_of_none e n)]
  exact h b u e
theorem Same.new {H0 H : Hp} {p : Addr} {o : HO} (h : Same H0 H) (n : H p = none) : Same H0 (L2.upd H p o) := h.upd (h.free n)
def RL (H0 H : Hp) (xss : List (List Nat)) (rs : List Addr) : Prop := Paired (fun xs r => H r = some (.lst (nl xs)) ∧ H0 r = none) xss rs
theorem RL.length {H0 H : Hp} {xss : List (List Nat)} {rs : List Addr} (h : RL H0 H xss rs) : xss.length = rs.length := Paired.length h
theorem RL.same {H0 H H' : Hp} {xss : List (List Nat)} {rs : List Addr} (h : RL H0 H xss rs) (e : Same H H') : RL H0 H' xss rs := Paired.mapP h fun _ _ q => ⟨e _ _ q.1, q.2⟩
theorem RL.base {H0 H1 H : Hp} {xss : List (List Nat)} {rs : List Addr} (h : RL H1 H xss rs) (e : Same H0 H1) : RL H0 H xss rs := Paired.mapP h fun _ _ q => ⟨q.1, e.free q.2⟩
theorem paired_mem {α β : Type} {F : α → β → Prop} : ∀ {xs : List α} {rs : List β} {r : β}, Paired F xs rs → r ∈ rs → ∃ x ∈ xs, F x r
  | _, _, _, .nil, h => by cases h
  | _, _, _, .cons f t, h => by
    rcases List.mem_cons.mp h with rfl | h
    · exact ⟨_, List.mem_cons_self, f⟩
    · obtain ⟨x, hx, q⟩ := paired_mem t h
      exact ⟨x, List.mem_cons_of_mem _ hx, q⟩
theorem RL.apart {H0 H : Hp} {xss : List (List Nat)} {rs : List Addr} {l : Addr} (h : RL H0 H xss rs) (e : H l = some (.lst (rs.map V.ref))) : l ∉ rs := fun hm => by
  obtain ⟨xs, _, q, _⟩ := paired_mem h hm
  rw [e] at q
  have q : rs.map V.ref = nl xs := by injection q with q; injection q
  cases rs with
  | nil => cases hm
  | cons r rs => cases xs with
    | nil => cases q
    | cons x xs => injection q with q _; cases q
theorem RL.set {H0 H : Hp} {xss : List (List Nat)} {rs : List Addr} {l : Addr} {o : HO} (h : RL H0 H xss rs) (n : l ∉ rs) : RL H0 (upd H l o) xss rs := by
  induction h with
  | nil => exact .nil
  | @cons x r xs rs f t ih =>
    refine .cons ⟨?_, f.2⟩ (ih fun z => n (List.mem_cons_of_mem _ z))
    rw [upd_ne (fun z => n (by rw [← z]; exact List.mem_cons_self))]
    exact f.1
def word : Nat → Str
  | 0 => "most"
  | 1 => "just"
  | _ => "run"
def ruleV (r : Row.Rule) : List V := [V.str (word r.1), V.int (r.2 : Int)]
def ruleOf (c : Int) (most run : Nat) : Row.Rule := if c % 3 = 2 then (2, 1 + (c / 3 % run).toNat) else ((c % 3).toNat, 1 + (c / 3 % most).toNat)
theorem ruleOf_good {c : Int} {most run : Nat} (h1 : 1 ≤ most) (h2 : most ≤ 3) (h3 : 1 ≤ run) (h4 : run ≤ 40) : Row.Good (ruleOf c most run) := by
  unfold ruleOf Row.Good
  have a0 := Int.emod_nonneg (c / 3) (by omega : (most : Int) ≠ 0)
  have a1 := Int.emod_lt_of_pos (c / 3) (by omega : (0 : Int) < most)
  have b0 := Int.emod_nonneg (c / 3) (by omega : (run : Int) ≠ 0)
  have b1 := Int.emod_lt_of_pos (c / 3) (by omega : (0 : Int) < run)
  split
  · right; refine ⟨rfl, ?_, ?_⟩ <;> dsimp only <;> omega
  · left; refine ⟨?_, ?_, ?_⟩ <;> dsimp only <;> omega
def spRule (most run : Nat) : Sp := fun vs H Q _ => ∃ c : Int, vs = [.int c] ∧ ∀ H' p, Same H H' → H' p = some (.tup (ruleV (ruleOf c most run))) → H p = none → Q (.ref p) H'
def headsOf (c : Int) (first many : Nat) : List Nat := ((List.range many).filter fun k => decide (c / 2 ^ k % 2 = 1)).map (first + ·)
theorem headsOf_succ (c : Int) (first k : Nat) : headsOf c first (k + 1) = headsOf c first k ++ (if c / 2 ^ k % 2 = 1 then [first + k] else []) := by
  unfold headsOf
  rw [List.range_succ, List.filter_append, List.map_append]
  congr 1
  by_cases h : c / 2 ^ k % 2 = 1 <;> simp [h]
theorem headsOf_len (c : Int) (first many : Nat) : (headsOf c first many).length ≤ many := by
  unfold headsOf
  rw [List.length_map]
  exact Nat.le_trans (List.length_filter_le _ _) (by simp)
theorem headsOf_lt {c : Int} {first many : Nat} : ∀ a ∈ headsOf c first many, first ≤ a ∧ a < first + many := fun a h => by
  obtain ⟨k, hk, rfl⟩ := List.mem_map.mp h
  have := List.mem_range.mp (List.mem_filter.mp hk).1
  omega
theorem headsOf_sorted (c : Int) (first many : Nat) : Row.Sorted (headsOf c first many) := by
  unfold headsOf Row.Sorted
  rw [List.pairwise_map]
  exact List.Pairwise.imp (fun h => by omega) (List.Pairwise.filter _ List.pairwise_lt_range)
theorem half (c : Int) (k : Nat) : c / 2 ^ k / 2 = c / 2 ^ (k + 1) := by
  rw [Int.pow_succ, Int.ediv_ediv_of_nonneg (by exact Int.pow_nonneg (by decide))]
def spHeads : Sp := fun vs H Q _ => ∃ (c : Int) (m : Nat), vs = [.int c, .int (m : Int)] ∧ m ≤ 1000 ∧ ∀ H' p, Same H H' → H' p = some (.lst (nl (headsOf c 0 m))) → H p = none → Q (.ref p) H'
def spHeads3 : Sp := fun vs H Q _ => ∃ (c : Int) (f m : Nat), vs = [.int c, .int (f : Int), .int (m : Int)] ∧ m ≤ 1000 ∧ ∀ H' p, Same H H' → H' p = some (.lst (nl (headsOf c f m))) → H p = none → Q (.ref p) H'
def spShapes (K : PySem.W.Frag) : Sp := fun vs H Q _ => ∃ (pr : Addr) (r : Row.Rule) (last : Nat), vs = [.ref pr, .int (last : Int)] ∧ SqT K H pr (ruleV r) ∧ Row.Good r ∧ last < 40 ∧
  ∀ H' p rs, Same H H' → H p = none → H' p = some (.lst (rs.map V.ref)) → RL H H' (Row.shapes r last) rs → Q (.ref p) H'
theorem Same.tup {K : PySem.W.Frag} {H H' : Hp} {a : Addr} {xs : List V} (e : Same H H') (h : SqT K H a xs) : SqT K H' a xs := by
  rcases h with (h | ⟨o, h⟩) | h
  · exact .inl (.inl (e _ _ h))
  · exact .inl (.inr ⟨o, e _ _ h⟩)
  · exact .inr h
end L2
namespace Row
def part (r : Rule) (last many : Nat) : List (List Nat) :=
  if r.1 = 2 then (if many ≤ last + 1 then [(List.range many).map fun k => last + 1 - many + k] else [])
  else if r.1 = 0 ∨ many = r.2 then
    (if many = 1 then [[last]] else []) ++ (if many = 2 then (List.range last).map fun one => [one, last] else []) ++
    (if many = 3 then (List.range last).flatMap fun one => (List.range' (one + 1) (last - (one + 1))).map fun two => [one, two, last] else [])
  else []
def upTo (r : Rule) (last n : Nat) : List (List Nat) := (List.range' 1 n).flatMap (part r last)
def threes (last n : Nat) : List (List Nat) := (List.range n).flatMap fun one => (List.range' (one + 1) (last - (one + 1))).map fun two => [one, two, last]
end Row
set_option Elab.async false
set_option linter.all false
set_option maxRecDepth 100000
set_option maxHeartbeats 4000000
namespace L2
open PySem PySem.Spec PyProof.Rows
def EvE (t : TE) (σ : St) (H : Hp) (v : V) : Prop := ∀ Q : VK, Q v H → t σ H Q
def EvT (t : TT) (σ : St) (H : Hp) (b : Bool) : Prop := ∀ Q : Bool → Hp → Prop, Q b H → t σ H Q
def EvA (t : TA) (σ : St) (H : Hp) (vs : List V) : Prop := ∀ Q : List V → Hp → Prop, Q vs H → t σ H Q
section
variable {K : PySem.W.Frag} {σ : St} {H : Hp} {ta tb t : TE} {x y v : V} {i j : Int} {c d : TT} {a b : Bool} {D : Ends} {s u : TS} {ts : TA}
theorem ev_var {n : Nat} (h : σ[n]? = some (some v)) : EvE (tVar n) σ H v := fun Q q => ⟨v, h, q⟩
theorem ev_c : EvE (tC v) σ H v := fun Q q => q
theorem ev_i0 {g : Int → Int → V} (ha : EvE ta σ H (.int i)) (hb : EvE tb σ H (.int j)) : EvE (tOp (rI0 g) ta tb) σ H (g i j) := fun Q q => ha _ (hb _ ⟨i, j, rfl, rfl, q⟩)
theorem ev_i {C : Int → Int → Prop} {g : Int → Int → V} (ha : EvE ta σ H (.int i)) (hb : EvE tb σ H (.int j)) (hc : C i j) : EvE (tOp (rI C g) ta tb) σ H (g i j) := fun Q q => ha _ (hb _ ⟨i, j, rfl, rfl, hc, q⟩)
theorem ev_u {g : Int → V} (ha : EvE ta σ H (.int i)) : EvE (tUn (rU g) ta) σ H (g i) := fun Q q => ha _ ⟨i, rfl, q⟩
theorem ev_ixT {p : Addr} {xs : List V} (ha : EvE ta σ H (.ref p)) (hb : EvE tb σ H (.int i)) (h : SqT K H p xs) (e : atI xs i = some v) : EvE (tOp (rIxT K) ta tb) σ H v := fun Q q => ha _ (hb _ ⟨p, xs, i, v, rfl, rfl, h, e, q⟩)
theorem ev_ixL {p : Addr} {xs : List V} (ha : EvE ta σ H (.ref p)) (hb : EvE tb σ H (.int i)) (h : SqL K H p xs) (e : atI xs i = some v) : EvE (tOp (rIxL K) ta tb) σ H v := fun Q q => ha _ (hb _ ⟨p, xs, i, v, rfl, rfl, h, e, q⟩)
theorem ev_eq (ha : EvE ta σ H x) (hb : EvE tb σ H y) (hs : scal x y = true) : EvE (tOp rEq ta tb) σ H (.bl (decide (x = y))) := fun Q q => ha _ (hb _ ⟨hs, q⟩)
theorem ev_ne (ha : EvE ta σ H x) (hb : EvE tb σ H y) (hs : scal x y = true) : EvE (tOp rNe ta tb) σ H (.bl (!decide (x = y))) := fun Q q => ha _ (hb _ ⟨hs, q⟩)
theorem ev_eqI (ha : EvE ta σ H (.int i)) (hb : EvE tb σ H (.int j)) : EvE (tOp rEq ta tb) σ H (.bl (decide (i = j))) := fun Q q => ha _ (hb _ ⟨rfl, by
  rw [show decide (V.int i = V.int j) = decide (i = j) by rw [Bool.eq_iff_iff]; simp]; exact q⟩)
theorem ev_neI (ha : EvE ta σ H (.int i)) (hb : EvE tb σ H (.int j)) : EvE (tOp rNe ta tb) σ H (.bl (!decide (i = j))) := fun Q q => ha _ (hb _ ⟨rfl, by
  rw [show decide (V.int i = V.int j) = decide (i = j) by rw [Bool.eq_iff_iff]; simp]; exact q⟩)
theorem ev_test (h : EvE t σ H (.bl b)) : EvT (tTest t) σ H b := fun Q q => h _ ⟨b, rfl, q⟩
theorem ev_tB (h : EvE t σ H (.bl b)) : EvT (tB t) σ H b := fun Q q => h _ ⟨b, rfl, q⟩
theorem ev_or (h1 : EvT c σ H a) (h2 : a = false → EvT d σ H b) : EvT (tOr c d) σ H (a || b) := fun Q q => h1 _ (by
  cases a with
  | true => exact q
  | false => exact h2 rfl _ q)
theorem ev_and (h1 : EvT c σ H a) (h2 : a = true → EvT d σ H b) : EvT (tAnd c d) σ H (a && b) := fun Q q => h1 _ (by
  cases a with
  | true => exact h2 rfl _ q
  | false => exact q)
theorem ev_not (h : EvT c σ H a) : EvT (tNot c) σ H (!a) := fun Q q => h _ q
theorem ev_andV (h1 : EvE ta σ H (.bl a)) (h2 : a = true → EvE tb σ H (.bl b)) : EvE (tAndV ta tb) σ H (.bl (a && b)) := fun Q q => h1 _ ⟨a, rfl, by
  cases a with
  | true => exact h2 rfl _ q
  | false => exact q⟩
theorem ev_orV (h1 : EvE ta σ H (.bl a)) (h2 : a = false → EvE tb σ H (.bl b)) : EvE (tOrV ta tb) σ H (.bl (a || b)) := fun Q q => h1 _ ⟨a, rfl, by
  cases a with
  | true => exact q
  | false => exact h2 rfl _ q⟩
theorem ev_nil : EvA tNil σ H [] := fun Q q => q
theorem ev_cons {vs : List V} (ha : EvE ta σ H v) (hr : EvA ts σ H vs) : EvA (tCons ta ts) σ H (v :: vs) := fun Q q => ha _ (hr _ q)
theorem ev_call {sp : Sp} {E : XK} {vs : List V} (ha : EvA ts σ H vs) (hr : ∀ Q : VK, Q v H → sp (vs ++ []) H Q E) : EvE (tCall sp [] E ts) σ H v := fun Q q => ha _ (hr _ q)
theorem ifS_of (h : EvT c σ H b) (ht : b = true → s D σ H) (hu : b = false → u D σ H) : tIfS c s u D σ H := h _ (by
  cases b with
  | true => exact ht rfl
  | false => exact hu rfl)
theorem seq_of (h : s { D with nx := u D } σ H) : tSeq s u D σ H := h
theorem next_of (h : D.nx σ H) : tNext D σ H := h
theorem asg_of {n : Nat} (h : EvE t σ H v) (q : D.nx (σ.set n (some v)) H) : tAsg t (gName n) D σ H := h _ q
theorem ret_of (h : EvE t σ H v) (q : D.rt v H) : tRet t D σ H := h _ q
theorem rng1_of {R : It → Hp → Prop} (h : EvA ts σ H [.int j]) (h1 : -(2 ^ 62) ≤ j) (h2 : j < 2 ^ 62) (q : R (Itr 0 j.toNat) H) : iRng1 ts σ H R := h _ ⟨j, rfl, h1, h2, q⟩
theorem rng2_of {R : It → Hp → Prop} (h : EvA ts σ H [.int i, .int j]) (h1 : -(2 ^ 62) ≤ i) (h2 : i < 2 ^ 62) (h3 : -(2 ^ 62) ≤ j) (h4 : j < 2 ^ 62) (q : R (Itr i (j - i).toNat) H) : iRng2 ts σ H R := h _ ⟨i, j, rfl, ⟨h1, h2, h3, h4⟩, q⟩
theorem word_run {n : Nat} (h : n ≤ 2) : decide (V.str (word n) = V.str "run") = decide (n = 2) := by
  rcases (by omega : n = 0 ∨ n = 1 ∨ n = 2) with rfl | rfl | rfl <;> decide
theorem word_just {n : Nat} (h : n ≤ 2) : decide (V.str (word n) = V.str "just") = decide (n = 1) := by
  rcases (by omega : n = 0 ∨ n = 1 ∨ n = 2) with rfl | rfl | rfl <;> decide
theorem ev_rule0 {n : Nat} {pr : Addr} {r : Row.Rule} (hv : σ[n]? = some (some (.ref pr))) (h : SqT K H pr (ruleV r)) : EvE (tOp (rIxT K) (tVar n) (tC (V.int 0))) σ H (.str (word r.1)) := ev_ixT (ev_var hv) ev_c h rfl
theorem ev_rule1 {n : Nat} {pr : Addr} {r : Row.Rule} (hv : σ[n]? = some (some (.ref pr))) (h : SqT K H pr (ruleV r)) : EvE (tOp (rIxT K) (tVar n) (tC (V.int 1))) σ H (.int (r.2 : Int)) := ev_ixT (ev_var hv) ev_c h rfl
theorem ev_isRun {n : Nat} {pr : Addr} {r : Row.Rule} (hv : σ[n]? = some (some (.ref pr))) (h : SqT K H pr (ruleV r)) (h2 : r.1 ≤ 2) : EvE (tOp rEq (tOp (rIxT K) (tVar n) (tC (V.int 0))) (tC (V.str "run"))) σ H (.bl (decide (r.1 = 2))) := by
  rw [← word_run h2]
  exact ev_eq (ev_rule0 hv h) ev_c rfl
end
end L2
set_option Elab.async false
set_option linter.all false
set_option maxRecDepth 100000
set_option maxHeartbeats 4000000
namespace L2
open PySem PySem.Spec PyProof.Rows
structure Seen (kvs : List (Key × V)) (S : List Nat) : Prop where
  len : kvs.length ≤ S.length
  has : ∀ m : Nat, (valV kvs (Sum.inl (m : Int))).isSome = true ↔ m ∈ S
theorem Seen.nil : Seen [] [] := ⟨Nat.le_refl _, fun m => by simp [valV]⟩
theorem Seen.put {kvs : List (Key × V)} {S : List Nat} (h : Seen kvs S) (n : Nat) : Seen (putK kvs (Sum.inl (n : Int) : Key) (V.bl true)) (S ++ [n]) := by
  refine ⟨?_, fun m => ?_⟩
  · have := length_putK kvs (Sum.inl (n : Int) : Key) (V.bl true)
    have := h.len
    rw [List.length_append, List.length_singleton]
    omega
  · rw [valV_put, List.mem_append, List.mem_singleton, ← h.has m]
    by_cases e : m = n
    · rw [if_pos (by rw [e])]
      simp [e]
    · rw [if_neg (by intro z; have z : (m : Int) = n := by injection z
                     omega)]
      simp [e]
def spOver (K : PySem.W.Frag) : Sp := fun vs H Q _ => ∃ (pt pp : Addr) (told places : List Nat), vs = [.ref pt, .ref pp] ∧ SqL K H pt (nl told) ∧ SqL K H pp (nl places) ∧ (∀ a ∈ places, a < told.length) ∧ Q (.int (Row.xs (Row.at0 told) places : Int)) H
def spNumbers (K : PySem.W.Frag) : Sp := fun vs H Q _ => ∃ (pr : Addr) (r : Row.Rule) (m : Nat), vs = [.ref pr, .int (m : Int)] ∧ SqT K H pr (ruleV r) ∧ Row.Good r ∧ m ≤ 40 ∧ ∀ H' p, Same H H' → H p = none → H' p = some (.lst (nl (Row.nums r m))) → Q (.ref p) H'
end L2
set_option Elab.async false
set_option linter.all false
set_option maxRecDepth 100000
set_option maxHeartbeats 4000000
namespace Row
structure IsRow (hs : List Nat) : Prop where
  sorted : Sorted hs
  lt : ∀ a ∈ hs, a < 40
def turnsOf (r : Rule) (hs : List Nat) : List (List Nat) := hs.flatMap (shapes r)
def Lets (r : Rule) (hs : List Nat) (ts : List Int) : Prop := ∃ t : List Nat, ts = t.map (fun (n : Nat) => (n : Int)) ∧ ∃ last ∈ hs, t ∈ shapes r last
def replyOf (r : Rule) (hs : List Nat) : Option (List Nat) := (turnsOf r hs).find? fun t => xs (num r) t == xs (num r) hs
end Row
namespace L2
open PySem PySem.Spec PyProof.Rows
def spTurns (K : PySem.W.Frag) : Sp := fun vs H Q _ => ∃ (pr ph : Addr) (r : Row.Rule) (hs : List Nat), vs = [.ref pr, .ref ph] ∧ SqT K H pr (ruleV r) ∧ Row.Good r ∧ SqL K H ph (nl hs) ∧ Row.IsRow hs ∧
  ∀ H' p rs, Same H H' → H p = none → H' p = some (.lst (rs.map V.ref)) → RL H H' (Row.turnsOf r hs) rs → rs.Nodup → p ∉ rs → Q (.ref p) H'
def spAllows (K : PySem.W.Frag) : Sp := fun vs H Q _ => ∃ (pr ph pt : Addr) (r : Row.Rule) (hs : List Nat) (ts : List Int), vs = [.ref pr, .ref ph, .ref pt] ∧ SqT K H pr (ruleV r) ∧ Row.Good r ∧ SqL K H ph (nl hs) ∧ Row.IsRow hs ∧ SqL K H pt (ts.map V.int) ∧ ts.length ≤ 1000 ∧
  ∀ H' b, Same H H' → (b = true ↔ Row.Lets r hs ts) → Q (.bl b) H'
def spAfter (K : PySem.W.Frag) (cT : Addr) : Sp := fun vs H Q E => ∃ (pr ph pt : Addr) (r : Row.Rule) (hs : List Nat) (ts : List Int), vs = [.ref pr, .ref ph, .ref pt] ∧ SqT K H pr (ruleV r) ∧ Row.Good r ∧ SqL K H ph (nl hs) ∧ Row.IsRow hs ∧ SqL K H pt (ts.map V.int) ∧ ts.length ≤ 1000 ∧
  (∀ t : List Nat, ts = t.map (fun (n : Nat) => (n : Int)) → (∃ last ∈ hs, t ∈ Row.shapes r last) → ∀ H' p, Same H H' → H p = none → H' p = some (.lst (nl (Row.behind 40 hs t))) → Q (.ref p) H') ∧
  (¬ Row.Lets r hs ts → ∀ H', Same H H' → E (.ref cT) none H')
def spNumberOf (K : PySem.W.Frag) : Sp := fun vs H Q _ => ∃ (pr : Addr) (r : Row.Rule) (n : Nat), vs = [.ref pr, .int (n : Int)] ∧ SqT K H pr (ruleV r) ∧ Row.Good r ∧ n < 40 ∧ ∀ H', Same H H' → Q (.int (Row.num r n : Int)) H'
def spValue (K : PySem.W.Frag) : Sp := fun vs H Q _ => ∃ (pr ph : Addr) (r : Row.Rule) (hs : List Nat), vs = [.ref pr, .ref ph] ∧ SqT K H pr (ruleV r) ∧ Row.Good r ∧ SqL K H ph (nl hs) ∧ Row.IsRow hs ∧ ∀ H', Same H H' → Q (.int (Row.xs (Row.num r) hs : Int)) H'
def spReply (K : PySem.W.Frag) : Sp := fun vs H Q _ => ∃ (pr ph : Addr) (r : Row.Rule) (hs : List Nat), vs = [.ref pr, .ref ph] ∧ SqT K H pr (ruleV r) ∧ Row.Good r ∧ SqL K H ph (nl hs) ∧ Row.IsRow hs ∧
  (Row.xs (Row.num r) hs = 0 → ∀ H', Same H H' → Q .non H') ∧
  (Row.xs (Row.num r) hs ≠ 0 → ∀ t, Row.replyOf r hs = some t → ∀ H' p, Same H H' → H p = none → H' p = some (.lst (nl t)) → Q (.ref p) H')
theorem Callee.mono {P : Program} {w : World} {K : PySem.W.Frag} {mg : Str → Option Value} {base : Heap} {x : Str} {j k : Nat} {ps : List Str} {sp : Sp} (C : Callee P w K mg base x j ps sp) (h : j ≤ k) : Callee P w K mg base x k ps sp := by
  obtain ⟨f, fd, hm, hkp, hb, F⟩ := C.ex
  exact ⟨f, fd, hm, hkp, hb, F.mono h⟩
theorem CalleeX.mono {P : Program} {w : World} {K : PySem.W.Frag} {mg : Str → Option Value} {base : Heap} {x : Str} {j k : Nat} {ps : List Str} {sp : Sp} (C : CalleeX P w K mg base x j ps sp) (h : j ≤ k) : CalleeX P w K mg base x k ps sp := by
  obtain ⟨f, fd, hm, hkp, hb, F⟩ := C.ex
  exact ⟨f, fd, hm, hkp, hb, F.mono h⟩
end L2
namespace Row
def others (r : Rule) (last : Nat) : List (List Nat) :=
  (List.range' 1 r.2).flatMap fun many =>
    if r.1 = 2 then (if many ≤ last + 1 then [(List.range (many - 1)).map fun k => last - 1 - k] else [])
    else if r.1 = 0 ∨ many = r.2 then
      (if many = 1 then [[]] else []) ++ (if many = 2 then (List.range last).map fun one => [one] else []) ++
      (if many = 3 then (List.range last).flatMap fun one => (List.range one).map fun two => [one, two] else [])
    else []
def opart (r : Rule) (last many : Nat) : List (List Nat) :=
  if r.1 = 2 then (if many ≤ last + 1 then [(List.range (many - 1)).map fun k => last - 1 - k] else [])
  else if r.1 = 0 ∨ many = r.2 then
    (if many = 1 then [[]] else []) ++ (if many = 2 then (List.range last).map fun one => [one] else []) ++
    (if many = 3 then (List.range last).flatMap fun one => (List.range one).map fun two => [one, two] else [])
  else []
def oUpTo (r : Rule) (last n : Nat) : List (List Nat) := (List.range' 1 n).flatMap (opart r last)
def twos (n : Nat) : List (List Nat) := (List.range n).flatMap fun one => (List.range one).map fun two => [one, two]
end Row
namespace L2
open PySem PySem.Spec PyProof.Rows
def spOthers (K : PySem.W.Frag) : Sp := fun vs H Q _ => ∃ (pr : Addr) (r : Row.Rule) (last : Nat), vs = [.ref pr, .int (last : Int)] ∧ SqT K H pr (ruleV r) ∧ Row.Good r ∧ last < 40 ∧
  ∀ H' p rs, Same H H' → H p = none → H' p = some (.lst (rs.map V.ref)) → RL H H' (Row.others r last) rs → Q (.ref p) H'
end L2
namespace L2
open PySem PySem.Spec PyProof.Rows
theorem ev_cell {K : PySem.W.Frag} {σ : St} {H : Hp} {n : Nat} {a : Addr} {ns : List Int} (k : Nat) (h : σ[n]? = some (some (.ref a))) (hS : SqL K H a (ns.map V.int)) : EvE (tCall (spCell K) [] E0 (tCons (tVar n) (tCons (tC (V.int (k : Int))) tNil))) σ H (.int (cell ns k)) :=
  ev_call (ev_cons (ev_var h) (ev_cons ev_c ev_nil)) fun Q q => ⟨a, ns, k, rfl, hS, q⟩
theorem at_nl {told : List Nat} {a : Nat} (h : a < told.length) : atI (nl told) (a : Int) = some (V.int (Row.at0 told a : Int)) := atI_nat (by
  unfold nl
  rw [List.getElem?_map, List.getElem?_eq_getElem h]
  unfold Row.at0
  rw [List.getD_eq_getElem?_getD, List.getElem?_eq_getElem h]
  rfl)
end L2
namespace L2
open PySem PySem.Spec PyProof.Rows
def nd (xs : List Nat) : List Dt := xs.map fun (n : Nat) => Dt.int (n : Int)
theorem nd_inj {xs ys : List Nat} (h : nd xs = nd ys) : xs = ys := by
  induction xs generalizing ys with
  | nil => cases ys with
    | nil => rfl
    | cons y ys => cases h
  | cons x xs ih => cases ys with
    | nil => cases h
    | cons y ys =>
      injection h with h1 h2
      have h1 : (x : Int) = y := by injection h1
      rw [ih h2, show x = y by omega]
theorem nd_paired {K : PySem.W.Frag} {H : Hp} {n : Nat} : ∀ xs : List Nat, Paired (Dat K H n) (nd xs) (nl xs)
  | [] => .nil
  | x :: xs => .cons (Dat.int.mpr rfl) (nd_paired xs)
theorem dat_list {K : PySem.W.Frag} {H : Hp} {n : Nat} {p : Addr} {xs : List Nat} (h : SqL K H p (nl xs)) : Dat K H (n + 1) (.seq false (nd xs)) (.ref p) := ⟨p, _, rfl, by rw [if_neg Bool.false_ne_true]; exact h, nd_paired xs⟩
section
variable {K : PySem.W.Frag} {σ : St} {H : Hp} {ta tb : TE}
theorem ev_eqL {p p' : Addr} {xs ys : List Nat} (ha : EvE ta σ H (.ref p)) (hb : EvE tb σ H (.ref p')) (h : SqL K H p (nl xs)) (h' : SqL K H p' (nl ys)) : EvE (tOp (rEqD K 0) ta tb) σ H (.bl (decide (xs = ys))) := fun Q q => ha _ (hb _ ⟨false, nd xs, nd ys, dat_list h, dat_list h', fun b hb => by
  have : b = decide (xs = ys) := by
    rw [Bool.eq_iff_iff, hb, decide_eq_true_iff]
    exact ⟨nd_inj, fun z => by rw [z]⟩
  rw [this]
  exact q⟩)
theorem ev_neL {p p' : Addr} {xs ys : List Nat} (ha : EvE ta σ H (.ref p)) (hb : EvE tb σ H (.ref p')) (h : SqL K H p (nl xs)) (h' : SqL K H p' (nl ys)) : EvE (tOp (rNeD K 0) ta tb) σ H (.bl (!decide (xs = ys))) := fun Q q => ha _ (hb _ ⟨false, nd xs, nd ys, dat_list h, dat_list h', fun b hb => by
  have : b = !decide (xs = ys) := by
    rw [Bool.eq_iff_iff, hb]
    simp
    exact ⟨fun z e => z (by rw [e]), fun z e => z (nd_inj e)⟩
  rw [this]
  exact q⟩)
theorem ev_isList {p : Addr} {xs : List V} {r : TA} (hr : EvA r σ H [.ref p, .ty "list"]) (h : H p = some (.lst xs)) : EvE (tCB (fun xs H Q => ∃ x T t b, xs = [x, .ty T] ∧ TyOf K H x t ∧ PySem.W.kitOne K t (.type T) = some b ∧ Q (.bl b) H) r) σ H (.bl true) :=
  fun Q q => hr _ ⟨_, _, _, true, rfl, .lst h, rfl, q⟩
theorem ev_isInt {i : Int} {r : TA} (hr : EvA r σ H [.int i, .ty "int"]) : EvE (tCB (fun xs H Q => ∃ x T t b, xs = [x, .ty T] ∧ TyOf K H x t ∧ PySem.W.kitOne K t (.type T) = some b ∧ Q (.bl b) H) r) σ H (.bl true) :=
  fun Q q => hr _ ⟨_, _, _, true, rfl, .int i, rfl, q⟩
theorem ev_notBool {i : Int} {r : TA} (hr : EvA r σ H [.int i, .ty "bool"]) : EvE (tCB (fun xs H Q => ∃ x T t b, xs = [x, .ty T] ∧ TyOf K H x t ∧ PySem.W.kitOne K t (.type T) = some b ∧ Q (.bl b) H) r) σ H (.bl false) :=
  fun Q q => hr _ ⟨_, _, _, false, rfl, .int i, by first | rfl | decide +kernel, q⟩
theorem ev_lenL {p : Addr} {xs : List V} {r : TA} (hr : EvA r σ H [.ref p]) (h : SqL K H p xs) : EvE (tCB (fun xs H Q => ∃ p ys, xs = [.ref p] ∧ (SqL K H p ys ∨ SqT K H p ys) ∧ Q (.int ys.length) H) r) σ H (.int xs.length) :=
  fun Q q => hr _ ⟨p, xs, rfl, .inl h, q⟩
end
end L2
namespace Row
theorem sorted_len {hs : List Nat} {n : Nat} (h : Sorted hs) (hl : ∀ a ∈ hs, a < n) : hs.length ≤ n := by
  rw [← filter_self h hl]
  refine Nat.le_trans (List.length_filter_le _ _) ?_
  rw [List.length_range]
  exact Nat.le_refl _
theorem IsRow.len {hs : List Nat} (h : IsRow hs) : hs.length ≤ 40 := sorted_len h.sorted h.lt
theorem IsRow.take {hs : List Nat} (h : IsRow hs) (i : Nat) : IsRow (hs.take i) := ⟨List.Pairwise.sublist (List.take_sublist _ _) h.sorted, fun a ha => h.lt a (List.mem_of_mem_take ha)⟩
theorem isRow_app {xs ys : List Nat} (h : Sorted xs) (h' : Sorted ys) (l1 : ∀ a ∈ xs, a < 20) (l2 : ∀ a ∈ ys, 20 ≤ a ∧ a < 40) : IsRow (xs ++ ys) := by
  refine ⟨?_, fun a ha => ?_⟩
  · unfold Sorted
    rw [List.pairwise_append]
    refine ⟨h, h', fun a ha b hb => ?_⟩
    have := l1 a ha
    have := l2 b hb
    omega
  · rcases List.mem_append.mp ha with ha | ha
    · have := l1 a ha; omega
    · have := l2 a ha; omega
end Row
namespace L2
open PySem PySem.Spec PyProof.Rows
theorem cut {s R : TS} {D : Ends} {σ : St} {H : Hp} (Pv : St → Hp → Prop) (h : ∀ X : St → Hp → Prop, (∀ σ' H', Pv σ' H' → X σ' H') → s { D with nx := X } σ H) (hR : ∀ σ' H', Pv σ' H' → R D σ' H') : tSeq s R D σ H := h (R D) hR
end L2
namespace L2
open PySem PySem.Spec PyProof.Rows
end L2
set_option Elab.async false
set_option linter.all false
set_option maxRecDepth 100000
set_option maxHeartbeats 4000000
namespace L2
open PySem PySem.Spec PyProof.Rows
theorem comp_range_if {wi : TI} {ix : List Nat} {tc : TT} {te : TE} {σ : St} {H H1 : Hp} {Q : VK} {lo : Int} {n : Nat} (p : Nat → Bool) (f : Nat → V) (hw : ∀ R : It → Hp → Prop, R (Itr lo n) H1 → wi σ H R) (hn : n < sizeLine)
    (hc : ∀ (i : Nat) (H' : Hp), i < n → Same H1 H' → EvT tc (some (.int (lo + i)) :: slots σ ix) H' (p i))
    (he : ∀ (i : Nat) (H' : Hp), i < n → p i = true → Same H1 H' → EvE te (some (.int (lo + i)) :: slots σ ix) H' (f i))
    (q : ∀ acc, H1 acc = none → Q (.ref acc) (upd H1 acc (.lst (((List.range n).filter p).map f)))) :
    tComp wi ix tc te σ H Q := by
  refine hw _ fun acc hacc => ⟨fun i m H2 => i ≤ n ∧ m = n - i ∧ H2 = upd H1 acc (.lst (((List.range i).filter p).map f)), ⟨n, Nat.zero_le _, by simp, by simp⟩, ?_⟩
  rintro i m H2 ⟨hi, rfl, rfl⟩
  by_cases hlt : i < n
  · refine .inr ⟨hlt, ?_⟩
    rintro x H3 ⟨rfl, rfl⟩
    refine hc i _ hlt (same_new hacc _) _ ?_
    have e : (List.range (i + 1)).filter p = (List.range i).filter p ++ if p i = true then [i] else [] := by
      rw [List.range_succ, List.filter_append]
      congr 1
      by_cases c : p i = true <;> simp [c]
    have hl : (((List.range i).filter p).map f).length ≤ i := by
      rw [List.length_map]
      refine Nat.le_trans (List.length_filter_le _ _) ?_
      rw [List.length_range]
      exact Nat.le_refl _
    by_cases c : p i = true
    · rw [c, if_pos rfl]
      refine he i _ hlt c (same_new hacc _) _ ⟨_, upd_same, by omega, n - (i + 1), by omega, hlt, rfl, ?_⟩
      rw [upd_upd, e, if_pos c, List.map_append]
      rfl
    · rw [if_neg c]
      refine ⟨n - (i + 1), by omega, hlt, rfl, ?_⟩
      rw [e, if_neg c, List.append_nil]
  · have e : i = n := by omega
    subst e
    exact .inl ⟨Nat.le_refl _, q acc hacc⟩
section
variable {K : PySem.W.Frag} {σ : St} {H : Hp} {ta tb : TE} {i : Int}
theorem inV_int (i : Int) (ys : List Int) : inV (.int i) (ys.map V.int) = decide (i ∈ ys) := by
  unfold inV
  induction ys with
  | nil => rfl
  | cons y ys ih =>
    rw [List.map_cons, List.any_cons, ih]
    by_cases c : y = i
    · subst c
      simp [eqV]
    · have c2 : ¬ i = y := fun z => c z.symm
      simp [eqV, c, c2]
theorem flat_ints (ys : List Int) : (ys.map V.int).all flatV = true := by
  rw [List.all_map, List.all_eq_true]
  intro x _
  rfl
theorem ev_inI {p : Addr} {ys : List Int} (ha : EvE ta σ H (.int i)) (hb : EvE tb σ H (.ref p)) (h : SqL K H p (ys.map V.int)) : EvE (tOp (rIn K false) ta tb) σ H (.bl (decide (i ∈ ys))) :=
  fun Q q => ha _ (hb _ ⟨p, _, rfl, .inl h, rfl, flat_ints ys, by
    rw [inV_int]
    exact q⟩)
theorem ev_notInI {p : Addr} {ys : List Int} (ha : EvE ta σ H (.int i)) (hb : EvE tb σ H (.ref p)) (h : SqL K H p (ys.map V.int)) : EvE (tOp (rIn K true) ta tb) σ H (.bl (!decide (i ∈ ys))) :=
  fun Q q => ha _ (hb _ ⟨p, _, rfl, .inl h, rfl, flat_ints ys, by
    rw [inV_int]
    exact q⟩)
def ni (xs : List Nat) : List Int := xs.map fun (n : Nat) => (n : Int)
theorem nl_ni (xs : List Nat) : nl xs = (ni xs).map V.int := by unfold nl ni; rw [List.map_map]; rfl
theorem mem_ni {n : Nat} {xs : List Nat} : (n : Int) ∈ ni xs ↔ n ∈ xs := by
  unfold ni
  rw [List.mem_map]
  exact ⟨fun ⟨a, ha, e⟩ => by have e : a = n := by omega
                              exact e ▸ ha, fun h => ⟨n, h, rfl⟩⟩
theorem ev_inN {p : Addr} {n : Nat} {xs : List Nat} (ha : EvE ta σ H (.int (n : Int))) (hb : EvE tb σ H (.ref p)) (h : SqL K H p (nl xs)) : EvE (tOp (rIn K false) ta tb) σ H (.bl (decide (n ∈ xs))) := by
  rw [nl_ni] at h
  have := ev_inI ha hb h
  rwa [show decide ((n : Int) ∈ ni xs) = decide (n ∈ xs) from by simp only [mem_ni]] at this
theorem ev_dIn {d : Addr} {kvs : List (Key × V)} {S : List Nat} {n : Nat} (ha : EvE ta σ H (.int (n : Int))) (hb : EvE tb σ H (.ref d)) (hd : H d = some (.dK kvs)) (hs : Seen kvs S) : EvE (tDIn ta tb) σ H (.bl (decide (n ∈ S))) := fun Q q => ha _ (hb _ ⟨d, _, rfl, .inl ⟨kvs, Sum.inl (n : Int), .of hd, rfl, rfl⟩, by
    have e : (valV kvs (Sum.inl (n : Int))).isSome = decide (n ∈ S) := by
      rw [Bool.eq_iff_iff, hs.has n, decide_eq_true_iff]
    rw [e]
    exact q⟩)
end
def spRule3 : Sp := fun vs H Q _ => ∃ (c : Int) (most run : Nat), vs = [.int c, .int (most : Int), .int (run : Int)] ∧ 1 ≤ most ∧ 1 ≤ run ∧ ∀ H' p, Same H H' → H' p = some (.tup (ruleV (ruleOf c most run))) → H p = none → Q (.ref p) H'
def spSome (K : PySem.W.Frag) : Sp := fun vs H Q _ => ∃ (a : Addr) (ns : List Int), vs = [.ref a] ∧ SqL K H a (ns.map V.int) ∧ ∀ H' p hs, Same H H' → H p = none → H' p = some (.lst (nl hs)) → Row.IsRow hs → Q (.ref p) H'
def firstBy (r : Row.Rule) (told hs : List Nat) : Option (List Nat) := (Row.turnsOf r hs).find? fun t => Row.xs (Row.at0 told) t == Row.xs (Row.at0 told) hs
def spFirst (K : PySem.W.Frag) : Sp := fun vs H Q _ => ∃ (pr pt ph : Addr) (r : Row.Rule) (told hs : List Nat), vs = [.ref pr, .ref pt, .ref ph] ∧ SqT K H pr (ruleV r) ∧ Row.Good r ∧ SqL K H pt (nl told) ∧ SqL K H ph (nl hs) ∧ Row.IsRow hs ∧ (∀ a ∈ hs, a < told.length) ∧
  (firstBy r told hs = none → ∀ H', Same H H' → Q .non H') ∧ (∀ t, firstBy r told hs = some t → ∀ H' p, Same H H' → H p = none → H' p = some (.lst (nl t)) → Q (.ref p) H')
end L2
namespace L2
open PySem PySem.Spec PyProof.Rows
theorem ev_cellN {K : PySem.W.Frag} {σ : St} {H : Hp} {n : Nat} {a : Addr} {ns : List Int} {t : TE} {i : Int} (k : Nat) (h : σ[n]? = some (some (.ref a))) (ht : EvE t σ H (.int i)) (hi : i = (k : Int)) (hS : SqL K H a (ns.map V.int)) : EvE (tCall (spCell K) [] E0 (tCons (tVar n) (tCons t tNil))) σ H (.int (cell ns k)) := by
  subst hi
  exact ev_call (ev_cons (ev_var h) (ev_cons ht ev_nil)) fun Q q => ⟨a, ns, k, rfl, hS, q⟩
end L2
namespace Row
end Row
namespace L2
open PySem PySem.Spec PyProof.Rows
end L2
namespace Row
end Row
namespace L2
open PySem PySem.Spec PyProof.Rows
def spReached (K : PySem.W.Frag) : Sp := fun vs H Q _ => ∃ (pr pt : Addr) (r : Row.Rule) (told : List Nat), vs = [.ref pr, .ref pt] ∧ SqT K H pr (ruleV r) ∧ Row.Good r ∧ SqL K H pt (nl told) ∧ told.length < 40 ∧
  ∀ H' d kvs, Same H H' → H d = none → H' d = some (.dK kvs) → Seen kvs ((Row.others r told.length).map (Row.xs (Row.at0 told))) → Q (.ref d) H'
end L2
namespace L2
open PySem PySem.Spec PyProof.Rows
theorem dput_of {D : Ends} {σ : St} {H : Hp} {td ty tv : TE} {d : Addr} {v : V} {i : Int} {kvs : List (Key × V)} (hv : EvE tv σ H v) (hd : EvE td σ H (.ref d)) (hy : EvE ty σ H (.int i)) (h : H d = some (.dK kvs)) (hl : kvs.length < sizeLine)
    (q : D.nx σ (upd H d (.dK (putK kvs (Sum.inl i) v)))) : sDPut td ty tv D σ H := hv _ (hd _ (hy _ ⟨d, _, rfl, DPut.k (k := Sum.inl i) h hl, q⟩))
theorem ev_atN {K : PySem.W.Frag} {σ : St} {H : Hp} {ta tb : TE} {p : Addr} {told : List Nat} {i : Int} (k : Nat) (ha : EvE ta σ H (.ref p)) (hb : EvE tb σ H (.int i)) (h : SqL K H p (nl told)) (hi : i = (k : Int)) (hk : k < told.length) : EvE (tOp (rIxL K) ta tb) σ H (.int ((Row.at0 told k : Nat) : Int)) := by
  subst hi
  exact ev_ixL ha hb h (at_nl hk)
end L2
namespace Row
end Row
namespace L2
open PySem PySem.Spec PyProof.Rows
def spIs : Sp := fun vs H Q _ => ∃ i j : Int, vs = [.int i, .int j] ∧ Q (.bl (decide (i = j))) H
end L2
namespace L2
open PySem PySem.Spec PyProof.Rows
theorem ev_intB {σ : St} {H : Hp} {ts : TA} {b : Bool} (h : EvA ts σ H [.bl b]) : EvE (tCB (fun xs H Q => (∃ i, xs = [V.int i] ∧ Q (V.int i) H) ∨ ∃ k, xs = [V.bl k] ∧ Q (V.int (if k = true then 1 else 0)) H) ts) σ H (.int (if b = true then 1 else 0)) := fun Q q => h _ (.inr ⟨b, rfl, q⟩)
theorem at_end {xs : List V} {x : V} : atI (xs ++ [x]) (-1) = some x := atI_last xs x
end L2
namespace Row
end Row
namespace L2
open PySem PySem.Spec PyProof.Rows
section
variable {t ta tb : TE} {c d : TT} {ts : TA} {σ : St} {H : Hp} {v : V} {vs : List V} {a b : Bool} {i j : Int} {D : Ends} {s u : TS}
def EvG (t : TE) (σ : St) (H : Hp) (v : V) : Prop := ∀ Q : VK, (∀ H', Same H H' → Q v H') → t σ H Q
def EvGT (c : TT) (σ : St) (H : Hp) (b : Bool) : Prop := ∀ Q : Bool → Hp → Prop, (∀ H', Same H H' → Q b H') → c σ H Q
def EvGA (ts : TA) (σ : St) (H : Hp) (vs : List V) : Prop := ∀ Q : List V → Hp → Prop, (∀ H', Same H H' → Q vs H') → ts σ H Q
theorem evg_e (h : EvE t σ H v) : EvG t σ H v := fun Q q => h _ (q _ (Same.refl H))
theorem evg_t (h : EvT c σ H b) : EvGT c σ H b := fun Q q => h _ (q _ (Same.refl H))
theorem evg_a (h : EvA ts σ H vs) : EvGA ts σ H vs := fun Q q => h _ (q _ (Same.refl H))
theorem evg_call {sp : Sp} {E : XK} (ha : EvGA ts σ H vs) (hr : ∀ H1, Same H H1 → ∀ Q : VK, (∀ H', Same H1 H' → Q v H') → sp (vs ++ []) H1 Q E) : EvG (tCall sp [] E ts) σ H v := fun Q q => ha _ fun H1 s1 => hr H1 s1 _ fun H2 s2 => q _ (s1.trans s2)
theorem evg_test (h : EvG t σ H (.bl b)) : EvGT (tTest t) σ H b := fun Q q => h _ fun H1 s1 => ⟨b, rfl, q _ s1⟩
theorem evg_or (h1 : EvGT c σ H a) (h2 : a = false → ∀ H1, Same H H1 → EvGT d σ H1 b) : EvGT (tOr c d) σ H (a || b) := fun Q q => h1 _ fun H1 s1 => by
  cases a with
  | true => rw [if_pos rfl]; exact q _ s1
  | false => rw [if_neg (by decide)]; exact h2 rfl H1 s1 _ fun H2 s2 => q _ (s1.trans s2)
theorem evg_andV (h1 : EvG ta σ H (.bl a)) (h2 : a = true → ∀ H1, Same H H1 → EvG tb σ H1 (.bl b)) : EvG (tAndV ta tb) σ H (.bl (a && b)) := fun Q q => h1 _ fun H1 s1 => ⟨a, rfl, by
  cases a with
  | false => rw [if_neg (by decide)]; exact q _ s1
  | true => rw [if_pos rfl]; exact h2 rfl H1 s1 _ fun H2 s2 => q _ (s1.trans s2)⟩
theorem ifG_of (h : EvGT c σ H b) (ht : b = true → ∀ H1, Same H H1 → s D σ H1) (hu : b = false → ∀ H1, Same H H1 → u D σ H1) : tIfS c s u D σ H := h _ fun H1 s1 => by
  cases b with
  | true => rw [if_pos rfl]; exact ht rfl H1 s1
  | false => rw [if_neg (by decide)]; exact hu rfl H1 s1
theorem retG_of (h : EvG t σ H v) (q : ∀ H1, Same H H1 → D.rt v H1) : tRet t D σ H := h _ q
end
end L2
set_option Elab.async false
set_option linter.all false
set_option maxRecDepth 100000
set_option maxHeartbeats 4000000
namespace L2
open PySem PySem.Spec PyProof.Rows
def ndd (xss : List (List Nat)) : List Dt := xss.map fun xs => Dt.seq false (nd xs)
def rdN (xs : List V) : List Nat := xs.map fun v => match v with
  | .int i => i.toNat
  | _ => 0
def wtAt (k : Nat) (σ : St) (H : Hp) : Nat := match σ[k]? with
  | some (some (.ref p)) => match H p with
    | some (.lst xs) => Row.weight (rdN xs)
    | _ => 0
  | _ => 0
def spTurnsL (K : PySem.W.Frag) : Sp := fun vs H Q _ => ∃ (pr ph : Addr) (r : Row.Rule) (hs : List Nat), vs = [.ref pr, .ref ph] ∧ SqT K H pr (ruleV r) ∧ Row.Good r ∧ SqL K H ph (nl hs) ∧ Row.IsRow hs ∧
  ∀ H' p rs, Same H H' → H p = none → H' p = some (.lst (rs.map V.ref)) → RL H H' (Row.turnsOf r hs) rs → Q (.ref p) H'
def spBehind (K : PySem.W.Frag) (n : Nat) : Sp := fun vs H Q _ => ∃ (ph pt : Addr) (hs t : List Nat), vs = [.ref ph, .ref pt] ∧ SqL K H ph (nl hs) ∧ SqL K H pt (nl t) ∧ ∀ H' p, Same H H' → H p = none → H' p = some (.lst (nl (Row.behind n hs t))) → Q (.ref p) H'
def spIsTurn : Sp := fun vs H Q _ => ∃ (pt pw : Addr) (t : List Nat) (xss : List (List Nat)) (rs : List Addr), vs = [.ref pt, .ref pw] ∧ H pt = some (.lst (nl t)) ∧ H pw = some (.lst (rs.map V.ref)) ∧ RL (fun _ => none) H xss rs ∧ Q (.bl (decide (t ∈ xss))) H
end L2
namespace Row
theorem xor_zero {a b : Nat} (h : a = b) : a ^^^ b = 0 := by rw [h, Nat.xor_self]
end Row
namespace L2
open PySem PySem.Spec PyProof.Rows
theorem ev_neB {σ : St} {H : Hp} {ta tb : TE} {a b : Bool} (ha : EvE ta σ H (.bl a)) (hb : EvE tb σ H (.bl b)) : EvE (tOp rNe ta tb) σ H (.bl (a != b)) := by
  have := ev_ne ha hb (by cases a <;> cases b <;> rfl)
  rwa [show (!decide (V.bl a = V.bl b)) = (a != b) from by cases a <;> cases b <;> simp] at this
end L2
namespace L2
open PySem PySem.Spec PyProof.Rows
theorem op_in_k {X : Cx} {K : PySem.W.Frag} (h : X.K = K) : OpR X (compareOp .In) (rIn K false) := by subst h; exact op_in_seq
theorem ix_listK {X : Cx} {K : PySem.W.Frag} (h : X.K = K) : IxR X (rIxL K) := by subst h; exact ix_list
theorem call_lenK {X : Cx} {K : PySem.W.Frag} (h : X.K = K) : CallR X (.builtin "len") (fun xs H Q => ∃ p ys, xs = [.ref p] ∧ (SqL K H p ys ∨ SqT K H p ys) ∧ Q (.int ys.length) H) := by subst h; exact call_len_seq
end L2
namespace L2
open PySem PySem.Spec PyProof.Rows
end L2
namespace L2
open PySem PySem.Spec PyProof.Rows
end L2
namespace L2
open PySem PySem.Spec PyProof.Rows
theorem call_listK {X : Cx} {K : PySem.W.Frag} (h : X.K = K) : CallR X (.type "list") (fun xs H Q => ∃ p ys, xs = [.ref p] ∧ (SqL K H p ys ∨ SqT K H p ys) ∧ ∀ l, H l = none → Q (.ref l) (upd H l (.lst ys))) := by subst h; exact call_list_of
end L2
set_option linter.all false
set_option maxRecDepth 100000
set_option maxHeartbeats 4000000
namespace Row
theorem mem_run {r : Rule} (h2 : r.1 = 2) {last : Nat} {t : List Nat} : t ∈ shapes r last ↔ 1 ≤ t.length ∧ t.length ≤ r.2 ∧ t.length ≤ last + 1 ∧ t = (List.range t.length).map fun k => last + 1 - t.length + k := by
  unfold shapes
  rw [List.mem_flatMap]
  constructor
  · rintro ⟨many, hm, h⟩
    rw [List.mem_range'_1] at hm
    rw [if_pos h2] at h
    split at h
    · have e := List.mem_singleton.mp h
      have el : t.length = many := by rw [e, List.length_map, List.length_range]
      subst el
      exact ⟨hm.1, by omega, by assumption, e⟩
    · cases h
  · rintro ⟨h1, hk, hl, e⟩
    refine ⟨t.length, List.mem_range'_1.mpr (by omega), ?_⟩
    rw [if_pos h2, if_pos hl]
    exact List.mem_singleton.mpr e
theorem mem_few {r : Rule} (h2 : r.1 ≠ 2) {last : Nat} {t : List Nat} : t ∈ shapes r last ↔ 1 ≤ t.length ∧ t.length ≤ r.2 ∧ (r.1 = 0 ∨ t.length = r.2) ∧ (t = [last] ∨ (∃ one, one < last ∧ t = [one, last]) ∨ ∃ one two, one < two ∧ two < last ∧ t = [one, two, last]) := by
  unfold shapes
  rw [List.mem_flatMap]
  constructor
  · rintro ⟨many, hm, h⟩
    rw [List.mem_range'_1] at hm
    rw [if_neg h2] at h
    split at h
    · rename_i d
      rcases List.mem_append.mp h with h | h
      · rcases List.mem_append.mp h with h | h
        · split at h
          · rename_i e
            have := List.mem_singleton.mp h
            subst this
            subst e
            exact ⟨by simp, by simp; omega, by simpa using d, .inl rfl⟩
          · cases h
        · split at h
          · rename_i e
            obtain ⟨one, ho, rfl⟩ := List.mem_map.mp h
            subst e
            exact ⟨by simp, by simp; omega, by simpa using d, .inr (.inl ⟨one, List.mem_range.mp ho, rfl⟩)⟩
          · cases h
      · split at h
        · rename_i e
          obtain ⟨one, ho, h⟩ := List.mem_flatMap.mp h
          obtain ⟨two, ht, rfl⟩ := List.mem_map.mp h
          rw [List.mem_range'_1] at ht
          subst e
          exact ⟨by simp, by simp; omega, by simpa using d, .inr (.inr ⟨one, two, by omega, by omega, rfl⟩)⟩
        · cases h
    · cases h
  · rintro ⟨h1, hk, d, h⟩
    refine ⟨t.length, List.mem_range'_1.mpr (by omega), ?_⟩
    rw [if_neg h2, if_pos d]
    rcases h with rfl | ⟨one, ho, rfl⟩ | ⟨one, two, h12, h2l, rfl⟩
    · simp
    · simp
      exact ho
    · simp
      omega
def oddOnesGo : Nat → Nat → Bool
  | 0, _ => false
  | f + 1, n => if n = 0 then false else (n % 2 == 1) != oddOnesGo f (n / 2)
def oddOnes (n : Nat) : Bool := oddOnesGo 64 n
def mostNum (k p : Nat) : Nat := if k = 1 then 1 else if k = 2 then p + 1 else if oddOnes p then 2 * p else 2 * p + 1
def runGo (k p : Nat) : Nat → Nat → Nat
  | 0, w => w
  | f + 1, w => if 2 * w ≤ k ∧ (p + 1) % (2 * w) = 0 then runGo k p f (2 * w) else w
def runNum (k p : Nat) : Nat := runGo k p 64 1
def clNum (r : Rule) (p : Nat) : Nat := if r.1 = 2 then runNum r.2 p else if r.1 = 0 then mostNum r.2 p else if p < r.2 - 1 then 0 else mostNum r.2 (p - (r.2 - 1))
def hits (n : Nat) (S : List Nat) : Bool := (List.range n).all fun m => S.any fun s => Nat.beq s m
def leastB (n : Nat) (S : List Nat) : Bool := S.all (fun s => !Nat.beq s n) && hits n S
def scan : Nat → List Nat → Nat → List Nat
  | _, _, 0 => []
  | a, [], _ + 1 => [a]
  | a, x :: r, n + 1 => a :: scan (a ^^^ x) r n
def pairs : List Nat → List Nat
  | [] => []
  | x :: r => r.map (fun y => x ^^^ y) ++ pairs r
def sums (r : Rule) (rev : List Nat) : List Nat :=
  if r.1 = 2 then scan 0 rev r.2
  else if r.1 = 0 then (if r.2 = 1 then [0] else if r.2 = 2 then 0 :: rev else 0 :: (rev ++ pairs rev))
  else (if r.2 = 1 then [0] else if r.2 = 2 then rev else pairs rev)
def chk (r : Rule) : Nat → Nat → List Nat → Bool
  | 0, _, _ => true
  | n + 1, p, rev => leastB (clNum r p) (sums r rev) && chk r n (p + 1) (clNum r p :: rev)
def revTo (f : Nat → Nat) : Nat → List Nat
  | 0 => []
  | p + 1 => f p :: revTo f p
end Row
set_option Elab.async false
set_option linter.all false
set_option maxRecDepth 100000
set_option maxHeartbeats 1000000
namespace Row
def Steps (r : Rule) (ts : List Int) : Prop := ∀ k, 1 ≤ k → k < ts.length → ts.getD (k - 1) 0 < ts.getD k 0 ∧ (r.1 = 2 → ts.getD k 0 = ts.getD (k - 1) 0 + 1)
theorem lets_iff {r : Rule} (hg : Good r) {hs : List Nat} {ts : List Int} : Lets r hs ts ↔ ts ≠ [] ∧ ts.length ≤ r.2 ∧ (∃ l ∈ hs, ts.getD (ts.length - 1) 0 = (l : Int)) ∧ Steps r ts ∧ 0 ≤ ts.getD 0 0 ∧ (r.1 = 1 → ts.length = r.2) := by
  by_cases h2 : r.1 = 2
  · constructor
    · rintro ⟨t, rfl, last, hl, ht⟩
      obtain ⟨h1, hk, hl2, e⟩ := (mem_run h2).mp ht
      have at' : ∀ k, k < t.length → (t.map fun (n : Nat) => (n : Int)).getD k 0 = ((last + 1 - t.length + k : Nat) : Int) := fun k hk => by
        rw [List.getD_eq_getElem?_getD, List.getElem?_map]
        have : t[k]? = some (last + 1 - t.length + k) := by
          conv => lhs; rw [e]
          rw [List.getElem?_map, List.getElem?_range hk]
          rfl
        rw [this]
        rfl
      refine ⟨fun z => by rw [List.map_eq_nil_iff] at z; rw [z] at h1; simp at h1, by simpa using hk, ⟨last, hl, ?_⟩, fun k k1 kl => ?_, ?_, fun z => by omega⟩
      · rw [List.length_map, at' _ (by omega)]
        omega
      · rw [List.length_map] at kl
        rw [at' _ (by omega), at' _ kl]
        omega
      · rw [at' _ (by omega)]
        omega
    · rintro ⟨hne, hk, ⟨l, hl, el⟩, st, h0, _⟩
      have hp : 0 < ts.length := List.length_pos_iff.mpr hne
      have go : ∀ k, k < ts.length → ts.getD k 0 = ts.getD 0 0 + (k : Int) := fun k => by
        induction k with
        | zero => intro _; simp
        | succ k ih =>
          intro hk
          have a1 := (st (k + 1) (by omega) hk).2 h2
          rw [Nat.add_sub_cancel] at a1
          rw [a1, ih (by omega)]
          omega
      have e0 := go (ts.length - 1) (by omega)
      rw [el] at e0
      generalize ts.getD 0 0 = z at go e0 h0
      refine ⟨(List.range ts.length).map fun k => l + 1 - ts.length + k, ?_, l, hl, (mem_run h2).mpr ⟨by simp; omega, by simpa using hk, by simp; omega, by simp⟩⟩
      refine List.ext_getElem (by simp) fun k a1 a2 => ?_
      have := go k a1
      rw [List.getD_eq_getElem?_getD, List.getElem?_eq_getElem a1] at this
      simp at this ⊢
      omega
  · have k3 : r.2 ≤ 3 ∧ (r.1 = 0 ∨ r.1 = 1) := by rcases hg with ⟨h, _, h3⟩ | ⟨h, _⟩ <;> omega
    constructor
    · rintro ⟨t, rfl, last, hl, ht⟩
      obtain ⟨h1, hk, d, h⟩ := (mem_few h2).mp ht
      have j : r.1 = 1 → t.length = r.2 := fun z => by omega
      rcases h with rfl | ⟨one, ho, rfl⟩ | ⟨one, two, h12, h2l, rfl⟩
      · refine ⟨by simp, by simpa using hk, ⟨last, hl, by simp⟩, fun k k1 kl => ?_, by simp, by simpa using j⟩
        simp at kl
        omega
      · refine ⟨by simp, by simpa using hk, ⟨last, hl, by simp⟩, fun k k1 kl => ?_, by simp, by simpa using j⟩
        simp at kl
        have : k = 1 := by omega
        subst this
        simp
        omega
      · refine ⟨by simp, by simpa using hk, ⟨last, hl, by simp⟩, fun k k1 kl => ?_, by simp, by simpa using j⟩
        simp at kl
        rcases (by omega : k = 1 ∨ k = 2) with rfl | rfl <;> simp <;> omega
    · rintro ⟨hne, hk, ⟨l, hl, el⟩, st, h0, j⟩
      have d : r.1 = 0 ∨ ts.length = r.2 := by
        rcases k3.2 with h | h
        · exact .inl h
        · exact .inr (j h)
      match ts, hne, hk, el, st, h0, d with
      | [a], _, hk, el, st, h0, d =>
        simp at el
        subst el
        exact ⟨[l], by simp, l, hl, (mem_few h2).mpr ⟨by simp, by simpa using hk, by simpa using d, .inl rfl⟩⟩
      | [a, b], _, hk, el, st, h0, d =>
        simp at el
        subst el
        have s1 := (st 1 (by omega) (by simp)).1
        simp at s1 h0
        obtain ⟨a', rfl⟩ : ∃ a' : Nat, a = (a' : Int) := ⟨a.toNat, by omega⟩
        exact ⟨[a', l], by simp, l, hl, (mem_few h2).mpr ⟨by simp, by simpa using hk, by simpa using d, .inr (.inl ⟨a', by omega, rfl⟩)⟩⟩
      | [a, b, c], _, hk, el, st, h0, d =>
        simp at el
        subst el
        have s1 := (st 1 (by omega) (by simp)).1
        have s2 := (st 2 (by omega) (by simp)).1
        simp at s1 s2 h0
        obtain ⟨a', rfl⟩ : ∃ a' : Nat, a = (a' : Int) := ⟨a.toNat, by omega⟩
        obtain ⟨b', rfl⟩ : ∃ b' : Nat, b = (b' : Int) := ⟨b.toNat, by omega⟩
        exact ⟨[a', b', l], by simp, l, hl, (mem_few h2).mpr ⟨by simp, by simpa using hk, by simpa using d, .inr (.inr ⟨a', b', by omega, by omega, rfl⟩)⟩⟩
      | _ :: _ :: _ :: _ :: _, _, hk, _, _, _, _ =>
        simp at hk
        omega
end Row
set_option Elab.async false
set_option linter.all false
set_option maxRecDepth 100000
set_option maxHeartbeats 4000000
namespace L2
open PySem PySem.Spec PyProof.Rows
theorem ev_notJust {K : PySem.W.Frag} {σ : St} {H : Hp} {n : Nat} {pr : Addr} {r : Row.Rule} (hv : σ[n]? = some (some (.ref pr))) (h : SqT K H pr (ruleV r)) (h2 : r.1 ≤ 2) : EvE (tOp rNe (tOp (rIxT K) (tVar n) (tC (V.int 0))) (tC (V.str "just"))) σ H (.bl (!decide (r.1 = 1))) := by
  have := ev_ne (ev_rule0 hv h) (ev_c (v := .str "just")) rfl
  rwa [show decide (V.str (word r.1) = V.str "just") = decide (r.1 = 1) from by rcases (by omega : r.1 = 0 ∨ r.1 = 1 ∨ r.1 = 2) with e | e | e <;> rw [e] <;> decide] at this
theorem at_int {ts : List Int} {k : Nat} (h : k < ts.length) : atI (ts.map V.int) (k : Int) = some (V.int (ts.getD k 0)) := atI_nat (by
  rw [List.getElem?_map, List.getElem?_eq_getElem h, List.getD_eq_getElem?_getD, List.getElem?_eq_getElem h]
  rfl)
theorem ev_atI {K : PySem.W.Frag} {σ : St} {H : Hp} {ta tb : TE} {p : Addr} {ts : List Int} {i : Int} (k : Nat) (ha : EvE ta σ H (.ref p)) (hb : EvE tb σ H (.int i)) (h : SqL K H p (ts.map V.int)) (hi : i = (k : Int)) (hk : k < ts.length) : EvE (tOp (rIxL K) ta tb) σ H (.int (ts.getD k 0)) := by
  subst hi
  exact ev_ixL ha hb h (at_int hk)
theorem ev_atEnd {K : PySem.W.Frag} {σ : St} {H : Hp} {ta tb : TE} {p : Addr} {ts : List Int} (ha : EvE ta σ H (.ref p)) (hb : EvE tb σ H (.int (-1))) (h : SqL K H p (ts.map V.int)) (hk : ts ≠ []) : EvE (tOp (rIxL K) ta tb) σ H (.int (ts.getD (ts.length - 1) 0)) := by
  obtain ⟨i, l, rfl⟩ : ∃ i l, ts = i ++ [l] := by
    rcases List.eq_nil_or_concat ts with e | ⟨i, l, e⟩
    · exact absurd e hk
    · exact ⟨i, l, by rw [e, List.concat_eq_append]⟩
  refine ev_ixL ha hb h ?_
  have e : (i ++ [l]).getD ((i ++ [l]).length - 1) 0 = l := by simp
  rw [e, List.map_append]
  exact at_end
def spLets (K : PySem.W.Frag) : Sp := fun vs H Q _ => ∃ (pr ph pt : Addr) (r : Row.Rule) (hs : List Nat) (ts : List Int), vs = [.ref pr, .ref ph, .ref pt] ∧ SqT K H pr (ruleV r) ∧ Row.Good r ∧ SqL K H ph (nl hs) ∧ SqL K H pt (ts.map V.int) ∧ ts.length ≤ 1000 ∧ ∀ b, (b = true ↔ Row.Lets r hs ts) → Q (.bl b) H
def spIsRow : Sp := fun vs H Q _ => ∃ (pf pd : Addr) (xs ys : List Nat), vs = [.ref pf, .ref pd] ∧ H pf = some (.lst (nl xs)) ∧ H pd = some (.lst (nl ys)) ∧ ys.length ≤ 1000 ∧ Q (.bl (decide (xs = ys))) H
def spPlaces (K : PySem.W.Frag) : Sp := fun vs H Q _ => ∃ (a : Addr) (ns : List Int) (first wide : Nat), vs = [.ref a, .int (first : Int), .int (wide : Int)] ∧ SqL K H a (ns.map V.int) ∧ (wide = 9 ∨ wide = 40) ∧ ∀ H' p ts, Same H H' → H p = none → H' p = some (.lst (nl ts)) → ts ≠ [] → ts.length ≤ 40 → Q (.ref p) H'
def spSpoilt (K : PySem.W.Frag) : Sp := fun vs H Q _ => ∃ (pt : Addr) (ts : List Int) (way : Int), vs = [.ref pt, .int way] ∧ H pt = some (.lst (ts.map V.int)) ∧ ts ≠ [] ∧ ts.length ≤ 500 ∧ ∀ H' p (us : List Int), Same H H' → H' p = some (.lst (us.map V.int)) → us.length ≤ 1000 → Q (.ref p) H'
end L2
namespace L2
open PySem PySem.Spec PyProof.Rows
theorem lst_of {ts : TA} {σ : St} {H : Hp} {vs : List V} {Q : VK} (ha : EvA ts σ H vs) (hl : vs.length ≤ sizeLine) (q : ∀ p, H p = none → Q (.ref p) (upd H p (.lst vs))) : tLst ts σ H Q := ha _ ⟨hl, q⟩
theorem op_of {r : R2} {ta tb : TE} {σ : St} {H : Hp} {x : V} {Q : VK} (ha : EvE ta σ H x) (hb : tb σ H fun y H2 => r x y H2 Q) : tOp r ta tb σ H Q := ha _ hb
theorem retO_of {t : TE} {D : Ends} {σ : St} {H : Hp} (h : t σ H D.rt) : tRet t D σ H := h
end L2
namespace L2
open PySem PySem.Spec PyProof.Rows
def spAfterC (K : PySem.W.Frag) : Sp := fun vs H Q _ => ∃ (pr ph pt : Addr) (r : Row.Rule) (hs t : List Nat), vs = [.ref pr, .ref ph, .ref pt] ∧ SqT K H pr (ruleV r) ∧ Row.Good r ∧ SqL K H ph (nl hs) ∧ Row.IsRow hs ∧ SqL K H pt (nl t) ∧ t.length ≤ 1000 ∧ (∃ last ∈ hs, t ∈ Row.shapes r last) ∧
  ∀ H' p, Same H H' → H p = none → H' p = some (.lst (nl (Row.behind 40 hs t))) → Q (.ref p) H'
end L2
namespace L2
open PySem PySem.Spec PyProof.Rows
def zd (xs : List Int) : List Dt := xs.map Dt.int
theorem zd_inj {xs ys : List Int} (h : zd xs = zd ys) : xs = ys := by
  induction xs generalizing ys with
  | nil => cases ys with
    | nil => rfl
    | cons y ys => cases h
  | cons x xs ih => cases ys with
    | nil => cases h
    | cons y ys =>
      unfold zd at h ih
      rw [List.map_cons, List.map_cons] at h
      injection h with h1 h2
      injection h1 with h1
      rw [h1, ih h2]
theorem zd_paired {K : PySem.W.Frag} {H : Hp} {n : Nat} : ∀ xs : List Int, Paired (Dat K H n) (zd xs) (xs.map V.int)
  | [] => .nil
  | x :: xs => .cons (Dat.int.mpr rfl) (zd_paired xs)
theorem dat_ints {K : PySem.W.Frag} {H : Hp} {n : Nat} {p : Addr} {xs : List Int} (h : SqL K H p (xs.map V.int)) : Dat K H (n + 1) (.seq false (zd xs)) (.ref p) := ⟨p, _, rfl, by rw [if_neg Bool.false_ne_true]; exact h, zd_paired xs⟩
section
variable {K : PySem.W.Frag} {σ : St} {H : Hp} {ta tb : TE}
theorem ev_neZ {p p' : Addr} {xs ys : List Int} (ha : EvE ta σ H (.ref p)) (hb : EvE tb σ H (.ref p')) (h : SqL K H p (xs.map V.int)) (h' : SqL K H p' (ys.map V.int)) : EvE (tOp (rNeD K 0) ta tb) σ H (.bl (!decide (xs = ys))) := fun Q q => ha _ (hb _ ⟨false, zd xs, zd ys, dat_ints h, dat_ints h', fun b hb => by
  have : b = !decide (xs = ys) := by
    rw [Bool.eq_iff_iff, hb]
    simp
    exact ⟨fun z e => z (by rw [e]), fun z e => z (zd_inj e)⟩
  rw [this]
  exact q⟩)
theorem ev_isBool {b : Bool} {r : TA} (hr : EvA r σ H [.bl b, .ty "bool"]) : EvE (tCB (fun xs H Q => ∃ x T t b, xs = [x, .ty T] ∧ TyOf K H x t ∧ PySem.W.kitOne K t (.type T) = some b ∧ Q (.bl b) H) r) σ H (.bl true) :=
  fun Q q => hr _ ⟨_, _, _, true, rfl, .bl b, rfl, q⟩
end
end L2
set_option Elab.async false
set_option linter.all false
set_option maxRecDepth 100000
set_option maxHeartbeats 4000000
namespace Row
open Nim
def bess (as bs : List Nat) (lx ly : Nat) : List (Nat × Nat) := (cross as bs).filter fun p => p.1 != lx || p.2 != ly
def besides (rx ry : Rule) (lx ly : Nat) : List Nat := (shapes rx lx).flatMap fun as => (shapes ry ly).map fun bs => xs (num2 rx ry) (bess as bs lx ly)
end Row
namespace L2
open PySem PySem.Spec PyProof.Rows
def tv (tt : List (List Nat)) (p : Nat × Nat) : Nat := Row.at0 (tt.getD p.1 []) p.2
def spBesides (K : PySem.W.Frag) : Sp := fun vs H Q _ => ∃ (pt px py : Addr) (rs : List Addr) (tt : List (List Nat)) (a0 b0 : List Nat) (lx ly : Nat), vs = [.ref pt, .ref px, .ref py] ∧ H pt = some (.lst (rs.map V.ref)) ∧ RL (fun _ => none) H tt rs ∧ SqL K H px (nl (a0 ++ [lx])) ∧ SqL K H py (nl (b0 ++ [ly])) ∧
  (∀ a ∈ a0 ++ [lx], a < tt.length) ∧ (∀ row ∈ tt, ∀ b ∈ b0 ++ [ly], b < row.length) ∧ Q (.int ((Row.xs (tv tt) (Row.bess (a0 ++ [lx]) (b0 ++ [ly]) lx ly) : Nat) : Int)) H
def spBoardNumber (K : PySem.W.Frag) : Sp := fun vs H Q _ => ∃ (px py : Addr) (rx ry : Row.Rule) (x y : Nat), vs = [.ref px, .ref py, .int (x : Int), .int (y : Int)] ∧ SqT K H px (ruleV rx) ∧ SqT K H py (ruleV ry) ∧ Row.Good rx ∧ Row.Good ry ∧ x < 16 ∧ y < 16 ∧ ∀ H', Same H H' → Q (.int ((Row.num2 rx ry (x, y) : Nat) : Int)) H'
end L2
namespace L2
open PySem PySem.Spec PyProof.Rows
def Kp (d : Addr) (G H : Hp) : Prop := ∀ b o, b ≠ d → G b = some o → H b = some o
theorem Kp.refl {d : Addr} {G : Hp} : Kp d G G := fun _ _ _ h => h
theorem Kp.same {d : Addr} {G H H' : Hp} (h : Kp d G H) (s : Same H H') : Kp d G H' := fun b o n e => s _ _ (h b o n e)
theorem Kp.of {d : Addr} {G H : Hp} (s : Same G H) : Kp d G H := fun b o _ e => s _ _ e
theorem Kp.trans {d : Addr} {G H H' : Hp} (h : Kp d G H) (h' : Kp d H H') : Kp d G H' := fun b o n e => h' b o n (h b o n e)
theorem Kp.put {d : Addr} {G H : Hp} {o : HO} (h : Kp d G H) : Kp d G (upd H d o) := fun b u n e => by rw [upd_ne n]; exact h b u n e
theorem Kp.rl {d : Addr} {G H H0 : Hp} {xss : List (List Nat)} {rs : List Addr} {kvs : List (Key × V)} (h : Kp d G H) (hd : G d = some (.dK kvs)) (r : RL H0 G xss rs) : RL H0 H xss rs := Paired.mapP r fun xs a q => ⟨h _ _ (fun z => by rw [z, hd] at q; cases q.1) q.1, q.2⟩
theorem Kp.lst {d : Addr} {G H : Hp} {kvs : List (Key × V)} {p : Addr} {xs : List V} (h : Kp d G H) (hd : G d = some (.dK kvs)) (e : G p = some (.lst xs)) : H p = some (.lst xs) := h _ _ (fun z => by rw [z, hd] at e; cases e) e
theorem Kp.tup {K : PySem.W.Frag} {d : Addr} {G H : Hp} {kvs : List (Key × V)} {p : Addr} {xs : List V} (h : Kp d G H) (hd : G d = some (.dK kvs)) (e : SqT K G p xs) : SqT K H p xs := by
  rcases e with (e | ⟨o, e⟩) | e
  · exact .inl (.inl (h _ _ (fun z => by rw [z, hd] at e; cases e) e))
  · exact .inl (.inr ⟨o, h _ _ (fun z => by rw [z, hd] at e; cases e) e⟩)
  · exact .inr e
end L2
namespace L2
end L2
namespace L2
end L2
namespace Row
open Nim
end Row
set_option linter.all false
set_option maxRecDepth 100000
set_option maxHeartbeats 4000000
namespace Row
def chs (e : Nat) : Nat → Nat → List (List Nat)
  | 0, _ => [[]]
  | c + 1, s => (List.range' s (e - s)).flatMap fun f => (chs e c (f + 1)).map fun rest => f :: rest
def endFew (lo k p : Nat) : List (List Nat) := (List.range' lo (k + 1 - lo)).flatMap fun len => (chs p (len - 1) 0).map fun l => l ++ [p]
def endRun (k p : Nat) : List (List Nat) := (List.range (min k (p + 1))).map fun more => List.range' (p - more) (more + 1)
def prt (r : Rule) (last many : Nat) : List (List Nat) :=
  if r.1 = 2 then (if many ≤ last + 1 then [(List.range many).map fun k => last + 1 - many + k] else [])
    else if r.1 = 0 ∨ many = r.2 then
      (if many = 1 then [[last]] else []) ++ (if many = 2 then (List.range last).map fun one => [one, last] else []) ++
      (if many = 3 then (List.range last).flatMap fun one => (List.range' (one + 1) (last - (one + 1))).map fun two => [one, two, last] else [])
    else []
def endsAt (r : Rule) (p : Nat) : List (List Nat) := if r.1 = 2 then endRun r.2 p else endFew (if r.1 = 1 then r.2 else 1) r.2 p
end Row
set_option Elab.async false
set_option linter.all false
set_option maxRecDepth 100000
set_option maxHeartbeats 4000000
namespace L2
open PySem PySem.Spec PyProof.Rows
def atS (kvs : List (Str × V)) (y : Str) : Option V := (kvs.find? fun kv => decide (kv.1 = y)).map (·.2)
def GDic (K : PySem.W.Frag) (Pm : Params) (mg : Str → Option Value) (x : Str) (kvs : List (Str × V)) : Prop :=
  ∃ a es n, mg x = some (.ref a) ∧ K.lookup a = some ⟨.type "dict", none, .dict es n, #[]⟩ ∧ PySem.W.KeysLit Pm es.toList ∧ (a == sysModules) = false ∧
    Paired (fun (kv : Str × V) (e : DictEntry) => (∃ t, e.key = .str kv.1 t) ∧ RelV kv.2 e.val) kvs es.toList
theorem isStrOf_dec (x y : Str) (t : Tok) : Value.isStrOf y (.str x t) = decide (x = y) := by
  first
    | (show (x == y) = decide (x = y); by_cases h : x = y <;> simp [h])
    | (show (y == x) = decide (x = y); by_cases h : x = y <;> simp [h, eq_comm])
theorem find_rel {kvs : List (Str × V)} {l : List DictEntry} (h : Paired (fun (kv : Str × V) (e : DictEntry) => (∃ t, e.key = .str kv.1 t) ∧ RelV kv.2 e.val) kvs l) (y : Str) : RelO (atS kvs y) ((l.find? fun e => Value.isStrOf y e.key).map (·.val)) := by
  induction h with
  | nil => trivial
  | @cons p q ps qs h t ih =>
    obtain ⟨⟨tk, e⟩, r⟩ := h
    unfold atS at ih ⊢
    rw [List.find?_cons, List.find?_cons, e, isStrOf_dec]
    by_cases c : p.1 = y
    · rw [decide_eq_true c]; exact r
    · rw [decide_eq_false c]; exact ih
theorem find_relA {kvs : List (Str × V)} {es : Array DictEntry} (h : Paired (fun (kv : Str × V) (e : DictEntry) => (∃ t, e.key = .str kv.1 t) ∧ RelV kv.2 e.val) kvs es.toList) (y : Str) : RelO (atS kvs y) (findBy Value.isStrOf es y) := by
  obtain ⟨l⟩ := es
  unfold findBy
  rw [List.find?_toArray]
  exact find_rel h y
theorem glob_dic {K : PySem.W.Frag} {Pm : Params} {h : Heap} {mg : Str → Option Value} {x : Str} {a : Addr} {es : Array DictEntry} {n : Nat} {kvs : List (Str × V)} (X : K.In h) (G : h.Ns mainGlobals mg)
    (e : PySem.W.nsIn K mainGlobals x = some (some (.ref a))) (l : K.lookup a = some ⟨.type "dict", none, .dict es n, #[]⟩) (hk : PySem.W.KeysLit Pm es.toList) (hs : (a == sysModules) = false)
    (v : Paired (fun (kv : Str × V) (e : DictEntry) => (∃ t, e.key = .str kv.1 t) ∧ RelV kv.2 e.val) kvs es.toList) : GDic K Pm mg x kvs := ⟨a, es, n, PySem.W.mg_of X G e, l, hk, hs, v⟩
def tKGet (kvs : List (Str × V)) (te : TE) : TE := fun σ H Q => te σ H fun y H1 => ∃ x v, y = .str x ∧ atS kvs x = some v ∧ Q v H1
def tKIn (neg : Bool) (kvs : List (Str × V)) (te : TE) : TE := fun σ H Q => te σ H fun y H1 => ∃ x, y = .str x ∧ Q (.bl ((atS kvs x).isSome != neg)) H1
section
variable {X : Cx} {x : Str} {kvs : List (Str × V)} {i : Expr} {ty : TE} {pos pos' : Pos}
theorem pe_kget (h : GDic X.K X.w.params X.mg x kvs) (hi : PE X i ty) (hs : NoSl i) (hg : Gl X x := by rfl) (hd : (x == ("__debug__" : Str)) = false := by decide) : PE X (.Subscript (.Name x pos) i pos') (tKGet kvs ty) := by
  obtain ⟨a, es, n, hm, hl, hk, hsy, rel⟩ := h
  intro pins s σ H Q I h
  refine subD_of PySem.F.slot_dict_getitem.lookup hs (thn (pe_glob (v := .ref a) hg hm rfl hd pins s σ H (fun x H1 => x = .ref a ∧ H1 = H) I ⟨rfl, rfl⟩) fun u s1 ⟨x1, H1, I1, rx, ex, eH⟩ => ?_)
  subst ex eH
  obtain rfl : u = Value.ref a := rx
  refine thn (hi pins s1 σ _ _ I1 h) fun iv s2 ⟨y, H2, I2, ry, x2, v, ey, lk, q2⟩ => ?_
  subst ey
  obtain ⟨t, rfl⟩ := ry
  have hm := PySem.W.mapOf_K (prog := X.prog) (w := X.w) I2.kIn hl hk
  obtain ⟨w', hw, rw'⟩ := RelO.some_of (v := v) (o := findBy Value.isStrOf es x2) (by rw [← lk]; exact find_relA rel x2)
  exact ⟨hm.typeIs, wpAny_getItem_of (strKind_is X.prog X.w x2 t) hm hw ⟨v, H2, I2.tok _, rw', q2⟩⟩
theorem pc_knotin (h : GDic X.K X.w.params X.mg x kvs) (hi : PE X i ty) (hg : Gl X x := by rfl) (hd : (x == ("__debug__" : Str)) = false := by decide) : PC X .NotIn i (.Name x pos) (tKIn true kvs ty) := by
  obtain ⟨a, es, n, hm, hl, hk, hsy, rel⟩ := h
  intro pins s σ H Q I h
  refine thn (hi pins s σ H _ I h) fun iv s1 ⟨y, H1, I1, ry, x2, ey, q1⟩ => thn (pe_glob (v := .ref a) hg hm rfl hd pins s1 σ H1 (fun x H2 => x = .ref a ∧ H2 = H1) I1 ⟨rfl, rfl⟩) fun u s2 ⟨x1, H2, I2, rx, ex, eH⟩ => ?_
  subst ex eH ey
  obtain rfl : u = Value.ref a := rx
  obtain ⟨t, rfl⟩ := ry
  have hm := PySem.W.mapOf_K (prog := X.prog) (w := X.w) I2.kIn hl hk
  refine wpAny_notIn_of (strKind_is X.prog X.w x2 t) hsy hm ?_
  rw [← (find_relA rel x2).isSome_eq]
  exact ⟨.bl _, _, I2.tok _, rfl, by simpa using q1⟩
end
section
variable {σ : St} {H : Hp} {t : TE} {kvs : List (Str × V)} {x : Str} {v : V}
theorem ev_kget (h : EvE t σ H (.str x)) (e : atS kvs x = some v) : EvE (tKGet kvs t) σ H v := fun Q q => h _ ⟨x, v, rfl, e, q⟩
theorem ev_kin {neg : Bool} (h : EvE t σ H (.str x)) : EvE (tKIn neg kvs t) σ H (.bl ((atS kvs x).isSome != neg)) := fun Q q => h _ ⟨x, rfl, q⟩
theorem ev_isJust {K : PySem.W.Frag} {σ : St} {H : Hp} {n : Nat} {pr : Addr} {r : Row.Rule} (hv : σ[n]? = some (some (.ref pr))) (h : SqT K H pr (ruleV r)) (h2 : r.1 ≤ 2) : EvE (tOp rEq (tOp (rIxT K) (tVar n) (tC (V.int 0))) (tC (V.str "just"))) σ H (.bl (decide (r.1 = 1))) := by
  rw [← word_just h2]
  exact ev_eq (ev_rule0 hv h) ev_c rfl
section
variable {K : PySem.W.Frag} {sp : Sp} {E : XK} {ts : TA} {t : TE} {σ : St} {H : Hp} {vs : List V} {Q : VK} {r : List V → Hp → VK → Prop} {R : It → Hp → Prop}
end
def intAt (k : Nat) (σ : St) : Nat := match σ[k]? with
  | some (some (V.int n)) => n.toNat
  | _ => 0
end
end L2
namespace Row
end Row
set_option Elab.async false
set_option linter.all false
set_option maxRecDepth 100000
set_option maxHeartbeats 4000000
namespace HT
open PySem PyProof.Rows
def lexLe : List Int → List Int → Bool
  | [], _ => true
  | _ :: _, [] => false
  | x :: xs, y :: ys => if x = y then lexLe xs ys else decide (x ≤ y)
section
open PySem.SeqAt
open PySem.AutoSeq1 (wpAny_loadPart')
open PySem.MeetsSeq PySem.MeetsSeq2 PySem.MeetsSeq3
end
section
variable {prog : Program} {w : World} {A : Around} {E : Value → Shared → Prop} {s : Shared}
end
end HT
namespace L2
open PySem PySem.Spec PyProof.Rows
section
variable {X : Cx}
def rLeT (K : PySem.W.Frag) : R2 := fun x y H Q => ∃ a b ns ms, x = .ref a ∧ y = .ref b ∧ SqT K H a (ns.map V.int) ∧ SqT K H b (ms.map V.int) ∧ Q (.bl (HT.lexLe ns ms)) H
end
end L2
set_option linter.all false
set_option maxRecDepth 100000
set_option maxHeartbeats 4000000
namespace Row
open Nim
def PLt (a b : Nat × Nat) : Prop := a.1 < b.1 ∨ (a.1 = b.1 ∧ a.2 < b.2)
structure IsBoard (ps : List (Nat × Nat)) : Prop where
  sorted : ps.Pairwise PLt
  lt : ∀ p ∈ ps, p.1 < 16 ∧ p.2 < 16
def turns2 (rx ry : Rule) (ps : List (Nat × Nat)) : List (List Nat × List Nat) := ps.flatMap fun p => (shapes rx p.1).flatMap fun as => (shapes ry p.2).map fun bs => (as, bs)
def tsum (rx ry : Rule) (t : List Nat × List Nat) : Nat := nim 4 (xs (num rx) t.1) (xs (num ry) t.2)
def replyOf2 (rx ry : Rule) (ps : List (Nat × Nat)) : Option (List Nat × List Nat) := (turns2 rx ry ps).find? fun t => tsum rx ry t == xs (num2 rx ry) ps
def grid (n : Nat) : List (Nat × Nat) := (List.range n).flatMap fun x => (List.range n).map fun y => (x, y)
def behind2 (n : Nat) (ps : List (Nat × Nat)) (t : List Nat × List Nat) : List (Nat × Nat) := (grid n).filter fun p => decide (p ∈ ps) != (decide (p.1 ∈ t.1) && decide (p.2 ∈ t.2))
def weight2 (n : Nat) (ps : List (Nat × Nat)) : Nat := xs (fun p => 2 ^ (n * p.1 + p.2)) ps
end Row
set_option Elab.async false
set_option linter.all false
set_option maxRecDepth 100000
set_option maxHeartbeats 4000000
namespace L2
open PySem PySem.Spec PyProof.Rows
def BL (K : PySem.W.Frag) (H : Hp) (ps : List (Nat × Nat)) (rs : List Addr) : Prop := Paired (fun (p : Nat × Nat) r => SqT K H r [.int (p.1 : Int), .int (p.2 : Int)]) ps rs
theorem BL.length {K : PySem.W.Frag} {H : Hp} {ps : List (Nat × Nat)} {rs : List Addr} (h : BL K H ps rs) : ps.length = rs.length := Paired.length h
theorem BL.same {K : PySem.W.Frag} {H H' : Hp} {ps : List (Nat × Nat)} {rs : List Addr} (h : BL K H ps rs) (s : Same H H') : BL K H' ps rs := Paired.mapP h fun _ _ q => s.tup q
def spBoardValue (K : PySem.W.Frag) : Sp := fun vs H Q _ => ∃ (px py ph : Addr) (rx ry : Row.Rule) (ps : List (Nat × Nat)) (rs : List Addr), vs = [.ref px, .ref py, .ref ph] ∧ SqT K H px (ruleV rx) ∧ SqT K H py (ruleV ry) ∧ Row.Good rx ∧ Row.Good ry ∧
  SqL K H ph (rs.map V.ref) ∧ BL K H ps rs ∧ Row.IsBoard ps ∧ ∀ H', Same H H' → Q (.int ((Row.xs (Row.num2 rx ry) ps : Nat) : Int)) H'
def spBoardReply (K : PySem.W.Frag) : Sp := fun vs H Q _ => ∃ (px py ph : Addr) (rx ry : Row.Rule) (ps : List (Nat × Nat)) (rs : List Addr), vs = [.ref px, .ref py, .ref ph] ∧ SqT K H px (ruleV rx) ∧ SqT K H py (ruleV ry) ∧ Row.Good rx ∧ Row.Good ry ∧
  SqL K H ph (rs.map V.ref) ∧ BL K H ps rs ∧ Row.IsBoard ps ∧
  (Row.replyOf2 rx ry ps = none → ∀ H', Same H H' → Q .non H') ∧
  (∀ t, Row.replyOf2 rx ry ps = some t → ∀ H' p a b, Same H H' → H p = none → H' p = some (.tup [.ref a, .ref b]) → H a = none → H b = none → a ≠ b → H' a = some (.lst (nl t.1)) → H' b = some (.lst (nl t.2)) → Q (.ref p) H')
def TLF (Pr : Addr → Prop) (H : Hp) (f : List Nat → Addr → List V) (xss : List (List Nat)) (ts : List Addr) : Prop :=
  ts.length = xss.length ∧ ∀ (j : Nat) t, ts[j]? = some t → ∃ s a, xss[j]? = some s ∧ H t = some (.tup (f s a)) ∧ H a = some (.lst (nl s)) ∧ Pr a
theorem TLF.keep {Pr : Addr → Prop} {H H' : Hp} {f : List Nat → Addr → List V} {xss : List (List Nat)} {ts : List Addr} (h : TLF Pr H f xss ts) (k1 : ∀ a xs, H a = some (.lst xs) → H' a = some (.lst xs)) (k2 : ∀ a xs, H a = some (.tup xs) → H' a = some (.tup xs)) : TLF Pr H' f xss ts :=
  ⟨h.1, fun j t e => by
    obtain ⟨s, a, h1, h2, h3, h4⟩ := h.2 j t e
    exact ⟨s, a, h1, k2 _ _ h2, k1 _ _ h3, h4⟩⟩
theorem TLF.imp {Pr Pr' : Addr → Prop} {H : Hp} {f : List Nat → Addr → List V} {xss : List (List Nat)} {ts : List Addr} (h : TLF Pr H f xss ts) (g : ∀ a s, H a = some (.lst (nl s)) → Pr a → Pr' a) : TLF Pr' H f xss ts :=
  ⟨h.1, fun j t e => by
    obtain ⟨x, a, h1, h2, h3, h4⟩ := h.2 j t e
    exact ⟨x, a, h1, h2, h3, g a x h3 h4⟩⟩
abbrev TL (Pr : Addr → Prop) (H : Hp) (f : List Nat → Nat) (xss : List (List Nat)) (ts : List Addr) : Prop := TLF Pr H (fun s a => [.ref a, .int ((f s : Nat) : Int)]) xss ts
def pk (a b : Nat) : List Key := [Sum.inl (a : Int), Sum.inl (b : Int)]
structure PKs (kvs : List (List Key × V)) : Prop where
  nd : (kvs.map (·.1)).Nodup
  ok : ∀ kv ∈ kvs, ∃ a b : Nat, a < 32 ∧ b < 32 ∧ kv = (pk a b, V.int ((Nim.nim 4 a b : Nat) : Int))
theorem pk_inj {a b c d : Nat} (h : pk a b = pk c d) : a = c ∧ b = d := by
  unfold pk at h
  injection h with h1 h2
  injection h2 with h2 _
  have h1 : (a : Int) = c := Sum.inl.inj h1
  have h2 : (b : Int) = d := Sum.inl.inj h2
  omega
theorem PKs.nil : PKs [] := ⟨by simp, fun kv h => by simp at h⟩
theorem PKs.len {kvs : List (List Key × V)} (h : PKs kvs) : kvs.length ≤ 1024 := by
  have key : ∀ kv ∈ kvs, ∃ n : Nat, n < 1024 ∧ kv.1 = pk (n / 32) (n % 32) := fun kv hk => by
    obtain ⟨a, b, ha, hb, rfl⟩ := h.ok kv hk
    exact ⟨a * 32 + b, by omega, by rw [show (a * 32 + b) / 32 = a by omega, show (a * 32 + b) % 32 = b by omega]⟩
  have sub : ∀ k ∈ kvs.map (·.1), k ∈ (List.range 1024).map fun n => pk (n / 32) (n % 32) := fun k hk => by
    obtain ⟨kv, hkv, rfl⟩ := List.mem_map.mp hk
    obtain ⟨n, hn, e⟩ := key kv hkv
    exact List.mem_map.mpr ⟨n, List.mem_range.mpr hn, e.symm⟩
  have := List.Nodup.length_le_of_subset h.nd sub
  simpa using this
theorem PKs.get {kvs : List (List Key × V)} (h : PKs kvs) {a b : Nat} {v : V} (e : valV kvs (pk a b) = some v) : v = V.int ((Nim.nim 4 a b : Nat) : Int) := by
  unfold valV at e
  obtain ⟨kv, hf, rfl⟩ := Option.map_eq_some_iff.mp e
  obtain ⟨c, d, _, _, rfl⟩ := h.ok kv (List.mem_of_find?_eq_some hf)
  have z := List.find?_some hf
  have z : pk c d = pk a b := by simpa using z
  obtain ⟨rfl, rfl⟩ := pk_inj z
  rfl
theorem PKs.put {kvs : List (List Key × V)} (h : PKs kvs) {a b : Nat} (ha : a < 32) (hb : b < 32) (e : valV kvs (pk a b) = none) : PKs (putK kvs (pk a b) (V.int ((Nim.nim 4 a b : Nat) : Int))) := by
  rw [putK_new _ e]
  refine ⟨?_, fun kv hk => ?_⟩
  · rw [List.map_append, List.nodup_append]
    refine ⟨h.nd, by simp, fun x hx y hy z => ?_⟩
    have : y = pk a b := by simpa using hy
    subst this
    subst z
    exact valV_not e hx
  · rcases List.mem_append.mp hk with q | q
    · exact h.ok kv q
    · exact ⟨a, b, ha, hb, by simpa using q⟩
def spKept : Sp := fun vs H Q _ => ∃ (d : Addr) (a b : Nat) (kvs : List (List Key × V)), vs = [.ref d, .int (a : Int), .int (b : Int)] ∧ a < 32 ∧ b < 32 ∧ H d = some (.dT kvs) ∧ PKs kvs ∧
  ∀ H' kvs', Kp d H H' → H' d = some (.dT kvs') → PKs kvs' → Q (.int ((Nim.nim 4 a b : Nat) : Int)) H'
def spSums (K : PySem.W.Frag) : Sp := fun vs H Q _ => ∃ (pr : Addr) (r : Row.Rule) (n : Nat), vs = [.ref pr, .int (n : Int)] ∧ SqT K H pr (ruleV r) ∧ Row.Good r ∧ n < 40 ∧
  ∀ H' p ts, Same H H' → H p = none → H' p = some (.lst (ts.map V.ref)) → TL (fun a => H a = none) H' (Row.xs (Row.num r)) (Row.shapes r n) ts → Q (.ref p) H'
def pairsOf (xss yss : List (List Nat)) : List (List Nat × List Nat) := xss.flatMap fun s => yss.map fun u => (s, u)
def spFirstAdd : Sp := fun vs H Q _ => ∃ (g : Nat) (px py d : Addr) (PA PB : Addr → Prop) (f f' : List Nat → Nat) (xss yss : List (List Nat)) (ts us : List Addr) (kvs : List (List Key × V)), vs = [.int (g : Int), .ref px, .ref py, .ref d] ∧
  H px = some (.lst (ts.map V.ref)) ∧ H py = some (.lst (us.map V.ref)) ∧ TL PA H f xss ts ∧ TL PB H f' yss us ∧ (∀ s ∈ xss, f s < 32) ∧ (∀ s ∈ yss, f' s < 32) ∧ H d = some (.dT kvs) ∧ PKs kvs ∧
  ((pairsOf xss yss).find? (fun t => Nim.nim 4 (f t.1) (f' t.2) == g) = none → ∀ H' kvs', Kp d H H' → H' d = some (.dT kvs') → PKs kvs' → Q .non H') ∧
  (∀ t, (pairsOf xss yss).find? (fun t => Nim.nim 4 (f t.1) (f' t.2) == g) = some t → ∀ H' kvs' p a b, Kp d H H' → H' d = some (.dT kvs') → PKs kvs' → H p = none → H' p = some (.tup [.ref a, .ref b]) →
    H a = some (.lst (nl t.1)) → PA a → H b = some (.lst (nl t.2)) → PB b → Q (.ref p) H')
section
variable {K : PySem.W.Frag} {d : Addr} {G H : Hp} {kvs : List (List Key × V)} {p : Addr} {xs : List V}
theorem Kp.free {o : HO} (h : Kp d G H) (hd : H d = some o) (e : H p = none) : G p = none := by
  cases c : G p with
  | none => rfl
  | some u =>
    by_cases z : p = d
    · rw [z, hd] at e; cases e
    · rw [h p u z c] at e; cases e
end
end L2
set_option Elab.async false
set_option linter.all false
set_option maxRecDepth 100000
set_option maxHeartbeats 4000000
namespace L2
open PySem PySem.Spec PyProof.Rows
def pd (p : Nat × Nat) : Dt := .seq true [.int (p.1 : Int), .int (p.2 : Int)]
def bd (ps : List (Nat × Nat)) : List Dt := ps.map pd
section
variable {K : PySem.W.Frag} {σ : St} {H : Hp} {ta tb : TE}
end
def PL (H : Hp) (ps : List (Nat × Nat)) (rs : List Addr) : Prop := Paired (fun (p : Nat × Nat) r => H r = some (.tup [.int (p.1 : Int), .int (p.2 : Int)])) ps rs
theorem PL.bl {K : PySem.W.Frag} {H : Hp} {ps : List (Nat × Nat)} {rs : List Addr} (h : PL H ps rs) : BL K H ps rs := Paired.mapP h fun _ _ q => .inl (.inl q)
theorem PL.same {H H' : Hp} {ps : List (Nat × Nat)} {rs : List Addr} (h : PL H ps rs) (s : Same H H') : PL H' ps rs := Paired.mapP h fun _ _ q => s _ _ q
theorem PL.length {H : Hp} {ps : List (Nat × Nat)} {rs : List Addr} (h : PL H ps rs) : ps.length = rs.length := Paired.length h
theorem PL.upd {H : Hp} {ps : List (Nat × Nat)} {rs : List Addr} {l : Addr} {xs : List V} {o : HO} (h : PL H ps rs) (hl : H l = some (.lst xs)) : PL (L2.upd H l o) ps rs :=
  Paired.mapP h fun _ _ q => by rw [upd_ne (ne_of q hl (by intro z; cases z))]; exact q
def bits9 (c : Int) (i : Nat) : List Nat := (List.range i).filter fun k => decide (c / 2 ^ k % 2 = 1)
def pl3 (k : Nat) : Nat × Nat := (k / 3, k % 3)
def board3 (c : Int) : List (Nat × Nat) := (bits9 c 9).map pl3
def spBoard3 : Sp := fun vs H Q _ => ∃ c : Int, vs = [.int c] ∧ ∀ H' p rs, Same H H' → H p = none → H' p = some (.lst (rs.map V.ref)) → PL H' (board3 c) rs → Q (.ref p) H'
def WL (H : Hp) (ts : List (List Nat × List Nat)) (rs : List Addr) : Prop := Paired (fun (t : List Nat × List Nat) r => ∃ a b, H r = some (.tup [.ref a, .ref b]) ∧ H a = some (.lst (nl t.1)) ∧ H b = some (.lst (nl t.2))) ts rs
theorem WL.same {H H' : Hp} {ts : List (List Nat × List Nat)} {rs : List Addr} (h : WL H ts rs) (s : Same H H') : WL H' ts rs := Paired.mapP h fun _ _ ⟨a, b, h1, h2, h3⟩ => ⟨a, b, s _ _ h1, s _ _ h2, s _ _ h3⟩
theorem WL.length {H : Hp} {ts : List (List Nat × List Nat)} {rs : List Addr} (h : WL H ts rs) : ts.length = rs.length := Paired.length h
def spTurns2 (K : PySem.W.Frag) : Sp := fun vs H Q _ => ∃ (pl px py ph : Addr) (rx ry : Row.Rule) (ps : List (Nat × Nat)) (rs : List Addr), vs = [.ref pl, .ref ph] ∧ SqL K H pl [.ref px, .ref py] ∧ SqT K H px (ruleV rx) ∧ SqT K H py (ruleV ry) ∧ Row.Good rx ∧ Row.Good ry ∧
  SqL K H ph (rs.map V.ref) ∧ BL K H ps rs ∧ (∀ p ∈ ps, p.1 < 3 ∧ p.2 < 3) ∧ ps.length ≤ 9 ∧ ∀ H' p ws, Same H H' → H p = none → H' p = some (.lst (ws.map V.ref)) → WL H' (Row.turns2 rx ry ps) ws → Q (.ref p) H'
def spBehind2 (K : PySem.W.Frag) (n : Nat) : Sp := fun vs H Q _ => ∃ (ph pt a b : Addr) (ps : List (Nat × Nat)) (rs : List Addr) (t : List Nat × List Nat), vs = [.ref ph, .ref pt] ∧ SqL K H ph (rs.map V.ref) ∧ BL K H ps rs ∧ SqT K H pt [.ref a, .ref b] ∧ SqL K H a (nl t.1) ∧ SqL K H b (nl t.2) ∧
  ∀ H' p ss, Same H H' → H p = none → H' p = some (.lst (ss.map V.ref)) → PL H' (Row.behind2 n ps t) ss → Q (.ref p) H'
def spIsTurn2 : Sp := fun vs H Q _ => ∃ (pt pw a b : Addr) (t : List Nat × List Nat) (ts : List (List Nat × List Nat)) (ws : List Addr), vs = [.ref pt, .ref pw] ∧ H pt = some (.tup [.ref a, .ref b]) ∧ H a = some (.lst (nl t.1)) ∧ H b = some (.lst (nl t.2)) ∧ H pw = some (.lst (ws.map V.ref)) ∧ WL H ts ws ∧ Q (.bl (decide (t ∈ ts))) H
def td (t : List Nat × List Nat) : Dt := .seq true [.seq false (nd t.1), .seq false (nd t.2)]
def rdP (H : Hp) : V → Nat × Nat
  | .ref a => match H a with
    | some (.tup [.int x, .int y]) => (x.toNat, y.toNat)
    | _ => (0, 0)
  | _ => (0, 0)
def wt2At (n k : Nat) (σ : St) (H : Hp) : Nat := match σ[k]? with
  | some (some (.ref a)) => match H a with
    | some (.lst xs) => Row.weight2 n (xs.map (rdP H))
    | _ => 0
  | _ => 0
end L2
namespace Row
end Row
namespace Row
end Row
namespace Row
end Row
namespace L2
def tabOf (xs ys : List Nat) : List (List Nat) := xs.map fun x => ys.map fun y => Nim.nim 4 x y
end L2
set_option Elab.async false
set_option linter.all false
set_option maxRecDepth 100000
set_option maxHeartbeats 4000000
namespace L2
open PySem PySem.Spec PyProof.Rows PySem.W
def krun (lt : Nat → Nat → Bool) {α : Type} : KasT α → α
  | .ret a => a
  | .ask i j k => krun lt (k (lt i j))
def kok (n : Nat) (lt : Nat → Nat → Bool) {α : Type} : KasT α → Bool
  | .ret _ => true
  | .ask i j k => decide (i < n) && decide (j < n) && kok n lt (k (lt i j))
def lists (m : Nat) : Nat → List (List Nat)
  | 0 => [[]]
  | n + 1 => (lists m n).flatMap fun l => (List.range m).map fun a => a :: l
def nodupB : List Nat → Bool
  | [] => true
  | a :: l => !l.contains a && nodupB l
def rlt (r : List Nat) (i j : Nat) : Bool := decide (r.getD i 0 < r.getD j 0)
def sortOk (n : Nat) (r : List Nat) : Bool :=
  !nodupB r || (kok n (rlt r) (kas_sort n) && ((krun (rlt r) (kas_sort n)).toList.map (fun i => r.getD i 0) == List.range n) && (krun (rlt r) (kas_sort n)).toList.all fun i => decide (i < n))
def rk (ks : List Nat) (k : Nat) : Nat := ks.countP fun x => decide (x < k)
end L2
set_option Elab.async false
set_option linter.all false
set_option maxRecDepth 100000
set_option maxHeartbeats 4000000
namespace L2
open PySem PySem.Spec PyProof.Rows PySem.W
def TupAt (h : Heap) (p : Nat × Nat) (v : Value) : Prop := ∃ r o k tx ty, v = .ref r ∧ h.get? r = some o ∧ o.cls = .type "tuple" ∧ o.data = .seq #[.int (p.1 : Int) tx, .int (p.2 : Int) ty] k
def SortsTo (ps qs : List (Nat × Nat)) : Prop := qs.Pairwise Row.PLt ∧ ∀ p, p ∈ qs ↔ p ∈ ps
def key16 (p : Nat × Nat) : Nat := p.1 * 16 + p.2
section
variable {prog : Program} {w : World} {A : Around} {E : Value → Shared → Prop} {s : Shared}
end
section
variable {X : Cx}
def rSortP (K : PySem.W.Frag) : List V → Hp → VK → Prop := fun xs H Q => ∃ (p : Addr) (ps : List (Nat × Nat)) (rs : List Addr), xs = [.ref p] ∧ SqL K H p (rs.map V.ref) ∧ BL K H ps rs ∧ (∀ p ∈ ps, p.2 < 16) ∧ ps.Nodup ∧ ps.length ≤ 5 ∧
  ∀ (l : Addr) (qs : List (Nat × Nat)) (ss : List Addr), H l = none → SortsTo ps qs → Paired (fun (q : Nat × Nat) r => SqT K H r [.int (q.1 : Int), .int (q.2 : Int)] ∧ r ∈ rs) qs ss → Q (.ref l) (upd H l (.lst (ss.map V.ref)))
end
end L2
set_option Elab.async false
set_option linter.all false
set_option maxRecDepth 100000
set_option maxHeartbeats 4000000
namespace L2
open PySem PySem.Spec PyProof.Rows PySem.W
def EntAt (h : Heap) (d : Addr) (es : Array DictEntry) (ep : Nat) : Prop := ∃ o, h.get? d = some o ∧ o.ExactDict ∧ o.data = .dict es ep
theorem EntAt.at {h h' : Heap} {d : Addr} {es : Array DictEntry} {ep : Nat} (x : EntAt h d es ep) (k : ∀ o, h.get? d = some o → h'.get? d = some o) : EntAt h' d es ep := let ⟨o, g, r⟩ := x; ⟨o, k o g, r⟩
theorem EntAt.typeIs {s : Shared} {d : Addr} {es : Array DictEntry} {ep : Nat} (x : EntAt s.heap d es ep) : s.TypeIs (.ref d) "dict" := let ⟨o, g, c, _⟩ := x; ⟨o, g, c.1⟩
section
variable {prog : Program} {w : World} {A : Around} {E : Value → Shared → Prop} {s : Shared} {it d : Addr} {es : Array DictEntry} {ep i : Nat}
end
section
variable {prog : Program} {w : World} {A : Around} {E : Value → Shared → Prop} {s : Shared}
end
section
variable {X : Cx}
def rSortD : List V → Hp → VK → Prop := fun xs H Q => ∃ (d : Addr) (kvs : List (List Key × V)) (ps : List (Nat × Nat)), xs = [.ref d] ∧ H d = some (.dT kvs) ∧ kvs.map (·.1) = ps.map (fun p => pk p.1 p.2) ∧ (∀ p ∈ ps, p.2 < 16) ∧ ps.Nodup ∧ ps.length ≤ 5 ∧
  ∀ (l : Addr) (qs : List (Nat × Nat)) (ss : List Addr), H l = none → SortsTo ps qs → PL H qs ss → Q (.ref l) (upd H l (.lst (ss.map V.ref)))
end
end L2
set_option Elab.async false
set_option linter.all false
set_option maxRecDepth 100000
set_option maxHeartbeats 4000000
namespace L2
open PySem PySem.Spec PyProof.Rows
structure CalleeD (P : Program) (w : World) (K : PySem.W.Frag) (mg : Str → Option Value) (base : Heap) (x : Str) (st : Stmt) (CX : CXT) (k : Nat) (ps : List Str) (sp : Sp) : Prop where
  ex : ∃ f fd, Fun K x x st f fd ∧ mg x = some (.ref f) ∧ Binds K fd ps [] ∧ FnOk P w K mg base CX k f fd ps sp
section
variable {P : Program} {w : World} {K : PySem.W.Frag} {mg : Str → Option Value} {base : Heap} {x : Str} {st : Stmt} {N ps : List Str} {n k k2 : Nat} {sp sp2 : Sp}
theorem CalleeD.c (C : CalleeD P w K mg base x st CX0 k ps sp) : Callee P w K mg base x k ps sp := by
  obtain ⟨f, fd, F, hm, hb, R⟩ := C.ex
  exact ⟨f, fd, hm, F.kp, hb, R⟩
end
def rEqB (K : PySem.W.Frag) : R2 := fun x y H Q => ∃ (p p' : Addr) (xs ys : List Bool), x = .ref p ∧ y = .ref p' ∧ SqL K H p (xs.map V.bl) ∧ SqL K H p' (ys.map V.bl) ∧ xs.length = ys.length ∧ ∀ b, (b = true ↔ xs = ys) → Q (.bl b) H
end L2
set_option Elab.async false
set_option linter.all false
set_option maxRecDepth 100000
set_option maxHeartbeats 4000000
namespace L2
open PySem PySem.Spec PyProof.Rows
def GStr (mg : Str → Option Value) (x z : Str) : Prop := ∃ t, mg x = some (.str z t)
def rJoin (K : PySem.W.Frag) : V → List V → Hp → VK → Prop := fun x xs H Q => ∃ (sep : Str) (D : Addr) (ss : List Str), x = .str sep ∧ xs = [.ref D] ∧ SqL K H D (ss.map V.str) ∧ JoinOk sep ss = true ∧ Q (.str (Txt.join sep ss)) H
def rSlS : V → Option Int → Option Int → Hp → VK → Prop := fun x lo hi H Q => ∃ z : Str, x = .str z ∧ z.length ≤ sizeLine ∧ Q (.str (Txt.slice z lo hi)) H
def sgn (z : Str) (i : Nat) : Str := ⟨#[z.cps.getD i 0]⟩
def Ite (z : Str) : It := ⟨fun i _ => i < z.length, fun i H x H' => ∃ p, H p = none ∧ x = .ref p ∧ H' = upd H p (.tup [.int (i : Int), .str (sgn z i)]), fun i _ => z.length ≤ i⟩
def iEnum (ta : TA) : TI := fun σ H R => ta σ H fun vs H1 => ∃ z, vs = [.str z] ∧ R (Ite z) H1
theorem CalleeX.c0 {P : Program} {w : World} {K : PySem.W.Frag} {mg : Str → Option Value} {base : Heap} {x : Str} {k : Nat} {ps : List Str} {sp : Sp} (C : CalleeX P w K mg base x k ps sp) : Callee P w K mg base x k ps (fun vs H Q _ => sp vs H Q E0) := by
  obtain ⟨f, fd, hm, hkp, hb, R⟩ := C.ex
  refine ⟨f, fd, hm, hkp, hb, fun vs H Q E h => R.len vs H Q E0 h, fun A outer s H args us vs Q E hr e0 bt r h => ?_⟩
  refine codeAny_mono (R.run A outer s H args us vs Q E0 hr e0 bt r h) fun res s' q => ?_
  cases res with
  | ok fl => cases fl <;> exact q
  | error e =>
    obtain ⟨_, _, _, _, _, _, z⟩ := q
    exact z.elim
end L2
set_option Elab.async false
set_option linter.all false
set_option maxRecDepth 100000
set_option maxHeartbeats 4000000
namespace ST
open PySem
def Rs (xs : List Nat) : Prop := xs.Pairwise (· < ·)
theorem Rs.get {xs : List Nat} (h : Rs xs) {i j : Nat} (hij : i < j) (hj : j < xs.length) : xs[i]'(by omega) < xs[j] := List.pairwise_iff_getElem.mp h i j (by omega) hj hij
theorem go_spec (xs : Array Nat) (h : Rs xs.toList) (j : Nat) : ∀ (fuel lo hi : Nat), hi - lo ≤ fuel → lo ≤ hi → hi ≤ xs.size → (∀ i (q : i < xs.size), i < lo → xs[i] < j) → (∀ i (q : i < xs.size), hi ≤ i → j ≤ xs[i]) →
    SetTable.below.go xs j fuel lo hi ≤ xs.size ∧ (∀ i (q : i < xs.size), i < SetTable.below.go xs j fuel lo hi → xs[i] < j) ∧ (∀ i (q : i < xs.size), SetTable.below.go xs j fuel lo hi ≤ i → j ≤ xs[i])
  | 0, lo, hi, hf, hl, hs, h1, h2 => by
    have e : lo = hi := by omega
    subst e
    unfold SetTable.below.go
    exact ⟨hs, h1, h2⟩
  | fuel + 1, lo, hi, hf, hl, hs, h1, h2 => by
    unfold SetTable.below.go
    by_cases c : lo < hi
    · rw [if_pos c]
      have hm : (lo + hi) / 2 < xs.size := by omega
      have e : xs.getD ((lo + hi) / 2) j = xs[(lo + hi) / 2] := by
        rw [Array.getD_eq_getD_getElem?, Array.getElem?_eq_getElem hm]
        rfl
      have mono : ∀ a b (qa : a < xs.size) (qb : b < xs.size), a < b → xs[a] < xs[b] := fun a b qa qb hab => by
        have := h.get hab (by simpa using qb)
        simpa using this
      dsimp only
      rw [e]
      by_cases d : xs[(lo + hi) / 2] < j
      · rw [if_pos d]
        refine go_spec xs h j fuel _ hi (by omega) (by omega) hs (fun i q hi' => ?_) h2
        rcases Nat.lt_or_ge i ((lo + hi) / 2) with l | l
        · have := mono _ _ q hm l
          omega
        · have : i = (lo + hi) / 2 := by omega
          subst this
          exact d
      · rw [if_neg d]
        refine go_spec xs h j fuel lo _ (by omega) (by omega) (by omega) h1 (fun i q hi' => ?_)
        rcases Nat.lt_or_ge ((lo + hi) / 2) i with l | l
        · have := mono _ _ hm q l
          omega
        · have : i = (lo + hi) / 2 := by omega
          subst this
          omega
    · rw [if_neg c]
      have e : lo = hi := by omega
      subst e
      exact ⟨hs, h1, h2⟩
theorem below_spec {xs : Array Nat} (h : Rs xs.toList) (j : Nat) : SetTable.below xs j ≤ xs.size ∧ (∀ i (q : i < xs.size), i < SetTable.below xs j → xs[i] < j) ∧ (∀ i (q : i < xs.size), SetTable.below xs j ≤ i → j ≤ xs[i]) := by
  unfold SetTable.below
  exact go_spec xs h j xs.size 0 xs.size (by omega) (Nat.zero_le _) (Nat.le_refl _) (fun i _ z => by omega) (fun i q z => by omega)
theorem below_at {xs : Array Nat} (h : Rs xs.toList) {k : Nat} (hk : k < xs.size) : SetTable.below xs xs[k] = k := by
  obtain ⟨h1, h2, h3⟩ := below_spec h xs[k]
  rcases Nat.lt_trichotomy (SetTable.below xs xs[k]) k with l | l | l
  · have a := h3 _ (by omega) (Nat.le_refl (SetTable.below xs xs[k]))
    have b : xs[SetTable.below xs xs[k]]'(by omega) < xs[k] := by
      have := h.get l (by simpa using hk)
      simpa using this
    omega
  · exact l
  · have := h2 k hk l
    omega
theorem below_next {xs : Array Nat} (h : Rs xs.toList) {k : Nat} (hk : k < xs.size) : SetTable.below xs (xs[k] + 1) = k + 1 := by
  obtain ⟨h1, h2, h3⟩ := below_spec h (xs[k] + 1)
  rcases Nat.lt_trichotomy (SetTable.below xs (xs[k] + 1)) (k + 1) with l | l | l
  · have := h3 k hk (by omega)
    omega
  · exact l
  · have hk1 : k + 1 < xs.size := by omega
    have a := h2 (k + 1) hk1 l
    have b : xs[k] < xs[k + 1] := by
      have := h.get (Nat.lt_succ_self k) (by simpa using hk1)
      simpa using this
    omega
theorem below_zero {xs : Array Nat} (h : Rs xs.toList) : SetTable.below xs 0 = 0 := by
  obtain ⟨h1, h2, h3⟩ := below_spec h 0
  rcases Nat.eq_zero_or_pos (SetTable.below xs 0) with l | l
  · exact l
  · have := h2 0 (by omega) l
    omega
theorem mem_at {xs : Array Nat} (h : Rs xs.toList) {j : Nat} (hj : j ∈ xs.toList) : xs[SetTable.below xs j]? = some j := by
  obtain ⟨k, hk, e⟩ := List.getElem_of_mem hj
  have hk' : k < xs.size := by simpa using hk
  have e' : xs[k] = j := by simpa using e
  have := below_at h hk'
  rw [e'] at this
  rw [this, Array.getElem?_eq_getElem hk', e']
theorem rs_insert {xs : Array Nat} (h : Rs xs.toList) {j : Nat} (hj : j ∉ xs.toList) : Rs (SetTable.insertAt xs (SetTable.below xs j) j).toList := by
  rw [SetTable.toList_insertAt]
  obtain ⟨h1, h2, h3⟩ := below_spec h j
  generalize SetTable.below xs j = r at h1 h2 h3
  unfold Rs at *
  rw [List.pairwise_append]
  have hd : ∀ b ∈ xs.toList.drop r, j < b := fun b hb => by
    obtain ⟨i, hi, e⟩ := List.getElem_of_mem hb
    rw [List.getElem_drop] at e
    have hi' : r + i < xs.size := by rw [List.length_drop] at hi; simp at hi; omega
    have a := h3 (r + i) hi' (by omega)
    have e' : xs[r + i] = b := by simpa using e
    have : b ≠ j := fun z => hj (by rw [← z]; exact List.mem_of_mem_drop hb)
    omega
  have ht : ∀ a ∈ xs.toList.take r, a < j := fun a ha => by
    obtain ⟨i, hi, e⟩ := List.getElem_of_mem ha
    rw [List.getElem_take] at e
    have hi1 : i < r ∧ i < xs.size := by rw [List.length_take] at hi; simp at hi; omega
    have := h2 i hi1.2 hi1.1
    have e' : xs[i]'hi1.2 = a := by simpa using e
    omega
  refine ⟨h.sublist (List.take_sublist _ _), List.pairwise_cons.mpr ⟨hd, h.sublist (List.drop_sublist _ _)⟩, fun a ha b hb => ?_⟩
  have := ht a ha
  rcases List.mem_cons.mp hb with rfl | hb
  · exact this
  · have := hd b hb
    omega
theorem toList_erase {α : Type} (xs : Array α) (p : Nat) : (SetTable.eraseAt xs p).toList = xs.toList.take p ++ xs.toList.drop (p + 1) := by
  simp [SetTable.eraseAt, List.extract_eq_take_drop, List.take_of_length_le]
theorem rs_erase {xs : Array Nat} (h : Rs xs.toList) (p : Nat) : Rs (SetTable.eraseAt xs p).toList := by
  rw [toList_erase]
  unfold Rs at *
  refine h.sublist ?_
  conv => rhs; rw [← List.take_append_drop p xs.toList]
  refine List.Sublist.append (List.Sublist.refl _) ?_
  rw [← List.drop_drop]
  exact List.drop_sublist _ _
structure Tb (t : SetTable) (led : Bool) : Prop where
  led : t.led = led
  ris : Rs t.place.toList
theorem rs_range (n : Nat) : Rs (Array.range n).toList := by
  rw [Array.toList_range]
  exact List.pairwise_lt_range
theorem Tb.standIn {t : SetTable} {b : Bool} (h : Tb t b) (n : Nat) : Tb (t.standIn n) b := ⟨h.led, rs_range n⟩
theorem Tb.orStandIn {t : SetTable} {b : Bool} (h : Tb t b) (n : Nat) : Tb (t.orStandIn n) b := by
  unfold SetTable.orStandIn
  split
  · exact h
  · exact h.standIn n
theorem Tb.fresh (f m : Nat) (b : Bool) : Tb (.fresh f m b) b := ⟨rfl, List.Pairwise.nil⟩
theorem laid_tb {mask finger moves : Nat} {led plain : Bool} {hs : Array Int} {t : SetTable} {o : Array Nat} (h : SetTable.laid mask finger moves led plain hs = some (t, o)) : Tb t led ∧ t.mask = mask ∧ t.dummies = #[] ∧ t.plain = plain := by
  unfold SetTable.laid at h
  cases e : SetTable.layClean mask hs with
  | none => rw [e] at h; cases h
  | some owner =>
    rw [e] at h
    have h : some _ = some (t, o) := h
    injection h with h
    injection h with h1 h2
    subst h1
    refine ⟨⟨rfl, ?_⟩, rfl, rfl, rfl⟩
    show Rs (List.map (fun p : Nat × Nat => p.1) _)
    unfold Rs
    rw [List.pairwise_map]
    refine List.Pairwise.filterMap _ ?_ (List.pairwise_lt_range (n := mask + 1))
    intro a a' haa b hb b' hb'
    simp only [Option.mem_def, Option.map_eq_some_iff] at hb hb'
    obtain ⟨_, _, rfl⟩ := hb
    obtain ⟨_, _, rfl⟩ := hb'
    exact haa
theorem not_live {t : SetTable} {j : Nat} (h : Rs t.place.toList) (hs : ∀ i, t.slot j ≠ .live i) : j ∉ t.place.toList := fun hm => by
  refine hs (SetTable.below t.place j) ?_
  unfold SetTable.slot
  dsimp only
  rw [mem_at h hm]
  simp
theorem probe_go {t : SetTable} {f : Nat → Int} {h : Int} : ∀ (fuel : Nat) (p : SetTable.Probe) {j : Nat} {d : Option Nat}, (∀ k, p.dummy = some k → t.slot k = .dummy) → SetTable.probe.go t f h fuel p = some (.empty j d) → t.slot j = .empty ∧ ∀ k, d = some k → t.slot k = .dummy
  | 0, p, j, d, _, e => by cases e
  | fuel + 1, p, j, d, hp, e => by
    unfold SetTable.probe.go at e
    have adv : ∀ q : SetTable.Probe, (t.advance q).dummy = q.dummy := fun q => by
      unfold SetTable.advance
      split <;> rfl
    split at e
    · rename_i hsl
      injection e with e
      injection e with e1 e2
      subst e1 e2
      exact ⟨hsl, hp⟩
    · rename_i hsl
      refine probe_go fuel _ (fun k hk => ?_) e
      rw [adv] at hk
      injection hk with hk
      subst hk
      exact hsl
    · split at e
      · cases e
      · refine probe_go fuel _ (fun k hk => ?_) e
        rw [adv] at hk
        exact hp k hk
theorem free_not {t : SetTable} {h : Int} {j : Nat} {b : Bool} (hr : Rs t.place.toList) (e : t.freeSlot h = some (j, b)) : j ∉ t.place.toList := by
  unfold SetTable.freeSlot at e
  split at e
  · rename_i k dm hp
    injection e with e
    injection e with e1 e2
    obtain ⟨a1, a2⟩ := probe_go _ _ (fun k hk => by cases hk) hp
    refine not_live hr fun i z => ?_
    cases dm with
    | none =>
      have : k = j := e1
      subst this
      rw [a1] at z
      cases z
    | some m =>
      have : m = j := e1
      subst this
      rw [a2 m rfl] at z
      cases z
  · cases e
theorem layNew_tb {t : SetTable} {b : Bool} (h : Tb t b) (es : Array (Int × Value)) (k : Int) (x : Value) : Tb (layNew t es k x).2.1 b := by
  unfold layNew
  cases e : t.freeSlot k with
  | none => exact h.standIn _
  | some p =>
    obtain ⟨j, wd⟩ := p
    dsimp only
    refine Tb.orStandIn (t := (t.put j).1) ⟨h.led, ?_⟩ _
    exact rs_insert h.ris (free_not h.ris e)
theorem relayAll_tb {t : SetTable} {b : Bool} (h : Tb t b) (es : Array (Int × Value)) (n : Nat) : Tb (relayAll t es n).2.1 b := by
  unfold relayAll
  cases e : t.relaid (es.map (·.1)) n with
  | none => exact h.standIn _
  | some p =>
    obtain ⟨t', o⟩ := p
    dsimp only
    split
    · have := (laid_tb e).1
      rw [h.led] at this
      exact this
    · exact h.standIn _
theorem drop_tb {t : SetTable} {b : Bool} (h : Tb t b) (i : Nat) : Tb (t.drop i) b := by
  unfold SetTable.drop
  split
  · exact ⟨h.led, rs_erase h.ris i⟩
  · exact h
end ST
set_option Elab.async false
set_option linter.all false
set_option maxRecDepth 100000
set_option maxHeartbeats 4000000
namespace ST
open PySem
def orbL (mask : Nat) : Nat → Nat → Nat → List Nat
  | 0, _, _ => []
  | n + 1, i, p => i :: orbL mask n (SetTable.leap mask i p).1 (SetTable.leap mask i p).2
def orbB (mask : Nat) : Nat → Nat → Nat → Nat → Nat
  | 0, _, _, acc => acc
  | n + 1, i, p, acc => orbB mask n ((i * 5 + 1 + p / 32) % (mask + 1)) (p / 32) (acc ||| 2 ^ i)
theorem orbB_bit {mask : Nat} : ∀ (n i p acc j : Nat), (orbB mask n i p acc).testBit j = true → acc.testBit j = true ∨ j ∈ orbL mask n i p
  | 0, i, p, acc, j, h => .inl h
  | n + 1, i, p, acc, j, h => by
    rcases orbB_bit n _ _ _ j h with h | h
    · rw [Nat.testBit_or, Bool.or_eq_true] at h
      rcases h with h | h
      · exact .inl h
      · rw [Nat.testBit_two_pow] at h
        have := of_decide_eq_true h
        exact .inr (by rw [this]; exact List.mem_cons_self)
    · exact .inr (List.mem_cons_of_mem _ h)
abbrev masks : List Nat := [7, 15, 31, 63, 127, 255]
theorem cov_all : ∀ mask ∈ masks, ∀ h < 40, orbB mask (mask + 15) (h % (mask + 1)) h 0 = 2 ^ (mask + 1) - 1 := by decide +kernel
theorem cov_ok {mask h j : Nat} (hm : mask ∈ masks) (hh : h < 40) (hj : j ≤ mask) : j ∈ orbL mask (SetTable.turns mask) (h % (mask + 1)) h := by
  have e := cov_all mask hm h hh
  rcases orbB_bit (mask + 15) (h % (mask + 1)) h 0 j (by rw [e, Nat.testBit_two_pow_sub_one]; exact decide_eq_true (by omega)) with z | z
  · simp at z
  · exact z
end ST
set_option Elab.async false
set_option linter.all false
set_option maxRecDepth 100000
set_option maxHeartbeats 4000000
namespace ST
open PySem
theorem free_some {mask : Nat} {ow : Array (Option Nat)} : ∀ (fuel i p : Nat) {j : Nat}, SetTable.layClean.free mask ow fuel i p = some j → ow[j]? = some none
  | 0, i, p, j, e => by cases e
  | fuel + 1, i, p, j, e => by
    unfold SetTable.layClean.free at e
    split at e
    · rename_i k hk
      injection e with e
      subst e
      have := List.find?_some hk
      simp only [Array.getD_eq_getD_getElem?] at this
      cases hg : ow[i + k]? with
      | none => rw [hg] at this; cases this
      | some v =>
        rw [hg] at this
        cases v with
        | none => rfl
        | some _ => cases this
    · exact free_some fuel _ _ e
theorem free_none {mask : Nat} {ow : Array (Option Nat)} : ∀ (fuel i p : Nat), SetTable.layClean.free mask ow fuel i p = none → ∀ j ∈ orbL mask fuel i p, ow[j]? ≠ some none
  | 0, i, p, _, j, hj => by cases hj
  | fuel + 1, i, p, e, j, hj => by
    unfold SetTable.layClean.free at e
    split at e
    · cases e
    · rename_i hk
      rcases List.mem_cons.mp hj with rfl | hj
      · intro z
        have := List.find?_eq_none.mp hk 0 (List.mem_range.mpr (by unfold SetTable.runEnd; split <;> omega))
        rw [Nat.add_zero, Array.getD_eq_getD_getElem?, z] at this
        exact this rfl
      · exact free_none fuel _ _ e j hj
structure Own (mask : Nat) (ow : Array (Option Nat)) (js : List Nat) : Prop where
  size : ow.size = mask + 1
  nd : js.Nodup
  le : ∀ j ∈ js, j ≤ mask
  at' : ∀ (j i : Nat), ow[j]? = some (some i) ↔ js[i]? = some j
theorem Own.start (mask : Nat) : Own mask (Array.replicate (mask + 1) none) [] where
  size := by simp
  nd := List.nodup_nil
  le := by simp
  at' := fun j i => by
    constructor
    · intro h
      rw [Array.getElem?_replicate] at h
      split at h
      · cases h
      · cases h
    · intro h
      simp at h
theorem Own.full {mask : Nat} {ow : Array (Option Nat)} {js : List Nat} (O : Own mask ow js) (h : js.length ≤ mask) : ∃ j, j ≤ mask ∧ ow[j]? = some none := by
  apply Classical.byContradiction
  intro hn
  have all : ∀ j, j ≤ mask → j ∈ js := fun j hj => by
    have hs : j < ow.size := by rw [O.size]; omega
    cases e : ow[j] with
    | none => exact absurd ⟨j, hj, by rw [Array.getElem?_eq_getElem hs, e]⟩ hn
    | some i =>
      have := (O.at' j i).mp (by rw [Array.getElem?_eq_getElem hs, e])
      exact List.mem_of_getElem? this
  have p : js.Perm (List.range (mask + 1)) := (List.perm_ext_iff_of_nodup O.nd List.nodup_range).mpr fun a => ⟨fun ha => List.mem_range.mpr (by have := O.le a ha; omega), fun ha => all a (by have := List.mem_range.mp ha; omega)⟩
  have := p.length_eq
  rw [List.length_range] at this
  omega
theorem Own.put {mask : Nat} {ow : Array (Option Nat)} {js : List Nat} (O : Own mask ow js) {j : Nat} (h : ow[j]? = some none) : Own mask (ow.setIfInBounds j (some js.length)) (js ++ [j]) where
  size := by rw [Array.size_setIfInBounds]; exact O.size
  nd := by
    rw [List.nodup_append]
    refine ⟨O.nd, by simp, fun a ha b hb e => ?_⟩
    have hb : b = j := by simpa using hb
    subst hb
    subst e
    obtain ⟨i, hi⟩ := List.getElem?_of_mem ha
    have := (O.at' a i).mpr hi
    rw [h] at this
    cases this
  le := fun a ha => by
    rcases List.mem_append.mp ha with ha | ha
    · exact O.le a ha
    · have : a = j := by simpa using ha
      subst this
      have : a < ow.size := (Array.getElem?_eq_some_iff.mp h).1
      rw [O.size] at this
      omega
  at' := fun a i => by
    have hj : j < ow.size := (Array.getElem?_eq_some_iff.mp h).1
    rw [Array.getElem?_setIfInBounds]
    by_cases e : j = a
    · subst e
      rw [if_pos rfl, if_pos hj]
      constructor
      · intro z
        injection z with z
        injection z with z
        subst z
        rw [List.getElem?_append_right (Nat.le_refl _), Nat.sub_self]
        rfl
      · intro z
        by_cases c : i < js.length
        · rw [List.getElem?_append_left c] at z
          have := (O.at' j i).mpr z
          rw [h] at this
          cases this
        · have c2 : i = js.length := by
            have := (List.getElem?_eq_some_iff.mp z).1
            simp at this
            omega
          rw [c2]
    · rw [if_neg e, O.at' a i]
      by_cases c : i < js.length
      · rw [List.getElem?_append_left c]
      · rw [List.getElem?_eq_none (by omega)]
        constructor
        · intro z; cases z
        · intro z
          have c2 : i = js.length := by
            have := (List.getElem?_eq_some_iff.mp z).1
            simp at this
            omega
          subst c2
          rw [List.getElem?_append_right (Nat.le_refl _), Nat.sub_self] at z
          injection z with z
          exact absurd z e
def stepC (mask : Nat) (acc : Option (Array (Option Nat) × Nat)) (h : Int) : Option (Array (Option Nat) × Nat) := do
  let (owner, k) ← acc
  let j ← SetTable.layClean.free mask owner (SetTable.turns mask) (SetTable.bits h % (mask + 1)) (SetTable.bits h)
  pure (owner.setIfInBounds j (some k), k + 1)
theorem bits_nat {h : Nat} (hh : h < 40) : SetTable.bits (h : Int) = h := by
  unfold SetTable.bits
  have : ((h : Int) % (2 ^ 64 : Int)) = (h : Int) := Int.emod_eq_of_lt (by omega) (by omega)
  rw [this]
  rfl
theorem fold_ok {mask : Nat} (hm : mask ∈ masks) : ∀ (hs : List Int) {ow : Array (Option Nat)} {js : List Nat}, Own mask ow js → (∀ h ∈ hs, ∃ n : Nat, h = (n : Int) ∧ n < 40) → js.length + hs.length ≤ mask + 1 →
    ∃ ow' js', hs.foldl (stepC mask) (some (ow, js.length)) = some (ow', js'.length) ∧ Own mask ow' js' ∧ js'.length = js.length + hs.length
  | [], ow, js, O, _, _ => ⟨ow, js, rfl, O, rfl⟩
  | h :: hs, ow, js, O, hh, hl => by
    obtain ⟨n, rfl, hn⟩ := hh h List.mem_cons_self
    have hl' : js.length + (hs.length + 1) ≤ mask + 1 := hl
    obtain ⟨j0, hj0, e0⟩ := O.full (by omega)
    obtain ⟨j, hj⟩ : ∃ j, SetTable.layClean.free mask ow (SetTable.turns mask) (SetTable.bits (n : Int) % (mask + 1)) (SetTable.bits (n : Int)) = some j := by
      cases e : SetTable.layClean.free mask ow (SetTable.turns mask) (SetTable.bits (n : Int) % (mask + 1)) (SetTable.bits (n : Int)) with
      | some j => exact ⟨j, rfl⟩
      | none =>
        rw [bits_nat hn] at e
        exact absurd e0 (free_none _ _ _ e j0 (cov_ok hm hn hj0))
    have O' := O.put (free_some _ _ _ hj)
    obtain ⟨ow', js', e', O2, l2⟩ := fold_ok hm hs O' (fun h hh' => hh h (List.mem_cons_of_mem _ hh')) (by rw [List.length_append]; show js.length + 1 + hs.length ≤ mask + 1; omega)
    refine ⟨ow', js', ?_, O2, by rw [l2, List.length_append]; show js.length + 1 + hs.length = js.length + (hs.length + 1); omega⟩
    rw [List.foldl_cons, ← e']
    congr 1
    unfold stepC
    rw [List.length_append]
    show (do let j ← SetTable.layClean.free mask ow (SetTable.turns mask) (SetTable.bits (n : Int) % (mask + 1)) (SetTable.bits (n : Int)); pure (ow.setIfInBounds j (some js.length), js.length + 1)) = _
    rw [hj]
    rfl
theorem laid_ok {mask finger moves : Nat} {led plain : Bool} {hs : Array Int} (hm : mask ∈ masks) (hh : ∀ h ∈ hs.toList, ∃ n : Nat, h = (n : Int) ∧ n < 40) (hl : hs.size ≤ mask) :
    ∃ t o, SetTable.laid mask finger moves led plain hs = some (t, o) ∧ o.toList.Perm (List.range hs.size) ∧ t.fits hs.size = true := by
  obtain ⟨ow, js, e, O, l⟩ := fold_ok hm hs.toList (Own.start mask) hh (by simp; omega)
  have l : js.length = hs.size := by simpa using l
  have ec : SetTable.layClean mask hs = some ow := by
    unfold SetTable.layClean
    rw [← Array.foldl_toList]
    have e : hs.toList.foldl (stepC mask) (some (Array.replicate (mask + 1) none, 0)) = some (ow, js.length) := e
    show Option.map _ (hs.toList.foldl (stepC mask) (some (Array.replicate (mask + 1) none, 0))) = _
    rw [e]
    rfl
  unfold SetTable.laid
  rw [ec]
  have key : ∀ j, ow.getD j none = (if h : j < ow.size then ow[j] else none) := fun j => by
    rw [Array.getD_eq_getD_getElem?]
    split
    · rename_i h
      rw [Array.getElem?_eq_getElem h]
      rfl
    · rename_i h
      rw [Array.getElem?_eq_none (by omega)]
      rfl
  have at2 : ∀ j i, ow.getD j none = some i ↔ js[i]? = some j := fun j i => by
    rw [← O.at' j i, Array.getD_eq_getD_getElem?]
    cases ow[j]? with
    | none => simp
    | some v => simp
  have hp : (List.map (fun p : Nat × Nat => p.2) ((List.range (mask + 1)).filterMap fun j => (ow.getD j none).map (j, ·))).Perm (List.range hs.size) := by
    show (List.map (fun p : Nat × Nat => p.2) ((List.range (mask + 1)).filterMap fun j => (ow.getD j none).map (j, ·))).Perm _
    rw [List.map_filterMap]
    have ef : (fun j => Option.map (fun p : Nat × Nat => p.2) ((ow.getD j none).map (j, ·))) = fun j => ow.getD j none := by
      funext j
      cases ow.getD j none <;> rfl
    rw [ef]
    refine (List.perm_ext_iff_of_nodup ?_ List.nodup_range).mpr fun i => ?_
    · refine List.Pairwise.filterMap _ ?_ (List.nodup_range (n := mask + 1))
      intro a a' haa b hb b' hb' e
      subst e
      have h1 := (at2 a b).mp hb
      have h2 := (at2 a' b).mp hb'
      rw [h1] at h2
      injection h2 with h2
      exact haa h2
    · rw [List.mem_filterMap, List.mem_range]
      constructor
      · rintro ⟨j, _, hj⟩
        have := (List.getElem?_eq_some_iff.mp ((at2 j i).mp hj)).1
        omega
      · intro hi
        have hi' : i < js.length := by omega
        refine ⟨js[i], List.mem_range.mpr ?_, (at2 _ i).mpr (List.getElem?_eq_getElem hi')⟩
        have := O.le _ (List.getElem_mem hi')
        omega
  have ln := hp.length_eq
  rw [List.length_map, List.length_range] at ln
  refine ⟨_, _, rfl, hp, ?_⟩
  simp only [SetTable.fits, SetTable.fill, Bool.and_eq_true, beq_iff_eq, decide_eq_true_eq, List.size_toArray, List.length_map]
  constructor
  · exact ln
  · rw [ln]
    exact hl
theorem nbeq (h : Int) : ¬ ((h + 1 == h) = true) := fun z => by have := eq_of_beq z; omega
theorem go_less {t : SetTable} {f : Nat → Int} {h : Int} : ∀ (k : Nat) (p : SetTable.Probe), SetTable.probe.go t f h (k + 1) p = none → SetTable.probe.go t f h k p = none
  | 0, p, _ => rfl
  | k + 1, p, e => by
    unfold SetTable.probe.go at e ⊢
    cases hs : t.slot p.j with
    | empty => rw [hs] at e; cases e
    | dummy =>
      rw [hs] at e
      exact go_less k _ e
    | live i =>
      rw [hs] at e
      dsimp only at e ⊢
      by_cases hc : (f i == h) = true
      · rw [if_pos hc] at e
        cases e
      · rw [if_neg hc] at e ⊢
        exact go_less k _ e
theorem go_le {t : SetTable} {f : Nat → Int} {h : Int} {p : SetTable.Probe} {k : Nat} : ∀ (m : Nat), SetTable.probe.go t f h (k + m) p = none → SetTable.probe.go t f h k p = none
  | 0, e => e
  | m + 1, e => go_le m (go_less _ _ e)
theorem go_run {t : SetTable} {h : Int} : ∀ (r fuel : Nat) (p : SetTable.Probe), p.more = r → SetTable.probe.go t (fun _ => h + 1) h (fuel + (r + 1)) p = none →
    t.slot p.j ≠ .empty ∧ ∃ d, SetTable.probe.go t (fun _ => h + 1) h fuel { j := (SetTable.leap t.mask p.i p.perturb).1, more := SetTable.runEnd t.mask (SetTable.leap t.mask p.i p.perturb).1 - (SetTable.leap t.mask p.i p.perturb).1, i := (SetTable.leap t.mask p.i p.perturb).1, perturb := (SetTable.leap t.mask p.i p.perturb).2, dummy := d } = none
  | 0, fuel, p, hp, e => by
    unfold SetTable.probe.go at e
    have adv : ∀ q : SetTable.Probe, q.more = 0 → q.i = p.i → q.perturb = p.perturb → t.advance q = { j := (SetTable.leap t.mask p.i p.perturb).1, more := SetTable.runEnd t.mask (SetTable.leap t.mask p.i p.perturb).1 - (SetTable.leap t.mask p.i p.perturb).1, i := (SetTable.leap t.mask p.i p.perturb).1, perturb := (SetTable.leap t.mask p.i p.perturb).2, dummy := q.dummy } := fun q h1 h2 h3 => by
      unfold SetTable.advance
      rw [if_neg (by omega), h2, h3]
    split at e
    · cases e
    · rename_i hs
      rw [adv { p with dummy := some p.j } hp rfl rfl] at e
      exact ⟨(by rw [hs]; intro z; cases z), _, e⟩
    · rename_i i hs
      rw [if_neg (nbeq h)] at e
      rw [adv p hp rfl rfl] at e
      exact ⟨(by rw [hs]; intro z; cases z), _, e⟩
  | r + 1, fuel, p, hp, e => by
    unfold SetTable.probe.go at e
    have adv : ∀ q : SetTable.Probe, q.more = r + 1 → t.advance q = { q with j := q.j + 1, more := q.more - 1 } := fun q h1 => by
      unfold SetTable.advance
      rw [if_pos (by omega)]
    split at e
    · cases e
    · rename_i hs
      rw [adv { p with dummy := some p.j } hp] at e
      obtain ⟨_, d, e2⟩ := go_run r fuel _ (by show p.more - 1 = r; omega) e
      exact ⟨(by rw [hs]; intro z; cases z), d, e2⟩
    · rename_i i hs
      rw [if_neg (nbeq h)] at e
      rw [adv p hp] at e
      obtain ⟨_, d, e2⟩ := go_run r fuel _ (by show p.more - 1 = r; omega) e
      exact ⟨(by rw [hs]; intro z; cases z), d, e2⟩
theorem go_orb {t : SetTable} {h : Int} : ∀ (n i pert : Nat) (d : Option Nat), SetTable.probe.go t (fun _ => h + 1) h (10 * n) { j := i, more := SetTable.runEnd t.mask i - i, i := i, perturb := pert, dummy := d } = none → ∀ x ∈ orbL t.mask n i pert, t.slot x ≠ .empty
  | 0, i, pert, d, _, x, hx => by cases hx
  | n + 1, i, pert, d, e, x, hx => by
    have hr : SetTable.runEnd t.mask i - i ≤ 9 := by
      unfold SetTable.runEnd
      split <;> omega
    have e2 : SetTable.probe.go t (fun _ => h + 1) h (10 * n + (SetTable.runEnd t.mask i - i + 1)) { j := i, more := SetTable.runEnd t.mask i - i, i := i, perturb := pert, dummy := d } = none := go_le (9 - (SetTable.runEnd t.mask i - i)) (by
      rw [show 10 * n + (SetTable.runEnd t.mask i - i + 1) + (9 - (SetTable.runEnd t.mask i - i)) = 10 * (n + 1) by omega]
      exact e)
    obtain ⟨h1, d', e3⟩ := go_run _ _ _ rfl e2
    rcases List.mem_cons.mp hx with rfl | hx
    · exact h1
    · exact go_orb n _ _ d' e3 x hx
theorem empty_slot {t : SetTable} (hf : t.fill ≤ t.mask) : ∃ j, j ≤ t.mask ∧ t.slot j = .empty := by
  apply Classical.byContradiction
  intro hn
  have all : ∀ j, j ≤ t.mask → j ∈ t.place.toList ++ t.dummies.toList := fun j hj => by
    cases e : t.slot j with
    | empty => exact absurd ⟨j, hj, e⟩ hn
    | live i =>
      unfold SetTable.slot at e
      dsimp only at e
      split at e
      · rename_i c
        have : t.place[SetTable.below t.place j]? = some j := by simpa using c
        rw [← Array.getElem?_toList] at this
        exact List.mem_append_left _ (List.mem_of_getElem? this)
      · split at e <;> cases e
    | dummy =>
      unfold SetTable.slot at e
      dsimp only at e
      split at e
      · cases e
      · split at e
        · rename_i c
          unfold SetTable.has at c
          have : t.dummies[SetTable.below t.dummies j]? = some j := by simpa using c
          rw [← Array.getElem?_toList] at this
          exact List.mem_append_right _ (List.mem_of_getElem? this)
        · cases e
  have := List.Nodup.length_le_of_subset (List.nodup_range (n := t.mask + 1)) (l₂ := t.place.toList ++ t.dummies.toList) fun j hj => all j (by have := List.mem_range.mp hj; omega)
  rw [List.length_range, List.length_append, Array.length_toList, Array.length_toList] at this
  unfold SetTable.fill at hf
  omega
theorem free_ok {t : SetTable} {n : Nat} (hm : t.mask ∈ masks) (hn : n < 40) (hf : t.fill ≤ t.mask) : ∃ p, t.freeSlot (n : Int) = some p := by
  unfold SetTable.freeSlot
  cases e : t.probe (fun _ => (n : Int) + 1) (n : Int) (t.probeStart (n : Int)) with
  | none =>
    obtain ⟨j, hj, ej⟩ := empty_slot hf
    unfold SetTable.probe SetTable.probeStart at e
    rw [bits_nat hn] at e
    exact absurd ej (go_orb _ _ _ _ e j (cov_ok hm hn hj))
  | some m =>
    cases m with
    | empty j d => exact ⟨_, rfl⟩
    | candidate j i nx =>
      exfalso
      have : ∀ (fuel : Nat) (p : SetTable.Probe), SetTable.probe.go t (fun _ => (n : Int) + 1) (n : Int) fuel p ≠ some (.candidate j i nx) := fun fuel => by
        induction fuel with
        | zero => intro p z; cases z
        | succ fuel ih =>
          intro p z
          unfold SetTable.probe.go at z
          split at z
          · cases z
          · exact ih _ z
          · rw [if_neg (nbeq _)] at z
            exact ih _ z
      exact this _ _ e
structure Tp (t : SetTable) : Prop where
  plain : t.plain = true
  mask : t.mask ∈ masks
  room : t.fill * 5 < t.mask * 3
theorem mask_ge {m : Nat} (h : m ∈ masks) : 7 ≤ m := by
  simp only [masks, List.mem_cons, List.not_mem_nil, or_false] at h
  omega
theorem put_fill {t : SetTable} {j : Nat} : ((t.put j).1.fill = if SetTable.has t.dummies j = true then t.place.size + 1 + (t.dummies.size - 1) else t.fill + 1) ∧ (t.put j).1.place.size = t.place.size + 1 := by
  have s1 : ∀ x, (SetTable.insertAt t.place x j).size = t.place.size + 1 := fun x => by
    rw [← Array.length_toList, SetTable.toList_insertAt]
    simp
    omega
  unfold SetTable.put SetTable.fill
  dsimp only
  refine ⟨?_, s1 _⟩
  rw [s1]
  by_cases c : SetTable.has t.dummies j = true
  · rw [if_pos c, if_pos c]
    have hb : SetTable.below t.dummies j < t.dummies.size := by
      unfold SetTable.has at c
      have c : t.dummies[SetTable.below t.dummies j]? = some j := by simpa using c
      exact (Array.getElem?_eq_some_iff.mp c).1
    have s2 : (SetTable.eraseAt t.dummies (SetTable.below t.dummies j)).size = t.dummies.size - 1 := by
      rw [← Array.length_toList, toList_erase]
      simp
      omega
    rw [s2]
  · rw [if_neg c, if_neg c]
    omega
theorem free_wd {t : SetTable} {h : Int} {j : Nat} {b : Bool} (e : t.freeSlot h = some (j, b)) : (b = true → SetTable.has t.dummies j = true) ∧ (b = false → SetTable.has t.dummies j = false) := by
  have sl : ∀ k, (t.slot k = .empty → SetTable.has t.dummies k = false) ∧ (t.slot k = .dummy → SetTable.has t.dummies k = true) := fun k => by
    unfold SetTable.slot
    dsimp only
    split
    · exact ⟨fun z => (by cases z), fun z => (by cases z)⟩
    · split
      · rename_i c
        exact ⟨fun z => (by cases z), fun _ => c⟩
      · rename_i c
        exact ⟨fun _ => by simpa using c, fun z => (by cases z)⟩
  unfold SetTable.freeSlot at e
  split at e
  · rename_i k dm hp
    injection e with e
    injection e with e1 e2
    obtain ⟨a1, a2⟩ := probe_go _ _ (fun k hk => by cases hk) hp
    cases dm with
    | none =>
      have e1 : k = j := e1
      have e2 : false = b := e2
      subst e1 e2
      exact ⟨fun z => (by cases z), fun _ => (sl k).1 a1⟩
    | some m =>
      have e1 : m = j := e1
      have e2 : true = b := e2
      subst e1 e2
      exact ⟨fun _ => (sl m).2 (a2 m rfl), fun z => (by cases z)⟩
  · cases e
theorem layNew_tp {t : SetTable} (h : Tp t) {es : Array (Int × Value)} (hf : t.place.size = es.size) {n : Nat} (hn : n < 40) (x : Value) : (layNew t es (n : Int) x).2.1.plain = true ∧ (layNew t es (n : Int) x).2.1.mask ∈ masks ∧ ((layNew t es (n : Int) x).2.2.1 = true → (layNew t es (n : Int) x).2.1.fill * 5 < (layNew t es (n : Int) x).2.1.mask * 3) := by
  have g := mask_ge h.mask
  have r := h.room
  obtain ⟨⟨j, wd⟩, e⟩ := free_ok h.mask hn (by omega : t.fill ≤ t.mask)
  obtain ⟨w1, w2⟩ := free_wd e
  obtain ⟨f1, f2⟩ := put_fill (t := t) (j := j)
  unfold layNew
  rw [e]
  dsimp only
  have szi : ∀ q, (SetTable.insertAt es q ((n : Int), x)).size = es.size + 1 := fun q => by
    rw [← Array.length_toList, SetTable.toList_insertAt]
    simp
    omega
  have fm : (t.put j).1.mask = t.mask := rfl
  have fp : (t.put j).1.plain = t.plain := rfl
  have fl : (t.put j).1.fill ≤ t.fill + 1 := by
    rw [f1]
    split
    · unfold SetTable.fill
      omega
    · omega
  have ft : (t.put j).1.fits (SetTable.insertAt es (t.put j).2 ((n : Int), x)).size = true := by
    unfold SetTable.fits
    rw [Bool.and_eq_true, beq_iff_eq, decide_eq_true_eq, szi, f2, hf, fm]
    exact ⟨rfl, by omega⟩
  unfold SetTable.orStandIn
  rw [if_pos ft]
  refine ⟨by rw [fp]; exact h.plain, by rw [fm]; exact h.mask, fun z => ?_⟩
  rw [f1, if_pos (w1 z), fm]
  have hd : 1 ≤ t.dummies.size := by
    have c := w1 z
    unfold SetTable.has at c
    have c : t.dummies[SetTable.below t.dummies j]? = some j := by simpa using c
    have := (Array.getElem?_eq_some_iff.mp c).1
    omega
  unfold SetTable.fill at r
  omega
theorem grow_ok : ∀ n < 41, 1 ≤ n → SetTable.sizeAbove (SetTable.grown n) - 1 ∈ masks ∧ 4 * n ≤ SetTable.sizeAbove (SetTable.grown n) - 1 := by decide
theorem relayAll_tp {t : SetTable} (hp : t.plain = true) {es : Array (Int × Value)} (h1 : 1 ≤ es.size) (h40 : es.size ≤ 40) (hh : ∀ h ∈ (es.map (·.1)).toList, ∃ n : Nat, h = (n : Int) ∧ n < 40) : Tp (relayAll t es (SetTable.grown es.size)).2.1 := by
  obtain ⟨g1, g2⟩ := grow_ok es.size (by omega) h1
  obtain ⟨t', o, el, pe, fe⟩ := laid_ok (finger := t.finger) (moves := t.movedTo (SetTable.sizeAbove (SetTable.grown es.size) - 1)) (led := t.led) (plain := t.plain) (hs := es.map (·.1)) g1 hh (by rw [Array.size_map]; omega)
  have tb := laid_tb el
  rw [Array.size_map] at pe fe
  unfold relayAll
  rw [show t.relaid (es.map (·.1)) (SetTable.grown es.size) = some (t', o) from el]
  dsimp only
  have pes : (o.filterMap (es[·]?)).toList.Perm es.toList := by
    rw [Array.toList_filterMap]
    exact (pe.filterMap _).trans (by rw [filterMap_getElem?_range])
  have sz : (o.filterMap (es[·]?)).size = es.size := by
    rw [← Array.length_toList, pes.length_eq, Array.length_toList]
  rw [if_pos (by rw [Bool.and_eq_true, sz]; exact ⟨List.isPerm_iff.mpr pe, fe⟩)]
  refine ⟨by rw [tb.2.2.2]; exact hp, by rw [tb.2.1]; exact g1, ?_⟩
  have f := fe
  unfold SetTable.fits at f
  rw [Bool.and_eq_true, beq_iff_eq] at f
  show (t'.place.size + t'.dummies.size) * 5 < t'.mask * 3
  rw [f.1, tb.2.2.1, tb.2.1]
  show (es.size + 0) * 5 < _
  omega
theorem drop_tp {t : SetTable} (h : Tp t) {i : Nat} (hi : i < t.place.size) : Tp (t.drop i) := by
  have sz : ∀ (x : Nat), (SetTable.insertAt t.dummies x (t.place[i])).size = t.dummies.size + 1 := fun x => by
    rw [← Array.length_toList, SetTable.toList_insertAt]
    simp
    omega
  have sz2 : (SetTable.eraseAt t.place i).size = t.place.size - 1 := by
    rw [← Array.length_toList, toList_erase]
    simp
    omega
  unfold SetTable.drop
  rw [Array.getElem?_eq_getElem hi]
  refine ⟨h.plain, h.mask, ?_⟩
  show ((SetTable.eraseAt t.place i).size + (SetTable.insertAt t.dummies _ t.place[i]).size) * 5 < t.mask * 3
  rw [sz2, sz]
  have := h.room
  unfold SetTable.fill at this
  omega
end ST
set_option Elab.async false
set_option linter.all false
set_option maxRecDepth 100000
set_option maxHeartbeats 4000000
namespace L2
open PySem PySem.Spec PyProof.Rows
def byT (w : World) : Bool := w.params.followText "set-order"
def EntI (e : Int × Value) (x : Int) : Prop := e.1 = hashInt x ∧ ∃ t, e.2 = .int x t
structure SI (w : World) (h : Heap) (a : Addr) (xs : List Int) : Prop where
  ex : ∃ o es ep t, h.get? a = some o ∧ o.ExactSet ∧ o.data = .set es ep t ∧ Paired EntI es.toList xs ∧ t.fits es.size = true ∧ ST.Tb t (!byT w) ∧ ST.Tp t
  nd : xs.Nodup
  bd : ∀ y ∈ xs, 0 ≤ y ∧ y < 40
theorem hash40 : ∀ n < 40, hashInt ((n : Nat) : Int) = n := by decide
theorem hash40i {x : Int} (h : 0 ≤ x ∧ x < 40) : hashInt x = ((x.toNat : Nat) : Int) := by
  have := hash40 x.toNat (by omega)
  rw [show ((x.toNat : Nat) : Int) = x by omega] at this ⊢
  exact this
theorem SI.at {w : World} {h h' : Heap} {a : Addr} {xs : List Int} (S : SI w h a xs) (k : ∀ o, h.get? a = some o → h'.get? a = some o) : SI w h' a xs := by
  obtain ⟨o, es, ep, t, g, r⟩ := S.ex
  exact ⟨⟨o, es, ep, t, k o g, r⟩, S.nd, S.bd⟩
theorem len40 {xs : List Int} (nd : xs.Nodup) (bd : ∀ y ∈ xs, 0 ≤ y ∧ y < 40) : xs.length ≤ 40 := by
  have p : xs.Perm ((List.range 40).map (fun n : Nat => (n : Int)) |>.filter (fun y => decide (y ∈ xs))) := (List.perm_ext_iff_of_nodup nd (List.Pairwise.filter _ (by decide))).mpr fun y => by
    rw [List.mem_filter]
    constructor
    · intro h
      have := bd y h
      exact ⟨List.mem_map.mpr ⟨y.toNat, List.mem_range.mpr (by omega), by omega⟩, decide_eq_true h⟩
    · intro h
      exact of_decide_eq_true h.2
  rw [p.length_eq]
  exact Nat.le_trans (List.length_filter_le _ _) (by simp)
theorem ents_elems {prog : Program} {w : World} : ∀ {l : List (Int × Value)} {xs : List Int}, Paired EntI l xs → ElemsOf (intKind prog w) l
  | [], _, _, e, he => by cases he
  | a :: l, _, h, e, he => by
    cases h with
    | cons r t =>
      rcases List.mem_cons.mp he with rfl | he
      · obtain ⟨h1, k, h2⟩ := r
        rw [h2]
        exact ⟨⟨_, intKind_is _ _ _ _, h1⟩, rfl⟩
      · exact ents_elems t e he
theorem ents_find {prog : Program} {w : World} {x : Int} : ∀ {l : List (Int × Value)} {xs : List Int}, Paired EntI l xs → (l.findIdx? fun e => (intKind prog w).is x e.2) = xs.findIdx? (fun y => decide (y = x))
  | [], _, h => by cases h; rfl
  | a :: l, _, h => by
    cases h with
    | cons r t =>
      rename_i y ys
      obtain ⟨h1, k, h2⟩ := r
      rw [List.findIdx?_cons, List.findIdx?_cons, ents_find t, h2]
      have e : (intKind prog w).is x (Value.int y k) = decide (y = x) := by
        rw [KeyKind.is_eq_decide (intKind_is prog w y k) x, Bool.eq_iff_iff]
        simp only [decide_eq_true_eq]
        exact eq_comm
      rw [e]
theorem ents_val : ∀ {l : List (Int × Value)} {ys : List Int} {i : Nat} {e : Int × Value}, Paired EntI l ys → l[i]? = some e → ∃ y : Int, ys[i]? = some y ∧ EntI e y
  | [], _, i, e, _, h => by simp at h
  | a :: l, _, 0, e, hp, h => by
    cases hp with
    | cons r t =>
      injection h with h
      subst h
      exact ⟨_, rfl, r⟩
  | a :: l, _, i + 1, e, hp, h => by
    cases hp with
    | cons r t =>
      obtain ⟨y, h1, h2⟩ := ents_val (i := i) t (by simpa using h)
      exact ⟨y, by simpa using h1, h2⟩
section
variable {prog : Program} {w : World} {A : Around} {E : Value → Shared → Prop} {s : Shared} {a : Addr} {xs : List Int}
theorem SI.small (S : SI w s.heap a xs) {es : Array (Int × Value)} (h : Paired EntI es.toList xs) : es.size < scanBound := by
  have l := Paired.length h
  have := len40 S.nd S.bd
  simp at l
  rw [l]
  exact Nat.lt_of_le_of_lt this (by decide)
theorem si_find {x : Int} {t : Tok} {Q : Option Nat → Shared → Prop} (S : SI w s.heap a xs) (h : Q (xs.findIdx? fun y => decide (y = x)) s) : wpAny (model prog w) A (setFind a (.int x t) (hashInt x)) Q E s := by
  obtain ⟨o, es, ep, tb, ho, hex, hd, he, hf, htb, htp⟩ := S.ex
  have hel := ents_elems (prog := prog) (w := w) he
  unfold setFind setFindIn
  refine wpAny_bind (wpAny_setState_of ho hd hf ?_)
  dsimp only
  rw [byScan_of (knd := intKind prog w) rfl (S.small he) hel]
  simp only [↓reduceIte]
  refine wpAny_bind (wpAny_rule ?_)
  refine wpAny_bind (wpAny_setScan_of (knd := intKind prog w) (intKind_is _ _ _ _) ho hd hf hel ?_)
  rw [ents_find he]
  cases hr : xs.findIdx? (fun y => decide (y = x)) with
  | none => rw [hr] at h; exact wpAny_pure h
  | some j =>
    rw [hr] at h
    refine wpAny_pure ?_
    rw [Nat.zero_add]
    exact h
theorem paired_take {F : Int × Value → Int → Prop} : ∀ {l : List (Int × Value)} {ys : List Int} (n : Nat), Paired F l ys → Paired F (l.take n ++ l.drop (n + 1)) (ys.take n ++ ys.drop (n + 1))
  | [], _, n, h => by cases h; simp; exact .nil
  | e :: l, _, 0, h => by
    cases h with
    | cons r t => exact t
  | e :: l, _, n + 1, h => by
    cases h with
    | cons r t => exact .cons r (paired_take n t)
theorem fits_iff {t : SetTable} {n : Nat} : t.fits n = true ↔ t.place.size = n ∧ t.place.size + t.dummies.size ≤ t.mask := by
  unfold SetTable.fits
  rw [Bool.and_eq_true, beq_iff_eq, decide_eq_true_eq]
  exact Iff.rfl
theorem drop_fits {t : SetTable} {n i : Nat} (h : t.fits n = true) (hi : i < n) : (t.drop i).fits (n - 1) = true := by
  rw [fits_iff] at h
  have hi' : i < t.place.size := by omega
  have sz : ∀ (x : Nat), (SetTable.insertAt t.dummies x (t.place[i])).size = t.dummies.size + 1 := fun x => by
    rw [← Array.length_toList, SetTable.toList_insertAt]
    simp
    omega
  have sz2 : (SetTable.eraseAt t.place i).size = t.place.size - 1 := by
    rw [← Array.length_toList, ST.toList_erase]
    simp
    omega
  unfold SetTable.drop
  rw [Array.getElem?_eq_getElem hi', fits_iff]
  dsimp only
  rw [sz2, sz]
  omega
theorem si_discard {x : Int} {t : Tok} {Q : Bool → Shared → Prop} (S : SI w s.heap a xs) (hn : x ∉ xs → Q false s)
    (hy : x ∈ xs → ∀ h' ys, Heap.SameBut a s.heap h' → SI w h' a ys → (∀ y, y ∈ ys ↔ y ∈ xs ∧ y ≠ x) → Q true { s with heap := h' }) : wpAny (model prog w) A (setDiscardHashed a (.int x t) (hashInt x)) Q E s := by
  obtain ⟨o, es, ep, tb, ho, hex, hd, he, hf, htb, htp⟩ := S.ex
  unfold setDiscardHashed
  refine wpAny_bind (si_find S ?_)
  cases hr : xs.findIdx? (fun y => decide (y = x)) with
  | none =>
    refine wpAny_pure (hn fun hx => ?_)
    have := List.findIdx?_eq_none_iff.mp hr x hx
    simp at this
  | some i =>
    obtain ⟨hi, hp, _⟩ := List.findIdx?_eq_some_iff_getElem.mp hr
    have ex : xs[i] = x := of_decide_eq_true hp
    have ln : es.toList.length = xs.length := Paired.length he
    have hi' : i < es.size := by simpa using (by omega : i < es.toList.length)
    have sze : (SetTable.eraseAt es i).size = es.size - 1 := by
      rw [← Array.length_toList, ST.toList_erase]
      simp
      omega
    dsimp only
    refine wpAny_bind (wpAny_setState_of ho hd hf ?_)
    refine wpAny_bind (wpAny_storeSet_of ho hd ?_ ?_)
    · refine wpAny_bind (wpAny_point (wpAny_pure (hy (by rw [← ex]; exact List.getElem_mem hi) _ (xs.take i ++ xs.drop (i + 1)) (Heap.SameBut.update s.heap a _) ?_ ?_)))
      · refine ⟨⟨{ o with data := .set (SetTable.eraseAt es i) (ep + 1) (tb.drop i) }, _, _, _, ?_, hex, rfl, ?_, ?_, ST.drop_tb htb i, ST.drop_tp htp (by rw [(fits_iff.mp hf).1]; exact hi')⟩, ?_, fun y hy' => ?_⟩
        · have := Heap.get?_update_self (Obj.putSet (SetTable.eraseAt es i) (tb.drop i)) ho (by rw [putSet_of _ _ hd]; rfl)
          rw [putSet_of _ _ hd] at this
          exact this
        · rw [ST.toList_erase]
          exact paired_take i he
        · rw [sze]
          exact drop_fits hf hi'
        · exact S.nd.sublist (by
            conv => rhs; rw [← List.take_append_drop i xs]
            refine List.Sublist.append (List.Sublist.refl _) ?_
            rw [← List.drop_drop]
            exact List.drop_sublist _ _)
        · refine S.bd y ?_
          rcases List.mem_append.mp hy' with h | h
          · exact List.mem_of_mem_take h
          · exact List.mem_of_mem_drop h
      · intro y
        have e : xs = xs.take i ++ x :: xs.drop (i + 1) := by
          conv => lhs; rw [← List.take_append_drop i xs, List.drop_eq_getElem_cons hi, ex]
        have nd := S.nd
        rw [e, List.nodup_append, List.nodup_cons] at nd
        conv => rhs; rw [e]
        rw [List.mem_append, List.mem_append, List.mem_cons]
        constructor
        · rintro (h | h)
          · exact ⟨.inl h, fun z => nd.2.2 y h x List.mem_cons_self z⟩
          · exact ⟨.inr (.inr h), fun z => nd.2.1.1 (by rw [← z]; exact h)⟩
        · rintro ⟨h | h | h, hne⟩
          · exact .inl h
          · exact absurd h hne
          · exact .inr h
    · rw [sze]
      have := S.small he
      exact Nat.le_trans (Nat.sub_le _ _) (fits_of_scanBound this)
theorem paired_perm {F : Int × Value → Int → Prop} {l l' : List (Int × Value)} (p : List.Perm l l') : ∀ {ys : List Int}, Paired F l ys → ∃ ys', ys.Perm ys' ∧ Paired F l' ys' := by
  induction p with
  | nil => intro ys h; cases h; exact ⟨[], .nil, .nil⟩
  | cons x p ih =>
    intro ys h
    cases h with
    | cons r t =>
      obtain ⟨ys', p', h'⟩ := ih t
      exact ⟨_, p'.cons _, .cons r h'⟩
  | swap x y l =>
    intro ys h
    cases h with
    | cons r t =>
      cases t with
      | cons r2 t => exact ⟨_, .swap _ _ _, .cons r2 (.cons r t)⟩
  | trans p q ih1 ih2 =>
    intro ys h
    obtain ⟨y1, p1, h1⟩ := ih1 h
    obtain ⟨y2, p2, h2⟩ := ih2 h1
    exact ⟨y2, p1.trans p2, h2⟩
theorem paired_snoc {F : Int × Value → Int → Prop} {e : Int × Value} {y : Int} : ∀ {l : List (Int × Value)} {ys : List Int}, Paired F l ys → F e y → Paired F (l ++ [e]) (ys ++ [y])
  | [], _, h, r => by cases h; exact .cons r .nil
  | a :: l, _, h, r => by
    cases h with
    | cons r2 t => exact .cons r2 (paired_snoc t r)
theorem si_put {o : Obj} {es : Array (Int × Value)} {ep : Nat} {t : SetTable} {h : Heap} (ho : h.get? a = some o) (hex : o.ExactSet) (hd : o.data = .set es ep t) {es' : Array (Int × Value)} {t' : SetTable} {ys : List Int} (he : Paired EntI es'.toList ys) (hf : t'.fits es'.size = true) (htb : ST.Tb t' (!byT w)) (htp : ST.Tp t') (nd : ys.Nodup) (bd : ∀ y ∈ ys, 0 ≤ y ∧ y < 40) : SI w (h.update a (Obj.putSet es' t')) a ys := by
  refine ⟨⟨{ o with data := .set es' (ep + 1) t' }, _, _, _, ?_, hex, rfl, he, hf, htb, htp⟩, nd, bd⟩
  have := Heap.get?_update_self (Obj.putSet es' t') ho (by rw [putSet_of _ _ hd]; rfl)
  rw [putSet_of _ _ hd] at this
  exact this
theorem si_add {x : Int} {t : Tok} {Q : Bool → Shared → Prop} (S : SI w s.heap a xs) (hx : 0 ≤ x ∧ x < 40) (hy : x ∈ xs → Q false s)
    (hn : x ∉ xs → ∀ h' ys, Heap.SameBut a s.heap h' → SI w h' a ys → (∀ y, y ∈ ys ↔ y ∈ xs ∨ y = x) → Q true { s with heap := h' }) : wpAny (model prog w) A (setAddHashed a (.int x t) (hashInt x)) Q E s := by
  obtain ⟨o, es, ep, tb, ho, hex, hd, he, hf, htb, htp⟩ := S.ex
  have hel := ents_elems (prog := prog) (w := w) he
  unfold setAddHashed setAddHashedIn
  refine wpAny_holding (wpAny_bind (wpAny_setState_of ho hd hf ?_))
  dsimp only
  rw [byScan_of (knd := intKind prog w) rfl (S.small he) hel]
  simp only [↓reduceIte]
  unfold setAddByScan
  refine wpAny_bind ?_
  refine wpAny_bind (wpAny_rule ?_)
  refine wpAny_bind (wpAny_setScan_of (knd := intKind prog w) (intKind_is _ _ _ _) ho hd hf hel ?_)
  rw [ents_find he]
  cases hr : xs.findIdx? (fun y => decide (y = x)) with
  | some i =>
    obtain ⟨hi, hp, _⟩ := List.findIdx?_eq_some_iff_getElem.mp hr
    have ex : xs[i] = x := of_decide_eq_true hp
    exact wpAny_pure (wpAny_pure (hy (by rw [← ex]; exact List.getElem_mem hi)))
  | none =>
    have hnx : x ∉ xs := fun hx' => by
      have := List.findIdx?_eq_none_iff.mp hr x hx'
      simp at this
    dsimp only
    have hperm := layNew_perm tb es (hashInt x) (.int x t)
    have hfits := layNew_fits tb es (hashInt x) (.int x t)
    have htb1 := ST.layNew_tb htb es (hashInt x) (.int x t)
    have htp1 := ST.layNew_tp htp (fits_iff.mp hf).1 (n := x.toNat) (by omega) (.int x t)
    rw [← hash40i hx] at htp1
    generalize layNew tb es (hashInt x) (.int x t) = L at hperm hfits htb1 htp1 ⊢
    obtain ⟨es1, t1, wd, gave⟩ := L
    dsimp only at hperm hfits htb1 htp1 ⊢
    rw [Array.toList_push] at hperm
    obtain ⟨ys, py, he1⟩ := paired_perm hperm.symm (paired_snoc (y := x) he ⟨rfl, t, rfl⟩)
    have nd1 : ys.Nodup := py.nodup_iff.mp (by
      rw [List.nodup_append]
      exact ⟨S.nd, by simp, fun a ha b hb e => hnx (by
        have : b = x := by simpa using hb
        rw [← this, ← e]
        exact ha)⟩)
    have mem1 : ∀ y, y ∈ ys ↔ y ∈ xs ∨ y = x := fun y => by rw [← py.mem_iff, List.mem_append, List.mem_singleton]
    have bd1 : ∀ y ∈ ys, 0 ≤ y ∧ y < 40 := fun y hy' => by
      rcases (mem1 y).mp hy' with h | rfl
      · exact S.bd y h
      · exact hx
    have l1 : es1.size ≤ 40 := by
      have l := Paired.length he1
      have := len40 nd1 bd1
      simp at l
      rw [l]
      exact this
    have ge1 : 1 ≤ es1.size := by
      have := hperm.length_eq
      simp at this
      omega
    have z1 : es1.size ≤ sizeLine := Nat.le_trans l1 (by decide)
    have hh1 : ∀ h ∈ (es1.map (·.1)).toList, ∃ n : Nat, h = (n : Int) ∧ n < 40 := fun hv hm' => by
      rw [Array.toList_map, List.mem_map] at hm'
      obtain ⟨en, hen, rfl⟩ := hm'
      obtain ⟨i, hi⟩ := List.getElem?_of_mem hen
      obtain ⟨y, hy', e1, _⟩ := ents_val he1 hi
      have b := bd1 y (List.mem_of_getElem? hy')
      exact ⟨y.toNat, e1.trans (hash40i b), by omega⟩
    have rl : ∀ {b : Bool} {s₁ : Shared} {Q' : Unit → Shared → Prop}, Q' () s₁ → wpAny (model prog w) A (match b with | true => rule "set.scan.the-table-gave-way" | false => pure ()) Q' E s₁ := fun {b s₁ Q'} hq => by
      cases b
      · exact wpAny_pure hq
      · exact wpAny_rule hq
    refine wpAny_bind (rl ?_)
    have tail : ∀ t2 : SetTable, t2.fits es1.size = true → ST.Tb t2 (!byT w) → t2.plain = true → t2.mask ∈ ST.masks → (wd = true → t2.fill * 5 < t2.mask * 3) → wpAny (model prog w) A (do
        storeSet a es1 t2
        if (!wd && t2.tooFull) = true then do
            (match (relayAll t2 es1 (SetTable.grown es1.size)).2.2 with | true => rule "set.scan.the-table-gave-way" | false => pure ())
            storeSet a (relayAll t2 es1 (SetTable.grown es1.size)).1 (relayAll t2 es1 (SetTable.grown es1.size)).2.1
            pure (some true)
          else pure (some true)) (fun r s' => r = some true ∧ Q true s') E s := fun t2 f2 tb2 pl2 mk2 rm2 => by
      refine wpAny_bind (wpAny_storeSet_of ho hd ?_ z1)
      have sb1 := Heap.SameBut.update s.heap a (Obj.putSet es1 t2)
      split
      · have hp := relayAll_perm t2 es1 (SetTable.grown es1.size)
        have hfr := relayAll_fits t2 es1 (SetTable.grown es1.size)
        have htr := ST.relayAll_tb tb2 es1 (SetTable.grown es1.size)
        have hpr := ST.relayAll_tp pl2 ge1 l1 hh1
        generalize relayAll t2 es1 (SetTable.grown es1.size) = Rl at hp hfr htr hpr ⊢
        obtain ⟨es2, t3, gave2⟩ := Rl
        dsimp only at hp hfr htr hpr ⊢
        obtain ⟨zs, pz, he2⟩ := paired_perm hp.symm he1
        have z2 : es2.size ≤ sizeLine := by
          have := hp.length_eq
          simp at this
          rw [this]
          exact z1
        obtain ⟨o1, es1', ep1, t1', ho1, hex1, hd1⟩ : ∃ o1 es1' ep1 t1', (s.heap.update a (Obj.putSet es1 t2)).get? a = some o1 ∧ o1.ExactSet ∧ o1.data = .set es1' ep1 t1' := by
          have := Heap.get?_update_self (Obj.putSet es1 t2) ho (by rw [putSet_of _ _ hd]; rfl)
          rw [putSet_of _ _ hd] at this
          exact ⟨_, _, _, _, this, hex, rfl⟩
        refine wpAny_bind (rl ?_)
        refine wpAny_bind (wpAny_storeSet_of (s := { s with heap := s.heap.update a (Obj.putSet es1 t2) }) ho1 hd1 ?_ z2)
        refine wpAny_pure ⟨rfl, hn hnx _ zs (sb1.trans (Heap.SameBut.update _ a _)) (si_put ho1 hex1 hd1 he2 hfr htr hpr (pz.nodup_iff.mp nd1) (fun y hy' => bd1 y (pz.mem_iff.mpr hy'))) fun y => ?_⟩
        rw [← pz.mem_iff]
        exact mem1 y
      · rename_i hc
        have rm : t2.fill * 5 < t2.mask * 3 := by
          cases hw : wd with
          | true => exact rm2 hw
          | false =>
            rw [hw] at hc
            have hc : ¬ (t2.tooFull = true) := by simpa using hc
            unfold SetTable.tooFull at hc
            rw [decide_eq_true_eq] at hc
            omega
        exact wpAny_pure ⟨rfl, hn hnx _ ys sb1 (si_put (w := w) ho hex hd he1 f2 tb2 ⟨pl2, mk2, rm⟩ nd1 bd1) mem1⟩
    split
    · refine wpAny_bind ?_
      rw [hashByValue_scannable 8 rfl]
      refine wpAny_pure ?_
      refine wpAny_mono (tail _ ?_ ?_ ?_ ?_ ?_) (fun r s' ⟨e, q⟩ => ?_) fun _ _ z => z
      · exact hfits
      · exact htb1
      · exact htp1.1
      · exact htp1.2.1
      · exact htp1.2.2
      · subst e
        exact wpAny_pure q
    · refine wpAny_bind (wpAny_pure ?_)
      refine wpAny_mono (tail _ hfits htb1 htp1.1 htp1.2.1 htp1.2.2) (fun r s' ⟨e, q⟩ => ?_) fun _ _ z => z
      subst e
      exact wpAny_pure q
theorem si_flip {x : Int} {t : Tok} {Q : Unit → Shared → Prop} (S : SI w s.heap a xs) (hx : 0 ≤ x ∧ x < 40) (h : ∀ h' ys, Heap.SameBut a s.heap h' → SI w h' a ys → (∀ y, y ∈ ys ↔ (y ∈ xs ∧ y ≠ x) ∨ (y = x ∧ x ∉ xs)) → Q () { s with heap := h' }) :
    wpAny (model prog w) A (holding [.int x t] do if !(← setDiscardHashed a (.int x t) (hashInt x)) then let _ ← setAddHashed a (.int x t) (hashInt x)) Q E s := by
  refine wpAny_holding (wpAny_bind (si_discard S (fun hn => ?_) fun hy h' ys sb S' mem => ?_))
  · refine (show wpAny _ _ (setAddHashed a (.int x t) (hashInt x) >>= _) _ _ s from wpAny_bind (si_add S hx (fun z => absurd z hn) fun _ h' ys sb S' mem => wpAny_pure (h h' ys sb S' fun y => ?_)))
    rw [mem y]
    constructor
    · rintro (z | z)
      · exact .inl ⟨z, fun e => hn (by rw [← e]; exact z)⟩
      · exact .inr ⟨z, hn⟩
    · rintro (⟨z, _⟩ | ⟨z, _⟩)
      · exact .inl z
      · exact .inr z
  · refine wpAny_pure (h h' ys sb S' fun y => ?_)
    rw [mem y]
    constructor
    · intro z
      exact .inl z
    · rintro (z | ⟨_, z⟩)
      · exact z
      · exact absurd hy z
end
end L2
set_option Elab.async false
set_option linter.all false
set_option maxRecDepth 100000
set_option maxHeartbeats 4000000
namespace L2
open PySem PySem.Spec PyProof.Rows
theorem pick_go {α : Type} (nx : Nat → Nat) : ∀ (fuel k : Nat) (left : List α) (out : Array α), fuel = left.length → (pickOrder.go nx fuel k left out).toList.Perm (out.toList ++ left)
  | 0, k, left, out, h => by
    have e : left = [] := List.length_eq_zero_iff.mp h.symm
    subst e
    unfold pickOrder.go
    simp
  | fuel + 1, k, left, out, h => by
    have hl : nx k % left.length < left.length := Nat.mod_lt _ (by omega)
    unfold pickOrder.go
    rw [List.getElem?_eq_getElem hl]
    dsimp only
    refine (pick_go nx fuel (k + 1) _ _ (by rw [List.length_eraseIdx, if_pos hl]; omega)).trans ?_
    rw [Array.toList_push, List.append_assoc, List.eraseIdx_eq_take_drop_succ]
    refine List.Perm.append_left _ ?_
    show ((left[nx k % left.length]) :: (List.take (nx k % left.length) left ++ List.drop (nx k % left.length + 1) left)).Perm left
    refine List.Perm.trans (l₂ := List.take (nx k % left.length) left ++ left[nx k % left.length] :: List.drop (nx k % left.length + 1) left) List.perm_middle.symm ?_
    rw [← List.drop_eq_getElem_cons hl, List.take_append_drop]
theorem pick_perm {α : Type} (nx : Nat → Nat) (xs : Array α) : (pickOrder nx xs).toList.Perm xs.toList := by
  unfold pickOrder
  have := pick_go nx xs.size 0 xs.toList #[] (by simp)
  simpa using this
section
variable {prog : Program} {w : World} {A : Around} {E : Value → Shared → Prop} {s : Shared} {a f : Addr} {xs zs : List Int}
theorem by_text {Q : Bool → Shared → Prop} (h : Q (byT w) s) : wpAny (model prog w) A setsByText Q E s := by
  unfold setsByText
  exact wpAny_bind (wpAny_askSetting (wpAny_pure h))
theorem si_walk {o : Obj} {es : Array (Int × Value)} {ep : Nat} {t : SetTable} {Q : Array (Int × Value) → Shared → Prop} (ho : s.heap.get? a = some o) (hd : o.data = .set es ep t) (hf : t.fits es.size = true) (htb : ST.Tb t (!byT w)) (hp : byT w = true ∨ t.plain = true ∨ es.size ≤ 1)
    (h : ∀ es', es'.toList.Perm es.toList → Q es' s) : wpAny (model prog w) A (setWalk a) Q E s := by
  unfold setWalk
  refine wpAny_bind (wpAny_setState_of ho hd hf ?_)
  dsimp only
  refine wpAny_bind (by_text ?_)
  cases hb : byT w with
  | true =>
    rw [if_pos rfl]
    exact wpAny_bind (wpAny_askSetting (wpAny_pure (h _ (pick_perm _ _))))
  | false =>
    rw [if_neg (by decide)]
    have hl : t.led = true := by rw [htb.led, hb]; rfl
    have hdr : (!t.plain && decide (es.size > 1)) = false := by
      rcases hp with z | z | z
      · rw [hb] at z; cases z
      · rw [z]; rfl
      · rw [decide_eq_false (by omega), Bool.and_false]
    refine (show wpAny _ _ (if (!t.plain && decide (es.size > 1)) = true then _ else _) _ _ s from ?_)
    rw [if_neg (by rw [hdr]; decide)]
    refine (show wpAny _ _ ((if (!t.led && decide (es.size > 1)) = true then unsupported "set:maker-not-led" else pure ()) >>= fun _ => pure es) _ _ s from ?_)
    rw [hl]
    exact wpAny_bind (wpAny_pure (wpAny_pure (h es (.refl _))))
theorem si_walkU {Q : Array (Int × Value) → Shared → Prop} (So : SI w s.heap a xs) (Sf : SI w s.heap f zs) (hne : a ≠ f) (h : ∀ es' ys h', Paired EntI es'.toList ys → ys.Perm xs → Heap.SameBut f s.heap h' → SI w h' f zs → Q es' { s with heap := h' }) : wpAny (model prog w) A (setWalkUnseen a [f] (some f)) Q E s := by
  obtain ⟨o, es, ep, t, ho, hex, hd, he, hf, htb, htp⟩ := So.ex
  have go : ∀ es', es'.toList.Perm es.toList → Q es' s := fun es' p => by
    obtain ⟨ys, py, he'⟩ := paired_perm p.symm he
    exact h es' ys s.heap he' py.symm (Heap.SameBut.refl f s.heap) Sf
  unfold setWalkUnseen
  refine wpAny_bind (wpAny_setState_of ho hd hf ?_)
  dsimp only
  refine wpAny_bind (by_text ?_)
  have c : (byT w || (t.led && t.plain) || decide (es.size ≤ 1)) = true := by
    rw [htb.led, htp.plain]
    cases byT w <;> rfl
  rw [if_pos c]
  exact si_walk ho hd hf htb (.inr (.inl htp.plain)) fun es' p => go es' p
end
end L2
set_option Elab.async false
set_option linter.all false
set_option maxRecDepth 100000
set_option maxHeartbeats 4000000
namespace L2
open PySem PySem.Spec PyProof.Rows
theorem roomy : ∀ n < 41, (0 + n) * 5 ≥ 7 * 3 → (SetTable.sizeAbove ((0 + n) * 2) - 1 ∈ ST.masks ∧ n * 5 < (SetTable.sizeAbove ((0 + n) * 2) - 1) * 3 ∧ SetTable.sizeAbove ((0 + n) * 2) ≤ 128) := by decide
section
variable {prog : Program} {w : World} {A : Around} {E : Value → Shared → Prop} {s : Shared} {a r : Addr} {xs : List Int}
structure Em (w : World) (h : Heap) (r : Addr) (m : Nat) : Prop where
  ex : ∃ o ep t, h.get? r = some o ∧ o.ExactSet ∧ o.data = .set #[] ep t ∧ t.mask = m ∧ t.place = #[] ∧ t.dummies = #[] ∧ t.led = (!byT w) ∧ t.plain = true ∧ m ∈ ST.masks
theorem Em.fits {t : SetTable} (h1 : t.place = #[]) (h2 : t.dummies = #[]) : t.fits (#[] : Array (Int × Value)).size = true := by
  rw [fits_iff, h1, h2]
  exact ⟨rfl, Nat.zero_le _⟩
theorem em_si {h : Heap} {m : Nat} (e : Em w h r m) : SI w h r [] := by
  obtain ⟨o, ep, t, ho, hex, hd, h1, h2, h3, h4, h5, h6⟩ := e.ex
  exact ⟨⟨o, #[], ep, t, ho, hex, hd, .nil, Em.fits h2 h3, ⟨h4, by rw [h2]; exact List.Pairwise.nil⟩, ⟨h5, by rw [h1]; exact h6, by unfold SetTable.fill; rw [h2, h3, h1]; have := ST.mask_ge h6; show 0 * 5 < _; omega⟩⟩, List.nodup_nil, by simp⟩
theorem em_room {n : Nat} {Q : Unit → Shared → Prop} (e : Em w s.heap r 7) (hn : n ≤ 40) (h : ∀ h' m, Heap.SameBut r s.heap h' → Em w h' r m → n * 5 < m * 3 → Q () { s with heap := h' }) : wpAny (model prog w) A (setRoomFor r n) Q E s := by
  obtain ⟨o, ep, t, ho, hex, hd, h1, h2, h3, h4, h5, h6⟩ := e.ex
  have hf := Em.fits h2 h3
  unfold setRoomFor
  refine wpAny_bind (wpAny_setState_of ho hd hf ?_)
  have er : t.roomFor n = if (0 + n) * 5 ≥ 7 * 3 then some ((0 + n) * 2) else none := by
    unfold SetTable.roomFor SetTable.fill
    rw [h1, h2, h3]
    rfl
  dsimp only
  rw [er]
  by_cases c : (0 + n) * 5 ≥ 7 * 3
  · rw [if_pos c]
    obtain ⟨m1, m2, m3⟩ := roomy n (by omega) c
    dsimp only
    unfold setRelay
    refine wpAny_bind (wpAny_setState_of ho hd hf ?_)
    dsimp only
    rw [if_neg (by have : 128 ≤ sizeLine := by decide
                   omega)]
    obtain ⟨t', od, el, pe, fe⟩ := ST.laid_ok (finger := t.finger) (moves := t.movedTo (SetTable.sizeAbove ((0 + n) * 2) - 1)) (led := t.led) (plain := t.plain) (hs := (#[] : Array (Int × Value)).map (·.1)) m1 (by simp) (by simp)
    have tb := ST.laid_tb el
    have od0 : od = #[] := by
      have := pe.length_eq
      simp at this
      exact this
    subst od0
    rw [show t.relaid ((#[] : Array (Int × Value)).map (·.1)) ((0 + n) * 2) = some (t', #[]) from el]
    refine wpAny_bind ?_
    refine (show wpAny _ _ (pure ((#[] : Array (Int × Value)), t')) _ _ _ from wpAny_pure (wpAny_storeSet_of ho hd ?_ (Nat.zero_le _)))
    refine h _ _ (Heap.SameBut.update s.heap r _) ⟨{ o with data := .set #[] (ep + 1) t' }, _, _, ?_, hex, rfl, tb.2.1, ?_, tb.2.2.1, ?_, by rw [tb.2.2.2]; exact h5, m1⟩ m2
    · have := Heap.get?_update_self (Obj.putSet #[] t') ho (by rw [putSet_of _ _ hd]; rfl)
      rw [putSet_of _ _ hd] at this
      exact this
    · have := (fits_iff.mp fe).1
      exact Array.eq_empty_of_size_eq_zero (by simpa using this)
    · rw [tb.1.led, h4]
  · rw [if_neg c]
    exact wpAny_pure (h s.heap 7 (Heap.SameBut.refl r s.heap) e (by omega))
theorem em_merge {each : Sem Unit} {Q : Unit → Shared → Prop} (e : Em w s.heap r 7) (So : SI w s.heap a xs) (hne : r ≠ a) (h : ∀ h' ys, Heap.SameBut r s.heap h' → SI w h' r ys → ys.Perm xs → Q () { s with heap := h' }) : wpAny (model prog w) A (setMerge r a each) Q E s := by
  obtain ⟨oo, eo, epo, to, hoo, hexo, hdo, heo, hfo, htbo, htpo⟩ := So.ex
  have l40 := len40 So.nd So.bd
  have ln : eo.size = xs.length := by simpa using Paired.length heo
  unfold setMerge
  rw [if_neg (by simpa using hne)]
  refine wpAny_bind (wpAny_setState_of hoo hdo hfo ?_)
  dsimp only
  by_cases c : eo.isEmpty = true
  · rw [if_pos c]
    refine wpAny_pure (h s.heap [] (Heap.SameBut.refl r s.heap) (em_si e) ?_)
    have : xs = [] := List.length_eq_zero_iff.mp (by rw [← ln]; simpa using c)
    rw [this]
  rw [if_neg c]
  refine wpAny_bind (em_room e (by omega) fun h1 m sb1 e1 hnm => ?_)
  obtain ⟨o, ep, t, ho, hex, hd, q1, q2, q3, q4, q5, hm⟩ := e1.ex
  have hf := Em.fits q2 q3
  have z : eo.size ≤ sizeLine := by
    have : 40 ≤ sizeLine := by decide
    omega
  have fill0 : t.fill = 0 := by unfold SetTable.fill; rw [q2, q3]; rfl
  refine wpAny_bind (wpAny_setState_of (s := { s with heap := h1 }) ho hd hf ?_)
  dsimp only
  have er : t.road to = if (t.mask == to.mask && to.dummies.isEmpty) = true then .slotForSlot else .clean := by
    unfold SetTable.road
    rw [fill0]
    rfl
  rw [er]
  by_cases c2 : (t.mask == to.mask && to.dummies.isEmpty) = true
  · rw [if_pos c2]
    dsimp only
    refine wpAny_storeSet_of (s := { s with heap := h1 }) ho hd ?_ z
    refine h _ xs (sb1.trans (Heap.SameBut.update _ r _)) (si_put ho hex hd heo ?_ ⟨?_, htbo.ris⟩ ⟨?_, htpo.mask, htpo.room⟩ So.nd So.bd) (.refl _)
    · exact hfo
    · show (t.led && to.led) = _
      rw [q4, htbo.led, Bool.and_self]
    · show (t.plain && to.plain) = _
      rw [q5, htpo.plain, Bool.and_self]
  · rw [if_neg c2]
    dsimp only
    have hh : ∀ hv ∈ (eo.map (·.1)).toList, ∃ k : Nat, hv = (k : Int) ∧ k < 40 := fun hv hm' => by
      rw [Array.toList_map, List.mem_map] at hm'
      obtain ⟨en, hen, rfl⟩ := hm'
      obtain ⟨i, hi⟩ := List.getElem?_of_mem hen
      obtain ⟨y, hy, e1, _⟩ := ents_val heo hi
      have b := So.bd y (List.mem_of_getElem? hy)
      refine ⟨y.toNat, ?_, by omega⟩
      rw [e1]
      have := hash40 y.toNat (by omega)
      rw [show ((y.toNat : Nat) : Int) = y by omega] at this
      rw [this]
      omega
    obtain ⟨t', od, el, pe, fe⟩ := ST.laid_ok (finger := t.finger) (moves := t.moves) (led := t.led && to.led) (plain := t.plain && to.plain) (hs := eo.map (·.1)) (mask := t.mask) (by rw [q1]; exact hm) hh (by rw [Array.size_map, q1]; omega)
    have tb := ST.laid_tb el
    rw [Array.size_map] at pe fe
    have pes : (od.filterMap (eo[·]?)).toList.Perm eo.toList := by
      rw [Array.toList_filterMap]
      exact (pe.filterMap _).trans (by rw [filterMap_getElem?_range])
    have sz : (od.filterMap (eo[·]?)).size = eo.size := by
      rw [← Array.length_toList, pes.length_eq, Array.length_toList]
    rw [el]
    refine wpAny_bind ?_
    refine (show wpAny _ _ (if ((od.filterMap (eo[·]?)).size != eo.size) = true then _ else _) _ _ _ from ?_)
    rw [if_neg (by rw [sz]; simp)]
    obtain ⟨ys, py, he'⟩ := paired_perm pes.symm heo
    refine wpAny_pure (wpAny_storeSet_of (s := { s with heap := h1 }) ho hd ?_ (by rw [sz]; exact z))
    refine h _ ys (sb1.trans (Heap.SameBut.update _ r _)) (si_put ho hex hd he' (by rw [sz]; exact fe) ?_ ⟨?_, ?_, ?_⟩ (py.nodup_iff.mp So.nd) (fun y hy => So.bd y (py.mem_iff.mpr hy))) py.symm
    · have := tb.1
      rw [q4, htbo.led, Bool.and_self] at this
      exact this
    · rw [tb.2.2.2, q5, htpo.plain]
      rfl
    · rw [tb.2.1, q1]
      exact hm
    · show (t'.place.size + t'.dummies.size) * 5 < t'.mask * 3
      rw [(fits_iff.mp fe).1, tb.2.2.1, tb.2.1, q1]
      show (eo.size + 0) * 5 < _
      omega
end
end L2
set_option Elab.async false
set_option linter.all false
set_option maxRecDepth 100000
set_option maxHeartbeats 4000000
namespace L2
open PySem PySem.Spec PyProof.Rows
section
variable {prog : Program} {w : World} {A : Around} {E : Value → Shared → Prop} {s : Shared} {a b r : Addr} {xs ys : List Int}
theorem SI.typeIs (S : SI w s.heap a xs) : s.TypeIs (.ref a) "set" := by
  obtain ⟨o, _, _, _, ho, hex, _⟩ := S.ex
  exact ⟨o, ho, hex.1⟩
theorem si_epoch {o : Obj} {es : Array (Int × Value)} {ep : Nat} {t : SetTable} {Q : Nat → Shared → Prop} (ho : s.heap.get? a = some o) (hd : o.data = .set es ep t) (hf : t.fits es.size = true) (h : Q ep s) : wpAny (model prog w) A (setEpoch a) Q E s := wpAny_setEpoch_of ho hd hf h
theorem sub_set : isSubtype (.type "set") (.type "set") = pure true := by rw [isSubtype_type]; kernel_rfl
theorem any_set {Q : Bool → Shared → Prop} (hT : s.TypeIs (.ref a) "set") (h : Q true s) : wpAny (model prog w) A (Builtin.Frozenset.isAnySet (.ref a)) Q E s := by
  unfold Builtin.Frozenset.isAnySet
  refine (show wpAny _ _ (isInstance (.ref a) (.type "set") >>= _) _ _ s from wpAny_bind (wpAny_isInstance hT sub_set ?_))
  exact wpAny_pure h
theorem base_set {Q : Value → Shared → Prop} (hT : s.TypeIs (.ref a) "set") (h : Q (.type "set") s) : wpAny (model prog w) A (Builtin.Frozenset.baseOf a) Q E s := by
  unfold Builtin.Frozenset.baseOf
  refine wpAny_bind (wpAny_isInstance hT sub_set ?_)
  exact wpAny_pure h
theorem new_set {Q : Value → Shared → Prop} (h : ∀ h', (∀ c o, s.heap.get? c = some o → h'.get? c = some o) → h'.objs.size = s.heap.objs.size + 1 → Em w h' s.heap.objs.size 7 → Q (.ref s.heap.objs.size) { s with heap := h' }) : wpAny (model prog w) A (newSet (.type "set")) Q E s := by
  unfold newSet setsByText
  refine wpAny_bind (wpAny_bind (wpAny_askSetting (wpAny_pure ?_)))
  dsimp only
  simp only [newObj]
  exact wpAny_bind (wpAny_alloc (wpAny_pure (h _ (fun c o e => Heap.get?_push_of_some _ e) (Heap.size_push ..) ⟨_, 0, _, Heap.get?_push_size _ rfl, ⟨rfl, rfl, rfl⟩, rfl, rfl, rfl, rfl, rfl, rfl, by decide⟩)))
theorem new_from {id : String} {Q : Value → Shared → Prop} (S : SI w s.heap a xs) (h : ∀ h' zs, (∀ c o, s.heap.get? c = some o → h'.get? c = some o) → h'.objs.size = s.heap.objs.size + 1 → SI w h' s.heap.objs.size zs → zs.Perm xs → Q (.ref s.heap.objs.size) { s with heap := h' }) : wpAny (model prog w) A (Builtin.Frozenset.newFrom id (.type "set") (.ref a)) Q E s := by
  unfold Builtin.Frozenset.newFrom
  refine wpAny_bind (new_set fun h1 k1 z1 e1 => ?_)
  have S1 : SI w h1 a xs := S.at fun o e => k1 a o e
  obtain ⟨o, es, ep, t, ho, hex, hd, he, hf, htb, htp⟩ := S1.ex
  have lt : a < s.heap.objs.size := by
    obtain ⟨o', _, _, _, ho', _⟩ := S.ex
    exact Heap.lt_size ho'
  refine (show wpAny _ _ (pure s.heap.objs.size >>= fun c => _) _ _ _ from wpAny_bind (wpAny_pure ?_))
  refine wpAny_bind (wpAny_holding ?_)
  unfold Builtin.Frozenset.updateFrom
  refine wpAny_bind (any_set (s := { s with heap := h1 }) S1.typeIs ?_)
  rw [if_pos rfl]
  refine (show wpAny _ _ (pure a >>= fun c => _) _ _ _ from wpAny_bind (wpAny_pure ?_))
  unfold Builtin.Frozenset.merge
  refine wpAny_bind (si_epoch (s := { s with heap := h1 }) ho hd hf ?_)
  refine em_merge (s := { s with heap := h1 }) e1 S1 (Nat.ne_of_gt lt) fun h2 zs sb S2 pz => ?_
  refine wpAny_pure (h h2 zs (fun c o e => ?_) ?_ S2 pz)
  · rw [sb.2 c (Nat.ne_of_lt (Heap.lt_size e))]
    exact k1 c o e
  · rw [sb.1]
    exact z1
theorem sym_diff {Q : Value → Shared → Prop} (Sa : SI w s.heap a xs) (Sb : SI w s.heap b ys) (h : ∀ h' zs, (∀ c o, s.heap.get? c = some o → h'.get? c = some o) → SI w h' s.heap.objs.size zs → (∀ y, y ∈ zs ↔ (y ∈ xs ∧ y ∉ ys) ∨ (y ∈ ys ∧ y ∉ xs)) → Q (.ref s.heap.objs.size) { s with heap := h' }) :
    wpAny (model prog w) A (do
      let result ← Builtin.Frozenset.newFrom "frozenset.__xor__" (← Builtin.Frozenset.baseOf a) (.ref b)
      holding [result] (Builtin.Frozenset.symmetricDifferenceUpdate "frozenset.__xor__" (← Builtin.Frozenset.addrOf result) (.ref a))
      return result) Q E s := by
  refine wpAny_bind (base_set Sa.typeIs ?_)
  refine wpAny_bind (new_from Sb fun h1 zs k1 z1 S1 pz => ?_)
  have Sa1 : SI w h1 a xs := Sa.at fun o e => k1 a o e
  have lt : a < s.heap.objs.size := by
    obtain ⟨o', _, _, _, ho', _⟩ := Sa.ex
    exact Heap.lt_size ho'
  obtain ⟨o, es, ep, t, ho, hex, hd, he, hf, htb, htp⟩ := Sa1.ex
  refine (show wpAny _ _ (pure s.heap.objs.size >>= fun c => _) _ _ _ from wpAny_bind (wpAny_pure ?_))
  refine wpAny_bind (wpAny_holding ?_)
  unfold Builtin.Frozenset.symmetricDifferenceUpdate
  rw [if_neg (by simp; exact Nat.ne_of_lt lt)]
  refine wpAny_bind (wpAny_typeOf (s := { s with heap := h1 }) Sa1.typeIs ?_)
  rw [if_neg (by decide)]
  refine wpAny_bind (any_set (s := { s with heap := h1 }) Sa1.typeIs ?_)
  dsimp only
  rw [if_pos rfl]
  refine wpAny_bind (wpAny_pure ?_)
  refine (show wpAny _ _ (pure a >>= fun c => _) _ _ _ from wpAny_bind (wpAny_pure ?_))
  refine wpAny_bind (si_epoch (s := { s with heap := h1 }) ho hd hf ?_)
  refine wpAny_holding (wpAny_bind (si_walkU (s := { s with heap := h1 }) Sa1 S1 (Nat.ne_of_lt lt) fun es' ys' h2 pe py sb S2 => ?_))
  have hoa : s.heap.get? a = some o := by
    obtain ⟨o', _, _, _, ho', _⟩ := Sa.ex
    have := k1 a o' ho'
    rw [ho] at this
    injection this with this
    rw [this]
    exact ho'
  have k2 : ∀ c o, s.heap.get? c = some o → h2.get? c = some o := fun c o e => by
    rw [sb.2 c (Nat.ne_of_lt (Heap.lt_size e))]
    exact k1 c o e
  have nd' : ys'.Nodup := py.nodup_iff.mpr Sa.nd
  refine wpAny_bind (MeetsSeq2.wpAny_forIn_array _ (fun rest _ s' => ∃ h' cur dn rv, s' = { s with heap := h' } ∧ (∀ c o, s.heap.get? c = some o → h'.get? c = some o) ∧ SI w h' s.heap.objs.size cur ∧ Paired EntI rest rv ∧ ys' = dn ++ rv ∧ ∀ y, y ∈ cur ↔ (y ∈ zs ∧ y ∉ dn) ∨ (y ∈ dn ∧ y ∉ zs)) _ ?_ ?_ es' _ ⟨h2, zs, [], ys', rfl, k2, S2, pe, rfl, fun y => by simp⟩)
  · rintro ⟨hv, x⟩ rest _ s' ⟨h', cur, dn, rv, rfl, k', S', pr, ey, mem⟩
    cases pr with
    | cons re tl =>
      rename_i y0 rv'
      obtain ⟨e1, tk, e2⟩ := re
      have e1 : hv = hashInt y0 := e1
      have e2 : x = Value.int y0 tk := e2
      subst e1 e2
      have in' : y0 ∈ ys' := by rw [ey]; simp
      have bd0 := Sa.bd y0 (py.mem_iff.mp in')
      have ndn : y0 ∉ dn := fun z => by
        rw [ey, List.nodup_append] at nd'
        exact nd'.2.2 y0 z y0 List.mem_cons_self rfl
      refine wpAny_bind (si_flip (s := { s with heap := h' }) S' bd0 fun h3 cur3 sb3 S3 mem3 => ?_)
      have k3 : ∀ c o, s.heap.get? c = some o → h3.get? c = some o := fun c o e => by
        rw [sb3.2 c (Nat.ne_of_lt (Heap.lt_size e))]
        exact k' c o e
      unfold Builtin.Frozenset.unchanged
      refine wpAny_bind (wpAny_bind (si_epoch (s := { s with heap := h3 }) (k3 a o hoa) hd hf ?_))
      rw [if_neg (by simp)]
      refine wpAny_pure (wpAny_pure ⟨h3, cur3, dn ++ [y0], rv', rfl, k3, S3, tl, by rw [ey]; simp, fun y => ?_⟩)
      rw [mem3 y, mem y, mem y0, List.mem_append, List.mem_singleton]
      by_cases e : y = y0
      · subst e
        by_cases hz : y ∈ zs <;> simp [ndn, hz]
      · by_cases hz : y ∈ zs <;> by_cases hd' : y ∈ dn <;> simp [e, hz, hd']
  · rintro _ s' ⟨h', cur, dn, rv, rfl, k', S', pr, ey, mem⟩
    cases pr
    rw [List.append_nil] at ey
    subst ey
    refine wpAny_pure (wpAny_pure (h h' cur k' S' fun y => ?_))
    rw [mem y, pz.mem_iff, py.mem_iff]
    constructor
    · rintro (⟨z1, z2⟩ | ⟨z1, z2⟩)
      · exact .inr ⟨z1, z2⟩
      · exact .inl ⟨z1, z2⟩
    · rintro (⟨z1, z2⟩ | ⟨z1, z2⟩)
      · exact .inr ⟨z1, z2⟩
      · exact .inl ⟨z1, z2⟩
end
end L2
set_option Elab.async false
set_option linter.all false
set_option maxRecDepth 100000
set_option maxHeartbeats 4000000
namespace L2
open PySem PySem.Spec PyProof.Rows
theorem entry_set_xor : entryFor table "set.__xor__" = some Builtin.«frozenset.__xor__» :=
  entryFor_alias (id' := "frozenset.__xor__") (by kernel_rfl) rfl (by decide +kernel) (by kernel_rfl)
section
variable {prog : Program} {w : World} {A : Around} {E : Value → Shared → Prop} {s : Shared} {a b : Addr} {xs ys : List Int}
theorem xor_body {Q : Value → Shared → Prop} (Sa : SI w s.heap a xs) (Sb : SI w s.heap b ys) (h : ∀ h' zs, (∀ c o, s.heap.get? c = some o → h'.get? c = some o) → SI w h' s.heap.objs.size zs → (∀ y, y ∈ zs ↔ (y ∈ xs ∧ y ∉ ys) ∨ (y ∈ ys ∧ y ∉ xs)) → Q (.ref s.heap.objs.size) { s with heap := h' }) :
    wpAny (model prog w) A (Builtin.«frozenset.__xor__» ⟨[.ref a, .ref b], []⟩) (fun fin s' => ∃ v, fin = .done (.ret v) ∧ Q v s') E s := by
  refine (show wpAny _ _ (do
      let (self, other) ← Builtin.Frozenset.slot1 "__xor__" ⟨[.ref a, .ref b], []⟩
      let (l, r) := if false then (other, self) else (self, other)
      if !(← Builtin.Frozenset.isAnySet l <&&> Builtin.Frozenset.isAnySet r) then rule s!"frozenset.__xor__.declined"; return ← ret .notImplemented
      ret (← (fun (l : Addr) (r : Value) => (do
        let result ← Builtin.Frozenset.newFrom "frozenset.__xor__" (← Builtin.Frozenset.baseOf l) r
        holding [result] (Builtin.Frozenset.symmetricDifferenceUpdate "frozenset.__xor__" (← Builtin.Frozenset.addrOf result) (.ref l))
        return result : Sem Value)) (← Builtin.Frozenset.addrOf l) r)) _ _ s from ?_)
  unfold Builtin.Frozenset.slot1 slotArgs
  refine wpAny_bind (wpAny_bind (wpAny_pure (wpAny_pure ?_)))
  dsimp only
  rw [if_neg Bool.false_ne_true]
  dsimp only
  refine wpAny_bind ?_
  refine (show wpAny _ _ (Builtin.Frozenset.isAnySet (.ref a) >>= _) _ _ s from wpAny_bind (any_set Sa.typeIs ?_))
  refine (show wpAny _ _ (Builtin.Frozenset.isAnySet (.ref b)) _ _ s from any_set Sb.typeIs ?_)
  rw [if_neg (by decide)]
  refine (show wpAny _ _ (pure a >>= fun c => _) _ _ _ from wpAny_bind (wpAny_pure ?_))
  refine wpAny_bind (sym_diff Sa Sb fun h' zs k S m => ?_)
  exact wpAny_pure ⟨_, rfl, h h' zs k S m⟩
theorem set_xor {Q : Value → Shared → Prop} (Sa : SI w s.heap a xs) (Sb : SI w s.heap b ys) (h : ∀ h' zs, (∀ c o, s.heap.get? c = some o → h'.get? c = some o) → SI w h' s.heap.objs.size zs → (∀ y, y ∈ zs ↔ (y ∈ xs ∧ y ∉ ys) ∨ (y ∈ ys ∧ y ∉ xs)) → Q (.ref s.heap.objs.size) { s with heap := h' }) :
    wpAny (model prog w) A (binaryOp .BitXor (.ref a) (.ref b)) Q E s := by
  refine wpAny_binaryOp_same (op := .BitXor) Sa.typeIs Sb.typeIs PySem.F.fills_set_xor PySem.F.slot_set_xor (wpAny_call_entry PySem.F.slot_set_xor Sa.typeIs entry_set_xor (xor_body Sa Sb fun h' zs k S m => ?_) (PySem.F.args_set_xor_2 _ _))
  exact ⟨(by intro z; cases z), h h' zs k S m⟩
end
end L2
set_option Elab.async false
set_option linter.all false
set_option maxRecDepth 100000
set_option maxHeartbeats 4000000
namespace L2
open PySem PySem.Spec PyProof.Rows
section
variable {prog : Program} {w : World} {A : Around} {E : Value → Shared → Prop} {s : Shared}
theorem set_loop {S it l : Addr} {items : Array Value} {ns : List Int} (hh : A.in1.handled = none) (hne : l ≠ it) (hSi : S ≠ it) (hSl : S ≠ l) (hv : Vals (ns.map V.int) items.toList) (bd : ∀ y ∈ ns, 0 ≤ y ∧ y < 40) {R : Result → Shared → Prop} :
    ∀ (k i : Nat) (s : Shared) (cur : List Int), ns.length - i = k → i ≤ ns.length → s.heap.IsListIter it l i → s.heap.IsList l items → SI w s.heap S cur → (∀ y, y ∈ cur ↔ y ∈ ns.take i) →
      (∀ h' tk cur', (∀ c o, c ≠ S → c ≠ it → s.heap.get? c = some o → h'.get? c = some o) → SI w h' S cur' → (∀ y, y ∈ cur' ↔ y ∈ ns) → R (.ok (.ret .none)) { s with heap := h', toks := tk }) →
      codeAny (model prog w) A (.builtin "set.update.loop" ⟨[.ref S, .ref it], []⟩) R s := by
  have ln : items.size = ns.length := by
    have := hv.length
    simpa using this.symm
  have W := Walks.list (prog := prog) (w := w) (A := A.in1) hh it l hne items
  intro k
  induction k with
  | zero =>
    intro i s cur hk hi hit hl S0 mem hR
    have e : i = items.size := by omega
    refine codeAny_builtin PyProof.Rows.F.entry_set_update_loop ?_
    rw [Around.under_plainId PyProof.Rows.F.plain_set_update_loop _]
    refine (show wpAny _ A.in1 (pyNext (.ref it) >>= _) _ _ s from wpAny_bind (W.done s _ _ (e ▸ ⟨hit, hl⟩) fun h' tk kk => ?_))
    have S1 : SI w h' S cur := S0.at fun o e => kk S o (by simpa using hSi) e
    refine wpAny_pure (hR h' tk cur (fun c o _ hc e => kk c o (by simpa using hc) e) S1 fun y => ?_)
    rw [mem y, List.take_of_length_le (by omega)]
  | succ k ih =>
    intro i s cur hk hi hit hl S0 mem hR
    have hlt : i < items.size := by omega
    have hln : i < ns.length := by omega
    refine codeAny_builtin PyProof.Rows.F.entry_set_update_loop ?_
    rw [Around.under_plainId PyProof.Rows.F.plain_set_update_loop _]
    refine (show wpAny _ A.in1 (pyNext (.ref it) >>= _) _ _ s from wpAny_bind (W.item i s _ _ hlt ⟨hit, hl⟩ fun v h' tk hP st' kk => ?_))
    obtain ⟨u, hu, ru⟩ := hv.get (i := i) (x := V.int ns[i]) (by rw [List.getElem?_map, List.getElem?_eq_getElem hln]; rfl)
    have ev : v = u := by
      have : items[i]? = some v := hP
      rw [← Array.getElem?_toList, hu] at this
      injection this with this
      exact this.symm
    subst ev
    obtain ⟨t, rfl⟩ := ru
    have S1 : SI w h' S cur := S0.at fun o e => kk S o (by simpa using hSi) e
    refine (show wpAny _ A.in1 (holding [Value.int ns[i] t] (setAdd S (.int ns[i] t)) >>= _) _ _ _ from wpAny_bind (wpAny_holding ?_))
    unfold setAdd
    refine wpAny_holding (wpAny_bind ((intKind prog w).pyHash (k := ns[i]) (intKind_is _ _ _ _) ?_))
    have tk1 : ns.take (i + 1) = ns.take i ++ [ns[i]] := by
      rw [List.take_add_one, List.getElem?_eq_getElem hln]
      rfl
    refine si_add (s := { s with heap := h', toks := tk + 1 }) S1 (bd _ (List.getElem_mem hln)) (fun hin => ?_) fun hnin h2 cur2 sb S2 mem2 => ?_
    · refine wpAny_pure ⟨plainId_quiet PyProof.Rows.F.plain_set_update_loop _, ih (i + 1) _ cur (by omega) hln st'.1 st'.2 S1 (fun y => ?_) fun h3 tk3 cur3 k3 S3 m3 => ?_⟩
      · rw [tk1, List.mem_append, List.mem_singleton, mem y]
        constructor
        · intro z; exact .inl z
        · rintro (z | rfl)
          · exact z
          · exact (mem _).mp hin
      · exact hR h3 tk3 cur3 (fun c o h1 h2 e => k3 c o h1 h2 (kk c o (by simpa using h2) e)) S3 m3
    · refine wpAny_pure ⟨plainId_quiet PyProof.Rows.F.plain_set_update_loop _, ih (i + 1) _ cur2 (by omega) hln ?_ ?_ S2 (fun y => ?_) fun h3 tk3 cur3 k3 S3 m3 => ?_⟩
      · exact st'.1.at fun o e => by rw [sb.2 it (Ne.symm hSi)]; exact e
      · exact st'.2.at fun o e => by rw [sb.2 l (Ne.symm hSl)]; exact e
      · rw [tk1, List.mem_append, List.mem_singleton, mem2 y, mem y]
      · exact hR h3 tk3 cur3 (fun c o n1 n2 e => k3 c o n1 n2 (by
          show h2.get? c = some o
          rw [sb.2 c n1]
          exact kk c o (by simpa using n2) e)) S3 m3
def nset (w : World) : Obj := { cls := .type "set", dict := none, data := .set #[] 0 (.fresh 0 0 (!byT w)) }
theorem set_new1 (v : Value) {Q₁ : Value → Shared → Prop} (h : Q₁ (.ref s.heap.objs.size) { s with heap := s.heap.push (nset w) }) : codeAny (model prog w) A (.call (.builtin "set.__new__") ⟨[.type "set", v], []⟩) (wants Q₁ E) s := by
  refine codeAny_of_tree ?_
  refine (show wpAny _ A.in1 (do checkBuiltinCall "set.__new__" ⟨[.type "set", v], []⟩; again (.builtin "set.__new__" ⟨[.type "set", v], []⟩)) _ _ s from ?_)
  refine wpAny_bind (wpAny_of_eq (PySem.F.newCall_set_1 v) (wpAny_pure ⟨plainId_quiet PySem.F.plain_set_new _, codeAny_builtin PySem.F.entry_set_new ?_⟩))
  rw [Around.under_plainId PySem.F.plain_set_new _]
  unfold Builtin.«set.__new__» Builtin.Frozenset.newClass
  have hsub := sub_set
  obtain ⟨hp, g, d, tk, os⟩ := s
  dsimp only
  wp_walk
  refine wpAny_askSetting (wpAny_pure ?_)
  dsimp only
  simp only [newObj]
  exact wpAny_bind (wpAny_alloc (wpAny_pure (wpAny_pure h)))
theorem set_of {l : Addr} {items : Array Value} {ns : List Int} {Q : Value → Shared → Prop} (hh : A.handled = none) (hl : s.heap.IsList l items) (hv : Vals (ns.map V.int) items.toList) (bd : ∀ y ∈ ns, 0 ≤ y ∧ y < 40)
    (h : ∀ h' tk cur, (∀ c o, s.heap.get? c = some o → h'.get? c = some o) → SI w h' s.heap.objs.size cur → (∀ y, y ∈ cur ↔ y ∈ ns) → Q (.ref s.heap.objs.size) { s with heap := h', toks := tk }) : wpAny (model prog w) A (call (.type "set") [.ref l]) Q E s := by
  obtain ⟨c, tl, hmro⟩ := PySem.F.called_set.mro
  have hmade := PySem.F.called_set.made
  have hsub := PySem.F.called_set.sub
  have h1 := PySem.F.called_set.notType
  have h2 := PySem.F.called_set.canCreate
  have hct := PySem.F.typeCall_set_1 (.ref l)
  refine wpAny_call (codeAny_of_tree (show wpAny _ _ (callAny (.type "set") _) _ _ _ from wpAny_pure ⟨Code.quiet_builtin _ (by decide +kernel), codeAny_builtin PySem.F.entry_type_call ?_⟩))
  rw [Around.under_plain (weight_type_call_type "set" [.ref l] []) rfl]
  repeat (any_goals (first | assumption | wp_step))
  refine codeAny_mono (set_new1 (w := w) (.ref l) (E := E) (Q₁ := fun obj s₁ => obj = .ref s.heap.objs.size ∧ s₁ = { s with heap := s.heap.push (nset w) }) ⟨rfl, rfl⟩) fun r s₁ hr => ?_
  cases r with
  | error e => exact hr
  | ok fl =>
    cases fl with
    | ret obj =>
      obtain ⟨rfl, rfl⟩ := hr
      have hS : (s.heap.push (nset w)).get? s.heap.objs.size = some (nset w) := Heap.get?_push_size _ rfl
      have hT : Shared.TypeIs { s with heap := s.heap.push (nset w) } (.ref s.heap.objs.size) "set" := ⟨_, hS, rfl⟩
      have hli := PySem.F.called_set.init.lookup
      have hbi := PySem.F.called_set.init.bind (.ref s.heap.objs.size)
      repeat (any_goals (first | assumption | wp_step))
      refine codeAny_mono (codeAny_call_builtin (R := wants (fun r s₂ => r = .none ∧ ∃ h' tk cur, s₂ = { s with heap := h', toks := tk } ∧ (∀ c o, s.heap.get? c = some o → h'.get? c = some o) ∧ SI w h' s.heap.objs.size cur ∧ ∀ y, y ∈ cur ↔ y ∈ ns) E) PySem.F.called_set.init.plain PySem.F.entry_set_init (check_set_init_1 hT ?_)) fun r₂ s₂ hr₂ => ?_
      · obtain ⟨⟨ocls, odict, odata, oslots⟩, hol, hcl, n0, hdl⟩ := id hl
        have hcl : ocls = .type "list" := hcl
        have hdl : odata = .seq items n0 := hdl
        subst hcl hdl
        have hol' : (s.heap.push (nset w)).get? l = some { cls := .type "list", dict := odict, data := .seq items n0, slots := oslots } := Heap.get?_push_of_some _ hol
        have hl1 : (s.heap.push (nset w)).IsList l items := ⟨_, hol', rfl, n0, rfl⟩
        have hlS : l < s.heap.objs.size := Heap.lt_size hol
        have b1 := PySem.F.sub_list_set
        have b2 := PySem.F.sub_list_frozenset
        have b3 : (Value.type "list" == Value.type "dict") = false := by decide
        unfold nset at hol' hS hT ⊢
        unfold Builtin.«set.__init__» noKeywords Builtin.Frozenset.updateFrom
        generalize hPI : pyIter = PI
        wp_walk
        subst hPI
        have hl2 : (s.heap.push { cls := .type "set", dict := none, data := .set #[] 0 (.fresh 0 0 (!byT w)) }).IsList l items := hl1
        have sz : (s.heap.push { cls := .type "set", dict := none, data := .set #[] 0 (.fresh 0 0 (!byT w)) }).objs.size = s.heap.objs.size + 1 := Heap.size_push ..
        refine wpAny_pyIter_list hl2 ?_
        refine wpAny_bind (wpAny_runValue ?_)
        refine set_loop (w := w) (l := l) (items := items) (ns := ns) (by simp [hh]) ?_ ?_ (Nat.ne_of_gt hlS) hv bd ns.length 0 _ [] (by omega) (Nat.zero_le _) ⟨_, Heap.get?_push_size _ rfl, rfl, rfl⟩ (hl2.push _) ?_ (fun y => by simp) fun h' tk cur k' S' m' => ?_
        · rw [sz]
          exact Nat.ne_of_lt (Nat.lt_succ_of_lt hlS)
        · rw [sz]
          exact Nat.ne_of_lt (Nat.lt_succ_self _)
        · refine em_si (m := 7) ⟨_, 0, _, Heap.get?_push_of_some _ hS, ⟨rfl, rfl, rfl⟩, rfl, rfl, rfl, rfl, rfl, rfl, by decide⟩
        · refine wpAny_pure ?_
          refine wpAny_pure ⟨rfl, h', tk, cur, rfl, fun c o e => ?_, S', m'⟩
          have lc : c < s.heap.objs.size := Heap.lt_size e
          exact k' c o (Nat.ne_of_lt lc) (by rw [sz]; exact Nat.ne_of_lt (Nat.lt_succ_of_lt lc)) (Heap.get?_push_of_some _ (Heap.get?_push_of_some _ e))
      · cases r₂ with
        | error e => exact hr₂
        | ok fl₂ =>
          cases fl₂ with
          | ret r =>
            obtain ⟨rfl, h', tk, cur, rfl, k', S', m'⟩ := hr₂
            repeat (any_goals (first | assumption | wp_step))
            exact h _ _ _ k' S' m'
          | _ => exact hr₂.elim
    | _ => exact hr.elim
end
end L2
set_option Elab.async false
set_option linter.all false
set_option maxRecDepth 100000
set_option maxHeartbeats 4000000
namespace L2
open PySem PySem.Spec PyProof.Rows PySem.W
theorem slot_si_next : Slot "set_iterator" "__next__" "set_iterator.__next__" :=
  .of (owner := "set_iterator") (n := "__next__") (by rw [typeLookup_type, builtinLookup_eq_fast]; kernel_rfl) (by decide +kernel) (by decide +kernel) (by decide +kernel)
    (by first | exact .inl (by decide +kernel) | exact .inr (by decide +kernel)) (by rw [isSubtype_type]; kernel_rfl)
theorem slot_si_iter : Slot "set_iterator" "__iter__" "set_iterator.__iter__" :=
  .of (owner := "set_iterator") (n := "__iter__") (by rw [typeLookup_type, builtinLookup_eq_fast]; kernel_rfl) (by decide +kernel) (by decide +kernel) (by decide +kernel)
    (by first | exact .inl (by decide +kernel) | exact .inr (by decide +kernel)) (by rw [isSubtype_type]; kernel_rfl)
theorem entry_si_next : entryFor table "set_iterator.__next__" = some Builtin.«set_iterator.__next__» := entryFor_of_tree (by kernel_rfl)
theorem entry_si_iter : entryFor table "set_iterator.__iter__" = some Builtin.«dict_keyiterator.__iter__» :=
  entryFor_alias (id' := "dict_keyiterator.__iter__") (by kernel_rfl) rfl (by decide +kernel) (by kernel_rfl)
theorem entry_set_it : entryFor table "set.__iter__" = some Builtin.«frozenset.__iter__» :=
  entryFor_alias (id' := "frozenset.__iter__") (by kernel_rfl) rfl (by decide +kernel) (by kernel_rfl)
theorem owner_si : Manifest.owners.lookup (String.ofList ['r', 'o', 't', 'a', 'r', 'e', 't', 'i', '_', 't', 'e', 's'].reverse) = some Manifest.sig_set_iterator := by kernel_rfl
theorem args_si_next (a : Value) : argsOk "set_iterator.__next__" ⟨[a], []⟩ := by
  unfold argsOk; rw [signature?_of (id := "set_iterator.__next__") (n := ['_', '_', 't', 'x', 'e', 'n', '_', '_']) (o := ['r', 'o', 't', 'a', 'r', 'e', 't', 'i', '_', 't', 'e', 's']) (by kernel_rfl) owner_si]; kernel_rfl
theorem args_si_iter (a : Value) : argsOk "set_iterator.__iter__" ⟨[a], []⟩ := by
  unfold argsOk; rw [signature?_of (id := "set_iterator.__iter__") (n := ['_', '_', 'r', 'e', 't', 'i', '_', '_']) (o := ['r', 'o', 't', 'a', 'r', 'e', 't', 'i', '_', 't', 'e', 's']) (by kernel_rfl) owner_si]; kernel_rfl
def SetAt (h : Heap) (d : Addr) (es : Array (Int × Value)) (ep : Nat) (t : SetTable) : Prop := ∃ o, h.get? d = some o ∧ o.ExactSet ∧ o.data = .set es ep t
theorem SetAt.at {h h' : Heap} {d : Addr} {es : Array (Int × Value)} {ep : Nat} {t : SetTable} (x : SetAt h d es ep t) (k : ∀ o, h.get? d = some o → h'.get? d = some o) : SetAt h' d es ep t := let ⟨o, g, r⟩ := x; ⟨o, k o g, r⟩
theorem SetAt.typeIs {s : Shared} {d : Addr} {es : Array (Int × Value)} {ep : Nat} {t : SetTable} (x : SetAt s.heap d es ep t) : s.TypeIs (.ref d) "set" := let ⟨o, g, c, _⟩ := x; ⟨o, g, c.1⟩
structure SetIt (h : Heap) (it d : Addr) (slot i n ep : Nat) : Prop where
  ex : ∃ o, h.get? it = some o ∧ o.cls = .type "set_iterator" ∧ o.data = .fields #[.int (slot : Int) 0, .int (i : Int) 0, .ref d, .int (n : Int) 0, .int (ep : Int) 0]
theorem SetIt.typeIs {s : Shared} {it d : Addr} {slot i n ep : Nat} (x : SetIt s.heap it d slot i n ep) : s.TypeIs (.ref it) "set_iterator" := let ⟨o, g, c, _⟩ := x.ex; ⟨o, g, c⟩
theorem SetIt.at {h h' : Heap} {it d : Addr} {slot i n ep : Nat} (x : SetIt h it d slot i n ep) (k : ∀ o, h.get? it = some o → h'.get? it = some o) : SetIt h' it d slot i n ep := let ⟨o, g, r⟩ := x.ex; ⟨o, k o g, r⟩
def ordr (w : World) (d : Addr) (es : Array (Int × Value)) (ep : Nat) : Array (Int × Value) := if byT w = true then pickOrder (w.params.setOrder d ep) es else es
def slotAt (w : World) (t : SetTable) : Nat → Nat
  | 0 => 0
  | i + 1 => if byT w = true then 0 else t.place.getD i 0 + 1
theorem slotAt_succ {w : World} {t : SetTable} {i : Nat} : slotAt w t (i + 1) = if byT w = true then 0 else t.place.getD i 0 + 1 := rfl
theorem ordr_perm {w : World} {d : Addr} {es : Array (Int × Value)} {ep : Nat} : (ordr w d es ep).toList.Perm es.toList := by
  unfold ordr
  split
  · exact pick_perm _ _
  · exact .refl _
theorem ordr_size {w : World} {d : Addr} {es : Array (Int × Value)} {ep : Nat} : (ordr w d es ep).size = es.size := by
  have := (ordr_perm (w := w) (d := d) (es := es) (ep := ep)).length_eq
  simpa using this
section
variable {prog : Program} {w : World} {A : Around} {E : Value → Shared → Prop} {s : Shared} {it d : Addr} {es : Array (Int × Value)} {ep i : Nat} {t : SetTable}
theorem walk_text {Q : Array (Int × Value) → Shared → Prop} (hm : SetAt s.heap d es ep t) (hf : t.fits es.size = true) (hb : byT w = true) (h : Q (pickOrder (w.params.setOrder d ep) es) s) : wpAny (model prog w) A (setWalk d) Q E s := by
  obtain ⟨o, g, c, dt⟩ := hm
  unfold setWalk
  refine wpAny_bind (wpAny_setState_of g dt hf ?_)
  dsimp only
  refine wpAny_bind (by_text ?_)
  rw [if_pos hb]
  exact wpAny_bind (wpAny_askSetting (wpAny_pure h))
theorem below_slot (hb : byT w = false) (htb : ST.Tb t (!byT w)) (hi : i ≤ t.place.size) : SetTable.below t.place (slotAt w t i) = i := by
  cases i with
  | zero => exact ST.below_zero htb.ris
  | succ i =>
    rw [slotAt_succ, if_neg (by rw [hb]; decide), Array.getD_eq_getD_getElem?, Array.getElem?_eq_getElem (by omega)]
    exact ST.below_next htb.ris (by omega)
end
end L2
set_option Elab.async false
set_option linter.all false
set_option maxRecDepth 100000
set_option maxHeartbeats 4000000
namespace L2
open PySem PySem.Spec PyProof.Rows PySem.W
section
variable {prog : Program} {w : World} {A : Around} {E : Value → Shared → Prop} {s : Shared} {it d : Addr} {es : Array (Int × Value)} {ep i : Nat} {t : SetTable}
theorem set_next {Q : Option (Value × Nat) → Shared → Prop} (hm : SetAt s.heap d es ep t) (hf : t.fits es.size = true) (htb : ST.Tb t (!byT w)) (htp : ST.Tp t) (hi : i ≤ es.size) (h : Q (((ordr w d es ep)[i]?).map fun e => (e.2, slotAt w t (i + 1))) s) : wpAny (model prog w) A (setNext d (slotAt w t i) i ep) Q E s := by
  have hp := (fits_iff.mp hf).1
  obtain ⟨o, g, c, dt⟩ := id hm
  unfold setNext
  refine wpAny_bind (wpAny_setState_of g dt hf ?_)
  dsimp only
  refine wpAny_bind (by_text ?_)
  cases hb : byT w with
  | true =>
    have e0 : slotAt w t i = 0 := by
      cases i with
      | zero => rfl
      | succ i => rw [slotAt_succ, if_pos hb]
    have e1 : slotAt w t (i + 1) = 0 := by rw [slotAt_succ, if_pos hb]
    have e2 : ordr w d es ep = pickOrder (w.params.setOrder d ep) es := by unfold ordr; rw [if_pos hb]
    rw [e1, e2] at h
    rw [e0, if_pos rfl, if_neg (by simp)]
    exact wpAny_bind (walk_text hm hf hb (wpAny_pure h))
  | false =>
    have e2 : ordr w d es ep = es := by unfold ordr; rw [if_neg (by rw [hb]; decide)]
    rw [e2] at h
    rw [if_neg (by decide)]
    refine (show wpAny _ _ (if (!t.plain && decide (es.size > 1)) = true then _ else _) _ _ s from ?_)
    rw [htp.plain, if_neg (by simp)]
    refine (show wpAny _ _ ((if (!t.led && !es.isEmpty) = true then unsupported "set:maker-not-led" else pure ()) >>= fun _ => _) _ _ s from ?_)
    rw [htb.led, hb]
    refine wpAny_bind (wpAny_pure ?_)
    rw [below_slot hb htb (by omega)]
    refine wpAny_pure ?_
    rcases Nat.lt_or_ge i es.size with l | l
    · rw [Array.getElem?_eq_getElem l] at h ⊢
      rw [Array.getElem?_eq_getElem (show i < t.place.size by omega)]
      have e1 : slotAt w t (i + 1) = t.place[i]'(by omega) + 1 := by
        rw [slotAt_succ, if_neg (by rw [hb]; decide), Array.getD_eq_getD_getElem?, Array.getElem?_eq_getElem (by omega)]
        rfl
      rw [e1] at h
      exact h
    · rw [Array.getElem?_eq_none l] at h ⊢
      exact h
theorem iter_set {Q : Value → Shared → Prop} (hm : SetAt s.heap d es ep t) (hf : t.fits es.size = true) (htp : ST.Tp t) (hQ : Q (.ref s.heap.objs.size) { s with heap := s.heap.push { cls := .type "set_iterator", data := .fields #[.int 0 0, .int 0 0, .ref d, .int es.size 0, .int ep 0] } }) : wpAny (model prog w) A (pyIter (.ref d)) Q E s := by
  obtain ⟨o, g, c, dt⟩ := id hm
  have T := hm.typeIs
  refine wpAny_pyIter_slot T PySem.F.slot_set_iter (wpAny_call_entry PySem.F.slot_set_iter T entry_set_it ?_ (PySem.F.args_set_iter_1 _))
  unfold Builtin.«frozenset.__iter__» Builtin.Frozenset.slot0 slotArgs
  refine wpAny_bind (wpAny_bind (wpAny_pure (wpAny_pure ?_)))
  unfold Builtin.Frozenset.sizeOf
  refine wpAny_bind (wpAny_bind (wpAny_setEntries_of g dt hf (wpAny_pure ?_)))
  unfold setDrawn
  refine wpAny_bind (wpAny_bind (wpAny_setState_of g dt hf ?_))
  dsimp only
  refine wpAny_bind (by_text ?_)
  refine (show wpAny _ _ (pure (!byT w && (!t.plain && decide (es.size > 1)))) _ _ s from wpAny_pure ?_)
  rw [htp.plain]
  refine (show wpAny _ _ (if (!byT w && false) = true then _ else _) _ _ s from ?_)
  rw [Bool.and_false, if_neg (by decide)]
  refine wpAny_bind (wpAny_pure (wpAny_bind (si_epoch g dt hf ?_)))
  unfold newFields
  exact wpAny_bind (wpAny_newObj_type (wpAny_pure ⟨_, rfl, "set_iterator", _, ⟨_, Heap.get?_push_size _ rfl, rfl⟩, slot_si_next.lookup, hQ⟩))
theorem next_set {Q : Option Value → Shared → Prop} (hit : SetIt s.heap it d (slotAt w t i) i es.size ep) (hm : SetAt s.heap d es ep t) (hf : t.fits es.size = true) (htb : ST.Tb t (!byT w)) (htp : ST.Tp t) (hi : i < es.size) (hQ : ∀ h', SetIt h' it d (slotAt w t (i + 1)) (i + 1) es.size ep → Heap.SameBut it s.heap h' → Q (some ((ordr w d es ep)[i]'(by rw [ordr_size]; exact hi)).2) { s with heap := h' }) : wpAny (model prog w) A (pyNext (.ref it)) Q E s := by
  obtain ⟨o, g, c, dt⟩ := hit.ex
  obtain ⟨o2, g2, c2, dt2⟩ := id hm
  have T := hit.typeIs
  unfold pyNext
  refine wpAny_bind (wpAny_attempt (wpAny_callSpecial?_slot (name := Str.ofString "__next__") T slot_si_next (wpAny_call_entry slot_si_next T entry_si_next ?_ (args_si_next _))))
  unfold Builtin.«set_iterator.__next__» slotArgs
  refine wpAny_bind (wpAny_pure (wpAny_bind (wpAny_fieldsOf g dt ?_)))
  dsimp only
  refine wpAny_bind (wpAny_setEntries_of g2 dt2 hf ?_)
  rw [if_neg (by simp)]
  rw [Int.toNat_natCast, Int.toNat_natCast, Int.toNat_natCast]
  refine wpAny_bind (set_next hm hf htb htp (Nat.le_of_lt hi) ?_)
  rw [Array.getElem?_eq_getElem (by rw [ordr_size]; exact hi)]
  refine (show wpAny _ _ (setField (.ref it) 0 (rawInt ((slotAt w t (i + 1) : Nat) : Int)) >>= fun _ => setField (.ref it) 1 (rawInt ((i : Int) + 1)) >>= fun _ => ret _) _ _ s from ?_)
  refine wpAny_bind (wpAny_setField g dt (by simp) ?_)
  have g3 := Heap.get?_update_self (Obj.mapFields (·.setIfInBounds 0 (rawInt ((slotAt w t (i + 1) : Nat) : Int)))) g (Obj.isFreed_of_fields (Obj.data_mapFields dt _))
  have d3 := Obj.data_mapFields dt (·.setIfInBounds 0 (rawInt ((slotAt w t (i + 1) : Nat) : Int)))
  refine wpAny_bind (wpAny_setField (s := { s with heap := s.heap.update it (Obj.mapFields (·.setIfInBounds 0 (rawInt ((slotAt w t (i + 1) : Nat) : Int)))) }) g3 d3 (by simp) ?_)
  refine wpAny_pure ⟨_, rfl, wpAny_pure (hQ _ ⟨_, Heap.get?_update_self _ g3 (Obj.isFreed_of_fields (Obj.data_mapFields d3 _)), (Obj.cls_mapFields ..).trans ((Obj.cls_mapFields ..).trans c), ?_⟩ ((Heap.SameBut.update ..).trans (Heap.SameBut.update ..)))⟩
  rw [Obj.data_mapFields d3]
  simp [rawInt]
theorem end_set {Q : Option Value → Shared → Prop} (hh : A.handled = none) (hit : SetIt s.heap it d (slotAt w t es.size) es.size es.size ep) (hm : SetAt s.heap d es ep t) (hf : t.fits es.size = true) (htb : ST.Tb t (!byT w)) (htp : ST.Tp t) (hQ : ∀ h', Heap.ExtBut it s.heap h' → Q none { s with heap := h' }) : wpAny (model prog w) A (pyNext (.ref it)) Q E s := by
  obtain ⟨o, g, c, dt⟩ := hit.ex
  obtain ⟨o2, g2, c2, dt2⟩ := id hm
  have T := hit.typeIs
  unfold pyNext
  refine wpAny_bind (wpAny_attempt (wpAny_callSpecial?_slot (name := Str.ofString "__next__") T slot_si_next (wpAny_call_entry slot_si_next T entry_si_next ?_ (args_si_next _))))
  unfold Builtin.«set_iterator.__next__» slotArgs
  refine wpAny_bind (wpAny_pure (wpAny_bind (wpAny_fieldsOf g dt ?_)))
  dsimp only
  refine wpAny_bind (wpAny_setEntries_of g2 dt2 hf ?_)
  rw [if_neg (by simp)]
  rw [Int.toNat_natCast, Int.toNat_natCast, Int.toNat_natCast]
  refine wpAny_bind (set_next hm hf htb htp (Nat.le_refl _) ?_)
  rw [Array.getElem?_eq_none (by rw [ordr_size]; exact Nat.le_refl _)]
  refine (show wpAny _ _ (setField (.ref it) 2 .none >>= _) _ _ s from wpAny_bind (wpAny_setField g dt (by simp) ?_))
  refine (show wpAny _ _ (newExc (.type "StopIteration") [] >>= _) _ _ _ from wpAny_bind ?_)
  simp only [newExc, newTuple]
  refine wpAny_bind (wpAny_newObj_type (wpAny_bind (m := firstArgMember _ _) (wpAny_of_eq (a := Value.none) (by first | rfl | (simp only [firstArgMember]; rfl)) (wpAny_newObj_type ?_ (by size_fits)))) (by size_fits))
  simp only [raiseNew]
  apply wpAny_bind
  apply wpAny_handled
  have h1 : A.in1.handled = none := hh
  rw [h1]
  refine wpAny_bind (wpAny_pure (wpAny_throw ?_))
  refine wpAny_bind (wpAny_isInstance (b := true) (T := "StopIteration") ⟨_, Heap.get?_push_size _ rfl, rfl⟩ isSubtype_stop ?_)
  exact wpAny_pure (hQ _ (((Heap.SameBut.update ..).extBut.push _).push _))
theorem self_set {slot n : Nat} {Q : Value → Shared → Prop} (hit : SetIt s.heap it d slot i n ep) (h : Q (.ref it) s) : wpAny (model prog w) A (pyIter (.ref it)) Q E s := by
  refine wpAny_pyIter_slot hit.typeIs slot_si_iter (wpAny_call_entry slot_si_iter hit.typeIs entry_si_iter ?_ (args_si_iter _))
  refine (show wpAny _ _ (ret (.ref it)) _ _ s from ?_)
  exact wpAny_pure ⟨_, rfl, "set_iterator", _, hit.typeIs, slot_si_next.lookup, h⟩
theorem hint_set {r : Addr} {Q : Bool → Shared → Prop} (hT : s.TypeIs (.ref r) "set") (h : Q false s) : wpAny (model prog w) A (Builtin.List.listLengthHint (.ref r)) Q E s := by
  unfold Builtin.List.listLengthHint
  refine wpAny_bind (wpAny_specialOf hT PySem.F.slot_set_len.lookup ?_)
  generalize hid : ("set.__len__" : String) = id0
  wp_delta
  rw [show splitId id0 = some ("set", "__len__") from by subst hid; decide +kernel]
  subst hid
  refine wpAny_bind (wpAny_isInstance (T := "set") (b := true) hT (by rw [isSubtype_type]; kernel_rfl) ?_)
  refine wpAny_ite_split (fun hab => absurd hab (by decide)) (fun _ => ?_)
  refine wpAny_ite_split (fun _ => ?_) (fun hab => absurd (by decide +kernel) hab)
  refine wpAny_bind (wpAny_typeOf hT ?_)
  exact wpAny_pure h
end
theorem walks_set {prog : Program} {w : World} {A : Around} (hh : A.handled = none) (I d : Addr) (hne : d ≠ I) (es : Array (Int × Value)) (ep : Nat) (t : SetTable) (hf : t.fits es.size = true) (htb : ST.Tb t (!byT w)) (htp : ST.Tp t) : Walks prog w A I [I, d] [I] es.size (fun i v => ∃ e, (ordr w d es ep)[i]? = some e ∧ v = e.2) (fun i h => SetIt h I d (slotAt w t i) i es.size ep ∧ SetAt h d es ep t) where
  sub := fun b hb => by
    have : b = I := by simpa using hb
    simp [this]
  frame := fun _ _ _ st k => ⟨st.1.at fun o e => k I (by simp) o e, st.2.at fun o e => k d (by simp) o e⟩
  item := fun i s Q E hi st hQ => next_set st.1 st.2 hf htb htp hi fun h' i2 sb => hQ _ h' s.toks ⟨_, Array.getElem?_eq_getElem (by rw [ordr_size]; exact hi), rfl⟩ ⟨i2, st.2.at fun o e => sb.extBut d o hne e⟩ fun b o hb e => sb.extBut b o (fun z => hb (by simp [z])) e
  done := fun s Q E st hQ => end_set hh st.1 st.2 hf htb htp fun h' he => hQ h' s.toks fun b o hb e => he b o (fun z => hb (by simp [z])) e
  self := fun _ _ _ _ st hQ => self_set st.1 hQ
theorem src_set {prog : Program} {w : World} {d : Addr} {es : Array (Int × Value)} {ep : Nat} {t : SetTable} (hf : t.fits es.size = true) (htb : ST.Tb t (!byT w)) (htp : ST.Tp t) : KdlSrc prog w "set" d d es.size (fun i v => ∃ e, (ordr w d es ep)[i]? = some e ∧ v = e.2) (fun h => SetAt h d es ep t) where
  type := fun _ m => m.typeIs
  there := fun _ ⟨_, g, _⟩ => ⟨Heap.lt_size g, Heap.lt_size g⟩
  keep := fun _ _ m k => m.at fun o e => k d (.inl rfl) o e
  notList := by decide
  notTuple := by decide
  hint := fun _ _ _ _ m q => hint_set m.typeIs q
  iter := fun _ s hh m => ⟨_, _, fun _ _ hq => iter_set m hf htp hq, walks_set hh _ d (fun z => by obtain ⟨_, g, _⟩ := m; exact absurd (Heap.lt_size g) (by rw [z]; exact Nat.lt_irrefl _)) es ep t hf htb htp, ⟨⟨_, Heap.get?_push_size _ rfl, rfl, rfl⟩, m.at fun o e => Heap.get?_push_of_some _ e⟩⟩
end L2
set_option Elab.async false
set_option linter.all false
set_option maxRecDepth 100000
set_option maxHeartbeats 4000000
namespace L2
open PySem PySem.Spec PyProof.Rows PySem.W
section
variable {prog : Program} {w : World} {A : Around} {E : Value → Shared → Prop} {s : Shared}
theorem collect_set {d : Addr} {es : Array (Int × Value)} {ep : Nat} {t : SetTable} {Q : List Value → Shared → Prop} (hh : A.handled = none) (hm : SetAt s.heap d es ep t) (hf : t.fits es.size = true) (htb : ST.Tb t (!byT w)) (htp : ST.Tp t) (hn : es.size ≤ sizeLine)
    (h : ∀ h' tk (vs : List Value), (∀ b o, s.heap.get? b = some o → h'.get? b = some o) → s.heap.objs.size < h'.objs.size → vs.length = es.size → (∀ (i : Nat) v, vs[i]? = some v → ∃ e, (ordr w d es ep)[i]? = some e ∧ v = e.2) → Q vs { s with heap := h', toks := tk }) : wpAny (model prog w) A (collect (.ref d)) Q E s := by
  obtain ⟨o, g, c, dt⟩ := id hm
  have dlt := Heap.lt_size g
  unfold collect
  refine wpAny_bind (wpAny_runValue (codeAny_builtin entry_proto_collect' ?_))
  refine (show wpAny _ _ (do again (.builtin "list.__iadd__" ⟨[← newList [], .ref d], []⟩)) _ _ s from ?_)
  refine wpAny_bind (wpAny_newList (wpAny_pure ⟨Code.quiet_builtin _ (by decide +kernel), codeAny_builtin entry_list_iadd' ?_⟩))
  have dS : s.heap.objs.size ≠ d := fun z => absurd dlt (by rw [← z]; exact Nat.lt_irrefl _)
  refine (show wpAny _ _ (Builtin.List.listExtendWith (.ref s.heap.objs.size) (.ref d) (.ref s.heap.objs.size)) _ _ { s with heap := s.heap.push (seqObj "list" #[] 0) } from ?_)
  rw [Around.under_plainId PySem.F.plain_list_iadd _]
  have fin : ∀ s' : Shared, (∃ h' tk acc c', s' = { s with heap := h', toks := tk } ∧ (∀ b o, b ≠ s.heap.objs.size → (s.heap.push (seqObj "list" #[] 0)).get? b = some o → h'.get? b = some o) ∧ h'.get? s.heap.objs.size = some { cls := .type "list", dict := none, data := .seq acc c', slots := #[] } ∧ ItemsOf (fun i v => ∃ e, (ordr w d es ep)[i]? = some e ∧ v = e.2) acc es.size) → wpAny (model prog w) A (load s.heap.objs.size >>= fun o => match o.data with | .seq xs _ => pure xs.toList | _ => unsupported "internal:collect") Q E s' := by
    rintro s' ⟨h', tk, acc, c', rfl, kp, gS, hI⟩
    exact wpAny_bind (wpAny_load gS (wpAny_pure (h h' tk acc.toList (fun b o e => kp b o (Nat.ne_of_lt (Heap.lt_size e)) (Heap.get?_push_of_some _ e)) (Heap.lt_size gS) (by rw [Array.length_toList]; exact hI.1) fun i v e => hI.2 i v (by rw [← Array.getElem?_toList]; exact e))))
  refine wpAny_mono (kdl_extend (s := { s with heap := s.heap.push (seqObj "list" #[] 0) }) (R := fun r s' => r = .ok (.ret (.ref s.heap.objs.size)) ∧ ∃ h' tk acc c', s' = { s with heap := h', toks := tk } ∧ (∀ b o, b ≠ s.heap.objs.size → (s.heap.push (seqObj "list" #[] 0)).get? b = some o → h'.get? b = some o) ∧ h'.get? s.heap.objs.size = some { cls := .type "list", dict := none, data := .seq acc c', slots := #[] } ∧ ItemsOf (fun i v => ∃ e, (ordr w d es ep)[i]? = some e ∧ v = e.2) acc es.size)
    (src_set (es := es) (ep := ep) hf htb htp) hh (hm.at fun o e => Heap.get?_push_of_some _ e) s.heap.objs.size dS dS (.ref s.heap.objs.size) 0 (Heap.get?_push_size _ rfl) (fun h' tk acc c' kp gS hI => ⟨rfl, h', tk, acc, c', rfl, kp, gS, hI⟩) hn) (fun fi s' hf => ?_) (fun e s' he => by cases he.1)
  cases fi with
  | done f =>
    obtain ⟨e, r⟩ := hf
    cases e
    exact fin s' r
  | again c' =>
    refine ⟨hf.1, codeAny_mono hf.2 fun r s'' hr => ?_⟩
    obtain ⟨e, r⟩ := hr
    cases e
    exact fin s'' r
theorem ints_of : ∀ {l : List (Int × Value)} {ys : List Int} {vs : List Value}, Paired EntI l ys → vs.length = l.length → (∀ (i : Nat) v, vs[i]? = some v → ∃ e, l[i]? = some e ∧ v = e.2) → IntsAre vs ys
  | [], _, [], h, _, _ => by cases h; exact .nil
  | [], _, _ :: _, _, h, _ => by simp at h
  | _ :: _, _, [], _, h, _ => by simp at h
  | e :: l, _, v :: vs, h, hl, g => by
    cases h with
    | cons r tl =>
      obtain ⟨e', he, ev⟩ := g 0 v rfl
      have he : e = e' := by simpa using he
      subst he
      obtain ⟨_, k, e2⟩ := r
      rw [ev, e2]
      exact .cons _ k (ints_of tl (by simpa using hl) fun i v' h' => by
        obtain ⟨e3, h3, h4⟩ := g (i + 1) v' (by simpa using h')
        exact ⟨e3, by simpa using h3, h4⟩)
theorem sorted_set {d : Addr} {xs : List Int} {Q : Value → Shared → Prop} (hh : A.handled = none) (S : SI w s.heap d xs)
    (h : ∀ h' tk l (out : Array Value) (ns : List Int), (∀ b o, s.heap.get? b = some o → h'.get? b = some o) → s.heap.objs.size ≤ l → (∃ e, h'.get? l = some (seqObj "list" out e)) → IntsAre out.toList ns → ns.Perm xs → ns.Pairwise (· ≤ ·) → Q (.ref l) { s with heap := h', toks := tk }) : wpAny (model prog w) A (call (.builtin "sorted") [.ref d]) Q E s := by
  obtain ⟨o, es, ep, t, ho, hex, hd, he, hf, htb, htp⟩ := S.ex
  have l40 := len40 S.nd S.bd
  have ln : es.size = xs.length := by simpa using Paired.length he
  obtain ⟨ys, py, hy⟩ := paired_perm (ordr_perm (w := w) (d := d) (es := es) (ep := ep)).symm he
  apply Calls.call_function_entry kind_sorted plain_sorted entry_sorted (args_sorted1 _)
  unfold Builtin.«sorted»
  refine wpAny_bind (m := checkCount "sorted" 1 1 _) (wpAny_pure (wpAny_bind (collect_set (by simpa using hh) ⟨o, ho, hex, hd⟩ hf htb htp (by rw [ln, sizeLine_eq]; omega) fun h1 tk vs kp sz lv hv => wpAny_bind (wpAny_newList ?_ (by rw [lv, ln, sizeLine_eq]; omega)))))
  have kp2 : ∀ b o, s.heap.get? b = some o → (h1.push (seqObj "list" vs.toArray 0)).get? b = some o := fun b o e => Heap.get?_push_of_some _ (kp b o e)
  have gL : (h1.push (seqObj "list" vs.toArray 0)).get? h1.objs.size = some (seqObj "list" vs.toArray 0) := Heap.get?_push_size _ rfl
  have hI : IntsAre vs ys := ints_of hy (by rw [lv, Array.length_toList, ordr_size]) fun i v hv' => by
    obtain ⟨e, h1, h2⟩ := hv i v hv'
    exact ⟨e, by rw [Array.getElem?_toList]; exact h1, h2⟩
  refine (show wpAny _ _ _ _ _ { s with heap := h1.push (seqObj "list" vs.toArray 0), toks := tk } from ?_)
  refine wpAny_bind (wpAny_holding (wpAny_call_entry slot_list_sort ⟨_, gL, rfl⟩ entry_list_sort (list_sort_tree (s := { s with heap := h1.push (seqObj "list" vs.toArray 0), toks := tk }) gL hI (by omega) fun out ns' a1 a2 a3 => ⟨_, rfl, wpAny_pure ⟨_, rfl, h _ tk _ out ns' (fun b o e => ?_) (Nat.le_of_lt sz) (sortedHeap_at gL) a1 (a2.trans py.symm) a3⟩⟩) (args_list_sort _)))
  have blt : b < h1.objs.size := Heap.lt_size (kp b o e)
  rw [sortedHeap_old (Nat.ne_of_lt blt) (by rw [size_push']; exact Nat.lt_succ_of_lt blt)]
  exact kp2 b o e
end
end L2
set_option Elab.async false
set_option linter.all false
set_option maxRecDepth 100000
set_option maxHeartbeats 4000000
namespace L2
open PySem PySem.Spec PyProof.Rows PySem.W
def siO (w : World) (a : Addr) (xs : List Int) : HO := .ext fun h => SI w h a xs
theorem siO_ok {P : Program} {w : World} {H : Hp} {h : Heap} {a : Addr} {xs : List Int} (S : SI w h a xs) : ObjOk P w H h a (siO w a xs) := ⟨S, by obtain ⟨o, _, _, _, e, _⟩ := S.ex; exact ⟨o, e⟩, fun _ _ S' k => S'.at k⟩
def SetOf (ns : List Nat) (cur : List Int) : Prop := ∀ y : Int, y ∈ cur ↔ ∃ n ∈ ns, y = (n : Int)
def rSetNew (K : PySem.W.Frag) (w : World) : List V → Hp → VK → Prop := fun xs H Q => ∃ (l : Addr) (ns : List Nat), xs = [.ref l] ∧ SqL K H l (nl ns) ∧ (∀ n ∈ ns, n < 40) ∧ ∀ (a : Addr) (cur : List Int), H a = none → SetOf ns cur → Q (.ref a) (upd H a (siO w a cur))
def rSetXor (w : World) : R2 := fun x y H Q => ∃ (a b : Addr) (xs ys : List Int), x = .ref a ∧ y = .ref b ∧ H a = some (siO w a xs) ∧ H b = some (siO w b ys) ∧ ∀ (c : Addr) (zs : List Int), H c = none → (∀ y, y ∈ zs ↔ (y ∈ xs ∧ y ∉ ys) ∨ (y ∈ ys ∧ y ∉ xs)) → Q (.ref c) (upd H c (siO w c zs))
def rSetSort (w : World) : List V → Hp → VK → Prop := fun xs H Q => ∃ (d : Addr) (cur : List Int), xs = [.ref d] ∧ H d = some (siO w d cur) ∧ ∀ (l : Addr) (ns : List Int), H l = none → (∀ y, y ∈ ns ↔ y ∈ cur) → ns.Pairwise (· < ·) → Q (.ref l) (upd H l (.lst (ns.map V.int)))
section
variable {X : Cx}
theorem call_setNew (hc : X.calm = true) : CallR X (.type "set") (rSetNew X.K X.w) := by
  intro pins s σ H xs us Q I r h
  obtain ⟨l, ns, rfl, hL, hb, q⟩ := h
  obtain ⟨u, rfl, rx⟩ := vals1 r
  cases rx
  obtain ⟨its, r', pl, hz⟩ := I.list hL
  refine set_of (ns := ns.map fun n : Nat => (n : Int)) (I.ok.hd hc) (let ⟨o, n, e, c, _, dt⟩ := pl; ⟨o, e, c, n, dt⟩) ?_ ?_ fun h' tk cur kp S m => ?_
  · have e : (ns.map fun n : Nat => (n : Int)).map V.int = nl ns := by
      rw [List.map_map]
      rfl
    rw [e]
    exact r'
  · intro y hy
    obtain ⟨n, hn, rfl⟩ := List.mem_map.mp hy
    have := hb n hn
    omega
  · refine ⟨.ref s.heap.objs.size, _, I.laid (t' := tk) (o := siO X.w s.heap.objs.size cur) kp (Nat.le_refl _) (siO_ok S), rfl, q _ cur (I.hok.fresh (Nat.le_refl _)) fun y => ?_⟩
    rw [m y, List.mem_map]
    exact ⟨fun ⟨n, h1, h2⟩ => ⟨n, h1, h2.symm⟩, fun ⟨n, h1, h2⟩ => ⟨n, h1, h2.symm⟩⟩
theorem op_setXor : OpR X (binaryOp .BitXor) (rSetXor X.w) := by
  intro pins s σ H x y v u Q I rx ry h
  obtain ⟨a, b, xs, ys, rfl, rfl, ha, hb, q⟩ := h
  cases rx
  cases ry
  have Sa : SI X.w s.heap a xs := (I.hok _ _ ha).1
  have Sb : SI X.w s.heap b ys := (I.hok _ _ hb).1
  refine set_xor Sa Sb fun h' zs kp S m => ?_
  exact ⟨.ref s.heap.objs.size, _, I.laid (t' := s.toks) (o := siO X.w s.heap.objs.size zs) kp (Nat.le_refl _) (siO_ok S), rfl, q _ zs (I.hok.fresh (Nat.le_refl _)) m⟩
theorem vals_intsS : ∀ {vs : List Value} {ns : List Int}, IntsAre vs ns → Vals (ns.map V.int) vs
  | _, _, .nil => .nil
  | _, _, .cons n t h => .cons ⟨t, rfl⟩ (vals_intsS h)
theorem call_setSort (hc : X.calm = true) : CallR X (.builtin "sorted") (rSetSort X.w) := by
  intro pins s σ H xs us Q I r h
  obtain ⟨d, cur, rfl, hd, q⟩ := h
  obtain ⟨u, rfl, rx⟩ := vals1 r
  cases rx
  have S : SI X.w s.heap d cur := (I.hok _ _ hd).1
  refine sorted_set (I.ok.hd hc) S fun h' tk l out ns kp sz hl hI p hs => ?_
  obtain ⟨e, hl⟩ := hl
  have l40 := len40 S.nd S.bd
  have nd : ns.Nodup := p.nodup_iff.mpr S.nd
  refine ⟨.ref l, _, I.laid (t' := tk) (o := .lst (ns.map V.int)) kp sz ⟨?_, out.toList, e, vals_intsS hI, by rw [Array.toArray_toList]; exact hl⟩, rfl, q _ ns (I.hok.fresh sz) (fun y => p.mem_iff) ?_⟩
  · rw [List.length_map, p.length_eq]
    exact Nat.le_trans l40 (by decide)
  · exact (List.Pairwise.and hs nd).imp fun ⟨h1, h2⟩ => by omega
end
end L2
set_option Elab.async false
set_option linter.all false
set_option maxRecDepth 100000
set_option maxHeartbeats 4000000
namespace H
open PySem L2 Nim
def top (i : Nat) : Stmt := PySem.Challenge.pw_coinrows_k06_a_turn_made.main.body.getD i (.Pass ⟨0, 0, 0, 0⟩)
abbrev s_law_cell_at : Stmt := top 16
abbrev n_law_cell_at : List Str := ["script", "k"]
abbrev p_law_cell_at : List Str := ["script", "k"]
theorem sc_law_cell_at : FnScope n_law_cell_at p_law_cell_at (defScope s_law_cell_at) := ⟨rfl, rfl, rfl, by decide +kernel, rfl, by decide +kernel, by decide +kernel⟩
structure LenOnly (mg : Str → Option Value) : Prop where
  n_len : mg "len" = none
section
variable {P : Program} {w : World} {K : PySem.W.Frag} {mg : Str → Option Value} {base : Heap}
theorem ok_cell (D : HasDef K mg "_law_cell_at" s_law_cell_at) (n_len : mg "len" = none) : Callee P w K mg base "_law_cell_at" 1 p_law_cell_at (spCell K) := by
  refine D.ok sc_law_cell_at (fun _ _ _ _ _ _ us hl => match us, hl with | [_, _], _ => rfl) (fun vs H Q E h => ?_) (fun f cdv A outer s H vs Q E hr h => ?_)
  · obtain ⟨a, ns, k, rfl, _⟩ := h
    rfl
  obtain ⟨a, ns, k, rfl, hS, q⟩ := h
  have T : LenOnly mg := ⟨n_len⟩
  refine ⟨_, (pss_cons (ps_if (pt_cmpR op_lt (pv 1) (pe_callB call_len_seq rfl T.n_len bt_len (pa_cons (pv 0) pa_nil)) (nomark _)) (pss_one (ps_ret (pe_ix ix_list (pv 0) (pv 1) (fun _ _ => rfl)))) pss_nil)
    (pss_one (ps_ret pe_int))), ?_⟩
  rw [show start n_law_cell_at [V.ref a, V.int k] = [some (V.ref a), some (V.int k)] from rfl]
  simp only [tSeq, tIfS, tRet, tRetN, tNext, tOr, tAnd, tNot, tTest, tB, tOp, tUn, tVar, tC, tCall, tCons, tNil, rI0, rI, rU, tGT, tAsg, gName, tDrop, tCB, tAndV, tOrV, tNotV, tIf, tChain, tTup, tLst, tNever, cxK, bkK, noxK, tRaise, tTry, xTry, endsH, tCallH]
  simp
  refine ⟨_, .inl hS, ?_⟩
  rw [List.length_map]
  refine ite2 (fun c => ?_) (fun c => ?_)
  · refine ⟨a, _, _, .int (cell ns k), rfl, rfl, hS, atI_nat ?_, q⟩
    rw [List.getElem?_map, List.getElem?_eq_getElem (by omega)]
    show some (V.int ns[k]) = _
    rw [cell, List.getD_eq_getElem?_getD, List.getElem?_eq_getElem (by omega)]
    rfl
  · have e : cell ns k = 0 := by
      rw [cell, List.getD_eq_getElem?_getD, List.getElem?_eq_none (by omega)]
      rfl
    rw [e] at q
    exact q
end
abbrev s_law_rule : Stmt := top 17
abbrev n_law_rule : List Str := ["cell"]
abbrev p_law_rule : List Str := ["cell"]
theorem sc_law_rule : FnScope n_law_rule p_law_rule (defScope s_law_rule) := ⟨rfl, rfl, rfl, by decide +kernel, rfl, by decide +kernel, by decide +kernel⟩
section
variable {P : Program} {w : World} {K : PySem.W.Frag} {mg : Str → Option Value} {base : Heap}
theorem menu_word (i : Int) (h : i % 3 ≠ 2) : atI [V.str "most", V.str "just"] (i % 3) = some (.str (word (i % 3).toNat)) := by
  rcases (by omega : i % 3 = 0 ∨ i % 3 = 1) with e | e <;> rw [e] <;> rfl
theorem ok_rule (D : HasDef K mg "_law_rule" s_law_rule) : Callee P w K mg base "_law_rule" 1 p_law_rule (spRule 3 40) := by
  refine D.ok sc_law_rule (fun _ _ _ _ _ _ us hl => match us, hl with | [_], _ => rfl) (fun vs H Q E h => ?_) (fun f cdv A outer s H vs Q E hr h => ?_)
  · obtain ⟨c, rfl, _⟩ := h
    rfl
  obtain ⟨c, rfl, q⟩ := h
  refine ⟨_, (pss_cons (ps_if (pt_cmpR op_eq (pe_op op_mod (pv 0) pe_int) pe_int (nomark _)) (pss_one (ps_ret (pe_tup (pa_cons pe_str (pa_cons (pe_op op_add pe_int (pe_op op_mod (pe_op op_fdiv (pv 0) pe_int) pe_int)) pa_nil))))) pss_nil)
    (pss_one (ps_ret (pe_tup (pa_cons (pe_ix ix_list (pe_lst (pa_cons pe_str (pa_cons pe_str pa_nil))) (pe_op op_mod (pv 0) pe_int) (fun _ _ => rfl)) (pa_cons (pe_op op_add pe_int (pe_op op_mod (pe_op op_fdiv (pv 0) pe_int) pe_int)) pa_nil)))))), ?_⟩
  rw [show start n_law_rule [V.int c] = [some (V.int c)] from rfl]
  simp only [tSeq, tIfS, tRet, tRetN, tNext, tOr, tAnd, tNot, tTest, tB, tOp, tUn, tVar, tC, tCall, tCons, tNil, rI0, rI, rU, tGT, tAsg, gName, tDrop, tCB, tAndV, tOrV, tNotV, tIf, tChain, tTup, tLst, tNever, cxK, bkK, noxK, tRaise, tTry, xTry, endsH, tCallH]
  simp
  refine ⟨rfl, ?_⟩
  have b0 := Int.emod_nonneg (c / 3) (by decide : (40 : Int) ≠ 0)
  have a0 := Int.emod_nonneg (c / 3) (by decide : (3 : Int) ≠ 0)
  by_cases e : c % 3 = 2
  · refine .inr ⟨by rw [decide_eq_true (by rw [e])], ⟨by decide, by decide⟩, by decide, fun p hp => q _ _ (same_new hp _) ?_ hp⟩
    rw [upd_same, ruleOf, if_pos e]
    unfold ruleV
    congr 4
    simp
    omega
  · refine .inl ⟨by rw [decide_eq_false (fun z => e (V.int.inj z))], by decide, fun p hp => ?_⟩
    refine ⟨p, _, _, _, rfl, rfl, .of upd_same, menu_word c e, ⟨by decide, by decide⟩, by decide, fun p2 hp2 => q _ _ ((same_new hp _).trans (same_new hp2 _)) ?_ ((same_new hp _).free hp2)⟩
    rw [upd_same, ruleOf, if_neg e]
    unfold ruleV
    congr 4
    simp
    omega
end
abbrev s_law_heads : Stmt := top 18
abbrev n_law_heads : List Str := ["cell", "first", "many", "heads", "k"]
abbrev p_law_heads : List Str := ["cell", "first", "many"]
theorem sc_law_heads : FnScope n_law_heads p_law_heads (defScope s_law_heads) := ⟨rfl, rfl, rfl, by decide +kernel, rfl, by decide +kernel, by decide +kernel⟩
section
variable {P : Program} {w : World} {K : PySem.W.Frag} {mg : Str → Option Value} {base : Heap}
structure TxRange (mg : Str → Option Value) : Prop where
  n_range : mg "range" = none
set_option pp.deepTerms true in
theorem ok_heads (D : HasDef K mg "_law_heads" s_law_heads) (T : TxRange mg) : Callee P w K mg base "_law_heads" 1 p_law_heads spHeads3 := by
  refine D.ok sc_law_heads (fun _ _ _ _ _ _ us hl => match us, hl with | [_, _, _], _ => rfl) (fun vs H Q E h => ?_) (fun f cdv A outer s H vs Q E hr h => ?_)
  · obtain ⟨c, fi, m, rfl, _⟩ := h
    rfl
  obtain ⟨c, fi, m, rfl, hm, q⟩ := h
  refine ⟨_, (pss_cons (ps_set (i := 3) sc_law_heads.nd rfl (Or.inl rfl) (pe_lst pa_nil))
    (pss_cons (ps_for PassesOwn.never rfl (pi_range1 rfl T.n_range (pa_cons (pv 2) pa_nil)) (pg_name (i := 4) sc_law_heads.nd rfl (Or.inl rfl)) (pss_cons (ps_if (pt_cmpR op_eq (pe_op op_mod (pv 0) pe_int) pe_int (nomark _)) (pss_one (ps_expr (pe_bm PySem.F.plainAttrs_list PySem.F.slot_list_append PySem.F.type_list_append mt_append (pv 3) (pa_cons (pe_op op_add (pv 1) (pv 4)) pa_nil)))) pss_nil)
    (pss_one (ps_set (i := 0) sc_law_heads.nd rfl (Or.inl rfl) (pe_op op_fdiv (pv 0) pe_int)))))
    (pss_one (ps_ret (pv 3))))), ?_⟩
  rw [show start n_law_heads [V.int c, V.int fi, V.int m] = [some (V.int c), some (V.int fi), some (V.int m), none, none] from rfl]
  refine seq_of ⟨by decide, fun p hp => ?_⟩
  dsimp only [gName]
  refine seq_of (rng1_of (ev_cons (ev_var rfl) ev_nil) (by omega) (by omega) ?_)
  rw [show ((m : Nat) : Int).toNat = m by omega]
  refine for_range (fun i σ H' => Same H H' ∧ H' p = some (.lst (nl (headsOf c fi i))) ∧ ∃ k, σ = [some (V.int (c / 2 ^ i)), some (V.int (fi : Int)), some (V.int m), some (V.ref p), k]) ⟨same_new hp _, upd_same, none, by simp⟩ ?_ ?_
  · rintro i σ H' hi ⟨sm, hl, k, rfl⟩
    dsimp only [gName]
    refine seq_of (ifS_of (ev_test (ev_eqI (ev_i (ev_var rfl) ev_c (by decide)) ev_c)) (fun e => ?_) (fun e => next_of ?_))
    · have e : c / 2 ^ i % 2 = 1 := of_decide_eq_true e
      refine ⟨_, rfl, .inl ⟨rfl, _, .of hl⟩, ev_i0 (ev_var rfl) (ev_var rfl) _ ⟨p, _, _, rfl, rfl, hl, ?_, ?_⟩⟩
      · rw [nl_length]
        have := headsOf_len c fi i
        exact small1000 (by omega)
      · dsimp only
        refine asg_of (ev_i (ev_var rfl) ev_c (by unfold CDiv; decide)) ⟨sm.upd hp, ?_, _, by rw [half]; rfl⟩
        rw [upd_same, headsOf_succ, if_pos e, nl_append, show (fi : Int) + (0 + (i : Nat)) = ((fi + i : Nat) : Int) by omega]
        rfl
    · have e : ¬ c / 2 ^ i % 2 = 1 := of_decide_eq_false e
      dsimp only
      refine asg_of (ev_i (ev_var rfl) ev_c (by unfold CDiv; decide)) ⟨sm, ?_, _, by rw [half]; rfl⟩
      rw [headsOf_succ, if_neg e, List.append_nil]
      exact hl
  · rintro σ H' ⟨sm, hl, k, rfl⟩
    dsimp only
    exact ret_of (ev_var rfl) (q _ _ sm hl hp)
end
abbrev s_law_places : Stmt := top 19
abbrev n_law_places : List Str := ["script", "first", "wide", "low", "many", "k", "chosen"]
abbrev p_law_places : List Str := ["script", "first", "wide"]
theorem sc_law_places : FnScope n_law_places p_law_places (defScope s_law_places) := ⟨rfl, rfl, rfl, by decide +kernel, rfl, by decide +kernel, by decide +kernel⟩
section
variable {P : Program} {w : World} {K : PySem.W.Frag} {mg : Str → Option Value} {base : Heap}
structure CnPl (P : Program) (w : World) (K : PySem.W.Frag) (mg : Str → Option Value) (base : Heap) : Prop where
  law_cell_at : Callee P w K mg base "_law_cell_at" 1 p_law_cell_at (spCell K)
structure TxPl (mg : Str → Option Value) : Prop where
  n_range : mg "range" = none
  n_int : mg "int" = none
set_option pp.deepTerms true in
theorem ok_places (D : HasDef K mg "_law_places" s_law_places) (T : TxPl mg) (C : CnPl P w K mg base) : Callee P w K mg base "_law_places" 2 p_law_places (spPlaces K) := by
  refine D.ok sc_law_places (fun _ _ _ _ _ _ us hl => match us, hl with | [_, _, _], _ => rfl) (fun vs H Q E h => ?_) (fun f cdv A outer s H vs Q E hr h => ?_)
  · obtain ⟨a, ns, first, wide, rfl, _⟩ := h
    rfl
  obtain ⟨a, ns, first, wide, rfl, hS, hw, q⟩ := h
  refine ⟨_, (pss_cons (ps_set (i := 3) sc_law_places.nd rfl (Or.inr rfl) (pe_op op_add (pv 1) (pe_op op_mod (pe_callC C.law_cell_at hr (by omega) rfl (pa_cons (pv 0) (pa_cons pe_int pa_nil))) (pv 2))))
    (pss_cons (ps_if (pt_cmpR op_eq (pe_op op_mod (pe_callC C.law_cell_at hr (by omega) rfl (pa_cons (pv 0) (pa_cons pe_int pa_nil))) pe_int) pe_int (nomark _)) (pss_cons (ps_set (i := 4) sc_law_places.nd rfl (Or.inl rfl) (pe_op op_add pe_int (pe_op op_mod (pe_callC C.law_cell_at hr (by omega) rfl (pa_cons (pv 0) (pa_cons pe_int pa_nil))) (pe_ix ix_list (pe_lst (pa_cons pe_int (pa_cons (pv 2) pa_nil))) (pe_callTy call_int1 rfl T.n_int bt_int (pa_cons (pe_cmpR op_gt (pv 2) pe_int (nomark _)) pa_nil)) (fun _ _ => rfl)))))
    (pss_one (ps_ret (pe_comp (Block.of (out := defScope s_law_places) (N := n_law_places) (x := "k") (frees := ["first", "low", "wide"]) (ix := [1, 3, 2]) (by decide +kernel)) rfl (pi_range1 rfl T.n_range (pa_cons (pv 4) pa_nil)) (fun _ _ _ _ => pts_one (pt_cmpR op_lt (pe_op op_add (pv 2) (pv 0)) (pe_op op_add (pv 1) (pv 3)) (nomark _))) (fun _ _ _ _ => (pe_op op_add (pv 2) (pv 0))))))) pss_nil)
    (pss_cons (ps_set (i := 6) sc_law_places.nd rfl (Or.inr rfl) (pe_disp (pps_cons (pv 3) pe_bl pps_nil) rfl rfl (by simp) (by decide)))
    (pss_cons (ps_for PassesOwn.never rfl (pi_range1 rfl T.n_range (pa_cons (pe_op op_mod (pe_callC C.law_cell_at hr (by omega) rfl (pa_cons (pv 0) (pa_cons pe_int pa_nil))) pe_int) pa_nil)) (pg_name (i := 5) sc_law_places.nd rfl (Or.inl rfl)) (pss_one (ps_dput (hu_of hr) (pv 6) (pe_op op_add (pv 1) (pe_op op_mod (pe_callC C.law_cell_at hr (by omega) rfl (pa_cons (pv 0) (pa_cons (pe_op op_add pe_int (pv 5)) pa_nil))) (pv 2))) pe_bl rfl)))
    (pss_one (ps_ret (pe_comp (Block.of (out := defScope s_law_places) (N := n_law_places) (x := "k") (frees := ["chosen", "first"]) (ix := [6, 1]) (by decide +kernel)) rfl (pi_range1 rfl T.n_range (pa_cons (pv 2) pa_nil)) (fun _ _ _ _ => pts_one (pt_cmp (pc_din (hu_of hr) (pe_op op_add (pv 2) (pv 0)) (pv 1)))) (fun _ _ _ _ => (pe_op op_add (pv 2) (pv 0)))))))))), ?_⟩
  rw [show start n_law_places [V.ref a, V.int first, V.int wide] = [some (V.ref a), some (V.int first), some (V.int wide), none, none, none, none] from rfl]
  have hsz : ∀ {n : Nat}, n ≤ 100000 → n < sizeLine := fun h => Nat.lt_of_le_of_lt h (by decide)
  have w40 : 0 < wide ∧ wide ≤ 40 := by omega
  obtain ⟨d, hd⟩ : ∃ d : Nat, cell ns 3 % (wide : Int) = (d : Int) := ⟨(cell ns 3 % (wide : Int)).toNat, by have := Int.emod_nonneg (cell ns 3) (by omega : (wide : Int) ≠ 0); omega⟩
  have dw : d < wide := by have := Int.emod_lt_of_pos (cell ns 3) (by omega : (0 : Int) < wide); omega
  refine seq_of (asg_of (ev_i0 (ev_var rfl) (ev_i (ev_cell 3 rfl hS) (ev_var rfl) (by omega))) ?_)
  dsimp only
  rw [hd]
  refine seq_of (ifS_of (ev_test (ev_eqI (ev_i (ev_cell 5 rfl hS) ev_c (by decide)) ev_c)) (fun _ => ?_) (fun _ => next_of ?_))
  · refine seq_of (ev_cell 4 rfl hS _ ⟨_, rfl, by show 2 ≤ sizeLine; decide, fun p hp => ?_⟩)
    refine ev_intB (ev_cons (ev_i0 (ev_var rfl) ev_c) ev_nil) _ ?_
    have hlim : ∃ lim : Nat, 0 < lim ∧ lim ≤ 40 ∧ atI [V.int 4, V.int (wide : Int)] (if decide ((9 : Int) < (wide : Int)) = true then 1 else 0) = some (V.int (lim : Int)) := by
      rcases hw with rfl | rfl
      · exact ⟨4, by decide, by decide, rfl⟩
      · exact ⟨40, by decide, by decide, rfl⟩
    obtain ⟨lim, l0, l40, hl⟩ := hlim
    refine ⟨p, _, _, _, rfl, rfl, .of upd_same, hl, _, _, rfl, rfl, by omega, _, _, rfl, rfl, ?_⟩
    dsimp only [gName]
    obtain ⟨m, hm⟩ : ∃ m : Nat, 1 + cell ns 4 % (lim : Int) = (m : Int) := ⟨(1 + cell ns 4 % (lim : Int)).toNat, by have := Int.emod_nonneg (cell ns 4) (by omega : (lim : Int) ≠ 0); omega⟩
    have m40 : 0 < m ∧ m ≤ 40 := by
      have := Int.emod_lt_of_pos (cell ns 4) (by omega : (0 : Int) < lim)
      have := Int.emod_nonneg (cell ns 4) (by omega : (lim : Int) ≠ 0)
      omega
    rw [hm]
    have sm := same_new hp (.lst [V.int 4, V.int (wide : Int)])
    refine comp_range_if (H1 := upd H p (.lst [V.int 4, V.int (wide : Int)])) (lo := 0) (n := m) (fun k => decide (d + k < wide)) (fun k => V.int ((first + d + k : Nat) : Int)) (fun R rr => ?_) (hsz (by omega)) (fun k H' _ _ => ?_) (fun k H' _ _ _ => ?_) (fun p2 hp2 => ?_)
    · refine rng1_of (ev_cons (ev_var rfl) ev_nil) (by omega) (by omega) ?_
      rw [show ((m : Nat) : Int).toNat = m by omega]
      exact rr
    · have := ev_test (ev_i0 (g := fun i j => V.bl (decide (i < j))) (ev_i0 (g := fun i j => V.int (i + j)) (ev_var (σ := some (V.int (0 + (k : Nat))) :: slots [some (V.ref a), some (V.int (first : Int)), some (V.int (wide : Int)), some (V.int ((first : Int) + (d : Int))), some (V.int (m : Int)), none, none] [1, 3, 2]) (H := H') (n := 2) rfl) (ev_var (n := 0) rfl)) (ev_i0 (g := fun i j => V.int (i + j)) (ev_var (n := 1) rfl) (ev_var (n := 3) rfl)))
      rwa [show decide ((first : Int) + (d : Int) + (0 + (k : Nat)) < (first : Int) + (wide : Int)) = decide (d + k < wide) from by rw [decide_eq_decide]; omega] at this
    · have := ev_i0 (g := fun i j => V.int (i + j)) (ev_var (σ := some (V.int (0 + (k : Nat))) :: slots [some (V.ref a), some (V.int (first : Int)), some (V.int (wide : Int)), some (V.int ((first : Int) + (d : Int))), some (V.int (m : Int)), none, none] [1, 3, 2]) (H := H') (n := 2) rfl) (ev_var (n := 0) rfl)
      rwa [show (first : Int) + (d : Int) + (0 + (k : Nat)) = ((first + d + k : Nat) : Int) by omega] at this
    · refine q _ p2 (((List.range m).filter fun k => decide (d + k < wide)).map fun k => first + d + k) (sm.new hp2) (sm.free hp2) ?_ ?_ ?_
      · rw [upd_same]
        unfold nl
        rw [List.map_map]
        rfl
      · intro z
        have : (0 : Nat) ∈ (List.range m).filter fun k => decide (d + k < wide) := List.mem_filter.mpr ⟨List.mem_range.mpr m40.1, by simpa using dw⟩
        rw [List.map_eq_nil_iff] at z
        rw [z] at this
        cases this
      · rw [List.length_map]
        refine Nat.le_trans (List.length_filter_le _ _) ?_
        rw [List.length_range]
        exact m40.2
  · dsimp only
    refine seq_of fun dd hdd => ⟨_, rfl, upd_same, [(Sum.inl ((first : Int) + (d : Int)), V.bl true)], rfl, by show 1 ≤ 15; decide, ?_⟩
    dsimp only [gName]
    rw [upd_upd]
    have s0 : Seen (putK ([] : List (Key × V)) (Sum.inl ((first + d : Nat) : Int) : Key) (V.bl true)) ([] ++ [first + d]) := Seen.nil.put (first + d)
    rw [show (first : Int) + (d : Int) = ((first + d : Nat) : Int) by omega]
    show tSeq _ _ _ _ (upd H dd (.dK (putK ([] : List (Key × V)) (Sum.inl ((first + d : Nat) : Int) : Key) (V.bl true))))
    generalize putK ([] : List (Key × V)) (Sum.inl ((first + d : Nat) : Int) : Key) (V.bl true) = kvs0 at s0 ⊢
    have sm : ∀ o, Same H (upd H dd o) := fun o => same_new hdd o
    refine seq_of (rng1_of (ev_cons (ev_i (ev_cell 4 rfl ((sm _).seq hS)) ev_c (by decide)) ev_nil) (by omega) (by omega) ?_)
    obtain ⟨m, hm, m4⟩ : ∃ m : Nat, (cell ns 4 % 4).toNat = m ∧ m ≤ 4 := ⟨_, rfl, by omega⟩
    rw [hm]
    refine for_range (fun i σ H' => ∃ kvs S u, H' = upd H dd (.dK kvs) ∧ Seen kvs S ∧ first + d ∈ S ∧ S.length ≤ 1 + i ∧ σ = [some (V.ref a), some (V.int (first : Int)), some (V.int (wide : Int)), some (V.int ((first + d : Nat) : Int)), none, u, some (V.ref dd)]) ⟨kvs0, _, none, rfl, s0, by simp, by simp, rfl⟩ ?_ ?_
    · rintro i σ H' hi ⟨kvs, S, u, rfl, seen, hin, hl, rfl⟩
      dsimp only [gName]
      have kl := seen.len
      obtain ⟨v, hv⟩ : ∃ v : Nat, cell ns (6 + i) % (wide : Int) = (v : Int) := ⟨(cell ns (6 + i) % (wide : Int)).toNat, by have := Int.emod_nonneg (cell ns (6 + i)) (by omega : (wide : Int) ≠ 0); omega⟩
      refine dput_of (i := ((first + v : Nat) : Int)) ev_c (ev_var rfl) ?_ upd_same (hsz (by omega)) ?_
      · have := ev_i0 (g := fun i j => V.int (i + j)) (ev_var (σ := [some (V.ref a), some (V.int (first : Int)), some (V.int (wide : Int)), some (V.int ((first + d : Nat) : Int)), none, some (V.int (0 + (i : Nat))), some (V.ref dd)]) (H := upd H dd (.dK kvs)) (n := 1) rfl) (ev_i (C := fun x j => 0 < j) (g := fun i j => V.int (i % j)) (ev_cellN (n := 0) (6 + i) rfl (ev_i0 (g := fun i j => V.int (i + j)) (ev_c (v := V.int 6)) (ev_var (n := 5) rfl)) (by omega) ((sm _).seq hS)) (ev_var (n := 2) rfl) (by omega))
        rwa [hv, show (first : Int) + (v : Int) = ((first + v : Nat) : Int) by omega] at this
      · rw [upd_upd]
        exact ⟨_, _, _, rfl, seen.put _, by simp [hin], by rw [List.length_append]; simp; omega, rfl⟩
    · rintro σ H' ⟨kvs, S, u, rfl, seen, hin, hl, rfl⟩
      dsimp only
      refine comp_range_if (H1 := upd H dd (.dK kvs)) (lo := 0) (n := wide) (fun k => decide (first + k ∈ S)) (fun k => V.int ((first + k : Nat) : Int)) (fun R rr => ?_) (hsz (by omega)) (fun k H' _ s2 => ?_) (fun k H' _ _ _ => ?_) (fun p2 hp2 => ?_)
      · refine rng1_of (ev_cons (ev_var rfl) ev_nil) (by omega) (by omega) ?_
        rw [show ((wide : Nat) : Int).toNat = wide by omega]
        exact rr
      · have e1 := ev_i0 (g := fun i j => V.int (i + j)) (ev_var (σ := some (V.int (0 + (k : Nat))) :: slots [some (V.ref a), some (V.int (first : Int)), some (V.int (wide : Int)), some (V.int ((first + d : Nat) : Int)), none, u, some (V.ref dd)] [6, 1]) (H := H') (n := 2) rfl) (ev_var (n := 0) rfl)
        rw [show (first : Int) + (0 + (k : Nat)) = ((first + k : Nat) : Int) by omega] at e1
        exact ev_tB (ev_dIn e1 (ev_var rfl) (s2 _ _ upd_same) seen)
      · have e1 := ev_i0 (g := fun i j => V.int (i + j)) (ev_var (σ := some (V.int (0 + (k : Nat))) :: slots [some (V.ref a), some (V.int (first : Int)), some (V.int (wide : Int)), some (V.int ((first + d : Nat) : Int)), none, u, some (V.ref dd)] [6, 1]) (H := H') (n := 2) rfl) (ev_var (n := 0) rfl)
        rw [show (first : Int) + (0 + (k : Nat)) = ((first + k : Nat) : Int) by omega] at e1
        exact e1
      · refine q _ p2 (((List.range wide).filter fun k => decide (first + k ∈ S)).map fun k => first + k) ((sm _).new hp2) ((sm _).free hp2) ?_ ?_ ?_
        · rw [upd_same]
          unfold nl
          rw [List.map_map]
          rfl
        · intro z
          have : d ∈ (List.range wide).filter fun k => decide (first + k ∈ S) := List.mem_filter.mpr ⟨List.mem_range.mpr dw, by simpa using hin⟩
          rw [List.map_eq_nil_iff] at z
          rw [z] at this
          cases this
        · rw [List.length_map]
          refine Nat.le_trans (List.length_filter_le _ _) ?_
          rw [List.length_range]
          exact w40.2
end
abbrev s_law_lets : Stmt := top 21
abbrev n_law_lets : List Str := ["rule", "heads", "turn", "k"]
abbrev p_law_lets : List Str := ["rule", "heads", "turn"]
theorem sc_law_lets : FnScope n_law_lets p_law_lets (defScope s_law_lets) := ⟨rfl, rfl, rfl, by decide +kernel, rfl, by decide +kernel, by decide +kernel⟩
section
variable {P : Program} {w : World} {K : PySem.W.Frag} {mg : Str → Option Value} {base : Heap}
structure TxLe (mg : Str → Option Value) : Prop where
  n_range : mg "range" = none
  n_len : mg "len" = none
set_option pp.deepTerms true in
theorem ok_lets (D : HasDef K mg "_law_lets" s_law_lets) (T : TxLe mg) : Callee P w K mg base "_law_lets" 1 p_law_lets (spLets K) := by
  refine D.ok sc_law_lets (fun _ _ _ _ _ _ us hl => match us, hl with | [_, _, _], _ => rfl) (fun vs H Q E h => ?_) (fun f cdv A outer s H vs Q E hr h => ?_)
  · obtain ⟨pr, ph, pt, r, hs, ts, rfl, _⟩ := h
    rfl
  obtain ⟨pr, ph, pt, r, hs, ts, rfl, hR, hg, hH, hT, hlen, q⟩ := h
  refine ⟨_, (pss_cons (ps_if (PW.pt (pw_or (pt_cmpR op_eq (pe_callB call_len_seq rfl T.n_len bt_len (pa_cons (pv 2) pa_nil)) pe_int (nomark _)) (pw_or (pt_cmpR op_gt (pe_callB call_len_seq rfl T.n_len bt_len (pa_cons (pv 2) pa_nil)) (pe_ix ix_tup (pv 0) pe_int (fun _ _ => rfl)) (nomark _)) (pw_or1 (pt_cmpR op_notIn_seq (pe_ix ix_list (pv 2) (pe_un un_neg pe_int) (fun _ _ => rfl)) (pv 1) rfl))))) (pss_one (ps_ret pe_bl)) pss_nil)
    (pss_cons (ps_for PassesOwn.never rfl (pi_range2 rfl T.n_range (pa_cons pe_int (pa_cons (pe_callB call_len_seq rfl T.n_len bt_len (pa_cons (pv 2) pa_nil)) pa_nil))) (pg_name (i := 3) sc_law_lets.nd rfl (Or.inl rfl)) (pss_one (ps_if (PW.pt (pw_or (pt_cmpR op_le (pe_ix ix_list (pv 2) (pv 3) (fun _ _ => rfl)) (pe_ix ix_list (pv 2) (pe_op op_sub (pv 3) pe_int) (fun _ _ => rfl)) (nomark _)) (pw_or1 (PW.pt (pw_and (pt_cmpR op_eq (pe_ix ix_tup (pv 0) pe_int (fun _ _ => rfl)) pe_str (nomark _)) (pw_and1 (pt_cmpR op_ne (pe_ix ix_list (pv 2) (pv 3) (fun _ _ => rfl)) (pe_op op_add (pe_ix ix_list (pv 2) (pe_op op_sub (pv 3) pe_int) (fun _ _ => rfl)) pe_int) (nomark _)))))))) (pss_one (ps_ret pe_bl)) pss_nil)))
    (pss_one (ps_ret (pe_and (pe_cmpR op_ge (pe_ix ix_list (pv 2) pe_int (fun _ _ => rfl)) pe_int (nomark _)) (pe_one (pe_or (pe_cmpR op_ne (pe_ix ix_tup (pv 0) pe_int (fun _ _ => rfl)) pe_str (nomark _)) (pe_one (pe_cmpR op_eq (pe_callB call_len_seq rfl T.n_len bt_len (pa_cons (pv 2) pa_nil)) (pe_ix ix_tup (pv 0) pe_int (fun _ _ => rfl)) (nomark _)))))))))), ?_⟩
  rw [show start n_law_lets [V.ref pr, V.ref ph, V.ref pt] = [some (V.ref pr), some (V.ref ph), some (V.ref pt), none] from rfl]
  have r2 : r.1 ≤ 2 := by rcases hg with ⟨h, _⟩ | ⟨h, _⟩ <;> omega
  have iff := Row.lets_iff (r := r) hg (hs := hs) (ts := ts)
  have no : ¬ Row.Lets r hs ts → Q (.bl false) H := fun h => q false ⟨fun z => (by cases z), fun z => absurd z h⟩
  have ll : ((ts.map V.int).length : Int) = (ts.length : Int) := by rw [List.length_map]
  rw [nl_ni] at hH
  refine cut (fun σ H' => H' = H ∧ ts ≠ [] ∧ ts.length ≤ r.2 ∧ ts.getD (ts.length - 1) 0 ∈ ni hs ∧ σ = [some (V.ref pr), some (V.ref ph), some (V.ref pt), none]) (fun X hX => ?_) ?_
  · by_cases hne : ts = []
    · refine ifS_of (ev_or (b := true) (ev_test (ev_eqI (ev_lenL (ev_cons (ev_var rfl) ev_nil) hT) ev_c)) fun c => absurd c (by rw [hne]; simp)) (fun _ => ?_) fun c => absurd c (by simp)
      exact ret_of ev_c (no fun h => (iff.mp h).1 hne)
    · refine ifS_of (ev_or (ev_test (ev_eqI (ev_lenL (ev_cons (ev_var rfl) ev_nil) hT) ev_c)) fun _ => ev_or (ev_test (ev_i0 (ev_lenL (ev_cons (ev_var rfl) ev_nil) hT) (ev_rule1 rfl hR))) fun _ => ev_test (ev_notInI (ev_atEnd (ev_var rfl) (ev_u ev_c) hT hne) (ev_var rfl) hH)) (fun c => ?_) fun c => next_of (hX _ _ ?_)
      · refine ret_of ev_c (no fun h => ?_)
        obtain ⟨_, h2, ⟨l, hl, el⟩, _⟩ := iff.mp h
        have hp : 0 < ts.length := List.length_pos_iff.mpr hne
        rcases Bool.or_eq_true_iff.mp c with c | c
        · have c : ((ts.map V.int).length : Int) = 0 := of_decide_eq_true c
          omega
        rcases Bool.or_eq_true_iff.mp c with c | c
        · have c : (r.2 : Int) < ((ts.map V.int).length : Int) := of_decide_eq_true c
          omega
        · rw [el, decide_eq_true (mem_ni.mpr hl)] at c
          cases c
      · have c := Bool.or_eq_false_iff.mp c
        have c2 := Bool.or_eq_false_iff.mp c.2
        have c3 : ¬ (r.2 : Int) < ((ts.map V.int).length : Int) := of_decide_eq_false c2.1
        have c4 := c2.2
        rw [Bool.not_eq_false'] at c4
        exact ⟨rfl, hne, by omega, of_decide_eq_true c4, rfl⟩
  rintro σ H' ⟨rfl, hne, hle, hla, rfl⟩
  have hp : 0 < ts.length := List.length_pos_iff.mpr hne
  have hl : ∃ l ∈ hs, ts.getD (ts.length - 1) 0 = (l : Int) := by
    unfold ni at hla
    obtain ⟨l, hl, e⟩ := List.mem_map.mp hla
    exact ⟨l, hl, e.symm⟩
  refine seq_of (rng2_of (ev_cons ev_c (ev_cons (ev_lenL (ev_cons (ev_var rfl) ev_nil) hT) ev_nil)) (by decide) (by decide) (by omega) (by omega) ?_)
  rw [show (((ts.map V.int).length : Int) - 1).toNat = ts.length - 1 by omega]
  refine for_range (fun i σ H2 => H2 = H' ∧ (∀ k, 1 ≤ k → k < 1 + i → ts.getD (k - 1) 0 < ts.getD k 0 ∧ (r.1 = 2 → ts.getD k 0 = ts.getD (k - 1) 0 + 1)) ∧ ∃ u, σ = [some (V.ref pr), some (V.ref ph), some (V.ref pt), u]) ⟨rfl, fun k k1 k2 => by omega, none, rfl⟩ ?_ ?_
  · rintro i σ H2 hi ⟨rfl, st, u, rfl⟩
    dsimp only [gName]
    have a1 : EvE (tOp (rIxL K) (tVar 2) (tVar 3)) [some (V.ref pr), some (V.ref ph), some (V.ref pt), some (V.int (1 + (i : Nat)))] H2 (.int (ts.getD (1 + i) 0)) := ev_atI (1 + i) (ev_var rfl) (ev_var rfl) hT (by omega) (by omega)
    have a0 : EvE (tOp (rIxL K) (tVar 2) (tOp (rI0 fun i j => V.int (i - j)) (tVar 3) (tC (V.int 1)))) [some (V.ref pr), some (V.ref ph), some (V.ref pt), some (V.int (1 + (i : Nat)))] H2 (.int (ts.getD i 0)) := ev_atI i (ev_var rfl) (ev_i0 (ev_var rfl) ev_c) hT (by omega) (by omega)
    refine ifS_of (ev_or (ev_test (ev_i0 a1 a0)) fun _ => ev_and (ev_test (ev_isRun rfl hR r2)) fun _ => ev_test (ev_neI a1 (ev_i0 a0 ev_c))) (fun c => ?_) fun c => next_of ⟨rfl, fun k k1 k2 => ?_, _, rfl⟩
    · refine ret_of ev_c (no fun h => ?_)
      obtain ⟨_, _, _, st', _⟩ := iff.mp h
      have s1 := st' (1 + i) (by omega) (by omega)
      rw [Nat.add_sub_cancel_left] at s1
      rcases Bool.or_eq_true_iff.mp c with c | c
      · have c := of_decide_eq_true c
        omega
      · have c := Bool.and_eq_true_iff.mp c
        have c1 := of_decide_eq_true c.1
        have c2 := c.2
        rw [Bool.not_eq_true'] at c2
        exact (of_decide_eq_false c2) (s1.2 c1)
    · by_cases e : k = 1 + i
      · subst e
        rw [Nat.add_sub_cancel_left]
        have c := Bool.or_eq_false_iff.mp c
        have c1 := of_decide_eq_false c.1
        refine ⟨by omega, fun z => ?_⟩
        have c2 := c.2
        rw [decide_eq_true z, Bool.true_and, Bool.not_eq_false'] at c2
        exact of_decide_eq_true c2
      · exact st k k1 (by omega)
  · rintro σ H2 ⟨rfl, st, u, rfl⟩
    dsimp only
    have a0 : EvE (tOp (rIxL K) (tVar 2) (tC (V.int 0))) [some (V.ref pr), some (V.ref ph), some (V.ref pt), u] H2 (.int (ts.getD 0 0)) := ev_atI 0 (ev_var rfl) ev_c hT rfl hp
    refine ret_of (ev_andV (ev_i0 a0 ev_c) fun _ => ev_orV (ev_notJust rfl hR r2) fun _ => ev_eqI (ev_lenL (ev_cons (ev_var rfl) ev_nil) hT) (ev_rule1 rfl hR)) (q _ ?_)
    rw [iff, Bool.and_eq_true_iff, Bool.or_eq_true_iff, decide_eq_true_iff, decide_eq_true_iff, Bool.not_eq_true', decide_eq_false_iff_not]
    have stp : Row.Steps r ts := fun k k1 k2 => st k k1 (by omega)
    constructor
    · rintro ⟨h1, h2⟩
      exact ⟨hne, hle, hl, stp, h1, fun z => by omega⟩
    · rintro ⟨_, _, _, _, h1, h2⟩
      refine ⟨h1, ?_⟩
      by_cases z : r.1 = 1
      · exact .inr (by have := h2 z; omega)
      · exact .inl z
end
abbrev s_law_spoilt : Stmt := top 20
abbrev n_law_spoilt : List Str := ["turn", "way"]
abbrev p_law_spoilt : List Str := ["turn", "way"]
theorem sc_law_spoilt : FnScope n_law_spoilt p_law_spoilt (defScope s_law_spoilt) := ⟨rfl, rfl, rfl, by decide +kernel, rfl, by decide +kernel, by decide +kernel⟩
section
variable {P : Program} {w : World} {K : PySem.W.Frag} {mg : Str → Option Value} {base : Heap}
set_option pp.deepTerms true in
theorem ok_spoilt (D : HasDef K mg "_law_spoilt" s_law_spoilt) (T : TxLe mg) : Callee P w K mg base "_law_spoilt" 1 p_law_spoilt (spSpoilt K) := by
  refine D.ok sc_law_spoilt (fun _ _ _ _ _ _ us hl => match us, hl with | [_, _], _ => rfl) (fun vs H Q E h => ?_) (fun f cdv A outer s H vs Q E hr h => ?_)
  · obtain ⟨pt, ts, way, rfl, _⟩ := h
    rfl
  obtain ⟨pt, ts, way, rfl, hT, hne, hlen, q⟩ := h
  refine ⟨_, (pss_cons (ps_if (pt_cmpR op_eq (pv 1) pe_int (nomark _)) (pss_one (ps_ret (pe_op op_cat (pv 0) (pe_lst (pa_cons (pe_ix ix_list (pv 0) (pe_un un_neg pe_int) (fun _ _ => rfl)) pa_nil))))) pss_nil)
    (pss_cons (ps_if (pt_cmpR op_eq (pv 1) pe_int (nomark _)) (pss_one (ps_ret (pe_comp (Block.of (out := defScope s_law_spoilt) (N := n_law_spoilt) (x := "k") (frees := ["turn"]) (ix := [0]) (by decide +kernel)) rfl (pi_range1 rfl T.n_range (pa_cons (pe_callB call_len_seq rfl T.n_len bt_len (pa_cons (pv 0) pa_nil)) pa_nil)) (fun _ _ _ _ => pts_nil) (fun _ _ _ _ => (pe_ix (ix_listK (K := K) rfl) (pv 1) (pe_op op_sub (pe_op op_sub (pe_callB (call_lenK (K := K) rfl) rfl T.n_len bt_len (pa_cons (pv 1) pa_nil)) pe_int) (pv 0)) (fun _ _ => rfl)))))) pss_nil)
    (pss_cons (ps_if (pt_cmpR op_eq (pv 1) pe_int (nomark _)) (pss_one (ps_ret (pe_ix ix_list (pe_lst (pa_cons (pe_op op_cat (pv 0) (pe_lst (pa_cons pe_int pa_nil))) (pa_cons (pe_op op_cat (pe_lst (pa_cons (pe_un un_neg pe_int) pa_nil)) (pv 0)) pa_nil))) (pe_op op_mod (pe_callB call_len_seq rfl T.n_len bt_len (pa_cons (pv 0) pa_nil)) pe_int) (fun _ _ => rfl)))) pss_nil)
    (pss_cons (ps_if (pt_cmpR op_eq (pv 1) pe_int (nomark _)) (pss_one (ps_ret (pe_lst pa_nil))) pss_nil)
    (pss_one (ps_ret (pv 0))))))), ?_⟩
  rw [show start n_law_spoilt [V.ref pt, V.int way] = [some (V.ref pt), some (V.int way)] from rfl]
  have hsz : ∀ {n : Nat}, n ≤ 100000 → n < sizeLine := fun h => Nat.lt_of_le_of_lt h (by decide)
  have hp : 0 < ts.length := List.length_pos_iff.mpr hne
  refine seq_of (ifS_of (ev_test (ev_eqI (ev_var rfl) ev_c)) (fun _ => ?_) fun _ => next_of ?_)
  · refine retO_of (op_of (ev_var rfl) (lst_of (ev_cons (ev_atEnd (ev_var rfl) (ev_u ev_c) (.of hT) hne) ev_nil) (by show 1 ≤ sizeLine; decide) fun p hp => ?_))
    refine ⟨pt, p, _, _, rfl, rfl, same_new hp _ _ _ hT, upd_same, by rw [List.length_map]; exact Nat.le_of_lt (hsz (by simp; omega)), fun p2 hp2 => ?_⟩
    refine q _ p2 (ts ++ [ts.getD (ts.length - 1) 0]) ((same_new hp _).new hp2) (by rw [upd_same, List.map_append]; rfl) (by rw [List.length_append]; simp; omega)
  dsimp only
  refine seq_of (ifS_of (ev_test (ev_eqI (ev_var rfl) ev_c)) (fun _ => ?_) fun _ => next_of ?_)
  · refine comp_range (H1 := H) (lo := 0) (n := ts.length) (fun k => V.int (ts.getD (ts.length - 1 - k) 0)) (fun R rr => ?_) (hsz (by omega)) (fun k H' R hk sm rr => ?_) (fun p hp => ?_)
    · refine rng1_of (ev_cons (ev_lenL (ev_cons (ev_var rfl) ev_nil) (.of hT)) ev_nil) (by omega) (by rw [List.length_map]; omega) ?_
      rw [List.length_map, show ((ts.length : Nat) : Int).toNat = ts.length by omega]
      exact rr
    · exact ev_atI (ts.length - 1 - k) (ev_var rfl) (ev_i0 (ev_i0 (ev_lenL (ev_cons (ev_var rfl) ev_nil) (.of (sm _ _ hT))) ev_c) (ev_var rfl)) (.of (sm _ _ hT)) (by rw [List.length_map]; omega) (by omega) _ rr
    · refine q _ p ((List.range ts.length).map fun k => ts.getD (ts.length - 1 - k) 0) (same_new hp _) ?_ (by rw [List.length_map, List.length_range]; omega)
      rw [upd_same, List.map_map]
      rfl
  dsimp only
  refine seq_of (ifS_of (ev_test (ev_eqI (ev_var rfl) ev_c)) (fun _ => ?_) fun _ => next_of ?_)
  · refine ⟨_, rfl, by show 1 ≤ sizeLine; decide, fun p1 hp1 => ?_⟩
    have s1 := same_new hp1 (.lst [V.int 40])
    refine ⟨pt, p1, _, _, rfl, rfl, s1 _ _ hT, upd_same, by rw [List.length_map]; exact Nat.le_of_lt (hsz (by simp; omega)), fun p2 hp2 => ?_⟩
    have s2 := s1.new (o := .lst (ts.map V.int ++ [V.int 40])) hp2
    have k2 : ∀ H', Same (upd (upd H p1 (.lst [V.int 40])) p2 (.lst (ts.map V.int ++ [V.int 40]))) H' → H' p2 = some (.lst ((ts ++ [40]).map V.int)) := fun H' s => by
      have := s _ _ upd_same
      rw [List.map_append]
      exact this
    refine ⟨1, rfl, by show 1 ≤ sizeLine; decide, fun p3 hp3 => ⟨_, rfl, ?_⟩⟩
    have s3 := same_new hp3 (.lst [V.int (-1)])
    refine ⟨p3, pt, _, _, rfl, rfl, upd_same, (s2.trans s3) _ _ hT, by rw [List.length_map]; exact Nat.le_of_lt (hsz (by simp; omega)), fun p4 hp4 => ?_⟩
    have s4 := s3.new (o := .lst ([V.int (-1)] ++ ts.map V.int)) hp4
    refine ⟨by show 2 ≤ sizeLine; decide, fun p5 hp5 => ?_⟩
    have s5 := same_new hp5 (.lst [V.ref p2, V.ref p4])
    have s45 := s4.trans s5
    have hT5 := s45 _ _ (s2 _ _ hT)
    refine ev_i (ev_lenL (ev_cons (ev_var rfl) ev_nil) (.of hT5)) ev_c (by decide) _ ?_
    have all := s2.trans s45
    rcases (by omega : (((ts.map V.int).length : Nat) : Int) % 2 = 0 ∨ (((ts.map V.int).length : Nat) : Int) % 2 = 1) with e | e
    · rw [e]
      exact ⟨p5, _, _, _, rfl, rfl, .of upd_same, rfl, q _ p2 (ts ++ [40]) all (k2 _ s45) (by rw [List.length_append]; simp; omega)⟩
    · rw [e]
      refine ⟨p5, _, _, _, rfl, rfl, .of upd_same, rfl, q _ p4 (-1 :: ts) all ?_ (by simp; omega)⟩
      rw [s5 _ _ upd_same]
      rfl
  dsimp only
  refine seq_of (ifS_of (ev_test (ev_eqI (ev_var rfl) ev_c)) (fun _ => ?_) fun _ => next_of ?_)
  · exact ⟨by decide, fun p hp => q _ p [] (same_new hp _) upd_same (by simp)⟩
  · dsimp only
    exact ret_of (ev_var rfl) (q _ pt ts (Same.refl H) hT (by omega))
end
abbrev s_law_is_row : Stmt := top 22
abbrev n_law_is_row : List Str := ["found", "due", "k"]
abbrev p_law_is_row : List Str := ["found", "due"]
theorem sc_law_is_row : FnScope n_law_is_row p_law_is_row (defScope s_law_is_row) := ⟨rfl, rfl, rfl, by decide +kernel, rfl, by decide +kernel, by decide +kernel⟩
section
variable {P : Program} {w : World} {K : PySem.W.Frag} {mg : Str → Option Value} {base : Heap}
structure TxIr (mg : Str → Option Value) : Prop where
  n_isinstance : mg "isinstance" = none
  n_list : mg "list" = none
  n_int : mg "int" = none
  n_bool : mg "bool" = none
  n_len : mg "len" = none
  n_range : mg "range" = none
set_option pp.deepTerms true in
theorem ok_is_row (D : HasDef K mg "_law_is_row" s_law_is_row) (T : TxIr mg) : Callee P w K mg base "_law_is_row" 1 p_law_is_row spIsRow := by
  refine D.ok sc_law_is_row (fun _ _ _ _ _ _ us hl => match us, hl with | [_, _], _ => rfl) (fun vs H Q E h => ?_) (fun f cdv A outer s H vs Q E hr h => ?_)
  · obtain ⟨pf, pd, xs, ys, rfl, _⟩ := h
    rfl
  obtain ⟨pf, pd, xs, ys, rfl, hf, hd, hlen, q⟩ := h
  refine ⟨_, (pss_cons (ps_if (PW.pt (pw_or (pt_not (pt_val (pe_callB call_isi rfl T.n_isinstance bt_isinstance (pa_cons (pv 0) (pa_cons (pe_ty T.n_list bt_list) pa_nil))))) (pw_or1 (pt_cmpR op_ne (pe_callB call_len_seq rfl T.n_len bt_len (pa_cons (pv 0) pa_nil)) (pe_callB call_len_seq rfl T.n_len bt_len (pa_cons (pv 1) pa_nil)) (nomark _))))) (pss_one (ps_ret pe_bl)) pss_nil)
    (pss_cons (ps_for PassesOwn.never rfl (pi_range1 rfl T.n_range (pa_cons (pe_callB call_len_seq rfl T.n_len bt_len (pa_cons (pv 1) pa_nil)) pa_nil)) (pg_name (i := 2) sc_law_is_row.nd rfl (Or.inl rfl)) (pss_one (ps_if (PW.pt (pw_or (pt_not (pt_val (pe_callB call_isi rfl T.n_isinstance bt_isinstance (pa_cons (pe_ix ix_list (pv 0) (pv 2) (fun _ _ => rfl)) (pa_cons (pe_ty T.n_int bt_int) pa_nil))))) (pw_or (pt_val (pe_callB call_isi rfl T.n_isinstance bt_isinstance (pa_cons (pe_ix ix_list (pv 0) (pv 2) (fun _ _ => rfl)) (pa_cons (pe_ty T.n_bool bt_bool) pa_nil)))) (pw_or1 (pt_cmpR op_ne (pe_ix ix_list (pv 0) (pv 2) (fun _ _ => rfl)) (pe_ix ix_list (pv 1) (pv 2) (fun _ _ => rfl)) (nomark _)))))) (pss_one (ps_ret pe_bl)) pss_nil)))
    (pss_one (ps_ret pe_bl)))), ?_⟩
  rw [show start n_law_is_row [V.ref pf, V.ref pd] = [some (V.ref pf), some (V.ref pd), none] from rfl]
  refine seq_of (ifS_of (ev_or (ev_not (ev_tB (ev_isList (ev_cons (ev_var rfl) (ev_cons ev_c ev_nil)) hf))) fun _ => ev_test (ev_neI (ev_lenL (ev_cons (ev_var rfl) ev_nil) (.of hf)) (ev_lenL (ev_cons (ev_var rfl) ev_nil) (.of hd)))) (fun c => ?_) fun c => next_of ?_)
  · refine ret_of ev_c ?_
    rw [nl_length, nl_length] at c
    have c : ¬ (xs.length : Int) = (ys.length : Int) := by simpa using c
    rw [decide_eq_false (fun z => c (by rw [z]))] at q
    exact q
  rw [nl_length, nl_length] at c
  have c : (xs.length : Int) = (ys.length : Int) := by simpa using c
  dsimp only
  refine seq_of (rng1_of (ev_cons (ev_lenL (ev_cons (ev_var rfl) ev_nil) (.of hd)) ev_nil) (by omega) (by rw [nl_length]; omega) ?_)
  rw [nl_length, show ((ys.length : Nat) : Int).toNat = ys.length by omega]
  refine for_range (fun i σ H' => H' = H ∧ (∀ k, k < i → Row.at0 xs k = Row.at0 ys k) ∧ ∃ u, σ = [some (V.ref pf), some (V.ref pd), u]) ⟨rfl, fun k h => by omega, none, rfl⟩ ?_ ?_
  · rintro i σ H' hi ⟨rfl, same, u, rfl⟩
    dsimp only [gName]
    have i0 : EvE (tOp (rIxL K) (tVar 0) (tVar 2)) [some (V.ref pf), some (V.ref pd), some (V.int (0 + (i : Nat)))] H' (.int (Row.at0 xs i : Int)) := ev_atN i (ev_var rfl) (ev_var rfl) (.of hf) (by omega) (by omega)
    have i1 : EvE (tOp (rIxL K) (tVar 1) (tVar 2)) [some (V.ref pf), some (V.ref pd), some (V.int (0 + (i : Nat)))] H' (.int (Row.at0 ys i : Int)) := ev_atN i (ev_var rfl) (ev_var rfl) (.of hd) (by omega) (by omega)
    refine ifS_of (ev_or (ev_not (ev_tB (ev_isInt (ev_cons i0 (ev_cons ev_c ev_nil))))) fun _ => ev_or (ev_tB (ev_notBool (ev_cons i0 (ev_cons ev_c ev_nil)))) fun _ => ev_test (ev_neI i0 i1)) (fun c2 => ?_) fun c2 => next_of ⟨rfl, fun k hk => ?_, _, rfl⟩
    · have c2 : ¬ (Row.at0 xs i : Int) = (Row.at0 ys i : Int) := by simpa using c2
      refine ret_of ev_c ?_
      rw [decide_eq_false (fun z => c2 (by rw [z]))] at q
      exact q
    · have c2 : (Row.at0 xs i : Int) = (Row.at0 ys i : Int) := by simpa using c2
      by_cases e : k = i
      · subst e
        omega
      · exact same k (by omega)
  · rintro σ H' ⟨rfl, same, u, rfl⟩
    dsimp only
    refine ret_of ev_c ?_
    have e : xs = ys := by
      refine List.ext_getElem (by omega) fun i h1 h2 => ?_
      have := same i h2
      unfold Row.at0 at this
      rw [List.getD_eq_getElem?_getD, List.getD_eq_getElem?_getD, List.getElem?_eq_getElem h1, List.getElem?_eq_getElem h2] at this
      exact this
    rw [decide_eq_true e] at q
    exact q
end
abbrev s_check_rule : Stmt := top 8
abbrev n_check_rule : List Str := ["rule"]
abbrev p_check_rule : List Str := ["rule"]
theorem sc_check_rule : FnScope n_check_rule p_check_rule (defScope s_check_rule) := ⟨rfl, rfl, rfl, by decide +kernel, rfl, by decide +kernel, by decide +kernel⟩
abbrev gk : List (Str × V) := [("most", .int 3), ("just", .int 3), ("run", .int 40)]
def spCheckRule (K : PySem.W.Frag) : Sp := fun vs H Q _ => ∃ (pr : Addr) (r : Row.Rule), vs = [.ref pr] ∧ SqT K H pr (ruleV r) ∧ Row.Good r ∧ Q .non H
structure TxRu (K : PySem.W.Frag) (w : World) (mg : Str → Option Value) : Prop where
  GREATEST_K : GDic K w.params mg "GREATEST_K" gk
theorem gk_at {r : Row.Rule} (hg : Row.Good r) : ∃ m : Nat, atS gk (word r.1) = some (.int (m : Int)) ∧ 1 ≤ r.2 ∧ r.2 ≤ m := by
  obtain ⟨t, k⟩ := r
  rcases hg with ⟨h | h, h1, h3⟩ | ⟨h, h1, h3⟩ <;> simp only at h h1 h3 ⊢ <;> subst h
  · exact ⟨3, by decide, h1, h3⟩
  · exact ⟨3, by decide, h1, h3⟩
  · exact ⟨40, by decide, h1, h3⟩
section
variable {P : Program} {w : World} {K : PySem.W.Frag} {mg : Str → Option Value} {base : Heap}
theorem ok_checkRule (D : HasDef K mg "check_rule" s_check_rule) (T : TxRu K w mg) : Callee P w K mg base "check_rule" 1 p_check_rule (spCheckRule K) := by
  refine D.ok sc_check_rule (fun _ _ _ _ _ _ us hl => match us, hl with | [_], _ => rfl) (fun vs H Q E h => ?_) (fun f cdv A outer s H vs Q E hr h => ?_)
  · obtain ⟨pr, r, rfl, _⟩ := h
    rfl
  obtain ⟨pr, r, rfl, hR, hg, q⟩ := h
  obtain ⟨m, hm, h1, h2⟩ := gk_at hg
  refine ⟨_, (pss_cons (ps_if (pt_cmp (pc_knotin T.GREATEST_K (pe_ix ix_tup (pv 0) pe_int (fun _ _ => rfl)))) (pss_one ps_never) pss_nil)
    (pss_one (ps_if (PW.pt (pw_or (pt_cmpR op_lt (pe_ix ix_tup (pv 0) pe_int (fun _ _ => rfl)) pe_int (nomark _)) (pw_or1 (pt_cmpR op_gt (pe_ix ix_tup (pv 0) pe_int (fun _ _ => rfl)) (pe_kget T.GREATEST_K (pe_ix ix_tup (pv 0) pe_int (fun _ _ => rfl)) (fun _ _ => rfl)) (nomark _))))) (pss_one ps_never) pss_nil))), ?_⟩
  rw [show start n_check_rule [V.ref pr] = [some (V.ref pr)] from rfl]
  refine seq_of (ifS_of (ev_tB (ev_kin (ev_rule0 rfl hR))) (fun c => absurd c (by rw [hm]; simp)) (fun _ => next_of ?_))
  dsimp only
  refine ifS_of (ev_or (ev_test (ev_i0 (ev_rule1 rfl hR) ev_c)) (fun _ => ev_test (ev_i0 (ev_rule1 rfl hR) (ev_kget (ev_rule0 rfl hR) hm)))) (fun c => ?_) (fun _ => ?_)
  · rcases Bool.or_eq_true_iff.mp c with c | c <;> have c := of_decide_eq_true c <;> omega
  · exact q
end
abbrev s_rises : Stmt := top 10
abbrev n_rises : List Str := ["places", "greatest", "ahead", "place"]
abbrev p_rises : List Str := ["places", "greatest"]
theorem sc_rises : FnScope n_rises p_rises (defScope s_rises) := ⟨rfl, rfl, rfl, by decide +kernel, rfl, by decide +kernel, by decide +kernel⟩
abbrev s_check_row : Stmt := top 9
abbrev n_check_row : List Str := ["heads"]
abbrev p_check_row : List Str := ["heads"]
theorem sc_check_row : FnScope n_check_row p_check_row (defScope s_check_row) := ⟨rfl, rfl, rfl, by decide +kernel, rfl, by decide +kernel, by decide +kernel⟩
def Rises (g : Int) (ahead : Int) : List Int → Bool
  | [] => true
  | p :: r => if p ≤ ahead ∨ p > g then false else Rises g p r
theorem rises_take {g ahead : Int} : ∀ {ps : List Int} {i : Nat} {x : Int}, ps[i]? = some x → (∀ k y, k < i → ps[k]? = some y → ¬ (y ≤ (if k = 0 then ahead else ps.getD (k - 1) 0) ∨ y > g)) → (x ≤ (if i = 0 then ahead else ps.getD (i - 1) 0) ∨ x > g) → Rises g ahead ps = false
  | [], i, x, h, _, _ => by simp at h
  | p :: r, 0, x, h, _, c => by
    simp at h
    subst h
    rw [Rises, if_pos (by simpa using c)]
  | p :: r, i + 1, x, h, hk, c => by
    have h0 := hk 0 p (by omega) rfl
    rw [Rises, if_neg (by simpa using h0)]
    refine rises_take (i := i) (x := x) (by simpa using h) (fun k y hk' hy => ?_) ?_
    · have := hk (k + 1) y (by omega) (by simpa using hy)
      cases k with
      | zero => simpa using this
      | succ k => simpa using this
    · cases i with
      | zero => simpa using c
      | succ i => simpa using c
theorem rises_all {g ahead : Int} : ∀ {ps : List Int}, (∀ k y, ps[k]? = some y → ¬ (y ≤ (if k = 0 then ahead else ps.getD (k - 1) 0) ∨ y > g)) → Rises g ahead ps = true
  | [], _ => rfl
  | p :: r, hk => by
    have h0 := hk 0 p rfl
    rw [Rises, if_neg (by simpa using h0)]
    refine rises_all fun k y hy => ?_
    have := hk (k + 1) y (by simpa using hy)
    cases k with
    | zero => simpa using this
    | succ k => simpa using this
theorem rises_row : ∀ {hs : List Nat} {a : Int}, Row.Sorted hs → (∀ p ∈ hs, a < (p : Int) ∧ p < 40) → Rises 39 a (ni hs) = true
  | [], _, _, _ => rfl
  | p :: r, a, h, hl => by
    have hp := hl p List.mem_cons_self
    show Rises 39 a ((p : Int) :: ni r) = true
    rw [Rises, if_neg (by omega)]
    unfold Row.Sorted at h
    rw [List.pairwise_cons] at h
    exact rises_row h.2 fun b hb => ⟨by have := h.1 b hb; omega, (hl b (List.mem_cons_of_mem _ hb)).2⟩
def spRises (K : PySem.W.Frag) : Sp := fun vs H Q _ => ∃ (pp : Addr) (ps : List Int) (g : Int), vs = [.ref pp, .int g] ∧ SqL K H pp (ps.map V.int) ∧ Q (.bl (Rises g (-1) ps)) H
def spCheckRow (K : PySem.W.Frag) : Sp := fun vs H Q _ => ∃ (ph : Addr) (hs : List Nat), vs = [.ref ph] ∧ SqL K H ph (nl hs) ∧ Row.IsRow hs ∧ Q .non H
section
variable {P : Program} {w : World} {K : PySem.W.Frag} {mg : Str → Option Value} {base : Heap}
theorem ok_rises (D : HasDef K mg "rises" s_rises) : Callee P w K mg base "rises" 1 p_rises (spRises K) := by
  refine D.ok sc_rises (fun _ _ _ _ _ _ us hl => match us, hl with | [_, _], _ => rfl) (fun vs H Q E h => ?_) (fun f cdv A outer s H vs Q E hr h => ?_)
  · obtain ⟨pp, ps, g, rfl, _⟩ := h
    rfl
  obtain ⟨pp, ps, g, rfl, hp, q⟩ := h
  refine ⟨_, (pss_cons (ps_set (i := 2) sc_rises.nd rfl (Or.inl rfl) (pe_un un_neg pe_int))
    (pss_cons (ps_for PassesOwn.never rfl (pi_list (pv 0)) (pg_name (i := 3) sc_rises.nd rfl (Or.inl rfl)) (pss_cons (ps_if (PW.pt (pw_or (pt_cmpR op_le (pv 3) (pv 2) (nomark _)) (pw_or1 (pt_cmpR op_gt (pv 3) (pv 1) (nomark _))))) (pss_one (ps_ret pe_bl)) pss_nil)
    (pss_one (ps_set (i := 2) sc_rises.nd rfl (Or.inl rfl) (pv 3)))))
    (pss_one (ps_ret pe_bl)))), ?_⟩
  rw [show start n_rises [V.ref pp, V.int g] = [some (V.ref pp), some (V.int g), none, none] from rfl]
  refine seq_of (asg_of (ev_u ev_c) ?_)
  dsimp only
  refine seq_of ⟨_, rfl, pp, rfl, ⟨_, hp⟩, ?_⟩
  refine for_list (xs := ps.map V.int) (fun i σ H' => H' = H ∧ (∀ k y, k < i → ps[k]? = some y → ¬ (y ≤ (if k = 0 then -1 else ps.getD (k - 1) 0) ∨ y > g)) ∧ ∃ u, σ = [some (V.ref pp), some (V.int g), some (V.int (if i = 0 then -1 else ps.getD (i - 1) 0)), u]) ⟨rfl, fun k y hk => by omega, none, rfl⟩ ?_ ?_ ?_
  · rintro i σ H' _ ⟨rfl, _⟩
    exact hp
  · rintro i x σ H' hx ⟨rfl, hk, u, rfl⟩
    rw [List.getElem?_map] at hx
    cases e : ps[i]? with
    | none => rw [e] at hx; cases hx
    | some y =>
      rw [e] at hx
      cases hx
      dsimp only [gName]
      refine seq_of (ifS_of (ev_or (ev_test (ev_i0 (ev_var rfl) (ev_var rfl))) (fun _ => ev_test (ev_i0 (ev_var rfl) (ev_var rfl)))) (fun c => ?_) (fun c => next_of ?_))
      · have c : y ≤ (if i = 0 then -1 else ps.getD (i - 1) 0) ∨ y > g := (Bool.or_eq_true_iff.mp c).imp of_decide_eq_true of_decide_eq_true
        refine ret_of ev_c ?_
        rw [rises_take e hk c] at q
        exact q
      · have c' : ¬ (y ≤ (if i = 0 then -1 else ps.getD (i - 1) 0) ∨ y > g) := by
          rw [Bool.or_eq_false_iff] at c
          exact fun z => z.elim (of_decide_eq_false c.1) (of_decide_eq_false c.2)
        refine asg_of (ev_var rfl) ⟨rfl, fun k z hki hz => ?_, some (V.int y), ?_⟩
        · by_cases ck : k = i
          · subst ck
            rw [e] at hz
            cases hz
            exact c'
          · exact hk k z (by omega) hz
        · have e3 : (if i + 1 = 0 then (-1 : Int) else ps.getD (i + 1 - 1) 0) = y := by
            rw [if_neg (Nat.succ_ne_zero i), Nat.add_sub_cancel, List.getD_eq_getElem?_getD, e]
            rfl
          rw [e3]
          rfl
  · rintro σ H' ⟨rfl, hk, u, rfl⟩
    dsimp only
    refine ret_of ev_c ?_
    rw [rises_all fun k y hy => hk k y (by rw [List.length_map]; exact (List.getElem?_eq_some_iff.mp hy).1) hy] at q
    exact q
structure CnRi (P : Program) (w : World) (K : PySem.W.Frag) (mg : Str → Option Value) (base : Heap) : Prop where
  rises : Callee P w K mg base "rises" 1 p_rises (spRises K)
structure TxPlr (mg : Str → Option Value) : Prop where
  GREATEST_PLACE : GInt mg "GREATEST_PLACE" 39
theorem ok_checkRow (D : HasDef K mg "check_row" s_check_row) (T : TxPlr mg) (C : CnRi P w K mg base) : Callee P w K mg base "check_row" 2 p_check_row (spCheckRow K) := by
  refine D.ok sc_check_row (fun _ _ _ _ _ _ us hl => match us, hl with | [_], _ => rfl) (fun vs H Q E h => ?_) (fun f cdv A outer s H vs Q E hr h => ?_)
  · obtain ⟨ph, hs, rfl, _⟩ := h
    rfl
  obtain ⟨ph, hs, rfl, hH, hrow, q⟩ := h
  refine ⟨_, (pss_one (ps_if (pt_not (pt_val (pe_callC C.rises hr (by omega) rfl (pa_cons (pv 0) (pa_cons (pe_globI T.GREATEST_PLACE) pa_nil))))) (pss_one ps_never) pss_nil)), ?_⟩
  rw [show start n_check_row [V.ref ph] = [some (V.ref ph)] from rfl]
  refine ifS_of (ev_not (ev_tB (ev_call (v := .bl true) (ev_cons (ev_var rfl) (ev_cons ev_c ev_nil)) (fun Q q => ⟨ph, ni hs, 39, rfl, by rw [← nl_ni]; exact hH, ?_⟩)))) (fun c => by cases c) (fun _ => ?_)
  · rw [rises_row hrow.sorted fun p hp => ⟨by omega, hrow.lt p hp⟩]
    exact q
  · exact q
end
abbrev s_fits : Stmt := top 11
abbrev n_fits : List Str := ["rule", "places", "greatest"]
abbrev p_fits : List Str := ["rule", "places", "greatest"]
theorem sc_fits : FnScope n_fits p_fits (defScope s_fits) := ⟨rfl, rfl, rfl, by decide +kernel, rfl, by decide +kernel, by decide +kernel⟩
theorem rises_at {g ahead : Int} : ∀ {ps : List Int}, Rises g ahead ps = true → ∀ k y, ps[k]? = some y → ¬ (y ≤ (if k = 0 then ahead else ps.getD (k - 1) 0) ∨ y > g)
  | [], _, k, y, h => by simp at h
  | p :: r, hr, k, y, h => by
    rw [Rises] at hr
    by_cases c : p ≤ ahead ∨ p > g
    · rw [if_pos c] at hr
      cases hr
    · rw [if_neg c] at hr
      cases k with
      | zero =>
        simp at h
        subst h
        simpa using c
      | succ k =>
        have := rises_at hr k y (by simpa using h)
        cases k with
        | zero => simpa using this
        | succ k => simpa using this
theorem up_of {ts : List Int} (h : ∀ k, 1 ≤ k → k < ts.length → ts.getD (k - 1) 0 < ts.getD k 0) (j : Nat) : ∀ (m : Nat), j + m < ts.length → ts.getD j 0 + (m : Int) ≤ ts.getD (j + m) 0
  | 0, _ => by simp
  | m + 1, hm => by
    have a := up_of h j m (by omega)
    have b := h (j + (m + 1)) (by omega) hm
    rw [show j + (m + 1) - 1 = j + m by omega] at b
    omega
def fitsB (r : Row.Rule) (ts : List Int) : Bool :=
  if ts = [] ∨ Rises 39 (-1) ts = false then false
  else if r.1 = 1 then decide (ts.length = r.2)
  else if r.1 = 2 ∧ (ts.length : Int) ≤ ts.getD (ts.length - 1) 0 - ts.getD 0 0 then false
  else decide (ts.length ≤ r.2)
theorem getD_at {ts : List Int} {k : Nat} (h : k < ts.length) : ts[k]? = some (ts.getD k 0) := by
  rw [List.getD_eq_getElem?_getD, List.getElem?_eq_getElem h]
  rfl
theorem lets_fits {r : Row.Rule} (hg : Row.Good r) {hs : List Nat} (hrow : Row.IsRow hs) {ts : List Int} : Row.Lets r hs ts ↔ fitsB r ts = true ∧ ts.getD (ts.length - 1) 0 ∈ ni hs := by
  rw [Row.lets_iff hg]
  have memni : ∀ z : Int, z ∈ ni hs ↔ ∃ l ∈ hs, z = (l : Int) := fun z => by
    unfold ni
    rw [List.mem_map]
    exact ⟨fun ⟨l, h1, h2⟩ => ⟨l, h1, h2.symm⟩, fun ⟨l, h1, h2⟩ => ⟨l, h1, h2.symm⟩⟩
  rw [memni]
  constructor
  · rintro ⟨hne, hk, ⟨l, hl, el⟩, st, h0, hj⟩
    have hp : 0 < ts.length := List.length_pos_iff.mpr hne
    have l40 := hrow.lt l hl
    have up := up_of (ts := ts) (fun k k1 k2 => (st k k1 k2).1)
    have ri : Rises 39 (-1) ts = true := rises_all fun k y hy => by
      have kl : k < ts.length := (List.getElem?_eq_some_iff.mp hy).1
      have ey : y = ts.getD k 0 := by
        have := getD_at kl
        rw [hy] at this
        exact Option.some.inj this
      have u := up k (ts.length - 1 - k) (by omega)
      rw [show k + (ts.length - 1 - k) = ts.length - 1 by omega, el] at u
      subst ey
      by_cases c : k = 0
      · subst c
        rw [if_pos rfl]
        omega
      · rw [if_neg c]
        have := (st k (by omega) kl).1
        omega
    refine ⟨?_, l, hl, el⟩
    unfold fitsB
    rw [if_neg (by rw [ri]; simp [hne])]
    by_cases c1 : r.1 = 1
    · rw [if_pos c1]
      exact decide_eq_true (hj c1)
    · rw [if_neg c1]
      have c2 : ¬ (r.1 = 2 ∧ (ts.length : Int) ≤ ts.getD (ts.length - 1) 0 - ts.getD 0 0) := by
        rintro ⟨h2, h3⟩
        have go : ∀ k, k < ts.length → ts.getD k 0 = ts.getD 0 0 + (k : Int) := fun k => by
          induction k with
          | zero => intro _; simp
          | succ k ih =>
            intro hk
            have a1 := (st (k + 1) (by omega) hk).2 h2
            rw [Nat.add_sub_cancel] at a1
            rw [a1, ih (by omega)]
            omega
        have := go (ts.length - 1) (by omega)
        omega
      rw [if_neg c2]
      exact decide_eq_true hk
  · rintro ⟨hf, l, hl, el⟩
    unfold fitsB at hf
    by_cases c0 : ts = [] ∨ Rises 39 (-1) ts = false
    · rw [if_pos c0] at hf
      cases hf
    rw [if_neg c0] at hf
    have hne : ts ≠ [] := fun z => c0 (.inl z)
    have ri : Rises 39 (-1) ts = true := by
      cases e : Rises 39 (-1) ts with
      | true => rfl
      | false => exact absurd (.inr e) c0
    have hp : 0 < ts.length := List.length_pos_iff.mpr hne
    have at' := rises_at ri
    have h0 : 0 ≤ ts.getD 0 0 := by
      have := at' 0 _ (getD_at hp)
      rw [if_pos rfl] at this
      omega
    have s1 : ∀ k, 1 ≤ k → k < ts.length → ts.getD (k - 1) 0 < ts.getD k 0 := fun k k1 k2 => by
      have := at' k _ (getD_at k2)
      rw [if_neg (by omega)] at this
      omega
    have up := up_of s1
    have st : (r.1 = 2 → ts.getD (ts.length - 1) 0 - ts.getD 0 0 < ts.length) → Row.Steps r ts := fun hh k k1 k2 => ⟨s1 k k1 k2, fun h2 => by
      have a := s1 k k1 k2
      have b := up k (ts.length - 1 - k) (by omega)
      rw [show k + (ts.length - 1 - k) = ts.length - 1 by omega] at b
      have c := up 0 (k - 1) (by omega)
      rw [Nat.zero_add] at c
      have d := hh h2
      omega⟩
    by_cases c1 : r.1 = 1
    · rw [if_pos c1] at hf
      have hf := of_decide_eq_true hf
      exact ⟨hne, by omega, ⟨l, hl, el⟩, st (fun z => by omega), h0, fun _ => hf⟩
    · rw [if_neg c1] at hf
      by_cases c2 : r.1 = 2 ∧ (ts.length : Int) ≤ ts.getD (ts.length - 1) 0 - ts.getD 0 0
      · rw [if_pos c2] at hf
        cases hf
      · rw [if_neg c2] at hf
        exact ⟨hne, of_decide_eq_true hf, ⟨l, hl, el⟩, st (fun z => by omega), h0, fun z => absurd z c1⟩
theorem evg_eqNil {K : PySem.W.Frag} {σ : St} {H : Hp} {t : TE} {p : Addr} {xs : List Int} (ha : EvE t σ H (.ref p)) (h : SqL K H p (xs.map V.int)) : EvG (tOp (rEqD K 0) t (tLst tNil)) σ H (.bl (decide (xs = []))) := fun Q q =>
  ha _ ⟨by decide, fun r hr => ⟨false, zd xs, zd [], dat_ints ((same_new hr _).seq h), dat_ints (xs := []) (.of upd_same), fun b hb => by
    have e : b = decide (xs = []) := by
      rw [Bool.eq_iff_iff, hb]
      simp only [decide_eq_true_eq]
      exact ⟨fun z => zd_inj z, fun z => by rw [z]⟩
    rw [e]
    exact q _ (same_new hr _)⟩⟩
def spFits (K : PySem.W.Frag) : Sp := fun vs H Q _ => ∃ (pr pp : Addr) (r : Row.Rule) (ts : List Int), vs = [.ref pr, .ref pp, .int 39] ∧ SqT K H pr (ruleV r) ∧ r.1 ≤ 2 ∧ SqL K H pp (ts.map V.int) ∧ ∀ H', Same H H' → Q (.bl (fitsB r ts)) H'
structure TxFi (mg : Str → Option Value) : Prop where
  n_len : mg "len" = none
section
variable {P : Program} {w : World} {K : PySem.W.Frag} {mg : Str → Option Value} {base : Heap}
set_option pp.deepTerms true in
theorem ok_fits (D : HasDef K mg "fits" s_fits) (T : TxFi mg) (C : CnRi P w K mg base) : Callee P w K mg base "fits" 2 p_fits (spFits K) := by
  refine D.ok sc_fits (fun _ _ _ _ _ _ us hl => match us, hl with | [_, _, _], _ => rfl) (fun vs H Q E h => ?_) (fun f cdv A outer s H vs Q E hr h => ?_)
  · obtain ⟨pr, pp, r, ts, rfl, _⟩ := h
    rfl
  obtain ⟨pr, pp, r, ts, rfl, hR, r2, hT, q⟩ := h
  refine ⟨_, (pss_cons (ps_if (PW.pt (pw_or (pt_cmpR (op_eqD (n := 0) hr (by decide)) (pv 1) (pe_lst pa_nil) (nomark _)) (pw_or1 (pt_not (pt_val (pe_callC C.rises hr (by omega) rfl (pa_cons (pv 1) (pa_cons (pv 2) pa_nil)))))))) (pss_one (ps_ret pe_bl)) pss_nil)
    (pss_cons (ps_if (pt_cmpR op_eq (pe_ix ix_tup (pv 0) pe_int (fun _ _ => rfl)) pe_str (nomark _)) (pss_one (ps_ret (pe_cmpR op_eq (pe_callB call_len_seq rfl T.n_len bt_len (pa_cons (pv 1) pa_nil)) (pe_ix ix_tup (pv 0) pe_int (fun _ _ => rfl)) (nomark _)))) pss_nil)
    (pss_cons (ps_if (PW.pt (pw_and (pt_cmpR op_eq (pe_ix ix_tup (pv 0) pe_int (fun _ _ => rfl)) pe_str (nomark _)) (pw_and1 (pt_cmpR op_ge (pe_op op_sub (pe_ix ix_list (pv 1) (pe_un un_neg pe_int) (fun _ _ => rfl)) (pe_ix ix_list (pv 1) pe_int (fun _ _ => rfl))) (pe_callB call_len_seq rfl T.n_len bt_len (pa_cons (pv 1) pa_nil)) (nomark _))))) (pss_one (ps_ret pe_bl)) pss_nil)
    (pss_one (ps_ret (pe_cmpR op_le (pe_callB call_len_seq rfl T.n_len bt_len (pa_cons (pv 1) pa_nil)) (pe_ix ix_tup (pv 0) pe_int (fun _ _ => rfl)) (nomark _))))))), ?_⟩
  rw [show start n_fits [V.ref pr, V.ref pp, V.int 39] = [some (V.ref pr), some (V.ref pp), some (V.int 39)] from rfl]
  have ll : ((ts.map V.int).length : Int) = (ts.length : Int) := by rw [List.length_map]
  unfold fitsB at q
  refine seq_of (ifG_of (evg_or (evg_test (evg_eqNil (ev_var rfl) hT)) fun _ H1 s1 => evg_t (ev_not (ev_tB (ev_call (v := .bl (Rises 39 (-1) ts)) (ev_cons (ev_var rfl) (ev_cons (ev_var rfl) ev_nil)) (fun Q q => ⟨pp, ts, 39, rfl, s1.seq hT, q⟩))))) (fun c H1 s1 => ?_) (fun c H1 s1 => next_of ?_))
  · refine ret_of ev_c ?_
    rw [if_pos ((Bool.or_eq_true_iff.mp c).imp of_decide_eq_true (fun z => by simpa using z))] at q
    exact q _ s1
  dsimp only
  have c := Bool.or_eq_false_iff.mp c
  have hne : ts ≠ [] := of_decide_eq_false c.1
  have ri : Rises 39 (-1) ts = true := by simpa using c.2
  rw [if_neg (by rw [ri]; simp [hne])] at q
  have hR1 := s1.tup hR
  have hT1 := s1.seq hT
  refine seq_of (ifS_of (ev_test (ev_isJust rfl hR1 r2)) (fun c => ?_) (fun c => next_of ?_))
  · have c := of_decide_eq_true c
    refine ret_of (ev_eqI (ev_lenL (ev_cons (ev_var rfl) ev_nil) hT1) (ev_rule1 rfl hR1)) ?_
    rw [if_pos c] at q
    have e : decide (((ts.map V.int).length : Int) = (r.2 : Int)) = decide (ts.length = r.2) := by rw [ll, Bool.eq_iff_iff, decide_eq_true_eq, decide_eq_true_eq]; omega
    rw [e]
    exact q _ s1
  dsimp only
  have c := of_decide_eq_false c
  rw [if_neg c] at q
  have hp : 0 < ts.length := List.length_pos_iff.mpr hne
  refine seq_of (ifS_of (ev_and (ev_test (ev_isRun rfl hR1 r2)) fun _ => ev_test (ev_i0 (ev_i0 (ev_atEnd (ev_var rfl) (ev_u ev_c) hT1 hne) (ev_atI 0 (ev_var rfl) ev_c hT1 rfl hp)) (ev_lenL (ev_cons (ev_var rfl) ev_nil) hT1))) (fun c => ?_) (fun c => next_of ?_))
  · have c := Bool.and_eq_true_iff.mp c
    have c2 := of_decide_eq_true c.2
    refine ret_of ev_c ?_
    rw [if_pos ⟨of_decide_eq_true c.1, by omega⟩] at q
    exact q _ s1
  dsimp only
  have c3 : ¬ (r.1 = 2 ∧ (ts.length : Int) ≤ ts.getD (ts.length - 1) 0 - ts.getD 0 0) := by
    rintro ⟨h1, h2⟩
    rw [decide_eq_true h1, Bool.true_and] at c
    have := of_decide_eq_false c
    omega
  rw [if_neg c3] at q
  refine ret_of (ev_i0 (ev_lenL (ev_cons (ev_var rfl) ev_nil) hT1) (ev_rule1 rfl hR1)) ?_
  have e : decide (((ts.map V.int).length : Int) ≤ (r.2 : Int)) = decide (ts.length ≤ r.2) := by rw [ll, Bool.eq_iff_iff, decide_eq_true_eq, decide_eq_true_eq]; omega
  rw [e]
  exact q _ s1
end
abbrev s_allows : Stmt := top 13
abbrev n_allows : List Str := ["rule", "heads", "turn"]
abbrev p_allows : List Str := ["rule", "heads", "turn"]
theorem sc_allows : FnScope n_allows p_allows (defScope s_allows) := ⟨rfl, rfl, rfl, by decide +kernel, rfl, by decide +kernel, by decide +kernel⟩
structure CnAl (P : Program) (w : World) (K : PySem.W.Frag) (mg : Str → Option Value) (base : Heap) : Prop where
  check_rule : Callee P w K mg base "check_rule" 1 p_check_rule (spCheckRule K)
  check_row : Callee P w K mg base "check_row" 2 p_check_row (spCheckRow K)
  fits : Callee P w K mg base "fits" 2 p_fits (spFits K)
section
variable {P : Program} {w : World} {K : PySem.W.Frag} {mg : Str → Option Value} {base : Heap}
set_option pp.deepTerms true in
theorem ok_allows (D : HasDef K mg "allows" s_allows) (T : TxPlr mg) (C : CnAl P w K mg base) : Callee P w K mg base "allows" 19 p_allows (spAllows K) := by
  refine D.ok sc_allows (fun _ _ _ _ _ _ us hl => match us, hl with | [_, _, _], _ => rfl) (fun vs H Q E h => ?_) (fun f cdv A outer s H vs Q E hr h => ?_)
  · obtain ⟨pr, ph, pt, r, hs, ts, rfl, _⟩ := h
    rfl
  obtain ⟨pr, ph, pt, r, hs, ts, rfl, hR, hg, hH, hrow, hT, hlen, q⟩ := h
  refine ⟨_, (pss_cons (ps_expr (pe_callC C.check_rule hr (by omega) rfl (pa_cons (pv 0) pa_nil)))
    (pss_cons (ps_expr (pe_callC C.check_row hr (by omega) rfl (pa_cons (pv 1) pa_nil)))
    (pss_one (ps_ret (pe_and (pe_callC C.fits hr (by omega) rfl (pa_cons (pv 0) (pa_cons (pv 2) (pa_cons (pe_globI T.GREATEST_PLACE) pa_nil)))) (pe_one (pe_cmpR op_in_seq (pe_ix ix_list (pv 2) (pe_un un_neg pe_int) (fun _ _ => rfl)) (pv 1) rfl))))))), ?_⟩
  rw [show start n_allows [V.ref pr, V.ref ph, V.ref pt] = [some (V.ref pr), some (V.ref ph), some (V.ref pt)] from rfl]
  have r2 : r.1 ≤ 2 := by rcases hg with ⟨h, _⟩ | ⟨h, _⟩ <;> omega
  have iff := lets_fits hg hrow (ts := ts)
  refine seq_of ⟨_, rfl, pr, r, rfl, hR, hg, ?_⟩
  dsimp only
  refine seq_of ⟨_, rfl, ph, hs, rfl, hH, hrow, ?_⟩
  dsimp only
  have hH' := hH
  rw [nl_ni] at hH'
  refine retG_of (evg_andV (a := fitsB r ts) (b := decide (ts.getD (ts.length - 1) 0 ∈ ni hs)) (evg_call (evg_a (ev_cons (ev_var rfl) (ev_cons (ev_var rfl) (ev_cons ev_c ev_nil)))) fun H1 s1 Q q => ⟨pr, pt, r, ts, rfl, s1.tup hR, r2, s1.seq hT, q⟩) fun c H1 s1 => ?_) fun H1 s1 => q _ _ s1 ?_
  · have hne : ts ≠ [] := fun z => by
      unfold fitsB at c
      rw [if_pos (.inl z)] at c
      cases c
    exact evg_e (ev_inI (ev_atEnd (ev_var rfl) (ev_u ev_c) (s1.seq hT) hne) (ev_var rfl) (s1.seq hH'))
  · rw [iff, Bool.and_eq_true_iff, decide_eq_true_iff]
end
abbrev s_after : Stmt := top 14
abbrev n_after : List Str := ["rule", "heads", "turn"]
abbrev p_after : List Str := ["rule", "heads", "turn"]
theorem sc_after : FnScope n_after p_after (defScope s_after) := ⟨rfl, rfl, rfl, by decide +kernel, rfl, by decide +kernel, by decide +kernel⟩
structure CnAf (P : Program) (w : World) (K : PySem.W.Frag) (mg : Str → Option Value) (base : Heap) : Prop where
  allows : Callee P w K mg base "allows" 19 p_allows (spAllows K)
structure TxAf (mg : Str → Option Value) : Prop where
  n_sorted : mg "sorted" = none
  n_set : mg "set" = none
structure TxAx (K : PySem.W.Frag) (mg : Str → Option Value) (cT : Addr) : Prop extends TxAf mg where
  r_NoTurn : ErrC K mg "NoTurn" cT
theorem behind_set {hs t : List Nat} (h1 : ∀ a ∈ hs, a < 40) (h2 : ∀ a ∈ t, a < 40) {c1 c2 zs ns : List Int} (e1 : SetOf hs c1) (e2 : SetOf t c2) (ez : ∀ y, y ∈ zs ↔ (y ∈ c1 ∧ y ∉ c2) ∨ (y ∈ c2 ∧ y ∉ c1)) (en : ∀ y, y ∈ ns ↔ y ∈ zs) (hs' : ns.Pairwise (· < ·)) : ns.map V.int = nl (Row.behind 40 hs t) := by
  have mem : ∀ y : Int, y ∈ ns ↔ ∃ n : Nat, n ∈ Row.behind 40 hs t ∧ y = (n : Int) := fun y => by
    rw [en, ez, e1 y, e2 y]
    have i0 : ∀ (l : List Nat) (n : Nat), (∃ m ∈ l, (n : Int) = (m : Int)) ↔ n ∈ l := fun l n => by
      constructor
      · rintro ⟨m, hm, e⟩
        rw [show n = m by omega]
        exact hm
      · exact fun h => ⟨n, h, rfl⟩
    have i1 := i0 hs
    have i2 := i0 t
    have b : ∀ n : Nat, n ∈ Row.behind 40 hs t ↔ (n ∈ hs ∧ n ∉ t) ∨ (n ∈ t ∧ n ∉ hs) := fun n => by
      unfold Row.behind
      rw [List.mem_filter, List.mem_range]
      constructor
      · rintro ⟨_, z⟩
        by_cases a1 : n ∈ hs <;> by_cases a2 : n ∈ t <;> simp [a1, a2] at z ⊢
      · rintro (⟨a1, a2⟩ | ⟨a1, a2⟩)
        · exact ⟨h1 n a1, by simp [a1, a2]⟩
        · exact ⟨h2 n a1, by simp [a1, a2]⟩
    constructor
    · rintro (⟨⟨n, hn, rfl⟩, z⟩ | ⟨⟨n, hn, rfl⟩, z⟩)
      · exact ⟨n, (b n).mpr (.inl ⟨hn, fun y => z ((i2 n).mpr y)⟩), rfl⟩
      · exact ⟨n, (b n).mpr (.inr ⟨hn, fun y => z ((i1 n).mpr y)⟩), rfl⟩
    · rintro ⟨n, hn, rfl⟩
      rw [i1, i2]
      exact (b n).mp hn
  have e : ns = ni (ns.map Int.toNat) := by
    unfold ni
    rw [List.map_map]
    conv => lhs; rw [← List.map_id ns]
    refine List.map_congr_left fun y hy => ?_
    obtain ⟨n, _, rfl⟩ := (mem y).mp hy
    simp
  have srt : Row.Sorted (ns.map Int.toNat) := by
    unfold Row.Sorted
    rw [List.pairwise_map]
    refine List.Pairwise.imp_of_mem (fun {a b} ha hb h => ?_) hs'
    obtain ⟨n, _, rfl⟩ := (mem a).mp ha
    obtain ⟨m, _, rfl⟩ := (mem b).mp hb
    simp
    omega
  have ex : ns.map Int.toNat = Row.behind 40 hs t := Row.sorted_ext srt (Row.behind_sorted 40 hs t) fun a => by
    rw [List.mem_map]
    constructor
    · rintro ⟨y, hy, rfl⟩
      obtain ⟨n, hn, rfl⟩ := (mem y).mp hy
      simpa using hn
    · intro h
      exact ⟨(a : Int), (mem _).mpr ⟨a, h, rfl⟩, by simp⟩
  rw [← ex, nl_ni, ← e]
theorem evn_xor {K : PySem.W.Frag} {w : World} {σ : St} {H : Hp} {Q : VK} {ph pt : Addr} {hs t : List Nat} (v1 : σ[1]? = some (some (.ref ph))) (v2 : σ[2]? = some (some (.ref pt))) (hH : SqL K H ph (nl hs)) (hT : SqL K H pt (nl t)) (h1 : ∀ a ∈ hs, a < 40) (h2 : ∀ a ∈ t, a < 40)
    (q : ∀ H' p, Same H H' → H p = none → H' p = some (.lst (nl (Row.behind 40 hs t))) → Q (.ref p) H') : tCB (rSetSort w) (tCons (tOp (rSetXor w) (tCB (rSetNew K w) (tCons (tVar 1) tNil)) (tCB (rSetNew K w) (tCons (tVar 2) tNil))) tNil) σ H Q := by
  refine ev_var v1 _ ⟨ph, hs, rfl, hH, h1, fun a c1 ha e1 => ?_⟩
  have s1 := same_new ha (siO w a c1)
  refine ev_var v2 _ ⟨pt, t, rfl, s1.seq hT, h2, fun b c2 hb e2 => ?_⟩
  have s2 := s1.new (o := siO w b c2) hb
  refine ⟨a, b, c1, c2, rfl, rfl, same_new hb _ _ _ upd_same, upd_same, fun c zs hc ez => ?_⟩
  have s3 := s2.new (o := siO w c zs) hc
  refine ⟨c, zs, rfl, upd_same, fun l ns hl en hs' => ?_⟩
  have s4 := s3.new (o := .lst (ns.map V.int)) hl
  refine q _ l s4 ?_ ?_
  · exact s3.free hl
  · rw [upd_same, behind_set h1 h2 e1 e2 ez en hs']
section
variable {P : Program} {w : World} {K : PySem.W.Frag} {mg : Str → Option Value} {base : Heap} {cT : Addr}
theorem shape_lt {r : Row.Rule} {hs t : List Nat} (hrow : Row.IsRow hs) (h : ∃ last ∈ hs, t ∈ Row.shapes r last) : ∀ a ∈ t, a < 40 := fun a ha => by
  obtain ⟨last, hl, ht⟩ := h
  have := Row.shape_le ht a ha
  have := hrow.lt last hl
  omega
set_option pp.deepTerms true in
theorem ok_afterX (D : HasDef K mg "after" s_after) (T : TxAx K mg cT) (C : CnAf P w K mg base) : CalleeX P w K mg base "after" 20 p_after (spAfter K cT) := by
  refine D.okX sc_after (fun _ _ _ _ _ _ us hl => match us, hl with | [_, _, _], _ => rfl) (fun vs H Q E h => ?_) (fun f cdv A outer s H vs Q E hr h => ?_)
  · obtain ⟨pr, ph, pt, r, hs, ts, rfl, _⟩ := h
    rfl
  obtain ⟨pr, ph, pt, r, hs, ts, rfl, hR, hg, hH, hrow, hT, hlen, q1, q2⟩ := h
  refine ⟨_, (pss_cons (ps_if (pt_not (pt_val (pe_callC C.allows hr (by omega) rfl (pa_cons (pv 0) (pa_cons (pv 1) (pa_cons (pv 2) pa_nil)))))) (pss_one (ps_raise raise1 rfl T.r_NoTurn rfl (pa_cons pe_str pa_nil))) pss_nil)
    (pss_one (ps_ret (pe_callB (call_setSort rfl) rfl T.n_sorted bt_sorted (pa_cons (pe_op op_setXor (pe_callTy (call_setNew rfl) rfl T.n_set PyProof.Rows.boot_set (pa_cons (pv 1) pa_nil)) (pe_callTy (call_setNew rfl) rfl T.n_set PyProof.Rows.boot_set (pa_cons (pv 2) pa_nil))) pa_nil))))), ?_⟩
  rw [show start n_after [V.ref pr, V.ref ph, V.ref pt] = [some (V.ref pr), some (V.ref ph), some (V.ref pt)] from rfl]
  refine seq_of ⟨_, rfl, _, rfl, _, rfl, pr, ph, pt, r, hs, ts, rfl, hR, hg, hH, hrow, hT, hlen, fun H1 b s1 hb => ⟨b, rfl, ?_⟩⟩
  cases b with
  | false => exact ⟨by decide, q2 (fun z => by have := hb.mpr z; cases this) _ s1⟩
  | true =>
    obtain ⟨t, rfl, ht⟩ := hb.mp rfl
    have en : (t.map fun (n : Nat) => (n : Int)).map V.int = nl t := by
      rw [List.map_map]
      rfl
    rw [en] at hT
    refine evn_xor rfl rfl (s1.seq hH) (s1.seq hT) hrow.lt (shape_lt hrow ht) fun H' p s2 hp hp' => ?_
    exact q1 t rfl ht H' p (s1.trans s2) (s1.free hp) hp'
set_option pp.deepTerms true in
theorem ok_afterC (D : HasDef K mg "after" s_after) (T : TxAf mg) (C : CnAf P w K mg base) : Callee P w K mg base "after" 20 p_after (spAfterC K) := by
  refine D.ok sc_after (fun _ _ _ _ _ _ us hl => match us, hl with | [_, _, _], _ => rfl) (fun vs H Q E h => ?_) (fun f cdv A outer s H vs Q E hr h => ?_)
  · obtain ⟨pr, ph, pt, r, hs, t, rfl, _⟩ := h
    rfl
  obtain ⟨pr, ph, pt, r, hs, t, rfl, hR, hg, hH, hrow, hT, hlen, ht, q⟩ := h
  refine ⟨_, (pss_cons (ps_if (pt_not (pt_val (pe_callC C.allows hr (by omega) rfl (pa_cons (pv 0) (pa_cons (pv 1) (pa_cons (pv 2) pa_nil)))))) (pss_one ps_never) pss_nil)
    (pss_one (ps_ret (pe_callB (call_setSort rfl) rfl T.n_sorted bt_sorted (pa_cons (pe_op op_setXor (pe_callTy (call_setNew rfl) rfl T.n_set PyProof.Rows.boot_set (pa_cons (pv 1) pa_nil)) (pe_callTy (call_setNew rfl) rfl T.n_set PyProof.Rows.boot_set (pa_cons (pv 2) pa_nil))) pa_nil))))), ?_⟩
  rw [show start n_after [V.ref pr, V.ref ph, V.ref pt] = [some (V.ref pr), some (V.ref ph), some (V.ref pt)] from rfl]
  have en : (t.map fun (n : Nat) => (n : Int)).map V.int = nl t := by
    rw [List.map_map]
    rfl
  refine seq_of ⟨_, rfl, _, rfl, _, rfl, pr, ph, pt, r, hs, t.map fun (n : Nat) => (n : Int), rfl, hR, hg, hH, hrow, by rw [en]; exact hT, by simpa using hlen, fun H1 b s1 hb => ⟨b, rfl, ?_⟩⟩
  have hb : b = true := hb.mpr ⟨t, rfl, ht⟩
  subst hb
  refine evn_xor rfl rfl (s1.seq hH) (s1.seq hT) hrow.lt (shape_lt hrow ht) fun H' p s2 hp hp' => ?_
  exact q H' p (s1.trans s2) (s1.free hp) hp'
end
abbrev s_law_refused : Stmt := top 23
abbrev n_law_refused : List Str := ["rule", "heads", "turn", "e"]
abbrev p_law_refused : List Str := ["rule", "heads", "turn"]
theorem sc_law_refused : FnScope n_law_refused p_law_refused (defScope s_law_refused) := ⟨rfl, rfl, rfl, by decide +kernel, rfl, by decide +kernel, by decide +kernel⟩
structure ErrF (K : PySem.W.Frag) (mg : Str → Option Value) (cC cR cU cT : Addr) : Prop where
  r_NoTurn : ErrC K mg "NoTurn" cT
  g_CoinError : GRef mg "CoinError" cC
  g_NoRow : GRef mg "NoRow" cR
  g_NoRule : GRef mg "NoRule" cU
  g_NoTurn : GRef mg "NoTurn" cT
  x_NoTurn : ExcCls K cT
  m_CoinError : PySem.W.exmOne K (.ref cT) (.ref cC) = some true
  k_NoRow : PySem.W.kitOne K (.ref cT) (.ref cR) = some false
  k_NoRule : PySem.W.kitOne K (.ref cT) (.ref cU) = some false
  k_NoTurn : PySem.W.kitOne K (.ref cT) (.ref cT) = some true
  k_ValueError : PySem.W.kitOne K (.ref cT) (.type "ValueError") = some true
structure TxE (K : PySem.W.Frag) (mg : Str → Option Value) (cC cR cU cT : Addr) : Prop extends ErrF K mg cC cR cU cT where
  n_isinstance : mg "isinstance" = none
  n_list : mg "list" = none
  n_ValueError : mg "ValueError" = none
theorem bt_ValueError : bootBuiltins "ValueError" = some (.type "ValueError") := by decide +kernel
def spRefused (K : PySem.W.Frag) : Sp := fun vs H Q _ => ∃ (pr ph pt : Addr) (r : Row.Rule) (hs : List Nat) (ts : List Int), vs = [.ref pr, .ref ph, .ref pt] ∧ SqT K H pr (ruleV r) ∧ Row.Good r ∧ SqL K H ph (nl hs) ∧ Row.IsRow hs ∧ SqL K H pt (ts.map V.int) ∧ ts.length ≤ 1000 ∧ ¬ Row.Lets r hs ts ∧ ∀ H', Q (.bl true) H'
section
variable {P : Program} {w : World} {K : PySem.W.Frag} {mg : Str → Option Value} {base : Heap} {cC cR cU cT : Addr}
theorem isx {H : Hp} {Q : VK} {a C : Addr} {a0 x1 u : Value} {c : V} {b : Bool} (ha : H a = some (excO a C a0 x1)) (Z : ExcCls K C) (hc : asked c = some u) (hb : PySem.W.kitOne K (.ref C) u = some b) (q : Q (.bl b) H) : rIsx K [.ref a, c] H Q :=
  ⟨a, C, a0, x1, c, u, b, rfl, ha, Z, hc, hb, q⟩
structure CnRf (P : Program) (w : World) (K : PySem.W.Frag) (mg : Str → Option Value) (base : Heap) (cT : Addr) : Prop where
  after : CalleeX P w K mg base "after" 20 p_after (spAfter K cT)
set_option pp.deepTerms true in
theorem ok_refused (D : HasDef K mg "_law_refused" s_law_refused) (T : TxE K mg cC cR cU cT) (C : CnRf P w K mg base cT) : Callee P w K mg base "_law_refused" 21 p_law_refused (spRefused K) := by
  refine D.ok sc_law_refused (fun _ _ _ _ _ _ us hl => match us, hl with | [_, _, _], _ => rfl) (fun vs H Q E h => ?_) (fun f cdv A outer s H vs Q E hr h => ?_)
  · obtain ⟨pr, ph, pt, r, hs, ts, rfl, _⟩ := h
    rfl
  obtain ⟨pr, ph, pt, r, hs, ts, rfl, hR, hg, hH, hrow, hT, hlen, hno, q⟩ := h
  refine ⟨_, (pss_cons (ps_try (i := 3) rfl rfl sc_law_refused.nd rfl rfl T.g_CoinError rfl (fun _ _ _ ht => (pss_one (ps_expr (pe_callX C.after ht hr (by omega) rfl (pa_cons (pv 0) (pa_cons (pe_callTy (call_listK (K := K) rfl) rfl T.n_list bt_list (pa_cons (pv 1) pa_nil)) (pa_cons (pe_callTy (call_listK (K := K) rfl) rfl T.n_list bt_list (pa_cons (pv 2) pa_nil)) pa_nil))))))) (fun _ => (pss_cons (ps_if (PW.pt (pw_or (pt_val (pe_callB call_isx rfl T.n_isinstance bt_isinstance (pa_cons (pv 3) (pa_cons (pe_globR T.g_NoRow) pa_nil)))) (pw_or1 (pt_val (pe_callB call_isx rfl T.n_isinstance bt_isinstance (pa_cons (pv 3) (pa_cons (pe_globR T.g_NoRule) pa_nil))))))) (pss_one (ps_ret pe_bl)) pss_nil)
    (pss_one (ps_ret (pe_and (pe_callB call_isx rfl T.n_isinstance bt_isinstance (pa_cons (pv 3) (pa_cons (pe_globR T.g_NoTurn) pa_nil))) (pe_one (pe_callB call_isx rfl T.n_isinstance bt_isinstance (pa_cons (pv 3) (pa_cons (pe_ty T.n_ValueError bt_ValueError) pa_nil))))))))))
    (pss_one (ps_ret pe_bl))), ?_⟩
  rw [show start n_law_refused [V.ref pr, V.ref ph, V.ref pt] = [some (V.ref pr), some (V.ref ph), some (V.ref pt), none] from rfl]
  refine seq_of ⟨_, rfl, _, rfl, ph, _, rfl, .inl hH, fun p1 hp1 => ?_⟩
  have s1 := same_new hp1 (.lst (nl hs))
  refine ⟨_, rfl, pt, _, rfl, .inl (s1.seq hT), fun p2 hp2 => ?_⟩
  have s2 := s1.new (o := .lst (ts.map V.int)) hp2
  refine ⟨pr, p1, p2, r, hs, ts, rfl, s2.tup hR, hg, .of (same_new hp2 _ _ _ upd_same), hrow, .of upd_same, hlen, fun t ht hl => absurd ⟨t, ht, hl⟩ hno, fun _ H3 s3 => ⟨cT, rfl, T.m_CoinError, fun z z0 z1 hz => ?_⟩⟩
  have go : ∀ c u b, asked c = some u → PySem.W.kitOne K (.ref cT) u = some b → EvE (tCB (rIsx K) (tCons (tVar 3) (tCons (tC c) tNil))) [none, none, none, some (V.ref z)] (upd H3 z (excO z cT z0 z1)) (.bl b) := fun c u b hc hb Q q => ⟨_, rfl, isx upd_same T.x_NoTurn hc hb q⟩
  refine seq_of (ifS_of (ev_or (ev_tB (go _ _ false rfl T.k_NoRow)) fun _ => ev_tB (go _ _ false rfl T.k_NoRule)) (fun c => absurd c (by decide)) fun _ => next_of ?_)
  refine ret_of (ev_andV (go _ _ true rfl T.k_NoTurn) fun _ => go _ _ true rfl T.k_ValueError) ?_
  exact q _
end
abbrev s_law : Stmt := top 24
abbrev n_law : List Str := ["script", "rule", "first", "wide", "heads", "turn", "due", "row", "handed", "found", "behind"]
abbrev p_law : List Str := ["script"]
theorem sc_law : FnScope n_law p_law (defScope s_law) := ⟨rfl, rfl, rfl, by decide +kernel, rfl, by decide +kernel, by decide +kernel⟩
structure Facts (K : PySem.W.Frag) (mg : Str → Option Value) : Prop where
  d_check_rule : HasDef K mg "check_rule" s_check_rule
  d_check_row : HasDef K mg "check_row" s_check_row
  d_rises : HasDef K mg "rises" s_rises
  d_fits : HasDef K mg "fits" s_fits
  d_allows : HasDef K mg "allows" s_allows
  d_after : HasDef K mg "after" s_after
  d_law_cell_at : HasDef K mg "_law_cell_at" s_law_cell_at
  d_law_rule : HasDef K mg "_law_rule" s_law_rule
  d_law_heads : HasDef K mg "_law_heads" s_law_heads
  d_law_places : HasDef K mg "_law_places" s_law_places
  d_law_spoilt : HasDef K mg "_law_spoilt" s_law_spoilt
  d_law_lets : HasDef K mg "_law_lets" s_law_lets
  d_law_is_row : HasDef K mg "_law_is_row" s_law_is_row
  d_law_refused : HasDef K mg "_law_refused" s_law_refused
  n_len : mg "len" = none
  n_sorted : mg "sorted" = none
  n_set : mg "set" = none
  n_range : mg "range" = none
  n_int : mg "int" = none
  n_isinstance : mg "isinstance" = none
  n_list : mg "list" = none
  n_bool : mg "bool" = none
  GREATEST_PLACE : GInt mg "GREATEST_PLACE" 39
structure Dics (K : PySem.W.Frag) (w : World) (mg : Str → Option Value) : Prop where
  GREATEST_K : GDic K w.params mg "GREATEST_K" [("most", .int 3), ("just", .int 3), ("run", .int 40)]
structure Cl (P : Program) (w : World) (K : PySem.W.Frag) (mg : Str → Option Value) (base : Heap) : Prop where
  allows : Callee P w K mg base "allows" 20 p_allows (spAllows K)
  after : Callee P w K mg base "after" 20 p_after (spAfterC K)
  law_cell_at : Callee P w K mg base "_law_cell_at" 1 p_law_cell_at (spCell K)
  law_rule : Callee P w K mg base "_law_rule" 1 p_law_rule (spRule 3 40)
  law_heads : Callee P w K mg base "_law_heads" 1 p_law_heads spHeads3
  law_places : Callee P w K mg base "_law_places" 2 p_law_places (spPlaces K)
  law_spoilt : Callee P w K mg base "_law_spoilt" 1 p_law_spoilt (spSpoilt K)
  law_lets : Callee P w K mg base "_law_lets" 1 p_law_lets (spLets K)
  law_is_row : Callee P w K mg base "_law_is_row" 1 p_law_is_row spIsRow
  law_refused : Callee P w K mg base "_law_refused" 21 p_law_refused (spRefused K)
section
variable {P : Program} {w : World} {K : PySem.W.Frag} {mg : Str → Option Value} {base : Heap}
set_option pp.deepTerms true in
theorem ok_law {f : Addr} {fd : FuncData} (F : Fun K "law" "law" s_law f fd) (T : Facts K mg) (C : Cl P w K mg base) : FnOk P w K mg base CX0 22 f fd ["script"] (spLaw K) := by
  refine F.ok sc_law (fun vs H Q E h => ?_) (fun cdv A outer s H vs Q E hr h => ?_)
  · obtain ⟨a, ns, rfl, _⟩ := h
    rfl
  obtain ⟨a, ns, rfl, hS, h63, q⟩ := h
  refine ⟨_, (pss_cons (ps_set (i := 1) sc_law.nd rfl (Or.inl rfl) (pe_callC C.law_rule hr (by omega) rfl (pa_cons (pe_callC C.law_cell_at hr (by omega) rfl (pa_cons (pv 0) (pa_cons pe_int pa_nil))) pa_nil)))
    (pss_cons (ps_set (i := 2) sc_law.nd rfl (Or.inl rfl) (pe_op op_mod (pe_callC C.law_cell_at hr (by omega) rfl (pa_cons (pv 0) (pa_cons pe_int pa_nil))) pe_int))
    (pss_cons (ps_set (i := 3) sc_law.nd rfl (Or.inl rfl) pe_int)
    (pss_cons (ps_set (i := 4) sc_law.nd rfl (Or.inr rfl) (pe_callC C.law_heads hr (by omega) rfl (pa_cons (pe_callC C.law_cell_at hr (by omega) rfl (pa_cons (pv 0) (pa_cons pe_int pa_nil))) (pa_cons (pv 2) (pa_cons pe_int pa_nil)))))
    (pss_cons (ps_if (pt_cmpR op_eq (pe_op op_mod (pe_op op_fdiv (pe_callC C.law_cell_at hr (by omega) rfl (pa_cons (pv 0) (pa_cons pe_int pa_nil))) pe_int) pe_int) pe_int (nomark _)) (pss_cons (ps_set (i := 2) sc_law.nd rfl (Or.inl rfl) pe_int)
    (pss_cons (ps_set (i := 3) sc_law.nd rfl (Or.inl rfl) pe_int)
    (pss_one (ps_set (i := 4) sc_law.nd rfl (Or.inr rfl) (pe_op op_cat (pe_callC C.law_heads hr (by omega) rfl (pa_cons (pe_callC C.law_cell_at hr (by omega) rfl (pa_cons (pv 0) (pa_cons pe_int pa_nil))) (pa_cons pe_int (pa_cons pe_int pa_nil)))) (pe_callC C.law_heads hr (by omega) rfl (pa_cons (pe_callC C.law_cell_at hr (by omega) rfl (pa_cons (pv 0) (pa_cons pe_int pa_nil))) (pa_cons pe_int (pa_cons pe_int pa_nil))))))))) pss_nil)
    (pss_cons (ps_set (i := 5) sc_law.nd rfl (Or.inr rfl) (pe_callC C.law_spoilt hr (by omega) rfl (pa_cons (pe_callC C.law_places hr (by omega) rfl (pa_cons (pv 0) (pa_cons (pv 2) (pa_cons (pv 3) pa_nil)))) (pa_cons (pe_op op_mod (pe_callC C.law_cell_at hr (by omega) rfl (pa_cons (pv 0) (pa_cons pe_int pa_nil))) pe_int) pa_nil))))
    (pss_cons (ps_set (i := 6) sc_law.nd rfl (Or.inl rfl) (pe_callC C.law_lets hr (by omega) rfl (pa_cons (pv 1) (pa_cons (pv 4) (pa_cons (pv 5) pa_nil)))))
    (pss_cons (ps_set (i := 7) sc_law.nd rfl (Or.inl rfl) (pe_callTy call_list_of rfl T.n_list bt_list (pa_cons (pv 4) pa_nil)))
    (pss_cons (ps_set (i := 8) sc_law.nd rfl (Or.inl rfl) (pe_callTy call_list_of rfl T.n_list bt_list (pa_cons (pv 5) pa_nil)))
    (pss_cons (ps_set (i := 9) sc_law.nd rfl (Or.inl rfl) (pe_callC C.allows hr (by omega) rfl (pa_cons (pv 1) (pa_cons (pv 7) (pa_cons (pv 8) pa_nil)))))
    (pss_cons (ps_if (PW.pt (pw_or (pt_not (pt_val (pe_callB call_isi rfl T.n_isinstance bt_isinstance (pa_cons (pv 9) (pa_cons (pe_ty T.n_bool bt_bool) pa_nil))))) (pw_or (pt_cmpR op_ne (pv 9) (pv 6) (nomark _)) (pw_or (pt_cmpR (op_neD (n := 0) hr (by decide)) (pv 7) (pv 4) (nomark _)) (pw_or1 (pt_cmpR (op_neD (n := 0) hr (by decide)) (pv 8) (pv 5) (nomark _))))))) (pss_one (ps_ret pe_bl)) pss_nil)
    (pss_cons (ps_if (pt_not (pt_val (pv 6))) (pss_one (ps_ret (pe_callC C.law_refused hr (by omega) rfl (pa_cons (pv 1) (pa_cons (pv 4) (pa_cons (pv 5) pa_nil)))))) pss_nil)
    (pss_cons (ps_comp (i := 10) (Block.of (out := defScope s_law) (N := n_law) (x := "place") (frees := ["heads", "turn"]) (ix := [4, 5]) (by decide +kernel)) rfl sc_law.nd rfl rfl (pi_range1 rfl T.n_range (pa_cons pe_int pa_nil)) (fun _ _ _ _ => pts_one (pt_cmpR op_ne (pe_cmpR (op_in_k (K := K) rfl) (pv 0) (pv 1) rfl) (pe_cmpR (op_in_k (K := K) rfl) (pv 0) (pv 2) rfl) (nomark _))) (fun _ _ _ _ => (pv 0)))
    (pss_one (ps_ret (pe_and (pe_callC C.law_is_row hr (by omega) rfl (pa_cons (pe_callC C.after hr (by omega) rfl (pa_cons (pv 1) (pa_cons (pv 7) (pa_cons (pv 8) pa_nil)))) (pa_cons (pv 10) pa_nil))) (pe_and (pe_cmpR (op_eqD (n := 0) hr (by decide)) (pv 7) (pv 4) (nomark _)) (pe_one (pe_cmpR (op_eqD (n := 0) hr (by decide)) (pv 8) (pv 5) (nomark _)))))))))))))))))))), ?_⟩
  rw [show start n_law [V.ref a] = [some (V.ref a), none, none, none, none, none, none, none, none, none, none] from rfl]
  have hsz : ∀ {n : Nat}, n ≤ 5000000 → n < sizeLine := fun h => Nat.lt_of_le_of_lt h (by decide)
  refine seq_of (ev_cell 0 rfl hS _ ⟨cell ns 0, rfl, fun H1 pr sm1 hr1 hn1 => ?_⟩)
  dsimp only [gName]
  have hg := ruleOf_good (c := cell ns 0) (most := 3) (run := 40) (by decide) (by decide) (by decide) (by decide)
  generalize ruleOf (cell ns 0) 3 40 = r at hr1 hg
  have hS1 := sm1.seq hS
  refine seq_of (asg_of (ev_i (ev_cell 2 rfl hS1) ev_c (by decide)) ?_)
  dsimp only
  obtain ⟨fi, hfi⟩ : ∃ fi : Nat, cell ns 2 % 32 = (fi : Int) := ⟨(cell ns 2 % 32).toNat, by omega⟩
  have f32 : fi < 32 := by omega
  rw [hfi]
  refine seq_of (asg_of ev_c ?_)
  dsimp only
  refine seq_of (ev_cell 1 rfl hS1 _ ⟨_, rfl, cell ns 1, fi, 9, rfl, by decide, fun H2 ph sm2 hh2 hn2 => ?_⟩)
  dsimp only [gName]
  have hS2 := sm2.seq hS1
  refine cut (fun σ H' => ∃ (ph : Addr) (hs : List Nat) (fi wide : Nat), σ = [some (V.ref a), some (V.ref pr), some (V.int (fi : Int)), some (V.int (wide : Int)), some (V.ref ph), none, none, none, none, none, none] ∧ Same H1 H' ∧ H' ph = some (.lst (nl hs)) ∧ Row.IsRow hs ∧ (wide = 9 ∨ wide = 40)) (fun X hX => ?_) ?_
  · refine ifS_of (ev_test (ev_eqI (ev_i (ev_i (ev_cell 2 rfl hS2) ev_c (by unfold CDiv; decide)) ev_c (by decide)) ev_c)) (fun _ => ?_) (fun _ => next_of (hX _ _ ⟨ph, _, fi, 9, rfl, sm2, hh2, ⟨headsOf_sorted _ _ _, fun b hb => by have := headsOf_lt b hb; omega⟩, .inl rfl⟩))
    refine seq_of (asg_of ev_c ?_)
    dsimp only
    refine seq_of (asg_of ev_c ?_)
    dsimp only
    refine ev_cell 1 rfl hS2 _ ⟨cell ns 1, 0, 20, rfl, by decide, fun H5 p5 sm5 hh5 hn5 => ?_⟩
    have hS5 := sm5.seq hS2
    refine ev_cell 10 rfl hS5 _ ⟨cell ns 10, 20, 20, rfl, by decide, fun H6 p6 sm6 hh6 hn6 => ?_⟩
    have l1 := headsOf_len (cell ns 1) 0 20
    have l2 := headsOf_len (cell ns 10) 20 20
    refine ⟨p5, p6, _, _, rfl, rfl, sm6 _ _ hh5, hh6, by rw [nl_length, nl_length]; exact Nat.le_of_lt (hsz (by omega)), fun p7 hp7 => ?_⟩
    rw [← nl_append]
    have s7 := (sm5.trans sm6).new (o := .lst (nl (headsOf (cell ns 1) 0 20 ++ headsOf (cell ns 10) 20 20))) hp7
    have row := Row.isRow_app (headsOf_sorted (cell ns 1) 0 20) (headsOf_sorted (cell ns 10) 20 20) (fun b hb => by have := headsOf_lt b hb; omega) (fun b hb => by have := headsOf_lt b hb; omega)
    exact hX _ _ ⟨p7, _, 0, 40, rfl, sm2.trans s7, upd_same, row, .inr rfl⟩
  rintro σ H3 ⟨ph, hs, fi, wide, rfl, sm3, hh3, hrow, hw⟩
  have hS3 := sm3.seq hS1
  have hR3 : SqT K H3 pr (ruleV r) := .inl (.inl (sm3 _ _ hr1))
  refine seq_of ⟨_, rfl, _, rfl, _, rfl, a, ns, fi, wide, rfl, hS3, hw, fun H4 p4 t4 sm4 hn4 hp4 ht4 hl4 => ?_⟩
  refine ev_i (ev_cell 9 rfl (sm4.seq hS3)) ev_c (by decide) _ ⟨p4, ni t4, _, rfl, by rw [← nl_ni]; exact hp4, by unfold ni; simpa using ht4, by unfold ni; rw [List.length_map]; omega, fun H5 pt ts sm5 hpt hl5 => ?_⟩
  dsimp only [gName]
  have s35 := sm4.trans sm5
  have hR5 := s35.tup hR3
  have hH5 := s35 _ _ hh3
  refine seq_of ⟨_, rfl, _, rfl, _, rfl, pr, ph, pt, r, hs, ts, rfl, hR5, hg, .of hH5, .of hpt, hl5, fun due hdue => ?_⟩
  dsimp only [gName]
  refine seq_of ⟨_, rfl, ph, _, rfl, .inl (.of hH5), fun p6 hp6 => ?_⟩
  dsimp only [gName]
  have s6 := same_new hp6 (.lst (nl hs))
  refine seq_of ⟨_, rfl, pt, _, rfl, .inl (.of (s6 _ _ hpt)), fun p7 hp7 => ?_⟩
  dsimp only [gName]
  have s7 := same_new hp7 (.lst (ts.map V.int))
  have s67 := s6.trans s7
  have h66 : upd (upd H5 p6 (.lst (nl hs))) p7 (.lst (ts.map V.int)) p6 = some (.lst (nl hs)) := s7 _ _ upd_same
  have h77 : upd (upd H5 p6 (.lst (nl hs))) p7 (.lst (ts.map V.int)) p7 = some (.lst (ts.map V.int)) := upd_same
  generalize upd (upd H5 p6 (.lst (nl hs))) p7 (.lst (ts.map V.int)) = H7 at s7 s67 h66 h77
  refine seq_of ⟨_, rfl, _, rfl, _, rfl, pr, p6, p7, r, hs, ts, rfl, s67.tup hR5, hg, .of h66, hrow, .of h77, hl5, fun H8 b sm8 hb => ?_⟩
  dsimp only [gName]
  have eb : b = due := by rw [Bool.eq_iff_iff, hb, hdue]
  subst eb
  have s8 := s67.trans sm8
  have h68 := sm8 _ _ h66
  have h78 := sm8 _ _ h77
  have hH8 := s8 _ _ hH5
  have hT8 := s8 _ _ hpt
  have hR8 := s8.tup hR5
  refine seq_of (ifS_of (ev_or (ev_not (ev_tB (ev_isBool (b := b) (ev_cons (ev_var rfl) (ev_cons ev_c ev_nil))))) fun _ => ev_or (ev_test (ev_neB (ev_var rfl) (ev_var rfl))) fun _ => ev_or (ev_test (ev_neL (xs := hs) (ys := hs) (ev_var rfl) (ev_var rfl) (.of h68) (.of hH8))) fun _ => ev_test (ev_neZ (xs := ts) (ys := ts) (ev_var rfl) (ev_var rfl) (.of h78) (.of hT8))) (fun c => absurd c (by simp)) fun _ => next_of ?_)
  dsimp only
  cases b with
  | false =>
    have no : ¬ Row.Lets r hs ts := fun z => by have := hdue.mpr z; cases this
    refine seq_of (ifS_of (ev_not (ev_tB (ev_var rfl))) (fun _ => ?_) fun c => absurd c (by decide))
    exact ⟨_, rfl, _, rfl, _, rfl, pr, ph, pt, r, hs, ts, rfl, hR8, hg, .of hH8, hrow, .of hT8, hl5, no, fun H' => q H'⟩
  | true =>
    refine seq_of (ifS_of (ev_not (ev_tB (ev_var rfl))) (fun c => absurd c (by decide)) fun _ => next_of ?_)
    dsimp only
    obtain ⟨t, rfl, last, hlast, ht⟩ := hdue.mp rfl
    have en : (t.map fun (n : Nat) => (n : Int)).map V.int = nl t := by
      rw [List.map_map]
      rfl
    have l7 : t.length ≤ 1000 := by simpa using hl5
    have hT8' := hT8
    have h78' := h78
    rw [en] at hT8' h78'
    refine seq_of (comp_range_if (H1 := H8) (lo := 0) (n := 40) (fun i => decide (i ∈ hs) != decide (i ∈ t)) (fun i => V.int ((i : Nat) : Int)) (fun R rr => ?_) (by decide) (fun i H' _ sm => ?_) (fun i H' _ _ _ => ?_) (fun p9 hp9 => ?_))
    · exact rng1_of (ev_cons ev_c ev_nil) (by decide) (by decide) rr
    · rw [show (0 : Int) + (i : Nat) = ((i : Nat) : Int) by omega]
      exact ev_test (ev_neB (ev_inN (ev_var rfl) (ev_var rfl) (.of (sm _ _ hH8))) (ev_inN (ev_var rfl) (ev_var rfl) (.of (sm _ _ hT8'))))
    · rw [show (0 : Int) + (i : Nat) = ((i : Nat) : Int) by omega]
      exact ev_var rfl
    · dsimp only
      have s9 := same_new hp9 (.lst (((List.range 40).filter fun i => decide (i ∈ hs) != decide (i ∈ t)).map fun i => V.int ((i : Nat) : Int)))
      have h99 : upd H8 p9 (.lst (((List.range 40).filter fun i => decide (i ∈ hs) != decide (i ∈ t)).map fun i => V.int ((i : Nat) : Int))) p9 = some (.lst (nl (Row.behind 40 hs t))) := upd_same
      generalize upd H8 p9 (.lst (((List.range 40).filter fun i => decide (i ∈ hs) != decide (i ∈ t)).map fun i => V.int ((i : Nat) : Int))) = H9 at s9 h99
      refine ⟨_, rfl, _, rfl, _, rfl, pr, p6, p7, r, hs, t, rfl, s9.tup hR8, hg, .of (s9 _ _ h68), hrow, .of (s9 _ _ h78'), l7, ⟨last, hlast, ht⟩, fun H10 p10 s10 hn10 hp10 => ?_⟩
      refine ⟨_, rfl, p10, p9, _, _, rfl, hp10, s10 _ _ h99, ?_, true, by rw [decide_eq_true rfl], ?_⟩
      · have := Row.sorted_len (Row.behind_sorted 40 hs t) Row.behind_lt
        omega
      rw [if_pos rfl]
      have s910 := s9.trans s10
      refine ev_andV (ev_eqL (xs := hs) (ys := hs) (ev_var rfl) (ev_var rfl) (.of (s910 _ _ h68)) (.of (s910 _ _ hH8))) (fun _ => ev_eqL (xs := t) (ys := t) (ev_var rfl) (ev_var rfl) (.of (s910 _ _ h78')) (.of (s910 _ _ hT8'))) _ ?_
      rw [decide_eq_true rfl, decide_eq_true rfl]
      exact q _
end
structure TxQ (K : PySem.W.Frag) (mg : Str → Option Value) (cC cR cU cT : Addr) : Prop where
  e : ErrF K mg cC cR cU cT
  n_isinstance : mg "isinstance" = none
  n_ValueError : mg "ValueError" = none
section
variable {P : Program} {w : World} {K : PySem.W.Frag} {mg : Str → Option Value} {base : Heap} {cC cR cU cT : Addr}
theorem all {f : Addr} {fd : FuncData} (D : Facts K mg) (D2 : Dics K w mg) (T : TxQ K mg cC cR cU cT) (F : Fun K "law" "law" s_law f fd) : FnOk P w K mg base CX0 22 f fd ["script"] (spLaw K) := by
  have cr : Callee P w K mg base "check_rule" 1 p_check_rule (spCheckRule K) := ok_checkRule D.d_check_rule ⟨D2.GREATEST_K⟩
  have ri : Callee P w K mg base "rises" 1 p_rises (spRises K) := ok_rises D.d_rises
  have cw : Callee P w K mg base "check_row" 2 p_check_row (spCheckRow K) := ok_checkRow D.d_check_row ⟨D.GREATEST_PLACE⟩ ⟨ri⟩
  have fi : Callee P w K mg base "fits" 2 p_fits (spFits K) := ok_fits D.d_fits ⟨D.n_len⟩ ⟨ri⟩
  have al : Callee P w K mg base "allows" 19 p_allows (spAllows K) := ok_allows D.d_allows ⟨D.GREATEST_PLACE⟩ ⟨cr, cw, fi⟩
  have ax : CalleeX P w K mg base "after" 20 p_after (spAfter K cT) := ok_afterX D.d_after ⟨⟨D.n_sorted, D.n_set⟩, T.e.r_NoTurn⟩ ⟨al⟩
  have ac : Callee P w K mg base "after" 20 p_after (spAfterC K) := ok_afterC D.d_after ⟨D.n_sorted, D.n_set⟩ ⟨al⟩
  have ce : Callee P w K mg base "_law_cell_at" 1 p_law_cell_at (spCell K) := ok_cell D.d_law_cell_at D.n_len
  exact ok_law F D ⟨al.mono (by decide), ac, ce, ok_rule D.d_law_rule, ok_heads D.d_law_heads ⟨D.n_range⟩, ok_places D.d_law_places ⟨D.n_range, D.n_int⟩ ⟨ce⟩, ok_spoilt D.d_law_spoilt ⟨D.n_range, D.n_len⟩, ok_lets D.d_law_lets ⟨D.n_range, D.n_len⟩, ok_is_row D.d_law_is_row ⟨D.n_isinstance, D.n_list, D.n_int, D.n_bool, D.n_len, D.n_range⟩, ok_refused D.d_law_refused ⟨T.e, D.n_isinstance, D.n_list, T.n_ValueError⟩ ⟨ax⟩⟩
end
end H
open PySem PySem.W PyProof.Rows
set_option maxRecDepth 100000 in
set_option maxHeartbeats 0 in
theorem PySem.Challenge.cw_coinrows_k06_a_turn_made_holds : PySem.Challenge.rw_coinrows_k06_a_turn_made.Holds := by
  w_on; o_law; k_head; (case hw => w_witness2)
  k_fill
  refine L2.law_walk (l := PySem.Challenge.rw_coinrows_k06_a_turn_made) (k := 22) (st := H.s_law) ⟨rfl, by decide, by decide⟩ rfl rfl rfl (fun _ _ _ _ _ _ u => rfl) (fun w h Y => PySem.W.kIn_of Y) ?F
  case F =>
    intro w mg h KX G
    have D : H.Facts (L2.KOf KX) mg := by
      dsimp only [L2.KOf]
      refine' ⟨L2.hasDef KX G ?a1 ?l1 ?c1 ?k1, L2.hasDef KX G ?a2 ?l2 ?c2 ?k2, L2.hasDef KX G ?a3 ?l3 ?c3 ?k3, L2.hasDef KX G ?a4 ?l4 ?c4 ?k4, L2.hasDef KX G ?a5 ?l5 ?c5 ?k5, L2.hasDef KX G ?a6 ?l6 ?c6 ?k6, L2.hasDef KX G ?a7 ?l7 ?c7 ?k7, L2.hasDef KX G ?a8 ?l8 ?c8 ?k8, L2.hasDef KX G ?a9 ?l9 ?c9 ?k9, L2.hasDef KX G ?a10 ?l10 ?c10 ?k10, L2.hasDef KX G ?a11 ?l11 ?c11 ?k11, L2.hasDef KX G ?a12 ?l12 ?c12 ?k12, L2.hasDef KX G ?a13 ?l13 ?c13 ?k13, L2.hasDef KX G ?a14 ?l14 ?c14 ?k14, PySem.W.mg_none_of KX G ?z15, PySem.W.mg_none_of KX G ?z16, PySem.W.mg_none_of KX G ?z17, PySem.W.mg_none_of KX G ?z18, PySem.W.mg_none_of KX G ?z19, PySem.W.mg_none_of KX G ?z20, PySem.W.mg_none_of KX G ?z21, PySem.W.mg_none_of KX G ?z22, L2.glob_int KX G ?z23⟩
      (case a1 => k_is); (case l1 => k_is); (case c1 => k_is); (case k1 => k_is)
      (case a2 => k_is); (case l2 => k_is); (case c2 => k_is); (case k2 => k_is)
      (case a3 => k_is); (case l3 => k_is); (case c3 => k_is); (case k3 => k_is)
      (case a4 => k_is); (case l4 => k_is); (case c4 => k_is); (case k4 => k_is)
      (case a5 => k_is); (case l5 => k_is); (case c5 => k_is); (case k5 => k_is)
      (case a6 => k_is); (case l6 => k_is); (case c6 => k_is); (case k6 => k_is)
      (case a7 => k_is); (case l7 => k_is); (case c7 => k_is); (case k7 => k_is)
      (case a8 => k_is); (case l8 => k_is); (case c8 => k_is); (case k8 => k_is)
      (case a9 => k_is); (case l9 => k_is); (case c9 => k_is); (case k9 => k_is)
      (case a10 => k_is); (case l10 => k_is); (case c10 => k_is); (case k10 => k_is)
      (case a11 => k_is); (case l11 => k_is); (case c11 => k_is); (case k11 => k_is)
      (case a12 => k_is); (case l12 => k_is); (case c12 => k_is); (case k12 => k_is)
      (case a13 => k_is); (case l13 => k_is); (case c13 => k_is); (case k13 => k_is)
      (case a14 => k_is); (case l14 => k_is); (case c14 => k_is); (case k14 => k_is)
      (case z15 => k_is)
      (case z16 => k_is)
      (case z17 => k_is)
      (case z18 => k_is)
      (case z19 => k_is)
      (case z20 => k_is)
      (case z21 => k_is)
      (case z22 => k_is)
      (case z23 => k_is)
    have L : L2.HasDef (L2.KOf KX) mg "law" H.s_law := by
      dsimp only [L2.KOf]
      refine' L2.hasDef KX G ?a1 ?l1 ?c1 ?k1
      (case a1 => k_is); (case l1 => k_is); (case c1 => k_is); (case k1 => k_is)
    have D2 : H.Dics (L2.KOf KX) w mg := by
      dsimp only [L2.KOf]
      refine' ⟨L2.glob_dic KX G ?da0 ?dl0 ?dk0 ?ds0 ?dv0⟩
      (case da0 => k_is); (case dl0 => k_is); (case dk0 => k_keys); (case ds0 => decide); (case dv0 => exact (.cons ⟨⟨_, rfl⟩, ⟨_, rfl⟩⟩ (.cons ⟨⟨_, rfl⟩, ⟨_, rfl⟩⟩ (.cons ⟨⟨_, rfl⟩, ⟨_, rfl⟩⟩ .nil))))
    have R : ∃ cC cR cU cT, H.ErrF (L2.KOf KX) mg cC cR cU cT := by
      dsimp only [L2.KOf]
      refine' ⟨_, _, _, _, ⟨⟨PySem.W.mg_of KX G ?e1, ?e2⟩, PySem.W.mg_of KX G ?e3, PySem.W.mg_of KX G ?e4, PySem.W.mg_of KX G ?e5, PySem.W.mg_of KX G ?e6, ⟨?e7, ?e8, ?e9, ?e10, ?e11, ?e12, ?e13, ?e14⟩, ?e15, ?e16, ?e17, ?e18, ?e19⟩⟩
      (case e1 => k_is)
      (case e2 => k_exc)
      (case e3 => k_is)
      (case e4 => k_is)
      (case e5 => k_is)
      (case e6 => k_is)
      (case e7 => k_is)
      (case e8 => k_is)
      (case e9 => k_is)
      (case e10 => k_is)
      (case e11 => k_is)
      (case e12 => k_is)
      (case e13 => k_is)
      (case e14 => k_is)
      (case e15 => kts_exm)
      (case e16 => kit_is)
      (case e17 => kit_is)
      (case e18 => kit_is)
      (case e19 => kit_is)
    obtain ⟨cC, cR, cU, cT, R⟩ := R
    have N1 : mg "isinstance" = none := PySem.W.mg_none_of KX G (by k_is)
    have N2 : mg "ValueError" = none := PySem.W.mg_none_of KX G (by k_is)
    exact ⟨L, fun base f fd F => H.all D D2 ⟨R, N1, N2⟩ F⟩
